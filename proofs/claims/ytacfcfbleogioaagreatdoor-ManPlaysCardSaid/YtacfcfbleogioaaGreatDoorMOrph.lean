/-
  Which files a manifest needs, told by the program; the names of those that none needs. Conditions: the slices lead to what they are said to; the library's table of powers of ten and its two errors are laid.
-/
import Derived.Test.YtacfcfbleogioaaGreatDoorMContA
import Derived.Test.YtacfcfbleogioaaGreatDoorMWrite
import Derived.Test.YtacfcfbleogioaaGreatDoorMName
import Derived.Lib.SliceRun
import Derived.Laws.IdiomCopy
namespace Go.Proofs.YtacfcfbleogioaaGreatDoor
open Go.RowKit Go.Lib Go.Joins

theorem need_tell (m : Mfs) (s : ByteArray) : needM m s = (if (tellB s).1 = 2 then decide (((tellB s).2 : Int) = m.gen) else if (tellB s).1 = 1 then decide (((tellB s).2 : Int) ∈ m.segs) else false) := by
  unfold needM tellB
  by_cases h : s.data.toList.take 4 = manP
  · rw [if_pos h, if_pos h]
    by_cases h2 : 0 < numB (asSeg s)
    · rw [if_pos h2, decide_eq_true h2, Bool.true_and]
      rfl
    · rw [if_neg h2, decide_eq_false h2, Bool.false_and]
      rfl
  · rw [if_neg h, if_neg h]
    by_cases h2 : 0 < numB s
    · rw [if_pos h2, decide_eq_true h2, Bool.true_and]
      rfl
    · rw [if_neg h2, decide_eq_false h2, Bool.false_and]
      rfl

set_option maxRecDepth 100000 in
set_option maxHeartbeats 4000000 in
theorem needs_calls {S : Nat → Prop} (g l : Int) (a : Option Addr) (segs : List Int) (n c : Nat) (s : ByteArray) (w : World) (hr : IRow w S a segs) (hn : segs.length = n) (hm : n ≤ 1099511627776) (hs : s.size ≤ 1099511627000) (ht : Tab w) (he : Errs w) :
    Calls Tryz.prog 48 #[.agg #[.int .i64 g, .int .i64 l, .slice a n c], .string s] w (Leaves (.bool (needM ⟨g, l, segs⟩ s)) w) := by
  obtain ⟨W1, hW1⟩ : ∃ W1, w.alloc (.cells #[.int .i64 g, .int .i64 l, .slice a n c] 25) = W1 := ⟨_, rfl⟩
  have hb1 : Below w.heap.size w W1 := by rw [← hW1]; exact (Below.refl _ _).alloc (Nat.le_refl _) _
  have hk1 : W1.heap[w.heap.size]? = some (.cells #[.int .i64 g, .int .i64 l, .slice a n c] 25 (0, 0)) := by rw [← hW1]; exact heap_alloc_new _ _
  have HT := Lib.hid (tell_calls s W1 hs (ht.below hb1) (he.below hb1))
  unfold TellOut at HT
  have HW1 := Lib.hid hW1
  have HB1 := Lib.hid hb1
  have HK1 := Lib.hid hk1
  have HR := Lib.hid (hr.below hb1)
  have HN := Lib.hid hn
  rw [need_tell]
  obtain ⟨⟨x, y⟩, hq⟩ : ∃ q, tellB s = q := ⟨_, rfl⟩
  rw [hq] at HT ⊢
  dsimp only at HT ⊢
  clear hq hr hb1 hk1 hW1 hn ht he hs
  by_cases h2 : x = 2
  · subst h2
    rw [if_pos rfl]
    obtain ⟨r, hr⟩ : ∃ r, decide ((y : Int) = g) = r := ⟨_, rfl⟩
    rw [hr]
    have e1 : ((y : Int) == g) = r := by rw [← hr]; rfl
    clear hr
    go_enter Tryz.func48, Tryz.ntmps48
    go_wp2_with fail
    rw [HW1.out]
    with_reducible refine HT.out.mono ?_
    rintro e w2 ⟨rfl, hb2⟩
    have HB2 := Lib.hid (below_then HB1.out hb2)
    have c0 : w2.cell? ⟨w.heap.size, 0, none⟩ = some (.int .i64 g) := (cell_of_block (block_below hb2 HK1.out) 0).trans rfl
    clear hb2 HT
    go_wp2
    go_ret
    exact ⟨rfl, HB2.out⟩
  · rw [if_neg h2]
    have e2 : ((x : Int) == 2) = false := by simp; omega
    by_cases h1 : x = 1
    · subst h1
      rw [if_pos rfl]
      go_enter Tryz.func48, Tryz.ntmps48
      go_wp2_with fail
      rw [HW1.out]
      with_reducible refine HT.out.mono ?_
      rintro e w2 ⟨rfl, hb2⟩
      have HB2 := Lib.hid (below_then HB1.out hb2)
      have c2 : w2.cell? ⟨w.heap.size, 2, none⟩ = some (.slice a n c) := (cell_of_block (block_below hb2 HK1.out) 2).trans rfl
      have HIC := Lib.hid (icont_calls a segs (y : Int) n c w2 (HR.out.below hb2) HN.out hm)
      clear hb2 HT
      go_wp2_with fail
      with_reducible refine HIC.out.mono ?_
      rintro e w3 ⟨rfl, rfl⟩
      go_wp2
      go_ret
      exact ⟨rfl, HB2.out⟩
    · rw [if_neg h1]
      have e3 : ((x : Int) == 1) = false := by simp; omega
      go_enter Tryz.func48, Tryz.ntmps48
      go_wp2_with fail
      rw [HW1.out]
      with_reducible refine HT.out.mono ?_
      rintro e w2 ⟨rfl, hb2⟩
      have HB2 := Lib.hid (below_then HB1.out hb2)
      clear hb2 HT
      go_wp2
      go_ret
      exact ⟨rfl, HB2.out⟩

/-- A closure that tells of a name by p, wherever what was there in wb is as it was. -/
def PredAt (wb : World) (v : Value) (p : ByteArray → Bool) : Prop :=
  ∃ g lb, v = .func (.func g) #[] lb ∧ (∀ args w, (callFunc g args).run Tryz.prog w = .ok (.enter g args) w) ∧
    ∀ (W : World) (s : ByteArray), Below wb.heap.size wb W → s.size ≤ 1099511627000 → Calls Tryz.prog g (#[.string s] ++ lb) W (Leaves (.bool (p s)) W)
set_option maxRecDepth 100000 in
set_option maxHeartbeats 2000000 in
theorem cl_need {S : Nat → Prop} {wb : World} {bm : Nat} (g l : Int) (a : Option Addr) (segs : List Int) (n c : Nat) (hk : wb.heap[bm]? = some (.cells #[.int .i64 g, .int .i64 l, .slice a n c] 25 (0, 0))) (hr : IRow wb S a segs) (hn : segs.length = n) (hm : n ≤ 1099511627776) (ht : Tab wb) (he : Errs wb) :
    PredAt wb (.func (.func 47) #[] #[.pointer (some ⟨bm, 0, none⟩)]) (fun s => needM ⟨g, l, segs⟩ s) := by
  refine ⟨_, _, rfl, enters_of Tryz.func47 (by kernel_rfl) rfl, fun W s hb hs => ?_⟩
  have hk2 := block_below hb hk
  have c0 : W.cell? ⟨bm, 0, none⟩ = some (.int .i64 g) := (cell_of_block hk2 0).trans rfl
  have c1 : W.cell? ⟨bm, 1, none⟩ = some (.int .i64 l) := (cell_of_block hk2 1).trans rfl
  have c2 : W.cell? ⟨bm, 2, none⟩ = some (.slice a n c) := (cell_of_block hk2 2).trans rfl
  have HN := Lib.hid (needs_calls g l a segs n c s W (hr.below hb) hn hm hs (ht.below hb) (he.below hb))
  obtain ⟨q, hq⟩ : ∃ q, needM ⟨g, l, segs⟩ s = q := ⟨_, rfl⟩
  dsimp only
  rw [hq] at HN ⊢
  clear hk hr hn ht he hb hs hk2 hq
  show Calls Tryz.prog 47 #[.string s, .pointer (some ⟨bm, 0, none⟩)] W (Leaves (.bool q) W)
  go_enter Tryz.func47, Tryz.ntmps47
  go_wp2_with fail
  with_reducible refine HN.out.mono ?_
  rintro e w2 ⟨rfl, hb2⟩
  have HB := Lib.hid hb2
  clear hb2
  go_wp2
  go_ret
  exact ⟨rfl, HB.out⟩

/-- Where the first one is that p tells of, or -1. -/
def FstOut (L : List ByteArray) (p : ByteArray → Bool) (w : World) (e : Ending) (w' : World) : Prop :=
  Below w.heap.size w w' ∧ ((L.findIdx p < L.length ∧ e = .returned (.int .i64 (L.findIdx p : Int))) ∨ (L.findIdx p = L.length ∧ e = .returned (.int .i64 (-1))))

set_option maxRecDepth 100000 in
set_option maxHeartbeats 4000000 in
theorem ifunc_calls {S : Nat → Prop} {wb : World} (a : Option Addr) (L : List ByteArray) (v : Value) (p : ByteArray → Bool) (n c : Nat) (w : World) (hr : VRow w S a (L.map Value.string)) (hn : L.length = n) (hm : n ≤ 1099511627776) (hp : PredAt wb v p) (hb : Below wb.heap.size wb w) (hs : ∀ s ∈ L, s.size ≤ 1099511627000) :
    Calls Tryz.prog 92 #[.slice a n c, v] w (FstOut L p w) := by
  obtain ⟨g, lb, rfl, eg, hcl⟩ := hp
  have HR := Lib.hid hr
  have HN := Lib.hid hn
  have HCL := Lib.hid hcl
  have HB := Lib.hid hb
  have HS := Lib.hid hs
  clear hr hn hcl hb hs
  go_enter Tryz.func92, Tryz.ntmps92
  go_wp2
  go_loopg [8] n (fun gk idx wr => ∃ (i : Nat), idx = .int .i64 (i : Int) ∧ gk + i = n ∧ (∀ j x, j < i → L[j]? = some x → p x = false) ∧ Below w.heap.size w wr)
  case atStart => exact ⟨0, rfl, rfl, (fun j x h => absurd h (Nat.not_lt_zero _)), Below.refl _ _⟩
  case round =>
    obtain ⟨i, rfl, hg, hf, hbw⟩ := hrel
    have HG := Lib.hid hg
    have HF := Lib.hid hf
    have HBW := Lib.hid hbw
    clear hg hf hbw
    by_cases hlt : i < n
    · obtain ⟨g', rfl⟩ : ∃ g', gk = g' + 1 := ⟨gk - 1, by have := HG.out; omega⟩
      have hdd : decide ((i : Int) < (n : Int)) = true := by simp; omega
      obtain ⟨x, hx⟩ : ∃ x, L[i]? = some x := ⟨L[i]'(by rw [HN.out]; exact hlt), List.getElem?_eq_getElem _⟩
      obtain ⟨ab, ao, rfl, hcx⟩ := vrow_at (HR.out.below HBW.out) (i := i) (x := .string x) (by rw [List.getElem?_map, hx]; rfl)
      have HC := Lib.hid (HCL.out wr x (below_then HB.out HBW.out) (HS.out x (List.mem_of_getElem? hx)))
      have HX := Lib.hid hx
      obtain ⟨q, hq⟩ : ∃ q, p x = q := ⟨_, rfl⟩
      rw [hq] at HC
      have HQ := Lib.hid hq
      clear hx hq
      go_wp2_with fail
      with_reducible refine HC.out.mono ?_
      rintro e w2 ⟨rfl, hb2⟩
      have HB2 := Lib.hid (below_then HBW.out hb2)
      clear hb2 HC
      cases q with
      | true =>
        have HI : Hid (L.findIdx p = i) := Lib.hid ((List.findIdx_eq (by rw [HN.out]; exact hlt)).2 ⟨by
          have h1 := HX.out
          rw [List.getElem?_eq_getElem (by rw [HN.out]; exact hlt)] at h1
          rw [Option.some.inj h1]
          exact HQ.out, fun j hj => HF.out j _ hj (List.getElem?_eq_getElem _)⟩)
        go_wp2
        go_ret
        exact ⟨HB2.out, .inl ⟨by rw [HI.out, HN.out]; exact hlt, by rw [HI.out]; rfl⟩⟩
      | false =>
        go_wp2
        go_roundg g'
        case measure => omega
        case rel =>
          refine ⟨i + 1, by go_num, by have := HG.out; omega, fun j y hj hy => ?_, HB2.out⟩
          by_cases hji : j = i
          · subst hji
            have h1 := HX.out
            rw [h1] at hy
            rw [← Option.some.inj hy]
            exact HQ.out
          · exact HF.out j y (by omega) hy
    · have hdd : decide ((i : Int) < (n : Int)) = false := by simp; omega
      have HI : Hid (L.findIdx p = L.length) := Lib.hid (List.findIdx_eq_length.2 (fun x hx => by
        obtain ⟨j, hj⟩ := List.getElem?_of_mem hx
        have := (List.getElem?_eq_some_iff.1 hj).1
        rw [HN.out] at this
        exact HF.out j x (by have := HG.out; omega) hj))
      go_wp2
      go_ret
      exact ⟨HBW.out, .inr ⟨HI.out, rfl⟩⟩

/-! ### DeleteFunc -/
theorem below_many {B b : Nat} {a : World} (hb : B ≤ b) : ∀ (vs : List Value) (o : Nat) {W : World}, Below B a W → Below B a (W.setCells b o vs)
  | [], _, _, h => h
  | v :: vs, o, _W, h => below_many hb vs (o + 1) (h.setCell (p := ⟨b, o, none⟩) hb v)
theorem block_many {b : Nat} {t : TypeId} : ∀ (vs : List Value) (o : Nat) {W : World} {cs : Array Value}, W.heap[b]? = some (.cells cs t (0, 0)) → ∃ cs' : Array Value, (W.setCells b o vs).heap[b]? = some (.cells cs' t (0, 0)) ∧ cs'.size = cs.size ∧ ∀ k, k < o → cs'[k]? = cs[k]?
  | [], _, _, cs, h => ⟨cs, h, rfl, fun _ _ => rfl⟩
  | v :: vs, o, W, cs, h => by
    obtain ⟨cs', h1, h2, h3⟩ := block_many vs (o + 1) (block_setCell (i := o) h v)
    refine ⟨cs', h1, by rw [h2, Array.size_setIfInBounds], fun k hk => ?_⟩
    rw [h3 k (by omega), Array.getElem?_setIfInBounds_ne (by omega)]

/-- What the row of names holds when j of L are looked at, i kept. -/
structure KeptB (L : List ByteArray) (p : ByteArray → Bool) (cap j i : Nat) (cur : Array Value) : Prop where
  size : cur.size = cap
  len : ((L.take j).filter (fun s => !p s)).length = i
  low : ∀ (k : Nat) (x : ByteArray), ((L.take j).filter (fun s => !p s))[k]? = some x → cur[k]? = some (.string x)
  high : ∀ (k : Nat) (x : ByteArray), j ≤ k → L[k]? = some x → cur[k]? = some (.string x)
theorem KeptB.le {L : List ByteArray} {p : ByteArray → Bool} {cap j i : Nat} {cur : Array Value} (h : KeptB L p cap j i cur) : i ≤ j := by
  rw [← h.len]
  exact Nat.le_trans (List.length_filter_le _ _) (by rw [List.length_take]; exact Nat.min_le_left _ _)
theorem KeptB.skip {L : List ByteArray} {p : ByteArray → Bool} {cap j i : Nat} {cur : Array Value} (h : KeptB L p cap j i cur) {x : ByteArray} (hx : L[j]? = some x) (hp : p x = true) : KeptB L p cap (j + 1) i cur := by
  have e : (L.take (j + 1)).filter (fun s => !p s) = (L.take j).filter (fun s => !p s) := by
    rw [List.take_add_one, hx, List.filter_append]
    simp [hp]
  exact ⟨h.size, by rw [e]; exact h.len, fun k y hk => h.low k y (by rwa [e] at hk), fun k y hk hy => h.high k y (by omega) hy⟩
theorem KeptB.keep {L : List ByteArray} {p : ByteArray → Bool} {cap j i : Nat} {cur : Array Value} (h : KeptB L p cap j i cur) (hj : j < cap) {x : ByteArray} (hx : L[j]? = some x) (hp : p x = false) : KeptB L p cap (j + 1) (i + 1) (cur.setIfInBounds i (.string x)) := by
  have hi := h.le
  have e : (L.take (j + 1)).filter (fun s => !p s) = (L.take j).filter (fun s => !p s) ++ [x] := by
    rw [List.take_add_one, hx, List.filter_append]
    simp [hp]
  refine ⟨by rw [Array.size_setIfInBounds]; exact h.size, by rw [e, List.length_append, h.len]; rfl, fun k y hk => ?_, fun k y hk hy => ?_⟩
  · rw [e] at hk
    by_cases hki : k = i
    · subst hki
      rw [List.getElem?_append_right (by rw [h.len]; exact Nat.le_refl _), h.len, Nat.sub_self] at hk
      have : x = y := by simpa using hk
      rw [← this]
      exact Array.getElem?_setIfInBounds_self_of_lt (by rw [h.size]; omega)
    · have hlt : k < i := by
        have := (List.getElem?_eq_some_iff.1 hk).1
        rw [List.length_append, h.len, List.length_singleton] at this
        omega
      rw [List.getElem?_append_left (by rw [h.len]; exact hlt)] at hk
      rw [Array.getElem?_setIfInBounds_ne (by omega)]
      exact h.low k y hk
  · rw [Array.getElem?_setIfInBounds_ne (by omega)]
    exact h.high k y (by omega) hy

/-- The names that p does not tell of, in what was new since wb. -/
def FewOut (L : List ByteArray) (p : ByteArray → Bool) (wb : World) (v : Value) (e : Ending) (w' : World) : Prop :=
  ∃ a c, e = .returned (.slice a (L.filter (fun s => !p s)).length c) ∧ VRow w' (fun k => v.ownBlock = some k) a ((L.filter (fun s => !p s)).map Value.string) ∧ Below wb.heap.size wb w'
theorem KeptB.start {L : List ByteArray} {p : ByteArray → Bool} {cap k0 : Nat} {cur : Array Value} (hsz : cur.size = cap) (hc : ∀ (k : Nat) (x : ByteArray), L[k]? = some x → cur[k]? = some (.string x)) (hk : k0 ≤ L.length) (hp : ∀ (j : Nat) (x : ByteArray), j < k0 → L[j]? = some x → p x = false) : KeptB L p cap k0 k0 cur := by
  have e : (L.take k0).filter (fun s => !p s) = L.take k0 := List.filter_eq_self.2 (fun x hx => by
    obtain ⟨j, hj⟩ := List.getElem?_of_mem hx
    have hlt := (List.getElem?_eq_some_iff.1 hj).1
    rw [List.length_take] at hlt
    rw [List.getElem?_take_of_lt (by omega)] at hj
    rw [hp j x (by omega) hj]
    rfl)
  refine ⟨hsz, by rw [e, List.length_take]; omega, fun k x h => ?_, fun k x _ h => hc k x h⟩
  rw [e] at h
  have hlt := (List.getElem?_eq_some_iff.1 h).1
  rw [List.length_take] at hlt
  rw [List.getElem?_take_of_lt (by omega)] at h
  exact hc k x h
theorem zero_string (W : World) : (zeroValue 9).run Tryz.prog W = .ok (.string ⟨#[]⟩) W := by kernel_rfl

set_option maxRecDepth 100000 in
set_option maxHeartbeats 8000000 in
theorem dfunc_calls {base : Nat} {wb w : World} (v : Value) (L : List ByteArray) (pv : Value) (p : ByteArray → Bool) (N : Nat) (hown : w.ownsRow base 9 1 v N (L.map Value.string)) (hN : L.length = N) (hnew : ∀ k, v.ownBlock = some k → wb.heap.size ≤ k) (hp : PredAt wb pv p) (hb : Below wb.heap.size wb w) (hs : ∀ s ∈ L, s.size ≤ 1099511627000) (hm : N ≤ 1000000) :
    Calls Tryz.prog 46 #[v, pv] w (FewOut L p wb v) := by
  obtain ⟨a0, c, hv0, hvr, _⟩ := vrow_of_own hown (by rw [List.length_map, hN])
  have HIF := Lib.hid (ifunc_calls (wb := wb) _ L pv p N c w hvr hN (by omega) hp hb hs)
  rcases hown.2 with ⟨h1, h2⟩ | ⟨g0, cap, cur, h1, _, hblk, hNc, hcm, hcs, htk⟩
  · rw [h2] at hN
    obtain rfl : L = [] := List.length_eq_zero_iff.1 hN
    subst h1 h2
    obtain ⟨rfl, rfl⟩ : none = a0 ∧ 0 = c := by simpa using Value.slice.inj hv0
    have HB := Lib.hid hb
    clear hv0 hvr hown hnew hp hb hs hN
    go_enter Tryz.func46, Tryz.ntmps46
    go_wp2_with fail
    with_reducible refine HIF.out.mono ?_
    rintro e w1 ⟨hb1, ⟨h, _⟩ | ⟨_, rfl⟩⟩
    · exact absurd h (by simp)
    have HB1 := Lib.hid (below_then HB.out hb1)
    clear hb1
    go_wp2
    go_ret
    exact ⟨none, 0, rfl, .inl rfl, HB1.out⟩
  · subst h1
    obtain ⟨rfl, rfl⟩ : some ⟨g0, 0, none⟩ = a0 ∧ cap = c := by simpa using Value.slice.inj hv0
    have HVR := Lib.hid hvr
    have HBLK := Lib.hid hblk
    have HB := Lib.hid hb
    have HP := Lib.hid hp
    have HLN := Lib.hid hN
    have HS := Lib.hid hs
    have HG0 : Hid (wb.heap.size ≤ g0) := Lib.hid (hnew g0 rfl)
    have hsz : cur.size = cap := by rw [hcs, Nat.mul_one]
    have HCUR : Hid (∀ (k : Nat) (x : ByteArray), L[k]? = some x → cur[k]? = some (.string x)) := Lib.hid (fun k x hk => by
      have hlt := (List.getElem?_eq_some_iff.1 hk).1
      have h3 : (cur.toList.take (N * 1))[k]? = some (.string x) := by rw [htk, List.getElem?_map, hk]; rfl
      rw [List.getElem?_take_of_lt (by omega), Array.getElem?_toList] at h3
      exact h3)
    have HSZ := Lib.hid hsz
    clear hv0 hvr hown hnew hp hb hs hN hblk hcs htk hsz
    go_enter Tryz.func46, Tryz.ntmps46
    go_wp2_with fail
    with_reducible refine HIF.out.mono ?_
    rintro e w1 ⟨hb1, ⟨hlt, rfl⟩ | ⟨heq, rfl⟩⟩
    · obtain ⟨k0, hk0⟩ : ∃ k, L.findIdx p = k := ⟨_, rfl⟩
      have hfx := (List.findIdx_eq hlt).1 rfl
      have HST : Hid (KeptB L p cap (k0 + 1) k0 cur) := Lib.hid (by
        have h1 : KeptB L p cap k0 k0 cur := KeptB.start HSZ.out HCUR.out (by omega) (fun j x hj hx => by
          have hjl := (List.getElem?_eq_some_iff.1 hx).1
          have := hfx.2 j (by omega)
          rw [List.getElem?_eq_getElem hjl] at hx
          rw [← Option.some.inj hx]
          exact this)
        exact h1.skip (x := L[k0]'(by omega)) (List.getElem?_eq_getElem _) (by subst hk0; exact hfx.1))
      have hkN : k0 < N := by rw [← hk0, ← HLN.out]; exact hlt
      have hne1 : ((k0 : Int) == -1) = false := beq_eq_false_iff_ne.2 (by omega)
      have HB1 := Lib.hid (below_then HB.out hb1)
      have HBL1 := Lib.hid (block_below hb1 HBLK.out)
      rw [hk0]
      clear hb1 hlt hfx hk0 HIF HCUR
      go_wp2_with fail
      go_loopg [5, 6] (N - (k0 + 1)) (fun gk iv jv wr => ∃ (i j : Nat) (cur : Array Value), iv = .int .i64 (i : Int) ∧ jv = .int .i64 (j : Int) ∧ gk + j = N ∧ i < j ∧ i < N ∧ wr.heap[g0]? = some (.cells cur 9 (0, 0)) ∧ KeptB L p cap j i cur ∧ Below wb.heap.size wb wr)
      case atStart => exact ⟨k0, k0 + 1, cur, rfl, by go_num, by omega, by omega, hkN, HBL1.out, HST.out, HB1.out⟩
      case round =>
        obtain ⟨i, j, cur', rfl, rfl, hg, hij, hiN, hbl, hkp, hbw⟩ := hrel
        have HG := Lib.hid hg
        have HBL := Lib.hid hbl
        have HKP := Lib.hid hkp
        have HBW := Lib.hid hbw
        clear hg hbl hkp hbw HST HBL1 HB1
        by_cases hlt : j < N
        · obtain ⟨g', rfl⟩ : ∃ g', gk = g' + 1 := ⟨gk - 1, by have := HG.out; omega⟩
          have hdd : decide ((j : Int) < (N : Int)) = true := by simp; omega
          obtain ⟨x, hx⟩ : ∃ x, L[j]? = some x := ⟨L[j]'(by rw [HLN.out]; exact hlt), List.getElem?_eq_getElem _⟩
          have hcx : wr.cell? ⟨g0, j, none⟩ = some (.string x) := (cell_of_block HBL.out j).trans (HKP.out.high j x (Nat.le_refl _) hx)
          obtain ⟨g, lb, rfl, eg, hcl⟩ := HP.out
          have HC := Lib.hid (hcl wr x HBW.out (HS.out x (List.mem_of_getElem? hx)))
          have HX := Lib.hid hx
          obtain ⟨q, hq⟩ : ∃ q, p x = q := ⟨_, rfl⟩
          rw [hq] at HC
          have HQ := Lib.hid hq
          clear hx hq hcl
          go_wp2_with fail
          with_reducible refine HC.out.mono ?_
          rintro e w2 ⟨rfl, hb2⟩
          have HB2 := Lib.hid (below_then HBW.out hb2)
          have HBL2 := Lib.hid (block_below hb2 HBL.out)
          clear hb2 HC
          cases q with
          | true =>
            go_wp2
            go_roundg g'
            case measure => omega
            case rel => exact ⟨i, j + 1, cur', rfl, by go_num, by have := HG.out; omega, by omega, hiN, HBL2.out, HKP.out.skip HX.out HQ.out, HB2.out⟩
          | false =>
            have hci : ∃ u, cur'[i]? = some u := ⟨cur'[i]'(by rw [HKP.out.size]; omega), Array.getElem?_eq_getElem _⟩
            obtain ⟨u, hu⟩ := hci
            have hcu : w2.cell? ⟨g0, i, none⟩ = some u := (cell_of_block HBL2.out i).trans hu
            have hfu : w2.frozen? ⟨g0, i, none⟩ = false := unfrozen_of_block HBL2.out i
            have HBL3 := Lib.hid (block_setCell (i := i) HBL2.out (.string x))
            have HB3 := Lib.hid (HB2.out.setCell (p := ⟨g0, i, none⟩) HG0.out (.string x))
            clear hu
            go_wp2
            go_roundg g'
            case measure => omega
            case rel => exact ⟨i + 1, j + 1, _, by go_num, by go_num, by have := HG.out; omega, by omega, by omega, HBL3.out, HKP.out.keep (by omega) HX.out HQ.out, HB3.out⟩
        · have hjN : j = N := by have := HG.out; omega
          have hdd : decide ((j : Int) < (N : Int)) = false := by simp; omega
          have hkp := HKP.out
          rw [hjN] at hkp
          have htkN : L.take N = L := List.take_of_length_le (by rw [HLN.out]; exact Nat.le_refl _)
          have hln := hkp.len
          have hlo := hkp.low
          rw [htkN] at hln hlo
          have hcl : ∀ ty, (Builtin.clear_ #[41] ty #[.slice (some ⟨g0, i, none⟩) (N - i) (cap - i)]).run Tryz.prog wr = .ok (.tuple #[]) (wr.setCells g0 i (List.replicate (N - i) (.string ⟨#[]⟩))) := fun ty =>
            Lib.run_clear_slice wr _ _ ty _ Tryz.underlying41 zero_string rfl rfl g0 i _ _ (by omega) (fun t ht => by
              rw [cell_of_block HBL.out (i + t), Array.getElem?_eq_getElem (by rw [HKP.out.size]; omega)]
              rfl) (fun t ht => unfrozen_of_block HBL.out (i + t))
          obtain ⟨cur2, hb2, _, hsame⟩ := block_many (List.replicate (N - i) (.string ⟨#[]⟩)) i HBL.out
          have HB2 := Lib.hid (below_many HG0.out (List.replicate (N - i) (.string ⟨#[]⟩)) i HBW.out)
          have HLN2 := Lib.hid hln
          have HVR2 : Hid (VRow (wr.setCells g0 i (List.replicate (N - i) (.string ⟨#[]⟩))) (fun k => some g0 = some k) (some ⟨g0, 0, none⟩) ((L.filter (fun s => !p s)).map Value.string)) := Lib.hid (.inr ⟨g0, 0, rfl, rfl, fun k y hy => by
            rw [List.getElem?_map] at hy
            obtain ⟨x, hx, rfl⟩ := Option.map_eq_some_iff.1 hy
            have hki : k < i := by
              have := (List.getElem?_eq_some_iff.1 hx).1
              omega
            rw [Nat.zero_add, cell_of_block hb2 k, hsame k hki]
            exact hlo k x hx⟩)
          have hci : ¬ cap = i := by omega
          have hiN2 : i ≤ N := by omega
          have hic : i ≤ cap := by omega
          clear hkp htkN hln hlo hb2 hsame
          go_wp2
          go_ret
          exact ⟨some ⟨g0, 0, none⟩, cap, by rw [HLN2.out]; rfl, HVR2.out, HB2.out⟩
    · have hfl : L.filter (fun s => !p s) = L := List.filter_eq_self.2 (fun x hx => by rw [List.findIdx_eq_length.1 heq x hx]; rfl)
      have HFL := Lib.hid hfl
      have HB1 := Lib.hid (below_then HB.out hb1)
      have HV1 := Lib.hid (HVR.out.below hb1)
      clear hb1 heq hfl HIF
      go_wp2
      go_ret
      exact ⟨_, cap, by rw [HFL.out, HLN.out]; rfl, by rw [HFL.out]; exact HV1.out, HB1.out⟩

end Go.Proofs.YtacfcfbleogioaaGreatDoor
