/-
  The walk of the law UtfBack at every row of runes. Conditions: the tables hold what their initialisers lay; the library's length variable holds an integer; the row's cells are there.
-/
import Derived.Test.YtbaehldglmibeaaDoorPureSides
import Derived.Test.YtbaehldglmibeaaDoorAwake
import Derived.Test.YtbaehldglmibeaaDoorEnc2
namespace Go.Proofs.YtbaehldglmibeaaDoor
open Go.RowKit Go.Lib

/-- A slice of runes leads to these numbers. -/
def RowI (w : World) (a : Option Addr) (xs : List Int) : Prop :=
  (∀ x ∈ xs, -2147483648 ≤ x ∧ x ≤ 2147483647) ∧ (xs = [] ∨ ∃ b o, a = some ⟨b, o, none⟩ ∧ ∀ (i : Nat) (x : Int), xs[i]? = some x → w.cell? ⟨b, o + i, none⟩ = some (.int .i32 x))

theorem RowI.below {w w' : World} {a xs} (h : RowI w a xs) (hb : Below w.heap.size w w') : RowI w' a xs := by
  refine ⟨h.1, ?_⟩
  rcases h.2 with h0 | ⟨b, o, ha, hc⟩
  · exact Or.inl h0
  · exact Or.inr ⟨b, o, ha, fun i x hx => cell_below hb (hc i x hx)⟩

theorem rowI_of {W : World} {a : Addr} {len cap : Nat} {zs : List Int} (hl : len ≤ cap) (hz : zs.length = cap)
    (hcell : ∀ i, i < zs.length → W.cell? (a.add i) = some (.int .i32 (zs.getD i 0))) (hwz : ∀ n ∈ zs, (Lit.int .i32 n).wf = true) : ∃ xs : List Int, xs.length = len ∧ RowI W (some a) xs := by
  refine ⟨zs.take len, by rw [List.length_take]; omega, fun x hx => ?_, ?_⟩
  · have := hwz x (List.mem_of_mem_take hx)
    simpa [Lit.wf, IntKind.min, IntKind.max, IntKind.signed, IntKind.bits] using this
  · by_cases h0 : len = 0
    · exact Or.inl (by rw [h0]; rfl)
    · obtain ⟨b, off, spot⟩ := a
      have hspot : spot = none := by simpa [Addr.add] using World.cell?_spot (hcell 0 (by omega))
      subst hspot
      refine Or.inr ⟨b, off, rfl, fun i x hx => ?_⟩
      have hi : i < len := by
        have := (List.getElem?_eq_some_iff.1 hx).1
        rw [List.length_take] at this
        omega
      have := hcell i (by omega)
      rw [Addr.add_mid] at this
      rw [this]
      rw [List.getElem?_take_of_lt hi] at hx
      rw [List.getD_eq_getElem?_getD, hx]
      rfl

def isC (r : Int) : Bool := inTab charsT r
def flatE (l : List Int) : List Nat := l.flatMap encL
def cellsN (l : List Nat) : List Value := l.map fun x : Nat => Value.int .u8 (x : Int)
def cellsI (l : List Int) : List Value := l.map fun x : Int => Value.int .i32 x

theorem isC_nat {r : Int} (h : isC r = true) : ∃ m : Nat, r = (m : Int) ∧ 0 < (encN m).length := by
  have h0 : 0 ≤ r := by
    simp only [isC, inTab, charsT, List.any_cons, List.any_nil, inPair, Bool.or_false, Bool.or_eq_true, Bool.and_eq_true, decide_eq_true_eq] at h
    omega
  obtain ⟨m, rfl⟩ : ∃ m : Nat, r = (m : Int) := ⟨r.toNat, by omega⟩
  refine ⟨m, rfl, ?_⟩
  have hc := (chars_nat m).1 h
  unfold encN
  rw [if_neg (by omega)]
  repeat' split
  all_goals simp

theorem flatE_lt (l : List Int) : ∀ x ∈ flatE l, x < 256 := by
  intro x hx
  obtain ⟨r, _, hr⟩ := List.mem_flatMap.1 hx
  exact encL_lt r x hr

theorem flatE_append (a b : List Int) : flatE (a ++ b) = flatE a ++ flatE b := by simp [flatE]
theorem flatE_one (r : Int) : flatE [r] = encL r := by simp [flatE]

theorem flatE_length (l : List Int) : (flatE l).length ≤ 4 * l.length := by
  induction l with
  | nil => simp [flatE]
  | cons r t ih =>
    have := encL_len r
    simp only [flatE, List.flatMap_cons, List.length_append, List.length_cons] at *
    omega

/-- From a place on the bytes are those of these runes, and nothing stands behind them. -/
def Suf (f : Nat → Nat) (N p : Nat) (l : List Int) : Prop := p + (flatE l).length = N ∧ ∀ j, j < (flatE l).length → f (p + j) = nth (flatE l) j

theorem nth_left (a b : List Nat) (j : Nat) (h : j < a.length) : nth (a ++ b) j = nth a j := by
  unfold nth
  rw [List.getD_eq_getElem?_getD, List.getD_eq_getElem?_getD, List.getElem?_append_left h]
theorem nth_right (a b : List Nat) (j : Nat) : nth (a ++ b) (a.length + j) = nth b j := by
  unfold nth
  rw [List.getD_eq_getElem?_getD, List.getD_eq_getElem?_getD, List.getElem?_append_right (by omega), Nat.add_sub_cancel_left]

theorem suf_step {f : Nat → Nat} {N p : Nat} {r : Int} {t : List Int} (hc : isC r = true) (h : Suf f N p (r :: t)) :
    p < N ∧ (((nx f N p).1 : Nat) : Int) = r ∧ 1 ≤ (nx f N p).2 ∧ (nx f N p).2 ≤ 4 ∧ Suf f N (p + (nx f N p).2) t := by
  obtain ⟨m, rfl, hk⟩ := isC_nat hc
  obtain ⟨h1, h2⟩ := h
  have hf : flatE ((m : Int) :: t) = encN m ++ flatE t := by simp [flatE, encL_nat]
  rw [hf] at h1 h2
  rw [List.length_append] at h1 h2
  have hd := dN_enc m f N p hk (by omega) (fun i hi => by rw [h2 i (by omega), nth_left _ _ _ hi])
  have hx : nx f N p = (m, (encN m).length) := by rw [nx_yes (by rw [hd]; exact enc_right m hk) (by rw [hd]; exact hc), hd]
  have h4 := encL_len (m : Int)
  rw [encL_nat] at h4
  rw [hx]
  refine ⟨by omega, rfl, hk, h4, by simp only; omega, fun j hj => ?_⟩
  have := h2 ((encN m).length + j) (by omega)
  rw [nth_right] at this
  rw [← this, Nat.add_assoc]

theorem suf_bad {f : Nat → Nat} {N : Nat} : ∀ (l : List Int), (∀ r ∈ l, isC r = true) → ∀ (g p : Nat), N ≤ g + p → Suf f N p l → badFrom f N g p = -1
  | [], _, g, p, _, h => by
    have : ¬ p < N := by have := h.1; simp [flatE] at this; omega
    cases g with
    | zero => rfl
    | succ g => rw [badFrom, if_neg this]
  | r :: t, hc, 0, p, hg, h => rfl
  | r :: t, hc, g + 1, p, hg, h => by
    obtain ⟨h1, _, h3, _, h5⟩ := suf_step (hc r (by simp)) h
    rw [badFrom, if_pos h1, if_neg (by omega)]
    exact suf_bad t (fun x hx => hc x (by simp [hx])) g _ (by omega) h5

theorem owns_apart {w : World} {B B' : Nat} {va vb : Value} {n m : Nat} {xs ys : List Value} (ha : w.ownsRow B 5 1 va n xs) (hb : w.ownsRow B' 21 1 vb m ys) : vb.ownBlock = none ∨ vb.ownBlock ≠ va.ownBlock := by
  rcases hb.2 with ⟨h1, _⟩ | ⟨g, cap, cur, h1, _, hgb, _⟩
  · exact Or.inl (by rw [h1]; rfl)
  · refine Or.inr fun h => ?_
    rcases ha.2 with ⟨h2, _⟩ | ⟨g', cap', cur', h2, _, hgb', _⟩
    · rw [h1, h2] at h; cases h
    · rw [h1, h2] at h
      obtain rfl := Option.some.inj h
      rw [hgb] at hgb'
      injection Option.some.inj hgb' with _ h5
      exact absurd h5 (by decide)

theorem owns_apart' {w : World} {B B' : Nat} {va vb : Value} {n m : Nat} {xs ys : List Value} (ha : w.ownsRow B 5 1 va n xs) (hb : w.ownsRow B' 21 1 vb m ys) : va.ownBlock = none ∨ va.ownBlock ≠ vb.ownBlock := by
  rcases owns_apart ha hb with h | h
  · cases hq : va.ownBlock with
    | none => exact Or.inl rfl
    | some g => rw [h]; exact Or.inr (by simp)
  · exact Or.inr (Ne.symm h)

theorem owns_below {w w' : World} {B : Nat} {e : TypeId} {v : Value} {n : Nat} {xs : List Value} (h : w.ownsRow B e 1 v n xs) (hb : Below w.heap.size w w') : w'.ownsRow B e 1 v n xs :=
  h.kept (row := none) ⟨hb.os, hb.tape, hb.output, hb.size, fun k hk _ => hb.block k hk⟩ (by cases v.ownBlock <;> simp)

theorem rowI_cells {w : World} {B : Nat} {v : Value} {l : List Int} (h : w.ownsRow B 21 1 v l.length (cellsI l)) : ∃ a c, v = .slice a l.length c ∧ (l = [] ∨ ∃ b o, a = some ⟨b, o, none⟩ ∧ ∀ (i : Nat) (x : Int), l[i]? = some x → w.cell? ⟨b, o + i, none⟩ = some (.int .i32 x)) := by
  rcases h.2 with ⟨h1, h0⟩ | ⟨g, cap, cur, h1, hg, hgb, hcap, hcm, hcur, htk⟩
  · exact ⟨none, 0, by rw [h1, h0], Or.inl (List.length_eq_zero_iff.1 h0)⟩
  · refine ⟨_, cap, h1, Or.inr ⟨g, 0, rfl, fun i x hx => ?_⟩⟩
    have := h.cells (g := g) (by rw [h1]; rfl) i (.int .i32 x) (by rw [cellsI, List.getElem?_map, hx]; rfl)
    rwa [Addr.add_mid] at this

def keepC (l : List Int) : List Int := l.filter isC
theorem keepC_step (l : List Int) (i : Nat) (x : Int) (h : l[i]? = some x) : keepC (l.take (i + 1)) = keepC (l.take i) ++ (if isC x = true then [x] else []) := by
  unfold keepC
  rw [List.take_add_one, h, Option.toList_some, List.filter_append]
  congr 1
  simp [List.filter_cons]
theorem keepC_length (l : List Int) (i : Nat) : (keepC (l.take i)).length ≤ i := by
  unfold keepC
  exact Nat.le_trans (List.length_filter_le _ _) (by rw [List.length_take]; omega)

set_option maxRecDepth 100000 in
set_option maxHeartbeats 4000000 in
theorem law_back (a : Option Addr) (xs : List Int) (cap : Nat) (w : World) (hL : Laid w) (hM : MaxLen w) (hrow : RowI w a xs) : Calls Tryd.prog 6 #[.slice a xs.length cap] w (Leaves (.bool true) w) := by
  obtain ⟨i5, hi5, hj50, hj51, hj52⟩ := info_parts info5
  obtain ⟨i21, hi21, hj0, hj1, hj2⟩ := info_parts info21
  have HL := Lib.hid hL
  have HM := Lib.hid hM
  have HROW := Lib.hid hrow
  clear hL hM hrow
  go_enter Tryd.func6, Tryd.ntmps6
  go_wp2_with fail
  refine (awake_calls w HL.out HM.out).mono ?_
  rintro e w1 ⟨rfl, hb1⟩
  have HB1 := Lib.hid hb1
  clear hb1
  by_cases hbig : 4096 < xs.length
  · have hd : decide ((xs.length : Int) > 4096) = true := by simp; omega
    go_wp2
    go_ret
    exact ⟨rfl, HB1.out⟩
  · have hd : decide ((xs.length : Int) > 4096) = false := by simp; omega
    have hB1 := HB1.out.size
    go_wp2
    go_loopg [3, 4, 5] xs.length (fun g vb vw k wr => ∃ i : Nat, k = .int .i64 i ∧ g + i = xs.length ∧
      wr.ownsRow w.heap.size 5 1 vb (flatE (keepC (xs.take i))).length (cellsN (flatE (keepC (xs.take i)))) ∧
      wr.ownsRow w.heap.size 21 1 vw (keepC (xs.take i)).length (cellsI (keepC (xs.take i))) ∧ Below w.heap.size w wr)
    case atStart => exact ⟨0, rfl, rfl, World.ownsRow_nil _ _ _ _, World.ownsRow_nil _ _ _ _, HB1.out⟩
    case round =>
      obtain ⟨i, rfl, hg, hob, how, hb⟩ := hrel
      have HG := Lib.hid hg
      have HB := Lib.hid hb
      have HOB := Lib.hid hob
      have HOW := Lib.hid how
      have hBw : w.heap.size ≤ wr.heap.size := hb.size
      clear hg hb hob how
      by_cases hlt : i < xs.length
      · have hdl : decide ((i : Int) < (xs.length : Int)) = true := by simp; omega
        have hii : (i : Int) < (xs.length : Int) := by omega
        rcases HROW.out.2 with h0 | ⟨bb, oo, rfl, hc⟩
        · rw [h0] at hlt; simp at hlt
        obtain ⟨x, hx⟩ : ∃ x, xs[i]? = some x := ⟨_, List.getElem?_eq_getElem hlt⟩
        have hxr := HROW.out.1 x (List.mem_of_getElem? hx)
        have ci := cell_below HB.out (hc i x hx)
        have hks := keepC_step xs i x hx
        have hkl := keepC_length xs i
        have hfl := flatE_length (keepC (xs.take i))
        have HKS := Lib.hid hks
        have HC := Lib.hid hc
        have HX := Lib.hid hx
        clear hks hc hx
        go_wp2_with fail
        refine (chars_calls x wr (HL.out.below HB.out).2.1).mono ?_
        rintro e w2 ⟨rfl, hb2⟩
        have HB2 := Lib.hid (below_then HB.out hb2)
        have HOB2 := Lib.hid (owns_below HOB.out hb2)
        have HOW2 := Lib.hid (owns_below HOW.out hb2)
        clear hb2 HOB HOW ci
        obtain ⟨y, hy⟩ : ∃ y, inTab charsT x = y := ⟨_, rfl⟩
        rw [hy]
        have HY : Hid (isC x = y) := Lib.hid hy
        clear hy
        cases y with
        | false =>
          go_wp2
          go_roundg (gk - 1)
          case measure => have := HG.out; omega
          case rel =>
            have e1 : keepC (xs.take (i + 1)) = keepC (xs.take i) := by rw [HKS.out, HY.out]; simp
            exact ⟨i + 1, by go_num, by have := HG.out; omega, by rw [e1]; exact HOB2.out, by rw [e1]; exact HOW2.out, HB2.out⟩
        | true =>
          obtain ⟨ws, hws⟩ : ∃ ws, keepC (xs.take i) = ws := ⟨_, rfl⟩
          have e1 : Hid (keepC (xs.take (i + 1)) = ws ++ [x]) := Lib.hid (by rw [HKS.out, HY.out, hws]; simp)
          rw [hws] at hkl hfl HOB2 HOW2
          have hel := encL_len x
          have hk1 : 0 < (encL x).length := by
            obtain ⟨m, rfl, hk⟩ := isC_nat HY.out
            rw [encL_nat]; exact hk
          have ci2 := cell_below HB2.out (HC.out i x HX.out)
          clear hws HKS
          go_wp2_with fail
          refine (encode_calls x w2 hxr.1 hxr.2).mono ?_
          rintro e w3 ⟨a3, c3, rfl, hc3, hm3, hrow3, hb3⟩
          have HB3 := Lib.hid (below_then HB2.out hb3)
          have hob3 := owns_below HOB2.out hb3
          have how3 := owns_below HOW2.out hb3
          have hBw3 : w.heap.size ≤ w3.heap.size := HB3.out.size
          clear hb3 HOB2 HOW2 ci2
          obtain ⟨hlt3, _, hr3⟩ := hrow3
          rcases hr3 with h0 | ⟨b3, o3, rfl, hcell3⟩
          · omega
          have HCELL3 := Lib.hid hcell3
          have HOW3 := Lib.hid how3
          clear hcell3 how3 hlt3
          go_wp2_with (at_builtin; refine wpList_append_own _ rfl (.tmp 26) (.tmp 31) 22 rfl w.heap.size 5 i5 (.int .u8 0) 1 1 Tryd.underlying22 hi5 hj50 hj51 hj52 rfl (by decide) _ _ _ rfl hob3 ⟨b3, o3, none⟩ (encL x).length c3 (cellsN (encL x)) rfl ?c0 ?c1 ?c2 ?c3 ?c4 ?c5 ?_)
          case c0 => simp [cellsN]
          case c1 =>
            intro j u hj
            rw [cellsN, List.getElem?_map] at hj
            obtain ⟨z, hz, rfl⟩ := Option.map_eq_some_iff.1 hj
            have hjl := (List.getElem?_eq_some_iff.1 hz).1
            have := HCELL3.out j hjl
            unfold nth at this
            rw [List.getD_eq_getElem?_getD, hz, Option.getD_some] at this
            rw [Addr.add_mid]
            exact this
          case c2 =>
            intro u hu
            obtain ⟨z, _, rfl⟩ := List.mem_map.1 hu
            rfl
          case c3 => unfold maxLen; omega
          case c4 => omega
          case c5 => exact hBw3
          intro t' w4 hob4 hgrow4 _
          have hb4 : Below w.heap.size w w4 := HB3.out.grown hgrow4 hBw3 (fun k hk => (hob3.lt k hk).1)
          have how4 := HOW3.out.kept hgrow4 (owns_apart hob3 HOW3.out)
          have hob4' : w4.ownsRow w.heap.size 5 1 t' (flatE (ws ++ [x])).length (cellsN (flatE (ws ++ [x]))) := by
            rw [flatE_append, flatE_one, cellsN, List.map_append, List.length_append]
            exact hob4
          have hBw4 : w.heap.size ≤ w4.heap.size := hb4.size
          have HB4 := Lib.hid hb4
          have HOB4 := Lib.hid hob4'
          have HOW4 := Lib.hid how4
          have ci4 := cell_below HB4.out (HC.out i x HX.out)
          clear hob3 hob4 hob4' how4 hgrow4 hb4 HOW3 HCELL3 hBw3
          go_wp2_with (at_builtin; refine wpList_append_own _ rfl (.tmp 33) (.tmp 38) 33 rfl w.heap.size 21 i21 (.int .i32 0) 1 4 under33 hi21 hj0 hj1 hj2 rfl (by decide) _ _ _ rfl (HOW4.out.alloc _) ⟨w4.heap.size, 0, none⟩ 1 1 [.int .i32 x] rfl rfl ?d1 ?d2 ?d3 ?d4 ?d5 ?_)
          case d1 => exact cell_one_new _ _ _
          case d2 => intro u hu; obtain rfl := List.mem_singleton.1 hu; rfl
          case d3 => unfold maxLen; omega
          case d4 => omega
          case d5 => simp; omega
          intro t2 w5 how5 hgrow5 _
          have hb5 : Below w.heap.size w w5 := (HB4.out.alloc hBw4 _).grown hgrow5 (by simp; omega) (fun k hk => (HOW4.out.lt k hk).1)
          have hob5 := (HOB4.out.alloc (.cells #[.int .i32 x] 21)).kept hgrow5 (owns_apart' (HOB4.out.alloc (.cells #[.int .i32 x] 21)) (HOW4.out.alloc (.cells #[.int .i32 x] 21)))
          have how5' : w5.ownsRow w.heap.size 21 1 t2 (ws ++ [x]).length (cellsI (ws ++ [x])) := by simpa [cellsI] using how5
          have HB5 := Lib.hid hb5
          have HOB5 := Lib.hid hob5
          have HOW5 := Lib.hid how5'
          clear how5 how5' hob5 hgrow5 hb5 HOB4 HOW4 ci4 hBw4
          go_wp2
          go_roundg (gk - 1)
          case measure => have := HG.out; omega
          case rel => exact ⟨i + 1, by go_num, by have := HG.out; omega, by rw [e1.out]; exact HOB5.out, by rw [e1.out]; exact HOW5.out, HB5.out⟩
      · have hdl : decide ((i : Int) < (xs.length : Int)) = false := by simp; omega
        have hkl := keepC_length xs i
        have hcs : Hid (∀ r ∈ keepC (xs.take i), isC r = true) := Lib.hid (fun r hr => (List.mem_filter.1 hr).2)
        obtain ⟨ws, hws⟩ : ∃ ws, keepC (xs.take i) = ws := ⟨_, rfl⟩
        rw [hws] at hkl hcs HOB HOW
        have hfl := flatE_length ws
        obtain ⟨bs, hbs⟩ : ∃ bs, flatE ws = bs := ⟨_, rfl⟩
        have hsuf : Suf (nth bs) bs.length 0 ws := ⟨by rw [hbs]; omega, fun j _ => by rw [hbs, Nat.zero_add]⟩
        have hbl : ∀ x ∈ bs, x < 256 := by rw [← hbs]; exact flatE_lt ws
        rw [hbs] at hfl HOB
        have hi : i ≤ xs.length := by have := HG.out; omega
        obtain ⟨ab, cb, rfl, hcb, hmb, hrb⟩ := row8_of_owns hbl (by omega) HOB.out
        obtain ⟨aw, cw, rfl, hrw⟩ := rowI_cells HOW.out
        have HSUF := Lib.hid hsuf
        have HRB := Lib.hid hrb
        have HRW := Lib.hid hrw
        have hbz := Lib.hid (suf_bad ws hcs.out bs.length 0 (by omega) HSUF.out)
        have hneg : (((-1 : Int)) != -1) = false := by decide
        clear hsuf hrb hrw HOB HOW hws hbs hbl
        go_wp2_with fail
        refine (bad_calls ab bs.length cb (nth bs) wr (HL.out.below HB.out) hcb hmb HRB.out (by omega)).mono ?_
        rintro e w2 ⟨rfl, hb2⟩
        have HB2 := Lib.hid (below_then HB.out hb2)
        have HW2 := Lib.hid hb2
        clear hb2
        rw [show badZ (nth bs) bs.length = -1 from hbz.out]
        go_wp2
        go_loopg [6, 7] ws.length (fun g vp vk wr2 => ∃ j p : Nat, vk = .int .i64 j ∧ vp = .int .i64 p ∧ g + j = ws.length ∧ p ≤ 4 * j ∧ Suf (nth bs) bs.length p (ws.drop j) ∧ Below w.heap.size w wr2 ∧ Below wr.heap.size wr wr2)
        case atStart => exact ⟨0, 0, rfl, rfl, rfl, by omega, by rw [List.drop_zero]; exact HSUF.out, HB2.out, HW2.out⟩
        case round =>
          obtain ⟨j, p, rfl, rfl, hgj, hp4, hsj, hbj, hwj⟩ := hrel
          have HGJ := Lib.hid hgj
          have HSJ := Lib.hid hsj
          have HBJ := Lib.hid hbj
          have HWJ := Lib.hid hwj
          clear hgj hsj hbj hwj
          by_cases hjl : j < ws.length
          · have hdj : decide ((j : Int) < (ws.length : Int)) = true := by simp; omega
            have hjj : (j : Int) < (ws.length : Int) := by omega
            obtain ⟨y, hy⟩ : ∃ y, ws.drop j = y :: ws.drop (j + 1) := ⟨_, List.drop_eq_getElem_cons hjl⟩
            have hyj : ws[j]? = some y := by
              have := congrArg (·[0]?) hy
              simpa [List.getElem?_drop] using this
            have hst := suf_step (hcs.out y (List.mem_of_getElem? hyj)) (hy ▸ HSJ.out)
            rcases HRW.out with h0 | ⟨bw, ow, rfl, hcw⟩
            · rw [h0] at hjl; simp at hjl
            have cj := cell_below HWJ.out (hcw j y hyj)
            obtain ⟨⟨r, z⟩, hrz⟩ : ∃ d, nx (nth bs) bs.length p = d := ⟨_, rfl⟩
            have hn1 : nextZ (nth bs) bs.length (p : Int) = (r, z) := by rw [nextZ_at _ _ _ hst.1, hrz]
            rw [hrz] at hst
            obtain ⟨_, hry, hz1, hz4, hs2⟩ := hst
            simp only at hry hz1 hz4 hs2
            have hne : ((r : Int) != y) = false := by rw [hry]; simp
            have hlz : decide ((z : Int) < 1) = false := by simp; omega
            have HN1 := Lib.hid hn1
            have HS2 := Lib.hid hs2
            have HCJ := Lib.hid cj
            clear hn1 hs2 hrz hcw hyj hy cj
            go_wp2_with fail
            refine (next_calls ab bs.length cb (nth bs) (p : Int) _ (HL.out.below HBJ.out) (HRB.out.below HWJ.out) hcb hmb).mono ?_
            rintro e w3 ⟨rfl, hb3⟩
            have HBJ3 := Lib.hid (below_then HBJ.out hb3)
            have HWJ3 := Lib.hid (below_then HWJ.out hb3)
            have cj3 := cell_below hb3 HCJ.out
            clear hb3 HCJ
            rw [HN1.out]
            unfold runeOf
            go_wp2
            go_roundg (gk - 1)
            case measure => have := HGJ.out; omega
            case rel => exact ⟨j + 1, p + z, by go_num, by go_num, by have := HGJ.out; omega, by omega, HS2.out, HBJ3.out, HWJ3.out⟩
          · have hdj : decide ((j : Int) < (ws.length : Int)) = false := by simp; omega
            have hpe : p = bs.length := by
              have := HSJ.out.1
              rw [List.drop_eq_nil_of_le (by omega)] at this
              simpa [flatE] using this
            have heq : ((p : Int) == (bs.length : Int)) = true := by rw [beq_iff_eq, hpe]
            go_wp2
            go_ret
            exact ⟨by first | rfl | (rw [hpe]; simp), HBJ.out⟩

end Go.Proofs.YtbaehldglmibeaaDoor
