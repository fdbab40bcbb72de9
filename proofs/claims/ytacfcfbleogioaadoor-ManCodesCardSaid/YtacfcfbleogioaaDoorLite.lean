/-
  What this seat's walks share beside Base: rows, appends, blocks kept. No condition.
-/
import Derived.Test.YtacfcfbleogioaaDoorBase
import Derived.Below
import Derived.BigQuiet
import Derived.Deep.LoopGhost
import Derived.Deep.MidRow
import Derived.Deep.QuietTactic
import Derived.Deep.RegionLaw
import Derived.Laws.RangeAny
import Derived.Laws.RangeString
import Derived.Lib.Hide
import Derived.Lib.SmallJoins
import Derived.Lib.Walk
import Derived.Maps.AppendAt
import Derived.Maps.OwnSet
import Derived.Maps.Range
namespace Go.Proofs.YtacfcfbleogioaaDoor
open Go.RowKit Go.Lib Go.Joins

def lit (s : ByteArray) : Lit := .string s.data.toList
theorem same_is (a b : ByteArray) : (lit a).sameKey (lit b) = decide (a = b) := by
  show (a.data.toList == b.data.toList) = decide (a = b)
  rw [Bool.eq_iff_iff]
  simp only [beq_iff_eq, decide_eq_true_eq]
  exact ⟨name_ext, fun h => by rw [h]⟩
theorem row_cells {w : World} {S : Nat → Prop} {b : Addr} {l : List Nat} (hr : Row w S (some b) l) : ∀ j u, (cellsN l)[j]? = some u → w.cell? (b.add j) = some u := by
  intro j u hj
  rw [cellsN, List.getElem?_map] at hj
  obtain ⟨c, hc, rfl⟩ := Option.map_eq_some_iff.1 hj
  rcases hr.2 with h0 | ⟨b2, o2, he, _, hcell⟩
  · rw [h0] at hc; simp at hc
  · obtain rfl := Option.some.inj he
    rw [Addr.add_mid]
    exact hcell j c hc
theorem info5 : (Tryd.prog.info? 5).map (fun i => (i.zero, i.size, i.bytes)) = some (some (.int .u8 0), 1, 1) := by kernel_rfl
theorem block_below {w w' : World} (h : Below w.heap.size w w') {b : Nat} {o : Obj} (hb : w.heap[b]? = some o) : w'.heap[b]? = some o := (h.block b (lt_of_block hb)).trans hb
theorem append_any {w : World} {t e size bytes : Nat} {z : Value} (ht : Tryd.prog.underlying t = some (.slice e)) (hinfo : (Tryd.prog.info? e).map (fun i => (i.zero, i.size, i.bytes)) = some (some z, size, bytes)) (hzs : z.cells.size = size) (hsz : 0 < size)
    {v : Value} {n : Nat} {xs : List Value} (hown : w.ownsRow 0 e size v n xs) {b : Addr} {m c : Nat} {news : List Value} (hl : news.length = m * size) (hnews : ∀ j u, news[j]? = some u → w.cell? (b.add j) = some u) (h1 : ∀ u ∈ news, u.oneCell' = true)
    (hmx : n + m ≤ maxLen) (hbytes : (n + m) * bytes ≤ 140737488355328) :
    ∃ v' w', (∀ ty, (Builtin.append_ #[t, t] ty #[v, .slice (some b) m c]).run Tryd.prog w = .ok v' w') ∧ w'.ownsRow 0 e size v' (n + m) (xs ++ news) ∧ w.grownBy w' v.ownBlock ∧ ∀ k, v'.ownBlock = some k → v.ownBlock = some k ∨ w.heap.size ≤ k := by
  obtain ⟨i5, hi5, hj50, hj51, hj52⟩ := info_parts hinfo
  obtain ⟨v', w', hrun, h2, h3, h4⟩ := run_append_own (P := Tryd.prog) w 0 t t e i5 z size bytes ht hi5 hj50 hj51 hj52 hzs hsz v n xs hown b m c news hl hnews h1 hmx hbytes (Nat.zero_le _)
  refine ⟨v', w', fun ty => ?_, h2, h3, ?_⟩
  · rw [← hrun]
    rfl
  · subst hj51
    have h63 : n + m ≤ 9223372036854775807 := by simp only [maxLen] at hmx; omega
    rcases hown.2 with ⟨rfl, rfl⟩ | ⟨g, cap, cur, rfl, hbg, hg, hnc, hcm, hcs, htake⟩
    · by_cases hm : m = 0
      · intro k hk
        have := h4.2 ⟨rfl, hm⟩
        rw [this] at hk
        cases hk
      · have hr2 := run_append_nil (P := Tryd.prog) w t t e i5 z ht hi5 hj50 b m c news hl hnews (by omega) (by omega) (by rw [hj52]; rw [Nat.zero_add] at hbytes; omega)
        rw [hr2] at hrun
        have e := (Result.ok.inj hrun).1
        intro k hk
        rw [← e] at hk
        have : w.heap.size = k := Option.some.inj hk
        exact .inr (by omega)
    · by_cases hroom : n + m ≤ cap
      · have hfit : n * i5.size + news.length ≤ cur.size := by rw [hl, hcs, ← Nat.add_mul]; exact Nat.mul_le_mul_right _ hroom
        have hr2 := run_append_room (P := Tryd.prog) w t t e i5 ht hi5 g n cap cur hg b m c news hl hnews h1 hroom hfit
        rw [hr2] at hrun
        have e := (Result.ok.inj hrun).1
        intro k hk
        rw [← e] at hk
        exact .inl hk
      · have holds : ∀ j u, xs[j]? = some u → w.cell? ((⟨g, 0, none⟩ : Addr).add j) = some u := hown.cells (g := g) rfl
        have hr2 := run_append_grow (P := Tryd.prog) w t t e i5 z ht hi5 hj50 ⟨g, 0, none⟩ n cap xs hown.1 holds b m c news hl hnews (by omega) (by omega) (growslice_fits (by omega) (by rw [hj52]; exact hbytes))
        rw [hr2] at hrun
        have e := (Result.ok.inj hrun).1
        intro k hk
        rw [← e] at hk
        have : w.heap.size = k := Option.some.inj hk
        exact .inr (by omega)
theorem append_any_none {w : World} {t e size : Nat} {z : Value} {bytes : Nat} (ht : Tryd.prog.underlying t = some (.slice e)) (hinfo : (Tryd.prog.info? e).map (fun i => (i.zero, i.size, i.bytes)) = some (some z, size, bytes))
    {v : Value} {n : Nat} {xs : List Value} (hown : w.ownsRow 0 e size v n xs) : ∀ ty, (Builtin.append_ #[t, t] ty #[v, .slice none 0 0]).run Tryd.prog w = .ok v w := by
  obtain ⟨i5, hi5, hj50, hj51, hj52⟩ := info_parts hinfo
  intro ty
  exact run_append_owned_none (P := Tryd.prog) (w := w) 0 t ty e i5 size ht hi5 v n xs hown
theorem Byt.keep {w w' : World} {S O : Nat → Prop} {v : Value} {l : List Nat} (h : Byt w S v l) (hb : Keeps O w w') (hO : ∀ k, S k → ¬ O k) : Byt w' S v l := by
  obtain ⟨⟨a, c, h1, h2, h3⟩⟩ := h
  exact ⟨a, c, h1, h2.keep hb hO, h3⟩
theorem Byt.mono {w : World} {S S' : Nat → Prop} {v : Value} {l : List Nat} (h : Byt w S v l) (hS : ∀ k, S k → S' k) : Byt w S' v l := by
  obtain ⟨⟨a, c, h1, h2, h3⟩⟩ := h
  exact ⟨a, c, h1, h2.mono hS, h3⟩
def Tells (v : Value) (w : World) (e : Ending) (w' : World) : Prop := e = .returned v ∧ ∃ n, w' = w.drewN n
def eqFrom (l m : List Nat) (i : Nat) : Bool := decide (l.drop i = m.drop i)
theorem eqFrom_step {l m : List Nat} {i x y : Nat} (hx : l[i]? = some x) (hy : m[i]? = some y) : eqFrom l m i = (decide (x = y) && eqFrom l m (i + 1)) := by
  obtain ⟨h1, rfl⟩ := List.getElem?_eq_some_iff.1 hx
  obtain ⟨h2, rfl⟩ := List.getElem?_eq_some_iff.1 hy
  unfold eqFrom
  rw [List.drop_eq_getElem_cons h1, List.drop_eq_getElem_cons h2, Bool.eq_iff_iff]
  simp only [List.cons.injEq, decide_eq_true_eq, Bool.and_eq_true]
theorem row_at {w : World} {S : Nat → Prop} {a : Option Addr} {l : List Nat} (h : Row w S a l) {i x : Nat} (hi : l[i]? = some x) : ∃ b o, a = some ⟨b, o, none⟩ ∧ w.cell? ⟨b, o + i, none⟩ = some (.int .u8 (x : Int)) := by
  rcases h.2 with h0 | ⟨b, o, ha, _, hc⟩
  · rw [h0] at hi; simp at hi
  · exact ⟨b, o, ha, hc i x hi⟩
set_option maxRecDepth 100000 in
set_option maxHeartbeats 4000000 in
theorem bytes_calls (a a' : Option Addr) (l m : List Nat) (c c' n n' : Nat) (w : World) {S S' : Nat → Prop} (h : Row w S a l) (h' : Row w S' a' m) (hn : l.length = n) (hn' : m.length = n') (hb : n ≤ 1073741824) (hb' : n' ≤ 1073741824) :
    Calls Tryd.prog 12 #[.slice a n c, .slice a' n' c'] w (Tells (.bool (decide (l = m))) w) := by
  by_cases hnn : n = n'
  · subst hnn
    have he : decide (l = m) = eqFrom l m 0 := rfl
    rw [he]
    obtain ⟨q, hq⟩ : ∃ q, eqFrom l m 0 = q := ⟨_, rfl⟩
    rw [hq]
    have HQ := Lib.hid hq
    have HR := Lib.hid h
    have HR' := Lib.hid h'
    have HN := Lib.hid hn
    have HN' := Lib.hid hn'
    clear h h' hn hn' he hq
    go_enter Tryd.func12, Tryd.ntmps12
    go_wp2
    go_loopg [5] n (fun g idx wr => ∃ (i k : Nat), idx = .int .i64 (i : Int) ∧ g + i = n ∧ eqFrom l m i = q ∧ wr = w.drewN k)
    case atStart => exact ⟨0, 0, rfl, rfl, HQ.out, rfl⟩
    case round =>
      obtain ⟨i, k, rfl, hg, hq, rfl⟩ := hrel
      have HG := Lib.hid hg
      have HE := Lib.hid hq
      clear hg hq HQ
      by_cases hlt : i < n
      · obtain ⟨g', rfl⟩ : ∃ g', gk = g' + 1 := ⟨gk - 1, by have := HG.out; omega⟩
        have hd : decide ((i : Int) < (n : Int)) = true := by simp; omega
        obtain ⟨x, hx⟩ : ∃ x, l[i]? = some x := ⟨l[i]'(by rw [HN.out]; exact hlt), List.getElem?_eq_getElem _⟩
        obtain ⟨y, hy⟩ : ∃ y, m[i]? = some y := ⟨m[i]'(by rw [HN'.out]; exact hlt), List.getElem?_eq_getElem _⟩
        have hst := eqFrom_step hx hy
        rw [HE.out] at hst
        have HST := Lib.hid hst
        obtain ⟨b, o, rfl, hc⟩ := row_at HR.out hx
        obtain ⟨b', o', rfl, hc'⟩ := row_at HR'.out hy
        clear hst hx hy
        by_cases hxy : x = y
        · subst hxy
          have HN2 : Hid (eqFrom l m (i + 1) = q) := Lib.hid (by have := HST.out; simp at this; exact this.symm)
          go_wp2
          go_quiet (fail)
          go_wp2
          go_roundg g'
          case measure => omega
          case rel => exact ⟨i + 1, _, by go_num, by have := HG.out; omega, HN2.out, rfl⟩
        · have HF : Hid (q = false) := Lib.hid (by rw [HST.out, decide_eq_false hxy]; rfl)
          have hne : ((x : Int) != (y : Int)) = true := by simp; omega
          have hne2 : ((x : Int) == (y : Int)) = false := by simp; omega
          clear HST
          go_wp2
          go_quiet (fail)
          go_wp2
          go_ret
          exact ⟨by rw [HF.out]; rfl, _, World.drewN_drewN w k nq⟩
      · have hd : decide ((i : Int) < (n : Int)) = false := by simp; omega
        have HT : Hid (q = true) := Lib.hid (by
          rw [← HE.out]
          unfold eqFrom
          rw [List.drop_eq_nil_of_le (by rw [HN.out]; omega), List.drop_eq_nil_of_le (by rw [HN'.out]; omega)]
          rfl)
        go_wp2
        go_ret
        exact ⟨by rw [HT.out]; rfl, k, rfl⟩
  · have he : decide (l = m) = false := by
      simp only [decide_eq_false_iff_not]
      intro e
      rw [← hn, ← hn', e] at hnn
      exact hnn rfl
    rw [he]
    have hne : ((n : Int) != (n' : Int)) = true := by simp; omega
    clear h h' he hn hn'
    go_enter Tryd.func12, Tryd.ntmps12
    go_wp2
    go_ret
    exact ⟨rfl, 0, rfl⟩
theorem quiet_add {P : Program} {f : FuncId} {args : Array Value} {w : World} {a n : Nat} {v : Value} (h : Calls P f args (w.drewN (a + n)) (Tells v (w.drewN (a + n)))) :
    Calls P f args (w.drewN (a + n)) fun e w'' => e = .returned v ∧ ∃ m, w'' = w.drewN (a + m) :=
  h.mono fun _ _ ⟨he, m, hm⟩ => ⟨he, n + m, by rw [hm, World.drewN_drewN, Nat.add_assoc]⟩
theorem below_drewN (w : World) (n : Nat) : Below w.heap.size w (w.drewN n) := ((Keeps.refl Non w).drewN n).toBelow (Nat.le_refl _) (fun _ h => h.elim)
theorem Row.below {w w' : World} {S : Nat → Prop} {a l} (h : Row w S a l) (hb : Below w.heap.size w w') : Row w' S a l := h.keep (keeps_below hb Non) (fun _ _ h => h)
theorem row_new (w : World) (l : List Nat) (hb : ∀ c ∈ l, c < 256) (fr : Nat × Nat) : Row (w.alloc (.cells (cellsN l).toArray 5 fr)) (One w.heap.size) (some ⟨w.heap.size, 0, none⟩) l := by
  refine ⟨hb, Or.inr ⟨_, _, rfl, rfl, fun i c hi => ?_⟩⟩
  rw [Nat.zero_add, World.cell?_alloc_mark w _ 5 fr i]
  rw [List.getElem?_toArray, cellsN, List.getElem?_map, hi]
  rfl

end Go.Proofs.YtacfcfbleogioaaDoor
