/-
  Whether two manifests are the same, told by the reference. Condition: the slices lead to numbers.
-/
import Derived.Test.YtacfcfbleogioaaGreatDoorSRef
import Derived.Test.YtacfcfbleogioaaGreatDoorMRow
import Derived.Deep.QuietTactic
import Derived.BigQuiet
namespace Go.Proofs.YtacfcfbleogioaaGreatDoor
open Go.RowKit Go.Lib Go.Joins

theorem alloc_sz (w : World) (o : Obj) : (w.alloc o).heap.size = w.heap.size + 1 := by simp
def sameM (x y : Mfs) : Bool := decide (x.gen = y.gen) && (decide (x.last = y.last) && decide (x.segs = y.segs))
theorem sameM_is {x y : Mfs} : sameM x y = true ↔ x = y := by
  unfold sameM
  rw [Bool.and_eq_true, Bool.and_eq_true, decide_eq_true_eq, decide_eq_true_eq, decide_eq_true_eq]
  constructor
  · rintro ⟨h1, h2, h3⟩
    cases x
    cases y
    simp_all
  · rintro rfl
    exact ⟨rfl, rfl, rfl⟩
theorem sameM_self (x : Mfs) : sameM x x = true := sameM_is.2 rfl
theorem drop_step {l m : List Int} {i : Nat} {x y : Int} (hx : l[i]? = some x) (hy : m[i]? = some y) : decide (l.drop i = m.drop i) = (decide (x = y) && decide (l.drop (i + 1) = m.drop (i + 1))) := by
  obtain ⟨h1, rfl⟩ := List.getElem?_eq_some_iff.1 hx
  obtain ⟨h2, rfl⟩ := List.getElem?_eq_some_iff.1 hy
  rw [List.drop_eq_getElem_cons h1, List.drop_eq_getElem_cons h2, Bool.eq_iff_iff, Bool.and_eq_true, decide_eq_true_eq, decide_eq_true_eq, decide_eq_true_eq, List.cons.injEq]

set_option maxRecDepth 100000 in
set_option maxHeartbeats 4000000 in
theorem rsame8_calls {S S' : Nat → Prop} (g l g2 l2 : Int) (a a2 : Option Addr) (segs segs2 : List Int) (n c n2 c2 : Nat) (w : World) (hr : IRow w S a segs) (hn : segs.length = n) (hm : n ≤ 1099511627776)
    (hr2 : IRow w S' a2 segs2) (hn2 : segs2.length = n2) (hm2 : n2 ≤ 1099511627776) :
    Calls Tryz.prog 13 #[.agg #[.int .i64 g, .int .i64 l, .slice a n c], .agg #[.int .i64 g2, .int .i64 l2, .slice a2 n2 c2]] w (Leaves (.bool (sameM ⟨g, l, segs⟩ ⟨g2, l2, segs2⟩)) w) := by
  obtain ⟨W1, hW1⟩ : ∃ W1, (w.alloc (.cells #[.int .i64 g, .int .i64 l, .slice a n c] 25)).alloc (.cells #[.int .i64 g2, .int .i64 l2, .slice a2 n2 c2] 25) = W1 := ⟨_, rfl⟩
  have hb0 : Below w.heap.size w (w.alloc (.cells #[.int .i64 g, .int .i64 l, .slice a n c] 25)) := (Below.refl _ _).alloc (Nat.le_refl _) _
  have hb1 : Below w.heap.size w W1 := by rw [← hW1]; exact hb0.alloc hb0.size _
  have hk1 : W1.heap[w.heap.size]? = some (.cells #[.int .i64 g, .int .i64 l, .slice a n c] 25 (0, 0)) := by
    rw [← hW1]
    have h0 : (w.alloc (.cells #[.int .i64 g, .int .i64 l, .slice a n c] 25)).heap[w.heap.size]? = some (.cells #[.int .i64 g, .int .i64 l, .slice a n c] 25 (0, 0)) := heap_alloc_new _ _
    exact (((Below.refl _ _).alloc (Nat.le_refl _) _ : Below (w.alloc (.cells #[.int .i64 g, .int .i64 l, .slice a n c] 25)).heap.size _ _).block _ (lt_of_block h0)).trans h0
  have hk2 : W1.heap[w.heap.size + 1]? = some (.cells #[.int .i64 g2, .int .i64 l2, .slice a2 n2 c2] 25 (0, 0)) := by
    rw [← hW1]
    have h0 := heap_alloc_new (w.alloc (.cells #[.int .i64 g, .int .i64 l, .slice a n c] 25)) (.cells #[.int .i64 g2, .int .i64 l2, .slice a2 n2 c2] 25)
    rwa [alloc_sz] at h0
  have HR := Lib.hid hr
  have HR2 := Lib.hid hr2
  have HB := Lib.hid hb1
  have c0 : W1.cell? ⟨w.heap.size, 0, none⟩ = some (.int .i64 g) := (cell_of_block hk1 0).trans rfl
  have c1 : W1.cell? ⟨w.heap.size, 1, none⟩ = some (.int .i64 l) := (cell_of_block hk1 1).trans rfl
  have c2' : W1.cell? ⟨w.heap.size, 2, none⟩ = some (.slice a n c) := (cell_of_block hk1 2).trans rfl
  have e0 : W1.cell? ⟨w.heap.size + 1, 0, none⟩ = some (.int .i64 g2) := (cell_of_block hk2 0).trans rfl
  have e1 : W1.cell? ⟨w.heap.size + 1, 1, none⟩ = some (.int .i64 l2) := (cell_of_block hk2 1).trans rfl
  have e2 : W1.cell? ⟨w.heap.size + 1, 2, none⟩ = some (.slice a2 n2 c2) := (cell_of_block hk2 2).trans rfl
  have HW1 := Lib.hid hW1
  have HK1 := Lib.hid hk1
  have HK2 := Lib.hid hk2
  have HN := Lib.hid hn
  have HN2 := Lib.hid hn2
  obtain ⟨q, hq⟩ : ∃ q, sameM ⟨g, l, segs⟩ ⟨g2, l2, segs2⟩ = q := ⟨_, rfl⟩
  rw [hq]
  have HQ := Lib.hid hq
  clear hr hb0 hb1 hW1 hk1 hn hq hk2 hn2 hr2
  by_cases h1 : g = g2
  · subst h1
    have d1 : (g != g) = false := by simp
    by_cases h2 : l = l2
    · subst h2
      have d2 : (l != l) = false := by simp
      by_cases h3 : n = n2
      · subst h3
        have d3 : ((n : Int) != (n : Int)) = false := by simp
        have HQ2 : Hid (decide (segs.drop 0 = segs2.drop 0) = q) := Lib.hid (by rw [← HQ.out]; simp [sameM])
        clear HQ
        go_enter Tryz.func13, Tryz.ntmps13
        go_wp2_with fail
        rw [HW1.out]
        go_wp2_with fail
        go_loopg [5] n (fun gk idx wr => ∃ (i : Nat), idx = .int .i64 (i : Int) ∧ gk + i = n ∧ decide (segs.drop i = segs2.drop i) = q ∧ wr.heap[w.heap.size]? = some (.cells #[.int .i64 g, .int .i64 l, .slice a n c] 25 (0, 0)) ∧ wr.heap[w.heap.size + 1]? = some (.cells #[.int .i64 g, .int .i64 l, .slice a2 n c2] 25 (0, 0)) ∧ Below w.heap.size w wr)
        case atStart => exact ⟨0, rfl, rfl, HQ2.out, HK1.out, HK2.out, HB.out⟩
        case round =>
          obtain ⟨i, rfl, hg, hq, hk, hk2, hb⟩ := hrel
          have HG := Lib.hid hg
          have HE := Lib.hid hq
          have HK := Lib.hid hk
          have HKK := Lib.hid hk2
          have HB := Lib.hid hb
          clear c0 c1 c2' e0 e1 e2 HQ2
          have c2' : wr.cell? ⟨w.heap.size, 2, none⟩ = some (.slice a n c) := (cell_of_block hk 2).trans rfl
          have e2 : wr.cell? ⟨w.heap.size + 1, 2, none⟩ = some (.slice a2 n c2) := (cell_of_block hk2 2).trans rfl
          clear hg hq hk hk2 hb
          by_cases hlt : i < n
          · obtain ⟨g', rfl⟩ : ∃ g', gk = g' + 1 := ⟨gk - 1, by have := HG.out; omega⟩
            have hdd : decide ((i : Int) < (n : Int)) = true := by simp; omega
            obtain ⟨x, hx⟩ : ∃ x, segs[i]? = some x := ⟨segs[i]'(by rw [HN.out]; exact hlt), List.getElem?_eq_getElem _⟩
            obtain ⟨y, hy⟩ : ∃ y, segs2[i]? = some y := ⟨segs2[i]'(by rw [HN2.out]; exact hlt), List.getElem?_eq_getElem _⟩
            obtain ⟨ab, ao, rfl, _, hcx⟩ := irow_at (HR.out.below HB.out) hx
            obtain ⟨ab2, ao2, rfl, _, hcy⟩ := irow_at (HR2.out.below HB.out) hy
            have hst := HE.out
            rw [drop_step hx hy] at hst
            clear HE hx hy
            by_cases hxy : x = y
            · have HNX : Hid (decide (segs.drop (i + 1) = segs2.drop (i + 1)) = q) := Lib.hid (by rw [← hst, decide_eq_true hxy, Bool.true_and])
              have dx : (x != y) = false := by simp [hxy]
              clear hst hxy
              go_wp2_with fail
              go_quiet (fail)
              go_wp2
              go_roundg g'
              case measure => omega
              case rel => exact ⟨i + 1, by go_num, by have := HG.out; omega, HNX.out, HK.out, HKK.out, HB.out.trans (below_draws _ _ _)⟩
            · have HNX : Hid (false = q) := Lib.hid (by rw [← hst, decide_eq_false hxy, Bool.false_and])
              have dx : (x != y) = true := by simp [hxy]
              clear hst hxy
              go_wp2_with fail
              go_quiet (fail)
              go_wp2
              go_ret
              exact ⟨by rw [← HNX.out]; rfl, HB.out.trans (below_draws _ _ _)⟩
          · have hdd : decide ((i : Int) < (n : Int)) = false := by simp; omega
            have HT : Hid (true = q) := Lib.hid (by rw [← HE.out, List.drop_eq_nil_of_le (by rw [HN.out]; omega), List.drop_eq_nil_of_le (by rw [HN2.out]; omega)]; rfl)
            clear HE
            go_wp2
            go_ret
            exact ⟨by rw [← HT.out]; rfl, HB.out⟩
      · have d3 : ((n : Int) != (n2 : Int)) = true := by simp; omega
        have HF : Hid (false = q) := Lib.hid (by
          rw [← HQ.out]
          have : segs ≠ segs2 := fun e => h3 (by rw [← HN.out, ← HN2.out, e])
          simp [sameM, this])
        clear HQ h3
        go_enter Tryz.func13, Tryz.ntmps13
        go_wp2_with fail
        rw [HW1.out]
        go_wp2_with fail
        go_ret
        exact ⟨by rw [← HF.out]; rfl, HB.out⟩
    · have d2 : (l != l2) = true := by simp [h2]
      have HF : Hid (false = q) := Lib.hid (by rw [← HQ.out]; simp [sameM, h2])
      clear HQ h2
      go_enter Tryz.func13, Tryz.ntmps13
      go_wp2_with fail
      rw [HW1.out]
      go_wp2_with fail
      go_ret
      exact ⟨by rw [← HF.out]; rfl, HB.out⟩
  · have d1 : (g != g2) = true := by simp [h1]
    have HF : Hid (false = q) := Lib.hid (by rw [← HQ.out]; simp [sameM, h1])
    clear HQ h1
    go_enter Tryz.func13, Tryz.ntmps13
    go_wp2_with fail
    rw [HW1.out]
    go_wp2_with fail
    go_ret
    exact ⟨by rw [← HF.out]; rfl, HB.out⟩

end Go.Proofs.YtacfcfbleogioaaGreatDoor
