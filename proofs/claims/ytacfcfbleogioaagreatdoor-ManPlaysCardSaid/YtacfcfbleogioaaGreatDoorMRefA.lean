/-
  Whether a manifest may be, and whether two are the same, told by the reference. Condition: the slices lead to numbers.
  Whether two manifests are the same, told by the reference. Condition: the slices lead to numbers.
-/
import Derived.Test.YtacfcfbleogioaaGreatDoorSNameA
import Derived.Test.YtacfcfbleogioaaGreatDoorMRowA
import Derived.Deep.QuietTactic
import Derived.BigQuiet
import Derived.Deep.DeepCutAuto
namespace Go.Proofs.YtacfcfbleogioaaGreatDoor
open Go.RowKit Go.Lib Go.Joins

theorem rise_not {b x : Int} (hb : 0 ≤ b) (hx : mayN x = false) : (decide (b + 1 ≤ x) && decide (x ≤ 99999999)) = false := by
  unfold mayN at hx
  simp only [Bool.and_eq_false_iff, decide_eq_false_iff_not] at hx ⊢
  omega
theorem rise_may {b x : Int} (hx : mayN x = true) : (decide (b + 1 ≤ x) && decide (x ≤ 99999999)) = decide (b < x) := by
  have := mayN_is.1 hx
  rw [Bool.eq_iff_iff, Bool.and_eq_true, decide_eq_true_eq, decide_eq_true_eq, decide_eq_true_eq]
  omega
theorem rise_at {l : List Int} {i : Nat} {x b : Int} (hx : l[i]? = some x) : riseB b (l.drop i) = ((decide (b + 1 ≤ x) && decide (x ≤ 99999999)) && riseB x (l.drop (i + 1))) := by
  obtain ⟨h1, rfl⟩ := List.getElem?_eq_some_iff.1 hx
  rw [List.drop_eq_getElem_cons h1, riseB]

set_option maxRecDepth 100000 in
set_option maxHeartbeats 4000000 in
theorem rmay8_calls {S : Nat → Prop} (g l : Int) (a : Option Addr) (segs : List Int) (n c : Nat) (w : World) (hr : IRow w S a segs) (hn : segs.length = n) (hm : n ≤ 140737488355328) :
    Calls Tryz.prog 27 #[.agg #[.int .i64 g, .int .i64 l, .slice a n c]] w (Leaves (.bool (mayM ⟨g, l, segs⟩)) w) := by
  obtain ⟨W1, hW1⟩ : ∃ W1, w.alloc (.cells #[.int .i64 g, .int .i64 l, .slice a n c] 25) = W1 := ⟨_, rfl⟩
  have hb1 : Below w.heap.size w W1 := by rw [← hW1]; exact (Below.refl _ _).alloc (Nat.le_refl _) _
  have hk1 : W1.heap[w.heap.size]? = some (.cells #[.int .i64 g, .int .i64 l, .slice a n c] 25 (0, 0)) := by rw [← hW1]; exact heap_alloc_new _ _
  have HR := Lib.hid hr
  have HB := Lib.hid hb1
  have c0 : W1.cell? ⟨w.heap.size, 0, none⟩ = some (.int .i64 g) := (cell_of_block hk1 0).trans rfl
  have c1 : W1.cell? ⟨w.heap.size, 1, none⟩ = some (.int .i64 l) := (cell_of_block hk1 1).trans rfl
  have c2 : W1.cell? ⟨w.heap.size, 2, none⟩ = some (.slice a n c) := (cell_of_block hk1 2).trans rfl
  have HW1 := Lib.hid hW1
  have HK1 := Lib.hid hk1
  have HN := Lib.hid hn
  have HM0 := Lib.hid (rmay7_calls g W1)
  obtain ⟨head, hhead⟩ : ∃ head : Bool, (mayN g && ((decide (0 ≤ l) && decide (l ≤ 200)) && (decide (1 ≤ n) && decide (n ≤ 64)))) = head := ⟨_, rfl⟩
  have hmM : mayM ⟨g, l, segs⟩ = (head && riseB 0 segs) := by
    rw [← hhead]
    unfold mayM
    rw [hn, Bool.and_comm]
  rw [hmM]
  obtain ⟨q, hq⟩ : ∃ q, (head && riseB 0 segs) = q := ⟨_, rfl⟩
  rw [hq]
  have HQ := Lib.hid hq
  clear hr hb1 hW1 hk1 hn hmM hq
  go_enter Tryz.func27, Tryz.ntmps27
  go_upto_region 1 with (fail)
  rw [HW1.out]
  go_cut [3] (fun okv wr => okv = .bool head ∧ wr = W1)
  case first =>
    have HH := Lib.hid hhead
    clear hhead HQ HN HR
    cases hmg : mayN g with
    | false =>
      have hh : head = false := by rw [← HH.out, hmg]; rfl
      subst hh
      rw [hmg] at HM0
      clear HH hmg
      go_wp2_with fail
      with_reducible refine HM0.out.mono ?_
      rintro e w2 ⟨rfl, rfl⟩
      go_wp2_with fail
      go_meet
      exact ⟨rfl, rfl⟩
    | true =>
      rw [hmg] at HM0 HH
      clear hmg
      by_cases h1 : 0 ≤ l
      · have d1 : decide ((0 : Int) ≤ l) = true := by simpa using h1
        have d1' : decide (l ≥ (0 : Int)) = true := by simpa using h1
        rw [d1] at HH
        by_cases h2 : l ≤ 200
        · have d2 : decide (l ≤ (200 : Int)) = true := by simpa using h2
          rw [d2] at HH
          by_cases h3 : 1 ≤ n
          · have d3 : decide ((1 : Int) ≤ (n : Int)) = true := by simp; omega
            have d3' : decide ((n : Int) ≥ (1 : Int)) = true := by simp; omega
            rw [decide_eq_true h3] at HH
            by_cases h4 : n ≤ 64
            · have d4 : decide ((n : Int) ≤ (64 : Int)) = true := by simp; omega
              rw [decide_eq_true h4] at HH
              have hh : head = true := HH.out.symm
              subst hh
              clear HH
              go_wp2_with fail
              with_reducible refine HM0.out.mono ?_
              rintro e w2 ⟨rfl, rfl⟩
              go_wp2_with fail
              go_meet
              exact ⟨rfl, rfl⟩
            · have d4 : decide ((n : Int) ≤ (64 : Int)) = false := by simp; omega
              rw [decide_eq_false h4] at HH
              have hh : head = false := HH.out.symm
              subst hh
              clear HH
              go_wp2_with fail
              with_reducible refine HM0.out.mono ?_
              rintro e w2 ⟨rfl, rfl⟩
              go_wp2_with fail
              go_meet
              exact ⟨rfl, rfl⟩
          · have d3 : decide ((1 : Int) ≤ (n : Int)) = false := by simp; omega
            have d3' : decide ((n : Int) ≥ (1 : Int)) = false := by simp; omega
            rw [decide_eq_false h3] at HH
            have hh : head = false := HH.out.symm
            subst hh
            clear HH
            go_wp2_with fail
            with_reducible refine HM0.out.mono ?_
            rintro e w2 ⟨rfl, rfl⟩
            go_wp2_with fail
            go_meet
            exact ⟨rfl, rfl⟩
        · have d2 : decide (l ≤ (200 : Int)) = false := by simpa using h2
          rw [d2] at HH
          have hh : head = false := HH.out.symm
          subst hh
          clear HH
          go_wp2_with fail
          with_reducible refine HM0.out.mono ?_
          rintro e w2 ⟨rfl, rfl⟩
          go_wp2_with fail
          go_meet
          exact ⟨rfl, rfl⟩
      · have d1 : decide ((0 : Int) ≤ l) = false := by simpa using h1
        have d1' : decide (l ≥ (0 : Int)) = false := by simpa using h1
        rw [d1] at HH
        have hh : head = false := HH.out.symm
        subst hh
        clear HH
        go_wp2_with fail
        with_reducible refine HM0.out.mono ?_
        rintro e w2 ⟨rfl, rfl⟩
        go_wp2_with fail
        go_meet
        exact ⟨rfl, rfl⟩
  case rest =>
    obtain ⟨rfl, rfl⟩ := hcut
    clear hhead HM0 c0 c1 c2
    go_wp2_with fail
    go_loopg [3, 4] n (fun gk okv idx wr => ∃ (i : Nat) (ok : Bool) (b : Int), okv = .bool ok ∧ idx = .int .i64 (i : Int) ∧ gk + i = n ∧ (i = 0 → b = 0) ∧ (∀ j, i = j + 1 → segs[j]? = some b) ∧ (ok = true → 0 ≤ b) ∧ (ok && riseB b (segs.drop i)) = q ∧ wr.heap[w.heap.size]? = some (.cells #[.int .i64 g, .int .i64 l, .slice a n c] 25 (0, 0)) ∧ Below w.heap.size w wr)
    case atStart => exact ⟨0, head, 0, rfl, rfl, rfl, fun _ => rfl, fun j e => by omega, fun _ => by decide, HQ.out, HK1.out, HB.out⟩
    case round =>
      obtain ⟨i, ok, b, rfl, rfl, hg, hb0, hbj, hbn, hq, hk, hb⟩ := hrel
      have HG := Lib.hid hg
      have HE := Lib.hid hq
      have HK := Lib.hid hk
      have HB := Lib.hid hb
      have HB0 := Lib.hid hb0
      have HBJ := Lib.hid hbj
      have c2 : wr.cell? ⟨w.heap.size, 2, none⟩ = some (.slice a n c) := (cell_of_block hk 2).trans rfl
      clear hg hq hk hb hb0 hbj
      by_cases hlt : i < n
      · obtain ⟨g', rfl⟩ : ∃ g', gk = g' + 1 := ⟨gk - 1, by have := HG.out; omega⟩
        have hdd : decide ((i : Int) < (n : Int)) = true := by simp; omega
        obtain ⟨x, hx⟩ : ∃ x, segs[i]? = some x := ⟨segs[i]'(by rw [HN.out]; exact hlt), List.getElem?_eq_getElem _⟩
        have hst := rise_at (b := b) hx
        rw [hst] at HE
        have HX := Lib.hid hx
        have HAT := Lib.hid (irow_at (HR.out.below HB.out) hx)
        clear hst
        cases ok with
        | false =>
          have HNX : Hid ((false && riseB x (segs.drop (i + 1))) = q) := Lib.hid HE.out
          clear HE hx
          go_wp2_with fail
          go_quiet (fail)
          go_wp2
          go_roundg g'
          case measure => omega
          case rel => exact ⟨i + 1, false, x, rfl, by go_num, by have := HG.out; omega, fun e => absurd e (Nat.succ_ne_zero i), (fun j e => by obtain rfl : i = j := Nat.succ.inj e; exact HX.out), (fun e => by cases e), HNX.out, HK.out, HB.out.trans (Go.Joins.below_draws _ _ _)⟩
        | true =>
          obtain ⟨ab, ao, rfl, _, hcx⟩ := HAT.out
          have HMX := Lib.hid (fun W => rmay7_calls x W)
          cases hmx : mayN x with
          | false =>
            have HNX : Hid ((false && riseB x (segs.drop (i + 1))) = q) := Lib.hid (by rw [← HE.out, rise_not (hbn rfl) hmx]; rfl)
            rw [hmx] at HMX
            clear HE hx HAT hbn
            go_wp2_with fail
            go_quiet ((exact Calls.quiet_of_same ((HMX.out _).mono fun _ _ h => ⟨h.1, h.2.symm⟩)))
            go_wp2
            go_roundg g'
            case measure => omega
            case rel => exact ⟨i + 1, false, x, rfl, by go_num, by have := HG.out; omega, fun e => absurd e (Nat.succ_ne_zero i), (fun j e => by obtain rfl : i = j := Nat.succ.inj e; exact HX.out), (fun e => by cases e), HNX.out, HK.out, HB.out.trans (Go.Joins.below_draws _ _ _)⟩
          | true =>
            have hx1 := (mayN_is.1 hmx).1
            rw [hmx] at HMX
            rw [rise_may hmx] at HE
            clear hx HAT hmx
            by_cases hi0 : i = 0
            · have h0 := HB0.out hi0
              subst h0
              have hez : ((i : Int) == 0) = true := by simp [hi0]
              have HNX : Hid ((true && riseB x (segs.drop (i + 1))) = q) := Lib.hid (by rw [← HE.out, decide_eq_true (show (0 : Int) < x by omega)]; rfl)
              clear HE hbn hi0
              go_wp2_with fail
              go_quiet ((exact Calls.quiet_of_same ((HMX.out _).mono fun _ _ h => ⟨h.1, h.2.symm⟩)))
              go_wp2
              go_roundg g'
              case measure => omega
              case rel => exact ⟨i + 1, true, x, rfl, by go_num, by have := HG.out; omega, fun e => absurd e (Nat.succ_ne_zero i), (fun j e => by obtain rfl : i = j := Nat.succ.inj e; exact HX.out), (fun _ => by omega), HNX.out, HK.out, HB.out.trans (Go.Joins.below_draws _ _ _)⟩
            · obtain ⟨i0, hi1⟩ : ∃ i0, i = i0 + 1 := ⟨i - 1, by omega⟩
              obtain ⟨_, _, hab, _, hcb⟩ := irow_at (HR.out.below HB.out) (HBJ.out i0 hi1)
              obtain ⟨rfl, rfl⟩ : ab = _ ∧ ao = _ := by simpa using hab
              have hwr : IntKind.i64.wrap ((i : Int) - 1) = (i0 : Int) := by rw [IntWalk.i64_in _ (by omega)]; omega
              have hi2 : (i0 : Int) < (n : Int) := by omega
              have hez : ((i : Int) == 0) = false := by simp [hi0]
              clear hab hi0
              by_cases hbx : b < x
              · have HNX : Hid ((true && riseB x (segs.drop (i + 1))) = q) := Lib.hid (by rw [← HE.out, decide_eq_true hbx]; rfl)
                have hdx : decide (b < x) = true := by simpa using hbx
                clear HE hbn hi1
                go_wp2_with fail
                go_quiet ((exact Calls.quiet_of_same ((HMX.out _).mono fun _ _ h => ⟨h.1, h.2.symm⟩)))
                go_wp2
                go_roundg g'
                case measure => omega
                case rel => exact ⟨i + 1, true, x, rfl, by go_num, by have := HG.out; omega, fun e => absurd e (Nat.succ_ne_zero i), (fun j e => by obtain rfl : i = j := Nat.succ.inj e; exact HX.out), (fun _ => by omega), HNX.out, HK.out, HB.out.trans (Go.Joins.below_draws _ _ _)⟩
              · have HNX : Hid ((false && riseB x (segs.drop (i + 1))) = q) := Lib.hid (by rw [← HE.out, decide_eq_false hbx]; rfl)
                have hdx : decide (b < x) = false := by simpa using hbx
                clear HE hbn hi1
                go_wp2_with fail
                go_quiet ((exact Calls.quiet_of_same ((HMX.out _).mono fun _ _ h => ⟨h.1, h.2.symm⟩)))
                go_wp2
                go_roundg g'
                case measure => omega
                case rel => exact ⟨i + 1, false, x, rfl, by go_num, by have := HG.out; omega, fun e => absurd e (Nat.succ_ne_zero i), (fun j e => by obtain rfl : i = j := Nat.succ.inj e; exact HX.out), (fun e => by cases e), HNX.out, HK.out, HB.out.trans (Go.Joins.below_draws _ _ _)⟩
      · have hdd : decide ((i : Int) < (n : Int)) = false := by simp; omega
        have HT : Hid (ok = q) := Lib.hid (by rw [← HE.out, List.drop_eq_nil_of_le (by rw [HN.out]; omega), riseB, Bool.and_true])
        clear HE
        go_wp2
        go_ret
        exact ⟨by rw [HT.out]; rfl, HB.out⟩

end Go.Proofs.YtacfcfbleogioaaGreatDoor

namespace Go.Proofs.YtacfcfbleogioaaGreatDoor
open Go.RowKit Go.Lib Go.Joins

theorem alloc_sz (w : World) (o : Obj) : (w.alloc o).heap.size = w.heap.size + 1 := by simp
def sameM (x y : Mfs) : Bool := decide (x.gen = y.gen) && (decide (x.last = y.last) && decide (x.segs = y.segs))
theorem sameM_is {x y : Mfs} : sameM x y = true ↔ x = y := by
  unfold sameM
  rw [Bool.and_eq_true, Bool.and_eq_true, decide_eq_true_eq, decide_eq_true_eq, decide_eq_true_eq]
  constructor
  · rintro ⟨h1, h2, h3⟩
    cases x
    cases y
    simp_all
  · rintro rfl
    exact ⟨rfl, rfl, rfl⟩
theorem sameM_self (x : Mfs) : sameM x x = true := sameM_is.2 rfl
theorem drop_step {l m : List Int} {i : Nat} {x y : Int} (hx : l[i]? = some x) (hy : m[i]? = some y) : decide (l.drop i = m.drop i) = (decide (x = y) && decide (l.drop (i + 1) = m.drop (i + 1))) := by
  obtain ⟨h1, rfl⟩ := List.getElem?_eq_some_iff.1 hx
  obtain ⟨h2, rfl⟩ := List.getElem?_eq_some_iff.1 hy
  rw [List.drop_eq_getElem_cons h1, List.drop_eq_getElem_cons h2, Bool.eq_iff_iff, Bool.and_eq_true, decide_eq_true_eq, decide_eq_true_eq, decide_eq_true_eq, List.cons.injEq]

set_option maxRecDepth 100000 in
set_option maxHeartbeats 4000000 in
theorem rsame8_calls {S S' : Nat → Prop} (g l g2 l2 : Int) (a a2 : Option Addr) (segs segs2 : List Int) (n c n2 c2 : Nat) (w : World) (hr : IRow w S a segs) (hn : segs.length = n) (hm : n ≤ 1099511627776)
    (hr2 : IRow w S' a2 segs2) (hn2 : segs2.length = n2) (hm2 : n2 ≤ 1099511627776) :
    Calls Tryz.prog 13 #[.agg #[.int .i64 g, .int .i64 l, .slice a n c], .agg #[.int .i64 g2, .int .i64 l2, .slice a2 n2 c2]] w (Leaves (.bool (sameM ⟨g, l, segs⟩ ⟨g2, l2, segs2⟩)) w) := by
  obtain ⟨W1, hW1⟩ : ∃ W1, (w.alloc (.cells #[.int .i64 g, .int .i64 l, .slice a n c] 25)).alloc (.cells #[.int .i64 g2, .int .i64 l2, .slice a2 n2 c2] 25) = W1 := ⟨_, rfl⟩
  have hb0 : Below w.heap.size w (w.alloc (.cells #[.int .i64 g, .int .i64 l, .slice a n c] 25)) := (Below.refl _ _).alloc (Nat.le_refl _) _
  have hb1 : Below w.heap.size w W1 := by rw [← hW1]; exact hb0.alloc hb0.size _
  have hk1 : W1.heap[w.heap.size]? = some (.cells #[.int .i64 g, .int .i64 l, .slice a n c] 25 (0, 0)) := by
    rw [← hW1]
    have h0 : (w.alloc (.cells #[.int .i64 g, .int .i64 l, .slice a n c] 25)).heap[w.heap.size]? = some (.cells #[.int .i64 g, .int .i64 l, .slice a n c] 25 (0, 0)) := heap_alloc_new _ _
    exact (((Below.refl _ _).alloc (Nat.le_refl _) _ : Below (w.alloc (.cells #[.int .i64 g, .int .i64 l, .slice a n c] 25)).heap.size _ _).block _ (lt_of_block h0)).trans h0
  have hk2 : W1.heap[w.heap.size + 1]? = some (.cells #[.int .i64 g2, .int .i64 l2, .slice a2 n2 c2] 25 (0, 0)) := by
    rw [← hW1]
    have h0 := heap_alloc_new (w.alloc (.cells #[.int .i64 g, .int .i64 l, .slice a n c] 25)) (.cells #[.int .i64 g2, .int .i64 l2, .slice a2 n2 c2] 25)
    rwa [alloc_sz] at h0
  have HR := Lib.hid hr
  have HR2 := Lib.hid hr2
  have HB := Lib.hid hb1
  have c0 : W1.cell? ⟨w.heap.size, 0, none⟩ = some (.int .i64 g) := (cell_of_block hk1 0).trans rfl
  have c1 : W1.cell? ⟨w.heap.size, 1, none⟩ = some (.int .i64 l) := (cell_of_block hk1 1).trans rfl
  have c2' : W1.cell? ⟨w.heap.size, 2, none⟩ = some (.slice a n c) := (cell_of_block hk1 2).trans rfl
  have e0 : W1.cell? ⟨w.heap.size + 1, 0, none⟩ = some (.int .i64 g2) := (cell_of_block hk2 0).trans rfl
  have e1 : W1.cell? ⟨w.heap.size + 1, 1, none⟩ = some (.int .i64 l2) := (cell_of_block hk2 1).trans rfl
  have e2 : W1.cell? ⟨w.heap.size + 1, 2, none⟩ = some (.slice a2 n2 c2) := (cell_of_block hk2 2).trans rfl
  have HW1 := Lib.hid hW1
  have HK1 := Lib.hid hk1
  have HK2 := Lib.hid hk2
  have HN := Lib.hid hn
  have HN2 := Lib.hid hn2
  obtain ⟨q, hq⟩ : ∃ q, sameM ⟨g, l, segs⟩ ⟨g2, l2, segs2⟩ = q := ⟨_, rfl⟩
  rw [hq]
  have HQ := Lib.hid hq
  clear hr hb0 hb1 hW1 hk1 hn hq hk2 hn2 hr2
  by_cases h1 : g = g2
  · subst h1
    have d1 : (g != g) = false := by simp
    by_cases h2 : l = l2
    · subst h2
      have d2 : (l != l) = false := by simp
      by_cases h3 : n = n2
      · subst h3
        have d3 : ((n : Int) != (n : Int)) = false := by simp
        have HQ2 : Hid (decide (segs.drop 0 = segs2.drop 0) = q) := Lib.hid (by rw [← HQ.out]; simp [sameM])
        clear HQ
        go_enter Tryz.func13, Tryz.ntmps13
        go_wp2_with fail
        rw [HW1.out]
        go_wp2_with fail
        go_loopg [5] n (fun gk idx wr => ∃ (i : Nat), idx = .int .i64 (i : Int) ∧ gk + i = n ∧ decide (segs.drop i = segs2.drop i) = q ∧ wr.heap[w.heap.size]? = some (.cells #[.int .i64 g, .int .i64 l, .slice a n c] 25 (0, 0)) ∧ wr.heap[w.heap.size + 1]? = some (.cells #[.int .i64 g, .int .i64 l, .slice a2 n c2] 25 (0, 0)) ∧ Below w.heap.size w wr)
        case atStart => exact ⟨0, rfl, rfl, HQ2.out, HK1.out, HK2.out, HB.out⟩
        case round =>
          obtain ⟨i, rfl, hg, hq, hk, hk2, hb⟩ := hrel
          have HG := Lib.hid hg
          have HE := Lib.hid hq
          have HK := Lib.hid hk
          have HKK := Lib.hid hk2
          have HB := Lib.hid hb
          clear c0 c1 c2' e0 e1 e2 HQ2
          have c2' : wr.cell? ⟨w.heap.size, 2, none⟩ = some (.slice a n c) := (cell_of_block hk 2).trans rfl
          have e2 : wr.cell? ⟨w.heap.size + 1, 2, none⟩ = some (.slice a2 n c2) := (cell_of_block hk2 2).trans rfl
          clear hg hq hk hk2 hb
          by_cases hlt : i < n
          · obtain ⟨g', rfl⟩ : ∃ g', gk = g' + 1 := ⟨gk - 1, by have := HG.out; omega⟩
            have hdd : decide ((i : Int) < (n : Int)) = true := by simp; omega
            obtain ⟨x, hx⟩ : ∃ x, segs[i]? = some x := ⟨segs[i]'(by rw [HN.out]; exact hlt), List.getElem?_eq_getElem _⟩
            obtain ⟨y, hy⟩ : ∃ y, segs2[i]? = some y := ⟨segs2[i]'(by rw [HN2.out]; exact hlt), List.getElem?_eq_getElem _⟩
            obtain ⟨ab, ao, rfl, _, hcx⟩ := irow_at (HR.out.below HB.out) hx
            obtain ⟨ab2, ao2, rfl, _, hcy⟩ := irow_at (HR2.out.below HB.out) hy
            have hst := HE.out
            rw [drop_step hx hy] at hst
            clear HE hx hy
            by_cases hxy : x = y
            · have HNX : Hid (decide (segs.drop (i + 1) = segs2.drop (i + 1)) = q) := Lib.hid (by rw [← hst, decide_eq_true hxy, Bool.true_and])
              have dx : (x != y) = false := by simp [hxy]
              clear hst hxy
              go_wp2_with fail
              go_quiet (fail)
              go_wp2
              go_roundg g'
              case measure => omega
              case rel => exact ⟨i + 1, by go_num, by have := HG.out; omega, HNX.out, HK.out, HKK.out, HB.out.trans (Go.Joins.below_draws _ _ _)⟩
            · have HNX : Hid (false = q) := Lib.hid (by rw [← hst, decide_eq_false hxy, Bool.false_and])
              have dx : (x != y) = true := by simp [hxy]
              clear hst hxy
              go_wp2_with fail
              go_quiet (fail)
              go_wp2
              go_ret
              exact ⟨by rw [← HNX.out]; rfl, HB.out.trans (Go.Joins.below_draws _ _ _)⟩
          · have hdd : decide ((i : Int) < (n : Int)) = false := by simp; omega
            have HT : Hid (true = q) := Lib.hid (by rw [← HE.out, List.drop_eq_nil_of_le (by rw [HN.out]; omega), List.drop_eq_nil_of_le (by rw [HN2.out]; omega)]; rfl)
            clear HE
            go_wp2
            go_ret
            exact ⟨by rw [← HT.out]; rfl, HB.out⟩
      · have d3 : ((n : Int) != (n2 : Int)) = true := by simp; omega
        have HF : Hid (false = q) := Lib.hid (by
          rw [← HQ.out]
          have : segs ≠ segs2 := fun e => h3 (by rw [← HN.out, ← HN2.out, e])
          simp [sameM, this])
        clear HQ h3
        go_enter Tryz.func13, Tryz.ntmps13
        go_wp2_with fail
        rw [HW1.out]
        go_wp2_with fail
        go_ret
        exact ⟨by rw [← HF.out]; rfl, HB.out⟩
    · have d2 : (l != l2) = true := by simp [h2]
      have HF : Hid (false = q) := Lib.hid (by rw [← HQ.out]; simp [sameM, h2])
      clear HQ h2
      go_enter Tryz.func13, Tryz.ntmps13
      go_wp2_with fail
      rw [HW1.out]
      go_wp2_with fail
      go_ret
      exact ⟨by rw [← HF.out]; rfl, HB.out⟩
  · have d1 : (g != g2) = true := by simp [h1]
    have HF : Hid (false = q) := Lib.hid (by rw [← HQ.out]; simp [sameM, h1])
    clear HQ h1
    go_enter Tryz.func13, Tryz.ntmps13
    go_wp2_with fail
    rw [HW1.out]
    go_wp2_with fail
    go_ret
    exact ⟨by rw [← HF.out]; rfl, HB.out⟩

end Go.Proofs.YtacfcfbleogioaaGreatDoor
