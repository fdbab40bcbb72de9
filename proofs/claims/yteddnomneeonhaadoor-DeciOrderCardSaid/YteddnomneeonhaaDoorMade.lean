/-
  The program's nan, made, floor, size: each tells what plain numbers say. No condition.
-/
import Derived.Test.YteddnomneeonhaaDoorKnown
namespace Go.Proofs.YteddnomneeonhaaDoor
open Go.RowKit

set_option maxRecDepth 100000 in
theorem nan_calls (w : World) : Calls Tryd.prog 40 #[] w (Leaves (numV nanN) w) := by
  go_enter Tryd.func40, Tryd.ntmps40
  go_wp2
  exact bodyPost_ret (v := numV nanN) (by simp [results, Tryd.results40, go_sem, numV, nanN]) rfl ⟨rfl, (Below.refl _ _).alloc (Nat.le_refl _) _⟩

set_option maxRecDepth 100000 in
set_option maxHeartbeats 1000000 in
theorem made_calls (v : Int) (w : World) : Calls Tryd.prog 41 #[.int .i64 v] w (Leaves (numC (fitP v)) w) := by
  obtain ⟨q, hq⟩ : ∃ q, outB v = q := ⟨_, rfl⟩
  go_enter Tryd.func41, Tryd.ntmps41
  go_wp2_with fail
  refine (known1 ⟨false, v⟩ (w.heap.size + 1 + 1) 1 _ (numsAt_one (by go_simp) (by go_simp))).mono ?_
  rintro e w1 ⟨rfl, hb⟩
  rw [show oddN ⟨false, v⟩ = q from hq]
  obtain ⟨hc, hf⟩ := bcell hb
  have hz : w.heap.size + 1 + 1 + 1 ≤ w1.heap.size := by have := hb.size; simp at this; omega
  have HB := Lib.hid hb
  have HQ := Lib.hid hq
  clear hb hq
  have bel : Below w.heap.size w w1 := ((((Below.refl _ w).alloc (Nat.le_refl _) _).alloc (by simp) _).alloc (by simp; omega) _).trans (HB.out.mono (by simp; omega))
  have HBel := Lib.hid bel
  have c0 : w1.cell? ⟨w.heap.size, 0, none⟩ = some (.bool false) := by rw [hc _ _ (by simp; omega)]; go_simp
  have c1 : w1.cell? ⟨w.heap.size, 1, none⟩ = some (.int .i64 0) := by rw [hc _ _ (by simp; omega)]; go_simp
  clear bel
  cases q with
  | true =>
    have hres : Hid (fitP v = (zeroN, 66)) := Lib.hid (fit_out HQ.out)
    go_wp2
    rw [hres.out]
    exact bodyPost_ret (v := numC (zeroN, 66)) (by simp [results, Tryd.results41, go_sem, numC, numV, zeroN, c0, c1]) rfl ⟨rfl, (HBel.out.setCell (by simp) _).setCell (by simp) _⟩
  | false =>
    have hres : Hid (fitP v = (⟨false, v⟩, 0)) := Lib.hid (fit_ok HQ.out)
    go_wp2
    rw [hres.out]
    exact bodyPost_ret (v := numC (⟨false, v⟩, 0)) (by simp [results, Tryd.results41, go_sem, numC, numV, c0, c1]) rfl ⟨rfl, (HBel.out.setCell (by simp) _).setCell (by simp) _⟩

set_option maxRecDepth 100000 in
theorem size_calls (v : Int) (w : World) (h0 : -9223372036854775807 ≤ v) (h1 : v ≤ 9223372036854775807) : Calls Tryd.prog 57 #[.int .i64 v] w (Leaves (.int .u64 (v.natAbs : Int)) w) := by
  by_cases h : v < 0
  · have e : Hid ((v.natAbs : Int) = -v) := Lib.hid (by omega)
    go_enter Tryd.func57, Tryd.ntmps57
    go_wp2
    go_ret
    exact ⟨by rw [e.out]; rfl, Below.refl _ _⟩
  · have e : Hid ((v.natAbs : Int) = v) := Lib.hid (by omega)
    go_enter Tryd.func57, Tryd.ntmps57
    go_wp2
    go_ret
    exact ⟨by rw [e.out]; rfl, Below.refl _ _⟩

theorem tmod_cases (v : Int) : v.tmod 1000000 = v % 1000000 ∧ (0 ≤ v ∨ v % 1000000 = 0) ∨ v.tmod 1000000 = v % 1000000 - 1000000 ∧ v < 0 ∧ v % 1000000 ≠ 0 := by
  have := Int.tmod_eq_emod (a := v) (b := 1000000)
  split at this <;> omega
theorem floor_tmod {v : Int} (h : ¬ v.tmod 1000000 < 0) : v - v.tmod 1000000 = floorI v := by
  unfold floorI
  have := tmod_cases v
  omega
theorem floor_tmod' {v : Int} (h : v.tmod 1000000 < 0) : v - (v.tmod 1000000 + 1000000) = floorI v := by
  unfold floorI
  have := tmod_cases v
  omega

set_option maxRecDepth 100000 in
theorem floor_calls (v : Int) (w : World) (h0 : -2000000000000000 ≤ v) (h1 : v ≤ 2000000000000000) : Calls Tryd.prog 46 #[.int .i64 v] w (Leaves (.int .i64 (floorI v)) w) := by
  have hb : -1000000 < v.tmod 1000000 ∧ v.tmod 1000000 < 1000000 := by
    have := tmod_cases v
    omega
  obtain ⟨hb1, hb2⟩ := hb
  by_cases h : v.tmod 1000000 < 0
  · have e : Hid (v - (v.tmod 1000000 + 1000000) = floorI v) := Lib.hid (floor_tmod' h)
    go_enter Tryd.func46, Tryd.ntmps46
    go_wp2
    go_ret
    exact ⟨by rw [← e.out]; rfl, Below.refl _ _⟩
  · have e : Hid (v - v.tmod 1000000 = floorI v) := Lib.hid (floor_tmod h)
    go_enter Tryd.func46, Tryd.ntmps46
    go_wp2
    go_ret
    exact ⟨by rw [← e.out]; rfl, Below.refl _ _⟩

end Go.Proofs.YteddnomneeonhaaDoor
