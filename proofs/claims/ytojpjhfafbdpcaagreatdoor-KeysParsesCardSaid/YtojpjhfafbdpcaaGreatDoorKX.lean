/-
  The reference's Rules, of the same rules twice. Condition: the slices lead to what they are said to.
-/
import Derived.Test.YtojpjhfafbdpcaaGreatDoorKW
namespace Go.Proofs.YtojpjhfafbdpcaaGreatDoor
open Go.RowKit Go.Lib Go.Joins

theorem sameS_self (l : List (List UInt8)) : sameS l l = true := decide_eq_true rfl
set_option maxRecDepth 100000 in
set_option maxHeartbeats 8000000 in
theorem rules_calls {w : World} {S S' : Nat → Prop} {v v' : Value} {l : List Rl} (h1 : RlsIn w S v l) (h2 : RlsIn w S' v' l) :
    Calls Tryz.prog 13 #[v, v'] w (Leaves (.bool true) w) := by
  obtain ⟨a, c, rfl, hlc, hcm, _⟩ := h1.form
  obtain ⟨a', c', rfl, hlc', hcm', _⟩ := h2.form
  obtain ⟨n, hn⟩ : ∃ n, l.length = n := ⟨_, rfl⟩
  rw [hn] at h1 h2 hlc hlc' ⊢
  have H1 := Lib.hid h1
  have H2 := Lib.hid h2
  have HN := Lib.hid hn
  have hm : n ≤ 9223372036854775807 := by unfold maxLen at hcm; omega
  have hne2 : ((n : Int) != (n : Int)) = false := by simp
  clear h1 h2 hn hcm hcm' hlc hlc'
  go_enter Tryz.func13, Tryz.ntmps13
  go_wp2_with fail
  go_loopg [5] n (fun gk i wr => ∃ (j : Nat), i = .int .i64 (j : Int) ∧ gk + j = n ∧ Below w.heap.size w wr)
  case atStart => exact ⟨0, rfl, rfl, Below.refl _ _⟩
  case round =>
    obtain ⟨j, rfl, hg, hb⟩ := hrel
    have HG := Lib.hid hg
    have HB := Lib.hid hb
    clear hg hb
    by_cases hlt : j < n
    · obtain ⟨g', rfl⟩ : ∃ g', gk = g' + 1 := ⟨gk - 1, by have := HG.out; omega⟩
      have hdd : decide ((j : Int) < (n : Int)) = true := by simp; omega
      have hji : (j : Int) < (n : Int) := by omega
      obtain ⟨x, hx⟩ : ∃ x, l[j]? = some x := ⟨l[j]'(by rw [HN.out]; exact hlt), List.getElem?_eq_getElem _⟩
      obtain ⟨b, o, pv, kv, hab, c0, c1, hpv, hkv⟩ := (H1.out.below HB.out).at hx
      obtain ⟨b', o', pv', kv', hab', c0', c1', hpv', hkv'⟩ := (H2.out.below HB.out).at hx
      subst hab hab'
      have cP0 := fun dq os => Calls.regrown_of (texts_calls (hpv.below (below_regrown wr dq os)) (hpv'.below (below_regrown wr dq os)))
      have cK0 := fun dq os => Calls.regrown_of (texts_calls (hkv.below (below_regrown wr dq os)) (hkv'.below (below_regrown wr dq os)))
      rw [sameS_self] at cP0 cK0
      obtain ⟨pa, pc, rfl, _⟩ := hpv.form
      obtain ⟨ka, kc, rfl, _⟩ := hkv.form
      obtain ⟨pa', pc', rfl, _⟩ := hpv'.form
      obtain ⟨ka', kc', rfl, _⟩ := hkv'.form
      obtain ⟨n1, hn1⟩ : ∃ n1, x.path.length = n1 := ⟨_, rfl⟩
      obtain ⟨n2, hn2⟩ : ∃ n2, x.keys.length = n2 := ⟨_, rfl⟩
      rw [hn1] at c0 c0' cP0
      rw [hn2] at c1 c1' cK0
      have cP := fun dq os => cP0 dq os
      have cK := fun dq os => cK0 dq os
      have k0 := fun dq os => cell_regrown c0 dq os
      have k1 := fun dq os => cell_regrown c1 dq os
      have k2 := fun dq os => cell_regrown c0' dq os
      have k3 := fun dq os => cell_regrown c1' dq os
      clear hx hpv hkv hpv' hkv' hn1 hn2 c0 c1 c0' c1' cP0 cK0
      go_upto_region 6 with (fail)
      refine wp_region_quiet_below (by kernel_rfl) (by kernel_rfl) ?_
      repeat (go_big_quiet_step (first | with_reducible exact cP _ _ | with_reducible exact cK _ _))
      refine wpQuiet_nil ?_
      intro _ hw'
      obtain ⟨⟨dq, osq⟩, hw''⟩ := hw'
      subst hw''
      go_wp2_with fail
      go_roundg g'
      case measure => omega
      case rel => exact ⟨j + 1, by go_num, by have := HG.out; omega, below_then HB.out (below_regrown wr dq osq)⟩
    · have hdd : decide ((j : Int) < (n : Int)) = false := by simp; omega
      go_wp2
      go_ret
      exact ⟨rfl, HB.out⟩

end Go.Proofs.YtojpjhfafbdpcaaGreatDoor
