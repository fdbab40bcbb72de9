/-
  Names by what stands beside them, variables and texts in quotes, told by the program. Conditions: the texts are no longer than 2 to the 30; the library's bound is laid; what a name is is told (a variable's).
-/
import Derived.Test.YtkpgbcackphdbaaDoorQD
namespace Go.Proofs.YtkpgbcackphdbaaDoor
open Go.RowKit Go.Lib Go.Joins

set_option maxRecDepth 100000 in
set_option maxHeartbeats 4000000 in
theorem named_calls (n r : List UInt8) (bh : Bool) (w : World) (hn : n.length ≤ 1073741824) : Calls Tryd.prog 30 #[.string (strB n), .string (strB r), .bool bh] w (Leaves (rdV (namedQ n r bh)) w) := by
  have HOP := Lib.hid (fun W => operates_calls n W)
  have HCA := Lib.hid (fun W => called_calls n W)
  have HP1 := Lib.hid (fun W => has_pre (strB r) r [58, 58] rfl ⟨#[58, 58]⟩ rfl W)
  have HP2 := Lib.hid (fun W => has_pre (strB r) r [40] rfl ⟨#[40]⟩ rfl W)
  have HTK := Lib.hid (fun k W => token_calls k n W hn)
  have hq0 : namedQ n r bh = if bh = true then (if wordsQ.contains n = true then tokQ 5 n else .error 61) else tokQ (kindQ n r) n := rfl
  have hk0 : kindQ n r = if hasPre [58, 58] r = true then 4 else if hasPre [40] r = true then (if typesQ.contains n = true then 3 else 2) else 1 := rfl
  obtain ⟨qw, hqw⟩ : ∃ q, wordsQ.contains n = q := ⟨_, rfl⟩
  obtain ⟨q1, hq1⟩ : ∃ q, hasPre [58, 58] r = q := ⟨_, rfl⟩
  obtain ⟨q2, hq2⟩ : ∃ q, hasPre [40] r = q := ⟨_, rfl⟩
  obtain ⟨kk, hkk⟩ : ∃ q : Int, (if typesQ.contains n = true then 3 else 2) = q := ⟨_, rfl⟩
  obtain ⟨res, hres⟩ : ∃ q, namedQ n r bh = q := ⟨_, rfl⟩
  rw [hqw] at HOP
  rw [hkk] at HCA
  rw [hq1] at HP1
  rw [hq2] at HP2
  rw [hres]
  rw [hres, hqw] at hq0
  rw [hq1, hq2, hkk] at hk0
  obtain ⟨s, hs⟩ : ∃ s, strB n = s := ⟨_, rfl⟩
  obtain ⟨t, ht⟩ : ∃ s, strB r = s := ⟨_, rfl⟩
  rw [hs] at HOP HCA HTK
  rw [ht] at HP1 HP2
  rw [hs, ht]
  have HQ := Lib.hid hq0
  have HK0 := Lib.hid hk0
  clear hqw hq1 hq2 hkk hres hq0 hk0 hs ht hn
  obtain ⟨W1, hW1⟩ : ∃ W1, w.alloc (.cells #[.int .i64 0, .int .i64 0, .string ⟨#[]⟩] 31) = W1 := ⟨_, rfl⟩
  have hk1 : ResAt w.heap.size W1 := by rw [← hW1]; exact heap_alloc_new _ _
  have hb1 : Below w.heap.size w W1 := by rw [← hW1]; exact (Below.refl _ _).alloc (Nat.le_refl _) _
  have HK := Lib.hid hk1
  have HB := Lib.hid hb1
  have HW1 := Lib.hid hW1
  clear hk1 hb1 hW1
  cases bh with
  | true =>
    cases qw with
    | false =>
      have HR : Hid (res = .error 61) := Lib.hid HQ.out
      go_enter Tryd.func30, Tryd.ntmps30
      go_wp2_with fail
      rw [HW1.out]
      with_reducible refine (HOP.out W1).mono ?_
      rintro e w2 ⟨rfl, rfl⟩
      obtain ⟨z0, z1, z2⟩ := three_cells HK.out
      have u0 := unfrozen_of_block HK.out 0
      have u1 := unfrozen_of_block HK.out 1
      have u2 := unfrozen_of_block HK.out 2
      go_wp2_with fail
      obtain ⟨hkk, hbb⟩ := store_three (n := w.heap.size) (.int .i64 0) (.int .i64 0) (.string ⟨#[]⟩) HK.out (Nat.le_refl _)
      obtain ⟨g0, g1, g2⟩ := three_cells hkk
      refine bodyPost_ret (v := .tuple #[.agg #[.int .i64 0, .int .i64 0, .string ⟨#[]⟩], .int .i64 0, .int .i64 61]) (by simp [results, Tryd.results30, go_sem, g0, g1, g2]) rfl ⟨by rw [HR.out]; rfl, HB.out.trans hbb⟩
    | true =>
      have HR : Hid (res = tokQ 5 n) := Lib.hid HQ.out
      go_enter Tryd.func30, Tryd.ntmps30
      go_wp2_with fail
      rw [HW1.out]
      with_reducible refine (HOP.out W1).mono ?_
      rintro e w2 ⟨rfl, rfl⟩
      go_wp2_with fail
      obtain ⟨vk, vt, vz, vc, hv⟩ := rdV_form res
      have HV := Lib.hid hv
      clear hv
      have HCALL := HTK.out 5 W1
      rw [← HR.out, HV.out] at HCALL
      with_reducible refine HCALL.mono ?_
      rintro e w9 ⟨rfl, hb9⟩
      have hk9 := HK.out.below hb9
      have HB9 := Lib.hid (below_then HB.out hb9)
      have HK9 := Lib.hid hk9
      obtain ⟨z0, z1, z2⟩ := three_cells hk9
      have u0 := unfrozen_of_block hk9 0
      have u1 := unfrozen_of_block hk9 1
      have u2 := unfrozen_of_block hk9 2
      clear hk9 hb9 HCALL
      go_wp2_with fail
      obtain ⟨hkk, hbb⟩ := store_three (n := w.heap.size) (.int .i64 vk) (.int .i64 0) (.string vt) HK9.out (Nat.le_refl _)
      obtain ⟨g0, g1, g2⟩ := three_cells hkk
      exact bodyPost_ret (v := .tuple #[.agg #[.int .i64 vk, .int .i64 0, .string vt], .int .i64 vz, .int .i64 vc]) (by simp [results, Tryd.results30, go_sem, g0, g1, g2]) rfl ⟨by rw [HV.out], HB9.out.trans hbb⟩
  | false =>
    cases q1 with
    | true =>
      have HR : Hid (res = tokQ 4 n) := Lib.hid (by have := HQ.out; rw [HK0.out] at this; exact this)
      go_enter Tryd.func30, Tryd.ntmps30
      go_wp2_with fail
      rw [HW1.out]
      with_reducible refine (HP1.out W1).mono ?_
      rintro e w2 ⟨rfl, rfl⟩
      go_wp2_with fail
      obtain ⟨vk, vt, vz, vc, hv⟩ := rdV_form res
      have HV := Lib.hid hv
      clear hv
      have HCALL := HTK.out 4 W1
      rw [← HR.out, HV.out] at HCALL
      with_reducible refine HCALL.mono ?_
      rintro e w9 ⟨rfl, hb9⟩
      have hk9 := HK.out.below hb9
      have HB9 := Lib.hid (below_then HB.out hb9)
      have HK9 := Lib.hid hk9
      obtain ⟨z0, z1, z2⟩ := three_cells hk9
      have u0 := unfrozen_of_block hk9 0
      have u1 := unfrozen_of_block hk9 1
      have u2 := unfrozen_of_block hk9 2
      clear hk9 hb9 HCALL
      go_wp2_with fail
      obtain ⟨hkk, hbb⟩ := store_three (n := w.heap.size) (.int .i64 vk) (.int .i64 0) (.string vt) HK9.out (Nat.le_refl _)
      obtain ⟨g0, g1, g2⟩ := three_cells hkk
      exact bodyPost_ret (v := .tuple #[.agg #[.int .i64 vk, .int .i64 0, .string vt], .int .i64 vz, .int .i64 vc]) (by simp [results, Tryd.results30, go_sem, g0, g1, g2]) rfl ⟨by rw [HV.out], HB9.out.trans hbb⟩
    | false =>
      cases q2 with
      | false =>
        have HR : Hid (res = tokQ 1 n) := Lib.hid (by have := HQ.out; rw [HK0.out] at this; exact this)
        go_enter Tryd.func30, Tryd.ntmps30
        go_wp2_with fail
        rw [HW1.out]
        with_reducible refine (HP1.out W1).mono ?_
        rintro e w2 ⟨rfl, rfl⟩
        go_wp2_with fail
        with_reducible refine (HP2.out _).mono ?_
        rintro e w3 ⟨rfl, rfl⟩
        go_wp2_with fail
        obtain ⟨vk, vt, vz, vc, hv⟩ := rdV_form res
        have HV := Lib.hid hv
        clear hv
        have HCALL := HTK.out 1 W1
        rw [← HR.out, HV.out] at HCALL
        with_reducible refine HCALL.mono ?_
        rintro e w9 ⟨rfl, hb9⟩
        have hk9 := HK.out.below hb9
        have HB9 := Lib.hid (below_then HB.out hb9)
        have HK9 := Lib.hid hk9
        obtain ⟨z0, z1, z2⟩ := three_cells hk9
        have u0 := unfrozen_of_block hk9 0
        have u1 := unfrozen_of_block hk9 1
        have u2 := unfrozen_of_block hk9 2
        clear hk9 hb9 HCALL
        go_wp2_with fail
        obtain ⟨hkk, hbb⟩ := store_three (n := w.heap.size) (.int .i64 vk) (.int .i64 0) (.string vt) HK9.out (Nat.le_refl _)
        obtain ⟨g0, g1, g2⟩ := three_cells hkk
        exact bodyPost_ret (v := .tuple #[.agg #[.int .i64 vk, .int .i64 0, .string vt], .int .i64 vz, .int .i64 vc]) (by simp [results, Tryd.results30, go_sem, g0, g1, g2]) rfl ⟨by rw [HV.out], HB9.out.trans hbb⟩
      | true =>
        have HR : Hid (res = tokQ kk n) := Lib.hid (by have := HQ.out; rw [HK0.out] at this; exact this)
        go_enter Tryd.func30, Tryd.ntmps30
        go_wp2_with fail
        rw [HW1.out]
        with_reducible refine (HP1.out W1).mono ?_
        rintro e w2 ⟨rfl, rfl⟩
        go_wp2_with fail
        with_reducible refine (HP2.out _).mono ?_
        rintro e w3 ⟨rfl, rfl⟩
        go_wp2_with fail
        with_reducible refine (HCA.out _).mono ?_
        rintro e w4 ⟨rfl, rfl⟩
        go_wp2_with fail
        obtain ⟨vk, vt, vz, vc, hv⟩ := rdV_form res
        have HV := Lib.hid hv
        clear hv
        have HCALL := HTK.out kk W1
        rw [← HR.out, HV.out] at HCALL
        with_reducible refine HCALL.mono ?_
        rintro e w9 ⟨rfl, hb9⟩
        have hk9 := HK.out.below hb9
        have HB9 := Lib.hid (below_then HB.out hb9)
        have HK9 := Lib.hid hk9
        obtain ⟨z0, z1, z2⟩ := three_cells hk9
        have u0 := unfrozen_of_block hk9 0
        have u1 := unfrozen_of_block hk9 1
        have u2 := unfrozen_of_block hk9 2
        clear hk9 hb9 HCALL
        go_wp2_with fail
        obtain ⟨hkk, hbb⟩ := store_three (n := w.heap.size) (.int .i64 vk) (.int .i64 0) (.string vt) HK9.out (Nat.le_refl _)
        obtain ⟨g0, g1, g2⟩ := three_cells hkk
        exact bodyPost_ret (v := .tuple #[.agg #[.int .i64 vk, .int .i64 0, .string vt], .int .i64 vz, .int .i64 vc]) (by simp [results, Tryd.results30, go_sem, g0, g1, g2]) rfl ⟨by rw [HV.out], HB9.out.trans hbb⟩

end Go.Proofs.YtkpgbcackphdbaaDoor
