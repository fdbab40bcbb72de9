/-
  The token with which a text begins, told by the program. Conditions: the text is no longer than 2 to the 30; the library's bound, the tables and the two arrays of signs are laid.
-/
import Derived.Test.YtkpgbcackphdbaaDoorQG
import Derived.Test.YtkpgbcackphdbaaDoorQH
namespace Go.Proofs.YtkpgbcackphdbaaDoor
open Go.RowKit Go.Lib Go.Joins

/-- What the program's calls ask of memory. -/
structure QEnv (w : World) : Prop where
  laid : Laid w
  mx : MaxLen w
  marks : SignsAt 0 marksQ w
  ops : SignsAt 1 opsQ w
theorem QEnv.below {w w' : World} (h : QEnv w) (hb : Below w.heap.size w w') : QEnv w' := ⟨h.laid.below hb, h.mx.below hb, h.marks.below hb, h.ops.below hb⟩
theorem first_get {c : UInt8} {t : List UInt8} (h : 0 < (strB (c :: t)).size) : (strB (c :: t))[0]'h = c := rfl
/-- A result that a callee tells is stored and told again: the walk's end. -/
def ReadOut (res : Rd) (w : World) : Ending → World → Prop := Leaves (rdV res) w

set_option maxRecDepth 100000 in
set_option maxHeartbeats 8000000 in
theorem read_quote1 (c : UInt8) (t : List UInt8) (bh : Bool) (w : World) (ht : t.length ≤ 1073741823) (hE : QEnv w) (X : Int) (hX : (c.toNat : Int) = X) (hx : X = 34) (hR : readQ (c :: t) bh = quotedQ c t) : Calls Tryd.prog 15 #[.string (strB (c :: t)), .bool bh] w (Leaves (rdV (readQ (c :: t) bh)) w) := by
  have hs1 := strB_size (c :: t)
  rw [List.length_cons] at hs1
  have hpos : 0 < (strB (c :: t)).size := by omega
  have hg : ∀ h : 0 < (strB (c :: t)).size, (strB (c :: t))[0]'h = c := fun h => first_get h
  obtain ⟨res, hres⟩ : ∃ q, readQ (c :: t) bh = q := ⟨_, rfl⟩
  rw [hres] at hR ⊢
  have HC0 := Lib.hid (fun (W : World) (hb : Below w.heap.size w W) => quoted_calls c t W ht (hE.below hb).mx)
  obtain ⟨s, hs⟩ : ∃ s, strB (c :: t) = s := ⟨_, rfl⟩
  have HR0 := Lib.hid hR
  rw [hs] at hpos hg hs1 HC0 ⊢
  have h0s : (0 : Int) < (s.size : Int) := by omega
  replace hg := hg hpos
  subst hx
  clear hres hs hE ht hs1 hR
  obtain ⟨W1, hW1⟩ : ∃ W1, w.alloc (.cells #[.int .i64 0, .int .i64 0, .string ⟨#[]⟩] 31) = W1 := ⟨_, rfl⟩
  have hk1 : ResAt w.heap.size W1 := by rw [← hW1]; exact heap_alloc_new _ _
  have hb1 : Below w.heap.size w W1 := by rw [← hW1]; exact (Below.refl _ _).alloc (Nat.le_refl _) _
  have HK := Lib.hid hk1
  have HB := Lib.hid hb1
  have HW1 := Lib.hid hW1
  clear hk1 hb1 hW1
  have HR : Hid (res = quotedQ c t) := HR0
  have HC := Lib.hid (HC0.out W1 HB.out)
  clear HC0 HR0
  go_enter Tryd.func15, Tryd.ntmps15
  go_wp2_with fail
  rw [HW1.out]
  obtain ⟨vk, vt, vz, vc, hv⟩ := rdV_form res
  have HV := Lib.hid hv
  clear hv
  have HCALL := HC.out
  rw [← HR.out, HV.out] at HCALL
  with_reducible refine HCALL.mono ?_
  rintro e w9 ⟨rfl, hb9⟩
  have hk9 := HK.out.below hb9
  have HB9 := Lib.hid (below_then HB.out hb9)
  have HK9 := Lib.hid hk9
  obtain ⟨z0, z1, z2⟩ := three_cells hk9
  have u0 := unfrozen_of_block hk9 0
  have u1 := unfrozen_of_block hk9 1
  have u2 := unfrozen_of_block hk9 2
  clear hk9 hb9 HCALL
  go_wp2_with fail
  obtain ⟨hkk, hbb⟩ := store_three (n := w.heap.size) (.int .i64 vk) (.int .i64 0) (.string vt) HK9.out (Nat.le_refl _)
  obtain ⟨g0, g1, g2⟩ := three_cells hkk
  exact bodyPost_ret (v := .tuple #[.agg #[.int .i64 vk, .int .i64 0, .string vt], .int .i64 vz, .int .i64 vc]) (by simp [results, Tryd.results15, go_sem, g0, g1, g2]) rfl ⟨by rw [HV.out], HB9.out.trans hbb⟩
set_option maxRecDepth 100000 in
set_option maxHeartbeats 8000000 in
theorem read_quote2 (c : UInt8) (t : List UInt8) (bh : Bool) (w : World) (ht : t.length ≤ 1073741823) (hE : QEnv w) (X : Int) (hX : (c.toNat : Int) = X) (hx : X = 39) (hR : readQ (c :: t) bh = quotedQ c t) : Calls Tryd.prog 15 #[.string (strB (c :: t)), .bool bh] w (Leaves (rdV (readQ (c :: t) bh)) w) := by
  have hs1 := strB_size (c :: t)
  rw [List.length_cons] at hs1
  have hpos : 0 < (strB (c :: t)).size := by omega
  have hg : ∀ h : 0 < (strB (c :: t)).size, (strB (c :: t))[0]'h = c := fun h => first_get h
  obtain ⟨res, hres⟩ : ∃ q, readQ (c :: t) bh = q := ⟨_, rfl⟩
  rw [hres] at hR ⊢
  have HC0 := Lib.hid (fun (W : World) (hb : Below w.heap.size w W) => quoted_calls c t W ht (hE.below hb).mx)
  obtain ⟨s, hs⟩ : ∃ s, strB (c :: t) = s := ⟨_, rfl⟩
  have HR0 := Lib.hid hR
  rw [hs] at hpos hg hs1 HC0 ⊢
  have h0s : (0 : Int) < (s.size : Int) := by omega
  replace hg := hg hpos
  subst hx
  clear hres hs hE ht hs1 hR
  obtain ⟨W1, hW1⟩ : ∃ W1, w.alloc (.cells #[.int .i64 0, .int .i64 0, .string ⟨#[]⟩] 31) = W1 := ⟨_, rfl⟩
  have hk1 : ResAt w.heap.size W1 := by rw [← hW1]; exact heap_alloc_new _ _
  have hb1 : Below w.heap.size w W1 := by rw [← hW1]; exact (Below.refl _ _).alloc (Nat.le_refl _) _
  have HK := Lib.hid hk1
  have HB := Lib.hid hb1
  have HW1 := Lib.hid hW1
  clear hk1 hb1 hW1
  have HR : Hid (res = quotedQ c t) := HR0
  have HC := Lib.hid (HC0.out W1 HB.out)
  clear HC0 HR0
  go_enter Tryd.func15, Tryd.ntmps15
  go_wp2_with fail
  rw [HW1.out]
  obtain ⟨vk, vt, vz, vc, hv⟩ := rdV_form res
  have HV := Lib.hid hv
  clear hv
  have HCALL := HC.out
  rw [← HR.out, HV.out] at HCALL
  with_reducible refine HCALL.mono ?_
  rintro e w9 ⟨rfl, hb9⟩
  have hk9 := HK.out.below hb9
  have HB9 := Lib.hid (below_then HB.out hb9)
  have HK9 := Lib.hid hk9
  obtain ⟨z0, z1, z2⟩ := three_cells hk9
  have u0 := unfrozen_of_block hk9 0
  have u1 := unfrozen_of_block hk9 1
  have u2 := unfrozen_of_block hk9 2
  clear hk9 hb9 HCALL
  go_wp2_with fail
  obtain ⟨hkk, hbb⟩ := store_three (n := w.heap.size) (.int .i64 vk) (.int .i64 0) (.string vt) HK9.out (Nat.le_refl _)
  obtain ⟨g0, g1, g2⟩ := three_cells hkk
  exact bodyPost_ret (v := .tuple #[.agg #[.int .i64 vk, .int .i64 0, .string vt], .int .i64 vz, .int .i64 vc]) (by simp [results, Tryd.results15, go_sem, g0, g1, g2]) rfl ⟨by rw [HV.out], HB9.out.trans hbb⟩
set_option maxRecDepth 100000 in
set_option maxHeartbeats 8000000 in
theorem read_var (c : UInt8) (t : List UInt8) (bh : Bool) (w : World) (ht : t.length ≤ 1073741823) (hE : QEnv w) (X : Int) (hX : (c.toNat : Int) = X) (hx : X = 36) (hR : readQ (c :: t) bh = varQ t) : Calls Tryd.prog 15 #[.string (strB (c :: t)), .bool bh] w (Leaves (rdV (readQ (c :: t) bh)) w) := by
  have hs1 := strB_size (c :: t)
  rw [List.length_cons] at hs1
  have hpos : 0 < (strB (c :: t)).size := by omega
  have hg : ∀ h : 0 < (strB (c :: t)).size, (strB (c :: t))[0]'h = c := fun h => first_get h
  obtain ⟨res, hres⟩ : ∃ q, readQ (c :: t) bh = q := ⟨_, rfl⟩
  rw [hres] at hR ⊢
  have HC0 := Lib.hid (fun (W : World) (hb : Below w.heap.size w W) => variable_calls c t W ht (hE.below hb).laid)
  obtain ⟨s, hs⟩ : ∃ s, strB (c :: t) = s := ⟨_, rfl⟩
  have HR0 := Lib.hid hR
  rw [hs] at hpos hg hs1 HC0 ⊢
  have h0s : (0 : Int) < (s.size : Int) := by omega
  replace hg := hg hpos
  subst hx
  clear hres hs hE ht hs1 hR
  obtain ⟨W1, hW1⟩ : ∃ W1, w.alloc (.cells #[.int .i64 0, .int .i64 0, .string ⟨#[]⟩] 31) = W1 := ⟨_, rfl⟩
  have hk1 : ResAt w.heap.size W1 := by rw [← hW1]; exact heap_alloc_new _ _
  have hb1 : Below w.heap.size w W1 := by rw [← hW1]; exact (Below.refl _ _).alloc (Nat.le_refl _) _
  have HK := Lib.hid hk1
  have HB := Lib.hid hb1
  have HW1 := Lib.hid hW1
  clear hk1 hb1 hW1
  have HR : Hid (res = varQ t) := HR0
  have HC := Lib.hid (HC0.out W1 HB.out)
  clear HC0 HR0
  go_enter Tryd.func15, Tryd.ntmps15
  go_wp2_with fail
  rw [HW1.out]
  obtain ⟨vk, vt, vz, vc, hv⟩ := rdV_form res
  have HV := Lib.hid hv
  clear hv
  have HCALL := HC.out
  rw [← HR.out, HV.out] at HCALL
  with_reducible refine HCALL.mono ?_
  rintro e w9 ⟨rfl, hb9⟩
  have hk9 := HK.out.below hb9
  have HB9 := Lib.hid (below_then HB.out hb9)
  have HK9 := Lib.hid hk9
  obtain ⟨z0, z1, z2⟩ := three_cells hk9
  have u0 := unfrozen_of_block hk9 0
  have u1 := unfrozen_of_block hk9 1
  have u2 := unfrozen_of_block hk9 2
  clear hk9 hb9 HCALL
  go_wp2_with fail
  obtain ⟨hkk, hbb⟩ := store_three (n := w.heap.size) (.int .i64 vk) (.int .i64 0) (.string vt) HK9.out (Nat.le_refl _)
  obtain ⟨g0, g1, g2⟩ := three_cells hkk
  exact bodyPost_ret (v := .tuple #[.agg #[.int .i64 vk, .int .i64 0, .string vt], .int .i64 vz, .int .i64 vc]) (by simp [results, Tryd.results15, go_sem, g0, g1, g2]) rfl ⟨by rw [HV.out], HB9.out.trans hbb⟩
set_option maxRecDepth 100000 in
set_option maxHeartbeats 8000000 in
theorem read_star (c : UInt8) (t : List UInt8) (bh : Bool) (w : World) (ht : t.length ≤ 1073741823) (_hE : QEnv w) (X : Int) (hX : (c.toNat : Int) = X) (hx : X = 42) (hR : readQ (c :: t) bh = tokQ (if bh = true then 5 else 1) [42]) : Calls Tryd.prog 15 #[.string (strB (c :: t)), .bool bh] w (Leaves (rdV (readQ (c :: t) bh)) w) := by
  have hs1 := strB_size (c :: t)
  rw [List.length_cons] at hs1
  have hpos : 0 < (strB (c :: t)).size := by omega
  have hg : ∀ h : 0 < (strB (c :: t)).size, (strB (c :: t))[0]'h = c := fun h => first_get h
  obtain ⟨res, hres⟩ : ∃ q, readQ (c :: t) bh = q := ⟨_, rfl⟩
  rw [hres] at hR ⊢
  have HC0 := Lib.hid (fun (k : Int) (W : World) => token_calls k [42] W (by decide))
  rw [show strB [42] = ⟨#[42]⟩ from rfl] at HC0
  obtain ⟨s, hs⟩ : ∃ s, strB (c :: t) = s := ⟨_, rfl⟩
  have HR0 := Lib.hid hR
  rw [hs] at hpos hg hs1 ⊢
  have h0s : (0 : Int) < (s.size : Int) := by omega
  replace hg := hg hpos
  subst hx
  clear hres hs _hE ht hs1 hR
  obtain ⟨W1, hW1⟩ : ∃ W1, w.alloc (.cells #[.int .i64 0, .int .i64 0, .string ⟨#[]⟩] 31) = W1 := ⟨_, rfl⟩
  have hk1 : ResAt w.heap.size W1 := by rw [← hW1]; exact heap_alloc_new _ _
  have hb1 : Below w.heap.size w W1 := by rw [← hW1]; exact (Below.refl _ _).alloc (Nat.le_refl _) _
  have HK := Lib.hid hk1
  have HB := Lib.hid hb1
  have HW1 := Lib.hid hW1
  clear hk1 hb1 hW1
  cases bh with
  | true =>
    have HR : Hid (res = tokQ 5 [42]) := HR0
    clear HR0
    go_enter Tryd.func15, Tryd.ntmps15
    go_wp2_with fail
    rw [HW1.out]
    obtain ⟨vk, vt, vz, vc, hv⟩ := rdV_form res
    have HV := Lib.hid hv
    clear hv
    have HCALL := HC0.out 5 W1
    rw [← HR.out, HV.out] at HCALL
    with_reducible refine HCALL.mono ?_
    rintro e w9 ⟨rfl, hb9⟩
    have hk9 := HK.out.below hb9
    have HB9 := Lib.hid (below_then HB.out hb9)
    have HK9 := Lib.hid hk9
    obtain ⟨z0, z1, z2⟩ := three_cells hk9
    have u0 := unfrozen_of_block hk9 0
    have u1 := unfrozen_of_block hk9 1
    have u2 := unfrozen_of_block hk9 2
    clear hk9 hb9 HCALL
    go_wp2_with fail
    obtain ⟨hkk, hbb⟩ := store_three (n := w.heap.size) (.int .i64 vk) (.int .i64 0) (.string vt) HK9.out (Nat.le_refl _)
    obtain ⟨g0, g1, g2⟩ := three_cells hkk
    exact bodyPost_ret (v := .tuple #[.agg #[.int .i64 vk, .int .i64 0, .string vt], .int .i64 vz, .int .i64 vc]) (by simp [results, Tryd.results15, go_sem, g0, g1, g2]) rfl ⟨by rw [HV.out], HB9.out.trans hbb⟩
  | false =>
    have HR : Hid (res = tokQ 1 [42]) := HR0
    clear HR0
    go_enter Tryd.func15, Tryd.ntmps15
    go_wp2_with fail
    rw [HW1.out]
    obtain ⟨vk, vt, vz, vc, hv⟩ := rdV_form res
    have HV := Lib.hid hv
    clear hv
    have HCALL := HC0.out 1 W1
    rw [← HR.out, HV.out] at HCALL
    with_reducible refine HCALL.mono ?_
    rintro e w9 ⟨rfl, hb9⟩
    have hk9 := HK.out.below hb9
    have HB9 := Lib.hid (below_then HB.out hb9)
    have HK9 := Lib.hid hk9
    obtain ⟨z0, z1, z2⟩ := three_cells hk9
    have u0 := unfrozen_of_block hk9 0
    have u1 := unfrozen_of_block hk9 1
    have u2 := unfrozen_of_block hk9 2
    clear hk9 hb9 HCALL
    go_wp2_with fail
    obtain ⟨hkk, hbb⟩ := store_three (n := w.heap.size) (.int .i64 vk) (.int .i64 0) (.string vt) HK9.out (Nat.le_refl _)
    obtain ⟨g0, g1, g2⟩ := three_cells hkk
    exact bodyPost_ret (v := .tuple #[.agg #[.int .i64 vk, .int .i64 0, .string vt], .int .i64 vz, .int .i64 vc]) (by simp [results, Tryd.results15, go_sem, g0, g1, g2]) rfl ⟨by rw [HV.out], HB9.out.trans hbb⟩
set_option maxRecDepth 100000 in
set_option maxHeartbeats 8000000 in
theorem read_point (c : UInt8) (t : List UInt8) (bh : Bool) (w : World) (ht : t.length ≤ 1073741823) (hE : QEnv w) (X : Int) (hX : (c.toNat : Int) = X) (hx : X = 46) (hR : readQ (c :: t) bh = (if digs t = 0 then signQ (c :: t) else tokQ 8 ((c :: t).take (numLen (c :: t))))) : Calls Tryd.prog 15 #[.string (strB (c :: t)), .bool bh] w (Leaves (rdV (readQ (c :: t) bh)) w) := by
  have hs1 := strB_size (c :: t)
  rw [List.length_cons] at hs1
  have hpos : 0 < (strB (c :: t)).size := by omega
  have hg : ∀ h : 0 < (strB (c :: t)).size, (strB (c :: t))[0]'h = c := fun h => first_get h
  obtain ⟨res, hres⟩ : ∃ q, readQ (c :: t) bh = q := ⟨_, rfl⟩
  rw [hres] at hR ⊢
  have HD := Lib.hid (fun (W : World) => digits_calls t W (by omega))
  have HSG := Lib.hid (fun (W : World) (hb : Below w.heap.size w W) => sign_calls (c :: t) W (hE.below hb).marks (hE.below hb).ops)
  have HNU := Lib.hid (fun (W : World) => number_calls (c :: t) W (by rw [List.length_cons]; omega))
  have HTK := Lib.hid (fun (W : World) => token_calls 8 ((c :: t).take (numLen (c :: t))) W (by rw [List.length_take, List.length_cons]; omega))
  have x1 : (strB (c :: t)).extract 1 (strB (c :: t)).size = strB t := drop_strB (c :: t) 1
  obtain ⟨d, hd⟩ : ∃ d, digs t = d := ⟨_, rfl⟩
  obtain ⟨num, hnum⟩ : ∃ x, (c :: t).take (numLen (c :: t)) = x := ⟨_, rfl⟩
  rw [hd] at HD hR
  rw [hnum] at HNU HTK hR
  obtain ⟨s, hs⟩ : ∃ s, strB (c :: t) = s := ⟨_, rfl⟩
  have HR0 := Lib.hid hR
  obtain ⟨st, hst⟩ : ∃ s, strB t = s := ⟨_, rfl⟩
  obtain ⟨sn, hsn⟩ : ∃ s, strB num = s := ⟨_, rfl⟩
  rw [hs] at hpos hg hs1 x1 HSG HNU ⊢
  rw [hst] at x1 HD
  rw [hsn] at HNU HTK
  have h0s : (0 : Int) < (s.size : Int) := by omega
  replace hg := hg hpos
  have h1s : (1 : Int) ≤ (s.size : Int) := by omega
  subst hx
  clear hres hs hst hsn hE ht hs1 hR hd hnum
  obtain ⟨W1, hW1⟩ : ∃ W1, w.alloc (.cells #[.int .i64 0, .int .i64 0, .string ⟨#[]⟩] 31) = W1 := ⟨_, rfl⟩
  have hk1 : ResAt w.heap.size W1 := by rw [← hW1]; exact heap_alloc_new _ _
  have hb1 : Below w.heap.size w W1 := by rw [← hW1]; exact (Below.refl _ _).alloc (Nat.le_refl _) _
  have HK := Lib.hid hk1
  have HB := Lib.hid hb1
  have HW1 := Lib.hid hW1
  clear hk1 hb1 hW1
  by_cases hd0 : d = 0
  · have HR : Hid (res = signQ (c :: t)) := Lib.hid (by rw [HR0.out, if_pos hd0])
    have hd1 : ((d : Int) == 0) = true := by rw [beq_iff_eq]; omega
    have hd2 : (d : Int) = 0 := by omega
    clear hd0 HR0 HNU HTK
    go_enter Tryd.func15, Tryd.ntmps15
    go_wp2_with fail
    rw [HW1.out]
    with_reducible refine (HD.out W1).mono ?_
    rintro e w2 ⟨rfl, hb2⟩
    have HB2 := Lib.hid (below_then HB.out hb2)
    have HK2 := Lib.hid (HK.out.below hb2)
    clear hb2
    go_wp2_with fail
    obtain ⟨vk, vt, vz, vc, hv⟩ := rdV_form res
    have HV := Lib.hid hv
    clear hv
    have HCALL := HSG.out w2 HB2.out
    rw [← HR.out, HV.out] at HCALL
    with_reducible refine HCALL.mono ?_
    rintro e w9 ⟨rfl, hb9⟩
    have hk9 := HK2.out.below hb9
    have HB9 := Lib.hid (below_then HB2.out hb9)
    have HK9 := Lib.hid hk9
    obtain ⟨z0, z1, z2⟩ := three_cells hk9
    have u0 := unfrozen_of_block hk9 0
    have u1 := unfrozen_of_block hk9 1
    have u2 := unfrozen_of_block hk9 2
    clear hk9 hb9 HCALL
    go_wp2_with fail
    obtain ⟨hkk, hbb⟩ := store_three (n := w.heap.size) (.int .i64 vk) (.int .i64 0) (.string vt) HK9.out (Nat.le_refl _)
    obtain ⟨g0, g1, g2⟩ := three_cells hkk
    exact bodyPost_ret (v := .tuple #[.agg #[.int .i64 vk, .int .i64 0, .string vt], .int .i64 vz, .int .i64 vc]) (by simp [results, Tryd.results15, go_sem, g0, g1, g2]) rfl ⟨by rw [HV.out], HB9.out.trans hbb⟩
  · have HR : Hid (res = tokQ 8 num) := Lib.hid (by rw [HR0.out, if_neg hd0])
    have hd1 : ((d : Int) == 0) = false := by rw [beq_eq_false_iff_ne]; omega
    have hd2 : ¬ (d : Int) = 0 := by omega
    clear hd0 HR0 HSG
    go_enter Tryd.func15, Tryd.ntmps15
    go_wp2_with fail
    rw [HW1.out]
    with_reducible refine (HD.out W1).mono ?_
    rintro e w2 ⟨rfl, hb2⟩
    have HB2 := Lib.hid (below_then HB.out hb2)
    have HK2 := Lib.hid (HK.out.below hb2)
    clear hb2
    go_wp2_with fail
    with_reducible refine (HNU.out w2).mono ?_
    rintro e w3 ⟨rfl, hb3⟩
    have HB3 := Lib.hid (below_then HB2.out hb3)
    have HK3 := Lib.hid (HK2.out.below hb3)
    clear hb3
    go_wp2_with fail
    obtain ⟨vk, vt, vz, vc, hv⟩ := rdV_form res
    have HV := Lib.hid hv
    clear hv
    have HCALL := HTK.out w3
    rw [← HR.out, HV.out] at HCALL
    with_reducible refine HCALL.mono ?_
    rintro e w9 ⟨rfl, hb9⟩
    have hk9 := HK3.out.below hb9
    have HB9 := Lib.hid (below_then HB3.out hb9)
    have HK9 := Lib.hid hk9
    obtain ⟨z0, z1, z2⟩ := three_cells hk9
    have u0 := unfrozen_of_block hk9 0
    have u1 := unfrozen_of_block hk9 1
    have u2 := unfrozen_of_block hk9 2
    clear hk9 hb9 HCALL
    go_wp2_with fail
    obtain ⟨hkk, hbb⟩ := store_three (n := w.heap.size) (.int .i64 vk) (.int .i64 0) (.string vt) HK9.out (Nat.le_refl _)
    obtain ⟨g0, g1, g2⟩ := three_cells hkk
    exact bodyPost_ret (v := .tuple #[.agg #[.int .i64 vk, .int .i64 0, .string vt], .int .i64 vz, .int .i64 vc]) (by simp [results, Tryd.results15, go_sem, g0, g1, g2]) rfl ⟨by rw [HV.out], HB9.out.trans hbb⟩
set_option maxRecDepth 100000 in
set_option maxHeartbeats 8000000 in
theorem read_digit (c : UInt8) (t : List UInt8) (bh : Bool) (w : World) (ht : t.length ≤ 1073741823) (_hE : QEnv w) (X : Int) (hX : (c.toNat : Int) = X) (hx : X = 48 ∨ X = 49 ∨ X = 50 ∨ X = 51 ∨ X = 52 ∨ X = 53 ∨ X = 54 ∨ X = 55 ∨ X = 56 ∨ X = 57) (hR : readQ (c :: t) bh = tokQ 8 ((c :: t).take (numLen (c :: t)))) : Calls Tryd.prog 15 #[.string (strB (c :: t)), .bool bh] w (Leaves (rdV (readQ (c :: t) bh)) w) := by
  have hs1 := strB_size (c :: t)
  rw [List.length_cons] at hs1
  have hpos : 0 < (strB (c :: t)).size := by omega
  have hg : ∀ h : 0 < (strB (c :: t)).size, (strB (c :: t))[0]'h = c := fun h => first_get h
  obtain ⟨res, hres⟩ : ∃ q, readQ (c :: t) bh = q := ⟨_, rfl⟩
  rw [hres] at hR ⊢
  have HNU := Lib.hid (fun (W : World) => number_calls (c :: t) W (by rw [List.length_cons]; omega))
  have HTK := Lib.hid (fun (W : World) => token_calls 8 ((c :: t).take (numLen (c :: t))) W (by rw [List.length_take, List.length_cons]; omega))
  obtain ⟨num, hnum⟩ : ∃ x, (c :: t).take (numLen (c :: t)) = x := ⟨_, rfl⟩
  rw [hnum] at HNU HTK hR
  obtain ⟨s, hs⟩ : ∃ s, strB (c :: t) = s := ⟨_, rfl⟩
  have HR0 := Lib.hid hR
  obtain ⟨sn, hsn⟩ : ∃ s, strB num = s := ⟨_, rfl⟩
  rw [hs] at hpos hg hs1 HNU ⊢
  rw [hsn] at HNU HTK
  have h0s : (0 : Int) < (s.size : Int) := by omega
  replace hg := hg hpos
  clear hres hs hsn _hE ht hs1 hR hnum
  obtain ⟨W1, hW1⟩ : ∃ W1, w.alloc (.cells #[.int .i64 0, .int .i64 0, .string ⟨#[]⟩] 31) = W1 := ⟨_, rfl⟩
  have hk1 : ResAt w.heap.size W1 := by rw [← hW1]; exact heap_alloc_new _ _
  have hb1 : Below w.heap.size w W1 := by rw [← hW1]; exact (Below.refl _ _).alloc (Nat.le_refl _) _
  have HK := Lib.hid hk1
  have HB := Lib.hid hb1
  have HW1 := Lib.hid hW1
  clear hk1 hb1 hW1
  have HR : Hid (res = tokQ 8 num) := HR0
  clear HR0
  rcases hx with rfl | rfl | rfl | rfl | rfl | rfl | rfl | rfl | rfl | rfl
  all_goals
    go_enter Tryd.func15, Tryd.ntmps15
    go_wp2_with fail
    rw [HW1.out]
    with_reducible refine (HNU.out W1).mono ?_
    rintro e w3 ⟨rfl, hb3⟩
    have HB3 := Lib.hid (below_then HB.out hb3)
    have HK3 := Lib.hid (HK.out.below hb3)
    clear hb3
    go_wp2_with fail
    obtain ⟨vk, vt, vz, vc, hv⟩ := rdV_form res
    have HV := Lib.hid hv
    clear hv
    have HCALL := HTK.out w3
    rw [← HR.out, HV.out] at HCALL
    with_reducible refine HCALL.mono ?_
    rintro e w9 ⟨rfl, hb9⟩
    have hk9 := HK3.out.below hb9
    have HB9 := Lib.hid (below_then HB3.out hb9)
    have HK9 := Lib.hid hk9
    obtain ⟨z0, z1, z2⟩ := three_cells hk9
    have u0 := unfrozen_of_block hk9 0
    have u1 := unfrozen_of_block hk9 1
    have u2 := unfrozen_of_block hk9 2
    clear hk9 hb9 HCALL
    go_wp2_with fail
    obtain ⟨hkk, hbb⟩ := store_three (n := w.heap.size) (.int .i64 vk) (.int .i64 0) (.string vt) HK9.out (Nat.le_refl _)
    obtain ⟨g0, g1, g2⟩ := three_cells hkk
    exact bodyPost_ret (v := .tuple #[.agg #[.int .i64 vk, .int .i64 0, .string vt], .int .i64 vz, .int .i64 vc]) (by simp [results, Tryd.results15, go_sem, g0, g1, g2]) rfl ⟨by rw [HV.out], HB9.out.trans hbb⟩
set_option maxRecDepth 100000 in
set_option maxHeartbeats 8000000 in
theorem read_other (c : UInt8) (t : List UInt8) (bh : Bool) (w : World) (ht : t.length ≤ 1073741823) (hE : QEnv w) (X : Int) (hX : (c.toNat : Int) = X) (hx : X ≠ 34 ∧ X ≠ 39 ∧ X ≠ 36 ∧ X ≠ 42 ∧ X ≠ 46 ∧ X ≠ 48 ∧ X ≠ 49 ∧ X ≠ 50 ∧ X ≠ 51 ∧ X ≠ 52 ∧ X ≠ 53 ∧ X ≠ 54 ∧ X ≠ 55 ∧ X ≠ 56 ∧ X ≠ 57) (hR : readQ (c :: t) bh = (if begun (c :: t) = [] then signQ (c :: t) else namedQ (begun (c :: t)) (blk ((c :: t).drop (begun (c :: t)).length)) bh)) : Calls Tryd.prog 15 #[.string (strB (c :: t)), .bool bh] w (Leaves (rdV (readQ (c :: t) bh)) w) := by
  have hs1 := strB_size (c :: t)
  rw [List.length_cons] at hs1
  have hpos : 0 < (strB (c :: t)).size := by omega
  have hg : ∀ h : 0 < (strB (c :: t)).size, (strB (c :: t))[0]'h = c := fun h => first_get h
  obtain ⟨res, hres⟩ : ∃ q, readQ (c :: t) bh = q := ⟨_, rfl⟩
  rw [hres] at hR ⊢
  have HBE := Lib.hid (fun (W : World) (hb : Below w.heap.size w W) => begun_calls (c :: t) W (by rw [List.length_cons]; omega) (hE.below hb).laid)
  have HSG := Lib.hid (fun (W : World) (hb : Below w.heap.size w W) => sign_calls (c :: t) W (hE.below hb).marks (hE.below hb).ops)
  have hbl : (begun (c :: t)).length ≤ (c :: t).length := by unfold begun; rw [List.length_take]; omega
  rw [List.length_cons] at hbl
  have hnil := strB_nil (begun (c :: t))
  have x1 := drop_strB (c :: t) (begun (c :: t)).length
  obtain ⟨n, hn⟩ : ∃ x, begun (c :: t) = x := ⟨_, rfl⟩
  rw [hn] at HBE hR hnil x1 hbl
  have hsz := strB_size n
  obtain ⟨r, hr⟩ : ∃ x, (c :: t).drop n.length = x := ⟨_, rfl⟩
  rw [hr] at hR x1
  have HBA := Lib.hid (fun (W : World) => bare_calls r W)
  have HNM := Lib.hid (fun (W : World) => named_calls n (blk r) bh W (by omega))
  obtain ⟨s, hs⟩ : ∃ s, strB (c :: t) = s := ⟨_, rfl⟩
  have HR0 := Lib.hid hR
  obtain ⟨sn, hsn⟩ : ∃ s, strB n = s := ⟨_, rfl⟩
  obtain ⟨sr, hsr⟩ : ∃ s, strB r = s := ⟨_, rfl⟩
  obtain ⟨sb, hsb⟩ : ∃ s, strB (blk r) = s := ⟨_, rfl⟩
  rw [hs] at hpos hg hs1 x1 HSG HBE ⊢
  rw [hsn] at HBE HNM hnil hsz
  rw [hsr] at x1 HBA
  rw [hsb] at HBA HNM
  rw [← hsz] at x1
  have h0s : (0 : Int) < (s.size : Int) := by omega
  replace hg := hg hpos
  have hnsz : (sn.size : Int) ≤ (s.size : Int) := by omega
  have hn0 : (0 : Int) ≤ (sn.size : Int) := by omega
  obtain ⟨n0, n1, n2, n3, n4, n5, n6, n7, n8, n9, n10, n11, n12, n13, n14⟩ := hx
  have k0 : (X == 34) = false := beq_eq_false_iff_ne.2 n0
  have j0 : ¬ X = 34 := n0
  have k1 : (X == 39) = false := beq_eq_false_iff_ne.2 n1
  have j1 : ¬ X = 39 := n1
  have k2 : (X == 36) = false := beq_eq_false_iff_ne.2 n2
  have j2 : ¬ X = 36 := n2
  have k3 : (X == 42) = false := beq_eq_false_iff_ne.2 n3
  have j3 : ¬ X = 42 := n3
  have k4 : (X == 46) = false := beq_eq_false_iff_ne.2 n4
  have j4 : ¬ X = 46 := n4
  have k5 : (X == 48) = false := beq_eq_false_iff_ne.2 n5
  have j5 : ¬ X = 48 := n5
  have k6 : (X == 49) = false := beq_eq_false_iff_ne.2 n6
  have j6 : ¬ X = 49 := n6
  have k7 : (X == 50) = false := beq_eq_false_iff_ne.2 n7
  have j7 : ¬ X = 50 := n7
  have k8 : (X == 51) = false := beq_eq_false_iff_ne.2 n8
  have j8 : ¬ X = 51 := n8
  have k9 : (X == 52) = false := beq_eq_false_iff_ne.2 n9
  have j9 : ¬ X = 52 := n9
  have k10 : (X == 53) = false := beq_eq_false_iff_ne.2 n10
  have j10 : ¬ X = 53 := n10
  have k11 : (X == 54) = false := beq_eq_false_iff_ne.2 n11
  have j11 : ¬ X = 54 := n11
  have k12 : (X == 55) = false := beq_eq_false_iff_ne.2 n12
  have j12 : ¬ X = 55 := n12
  have k13 : (X == 56) = false := beq_eq_false_iff_ne.2 n13
  have j13 : ¬ X = 56 := n13
  have k14 : (X == 57) = false := beq_eq_false_iff_ne.2 n14
  have j14 : ¬ X = 57 := n14
  have X1 := Lib.hid x1
  have HNL := Lib.hid hnil
  clear hres hs hsn hsr hsb hE ht hs1 hR hn hr hbl hsz hnil x1 n0 n1 n2 n3 n4 n5 n6 n7 n8 n9 n10 n11 n12 n13 n14
  obtain ⟨W1, hW1⟩ : ∃ W1, w.alloc (.cells #[.int .i64 0, .int .i64 0, .string ⟨#[]⟩] 31) = W1 := ⟨_, rfl⟩
  have hk1 : ResAt w.heap.size W1 := by rw [← hW1]; exact heap_alloc_new _ _
  have hb1 : Below w.heap.size w W1 := by rw [← hW1]; exact (Below.refl _ _).alloc (Nat.le_refl _) _
  have HK := Lib.hid hk1
  have HB := Lib.hid hb1
  have HW1 := Lib.hid hW1
  clear hk1 hb1 hW1
  by_cases hn : n = []
  · have HR : Hid (res = signQ (c :: t)) := Lib.hid (by rw [HR0.out, if_pos hn])
    have hnl : (sn.toList == []) = true := by rw [HNL.out, hn]; rfl
    have hnl2 : sn.toList = [] := by simpa using hnl
    clear hn HR0 HBA HNM
    go_enter Tryd.func15, Tryd.ntmps15
    go_wp2_with fail
    rw [HW1.out]
    with_reducible refine (HBE.out W1 HB.out).mono ?_
    rintro e w2 ⟨rfl, hb2⟩
    have HB2 := Lib.hid (below_then HB.out hb2)
    have HK2 := Lib.hid (HK.out.below hb2)
    clear hb2
    go_wp2_with fail
    obtain ⟨vk, vt, vz, vc, hv⟩ := rdV_form res
    have HV := Lib.hid hv
    clear hv
    have HCALL := HSG.out w2 HB2.out
    rw [← HR.out, HV.out] at HCALL
    with_reducible refine HCALL.mono ?_
    rintro e w9 ⟨rfl, hb9⟩
    have hk9 := HK2.out.below hb9
    have HB9 := Lib.hid (below_then HB2.out hb9)
    have HK9 := Lib.hid hk9
    obtain ⟨z0, z1, z2⟩ := three_cells hk9
    have u0 := unfrozen_of_block hk9 0
    have u1 := unfrozen_of_block hk9 1
    have u2 := unfrozen_of_block hk9 2
    clear hk9 hb9 HCALL
    go_wp2_with fail
    obtain ⟨hkk, hbb⟩ := store_three (n := w.heap.size) (.int .i64 vk) (.int .i64 0) (.string vt) HK9.out (Nat.le_refl _)
    obtain ⟨g0, g1, g2⟩ := three_cells hkk
    exact bodyPost_ret (v := .tuple #[.agg #[.int .i64 vk, .int .i64 0, .string vt], .int .i64 vz, .int .i64 vc]) (by simp [results, Tryd.results15, go_sem, g0, g1, g2]) rfl ⟨by rw [HV.out], HB9.out.trans hbb⟩
  · have HR : Hid (res = namedQ n (blk r) bh) := Lib.hid (by rw [HR0.out, if_neg hn])
    have hnl : (sn.toList == []) = false := by
      rw [HNL.out]
      cases n with
      | nil => exact absurd rfl hn
      | cons x y => rfl
    have hnl2 : ¬ sn.toList = [] := by simpa using hnl
    have x1 := X1.out
    clear hn HR0 HSG
    go_enter Tryd.func15, Tryd.ntmps15
    go_wp2_with fail
    rw [HW1.out]
    with_reducible refine (HBE.out W1 HB.out).mono ?_
    rintro e w2 ⟨rfl, hb2⟩
    have HB2 := Lib.hid (below_then HB.out hb2)
    have HK2 := Lib.hid (HK.out.below hb2)
    clear hb2
    go_wp2_with fail
    with_reducible refine (HBA.out w2).mono ?_
    rintro e w3 ⟨rfl, hb3⟩
    have HB3 := Lib.hid (below_then HB2.out hb3)
    have HK3 := Lib.hid (HK2.out.below hb3)
    clear hb3
    go_wp2_with fail
    obtain ⟨vk, vt, vz, vc, hv⟩ := rdV_form res
    have HV := Lib.hid hv
    clear hv
    have HCALL := HNM.out w3
    rw [← HR.out, HV.out] at HCALL
    with_reducible refine HCALL.mono ?_
    rintro e w9 ⟨rfl, hb9⟩
    have hk9 := HK3.out.below hb9
    have HB9 := Lib.hid (below_then HB3.out hb9)
    have HK9 := Lib.hid hk9
    obtain ⟨z0, z1, z2⟩ := three_cells hk9
    have u0 := unfrozen_of_block hk9 0
    have u1 := unfrozen_of_block hk9 1
    have u2 := unfrozen_of_block hk9 2
    clear hk9 hb9 HCALL
    go_wp2_with fail
    obtain ⟨hkk, hbb⟩ := store_three (n := w.heap.size) (.int .i64 vk) (.int .i64 0) (.string vt) HK9.out (Nat.le_refl _)
    obtain ⟨g0, g1, g2⟩ := three_cells hkk
    exact bodyPost_ret (v := .tuple #[.agg #[.int .i64 vk, .int .i64 0, .string vt], .int .i64 vz, .int .i64 vc]) (by simp [results, Tryd.results15, go_sem, g0, g1, g2]) rfl ⟨by rw [HV.out], HB9.out.trans hbb⟩

theorem read_calls (c : UInt8) (t : List UInt8) (bh : Bool) (w : World) (ht : t.length ≤ 1073741823) (hE : QEnv w) : Calls Tryd.prog 15 #[.string (strB (c :: t)), .bool bh] w (Leaves (rdV (readQ (c :: t) bh)) w) := by
  have hlt := c.toNat_lt
  by_cases h34 : c = 34
  · exact read_quote1 c t bh w ht hE 34 (by rw [h34]; rfl) rfl (by unfold readQ; dsimp only; rw [if_pos (.inl h34)])
  by_cases h39 : c = 39
  · exact read_quote2 c t bh w ht hE 39 (by rw [h39]; rfl) rfl (by unfold readQ; dsimp only; rw [if_pos (.inr h39)])
  have h1 : ¬ (c = 34 ∨ c = 39) := fun h => h.elim h34 h39
  by_cases h36 : c = 36
  · exact read_var c t bh w ht hE 36 (by rw [h36]; rfl) rfl (by unfold readQ; dsimp only; rw [if_neg h1, if_pos h36])
  by_cases h42 : c = 42
  · exact read_star c t bh w ht hE 42 (by rw [h42]; rfl) rfl (by unfold readQ; dsimp only; rw [if_neg h1, if_neg h36, if_pos h42])
  by_cases h46 : c = 46
  · exact read_point c t bh w ht hE 46 (by rw [h46]; rfl) rfl (by unfold readQ; dsimp only; rw [if_neg h1, if_neg h36, if_neg h42, if_pos h46])
  by_cases hd : digitB c = true
  · have := digit_low hd
    exact read_digit c t bh w ht hE c.toNat rfl (by omega) (by unfold readQ; dsimp only; rw [if_neg h1, if_neg h36, if_neg h42, if_neg h46, if_pos hd])
  · have key : ∀ n : Nat, n < 256 → c ≠ UInt8.ofNat n → (c.toNat : Int) ≠ (n : Int) := fun n hn h e => h (by
      apply UInt8.toNat_inj.1
      rw [UInt8.toNat_ofNat']
      omega)
    have hdd : ¬ (48 ≤ c.toNat ∧ c.toNat ≤ 57) := fun h => hd (by unfold digitB; simpa using h)
    refine read_other c t bh w ht hE c.toNat rfl ⟨key 34 (by decide) h34, key 39 (by decide) h39, key 36 (by decide) h36, key 42 (by decide) h42, key 46 (by decide) h46, ?_, ?_, ?_, ?_, ?_, ?_, ?_, ?_, ?_, ?_⟩ (by unfold readQ; dsimp only; rw [if_neg h1, if_neg h36, if_neg h42, if_neg h46, if_neg hd])
    all_goals omega
end Go.Proofs.YtkpgbcackphdbaaDoor
