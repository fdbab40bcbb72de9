/-
  A variable, and a text in quotes, told by the program. Conditions: the texts are no longer than 2 to the 30; the library's bound is laid; what a name is is told.
-/
import Derived.Test.YtkpgbcackphdbaaDoorQE
import Derived.Test.YtkpgbcackphdbaaDoorQF
namespace Go.Proofs.YtkpgbcackphdbaaDoor
open Go.RowKit Go.Lib Go.Joins

theorem first_of (c : UInt8) : ∀ l : List UInt8, c ∉ l ∨ ∃ p t, c ∉ p ∧ l = p ++ c :: t
  | [] => .inl (fun h => by cases h)
  | b :: t => by
    by_cases hb : b = c
    · exact .inr ⟨[], t, fun h => (by cases h), by rw [hb]; rfl⟩
    · rcases first_of c t with h | ⟨p, u, h1, h2⟩
      · refine .inl (fun h2 => ?_)
        rcases List.mem_cons.1 h2 with h3 | h3
        · exact hb h3.symm
        · exact h h3
      · refine .inr ⟨b :: p, u, fun h3 => ?_, by rw [h2]; rfl⟩
        rcases List.mem_cons.1 h3 with h3 | h3
        · exact hb h3.symm
        · exact h1 h3
theorem index_skip {sub : List UInt8} {b : UInt8} {t : List UInt8} (h : sub.isPrefixOf (b :: t) = false) : index (b :: t) sub = if index t sub == -1 then -1 else index t sub + 1 := by
  rw [index, if_neg (by rw [h]; exact Bool.false_ne_true)]
theorem index_here {sub : List UInt8} {b : UInt8} {t : List UInt8} (h : sub.isPrefixOf (b :: t) = true) : index (b :: t) sub = 0 := by
  rw [index, if_pos h]
theorem index_at {c : UInt8} : ∀ {p : List UInt8}, c ∉ p → ∀ t, index (p ++ c :: t) [c] = (p.length : Int)
  | [], _, t => index_here (by simp)
  | b :: p, h, t => by
    have hb : b ≠ c := fun e => h (by rw [e]; exact List.mem_cons_self ..)
    have hs : ([c] : List UInt8).isPrefixOf (b :: (p ++ c :: t)) = false := by
      simp only [List.isPrefixOf, Bool.and_eq_false_iff]
      exact .inl (beq_eq_false_iff_ne.2 (fun e => hb e.symm))
    rw [List.cons_append, index_skip hs, index_at (fun e => h (List.mem_cons_of_mem _ e)) t]
    have : ((p.length : Int) == -1) = false := by rw [beq_eq_false_iff_ne]; omega
    rw [this, if_neg (by decide), List.length_cons]
    rfl
theorem index_no {c : UInt8} : ∀ {p : List UInt8}, c ∉ p → index p [c] = -1
  | [], _ => rfl
  | b :: p, h => by
    have hb : b ≠ c := fun e => h (by rw [e]; exact List.mem_cons_self ..)
    have hs : ([c] : List UInt8).isPrefixOf (b :: p) = false := by
      simp only [List.isPrefixOf, Bool.and_eq_false_iff]
      exact .inl (beq_eq_false_iff_ne.2 (fun e => hb e.symm))
    rw [index_skip hs, index_no (fun e => h (List.mem_cons_of_mem _ e))]
    rfl
theorem byte_at {c : UInt8} : ∀ {p : List UInt8}, c ∉ p → ∀ t, indexByte (p ++ c :: t) c = (p.length : Int)
  | [], _, t => by rw [List.nil_append, indexByte, if_pos (by simp)]; rfl
  | b :: p, h, t => by
    have hb : (b == c) = false := beq_eq_false_iff_ne.2 (fun e => h (by rw [e]; exact List.mem_cons_self ..))
    have : ((p.length : Int) == -1) = false := by rw [beq_eq_false_iff_ne]; omega
    rw [List.cons_append, indexByte, hb, if_neg (by decide), byte_at (fun e => h (List.mem_cons_of_mem _ e)) t, this, if_neg (by decide), List.length_cons]
    rfl
theorem byte_no {c : UInt8} : ∀ {p : List UInt8}, c ∉ p → indexByte p c = -1
  | [], _ => rfl
  | b :: p, h => by
    have hb : (b == c) = false := beq_eq_false_iff_ne.2 (fun e => h (by rw [e]; exact List.mem_cons_self ..))
    rw [indexByte, hb, if_neg (by decide), byte_no (fun e => h (List.mem_cons_of_mem _ e))]
    rfl
theorem drop_byte {c : UInt8} {p t : List UInt8} : (p ++ c :: t).drop (p.length + 1) = t := by
  have : p ++ c :: t = (p ++ [c]) ++ t := by rw [List.append_assoc]; rfl
  rw [this]
  exact List.drop_left' (by simp)
theorem cut_at {c : UInt8} {p : List UInt8} (h : c ∉ p) (t : List UInt8) : Lib.cut (p ++ c :: t) [c] = (p, t, true) := by
  unfold Lib.cut
  have hi := index_at h t
  rw [hi, if_pos (by omega), Int.toNat_natCast, List.take_append_of_le_length (Nat.le_refl _), List.take_length]
  show (p, (p ++ c :: t).drop (p.length + 1), true) = _
  rw [drop_byte]
theorem cut_no {c : UInt8} {p : List UInt8} (h : c ∉ p) : Lib.cut p [c] = (p, [], false) := by
  unfold Lib.cut
  rw [index_no h, if_neg (by decide)]


theorem cut_upto (c : UInt8) (t : List UInt8) : Lib.cut t [c] = ((upTo c t).getD t, (Lib.cut t [c]).2.1, (upTo c t).isSome) := by
  cases h : upTo c t with
  | none =>
    rw [cut_no (upTo_none h)]
    rfl
  | some i =>
    obtain ⟨u, rfl, h2⟩ := upTo_form h
    rw [cut_at h2]
    rfl
theorem strB_nil (x : List UInt8) : ((strB x).toList == []) = x.isEmpty := by
  rw [Go.Lib.toList_data, strB_list]
  cases x <;> rfl
set_option maxRecDepth 100000 in
set_option maxHeartbeats 4000000 in
theorem variable_calls (c : UInt8) (t : List UInt8) (w : World) (ht : t.length ≤ 1073741823) (hL : Laid w) : Calls Tryd.prog 25 #[.string (strB (c :: t))] w (Leaves (rdV (varQ t)) w) := by
  have hle := blk_le t
  have hs1 := strB_size (c :: t)
  rw [List.length_cons] at hs1
  have hs2 := strB_size (blk t)
  have hs3 := strB_size (begun (blk t))
  have hbl : (begun (blk t)).length ≤ (blk t).length := by unfold begun; rw [List.length_take]; omega
  have x1 : (strB (c :: t)).extract 1 (strB (c :: t)).size = strB t := drop_strB (c :: t) 1
  have HBA := Lib.hid (fun W => bare_calls t W)
  have HBE := Lib.hid (fun (W : World) (hb : Below w.heap.size w W) => begun_calls (blk t) W (by omega) (hL.below hb))
  have hnil := strB_nil (begun (blk t))
  have hv0 : varQ t = if begun (blk t) = [] then .error 60 else .ok (9, begun (blk t), t.length + 1 - (blk t).length + (begun (blk t)).length) := rfl
  obtain ⟨res, hres⟩ : ∃ q, varQ t = q := ⟨_, rfl⟩
  rw [hres] at hv0
  obtain ⟨Z, hZ⟩ : ∃ Z, t.length + 1 - (blk t).length + (begun (blk t)).length = Z := ⟨_, rfl⟩
  obtain ⟨n, hn⟩ : ∃ n, begun (blk t) = n := ⟨_, rfl⟩
  rw [hn] at hnil hv0 hs3 HBE hZ hbl
  rw [hZ] at hv0
  rw [hres]
  obtain ⟨s, hs⟩ : ∃ s, strB (c :: t) = s := ⟨_, rfl⟩
  obtain ⟨st, hst⟩ : ∃ s, strB t = s := ⟨_, rfl⟩
  obtain ⟨sr, hsr⟩ : ∃ s, strB (blk t) = s := ⟨_, rfl⟩
  obtain ⟨sn, hsn⟩ : ∃ s, strB n = s := ⟨_, rfl⟩
  rw [hs] at hs1 x1 ⊢
  rw [hst] at x1 HBA
  rw [hsr] at hs2 HBA HBE
  rw [hsn] at hs3 HBE hnil
  have h1s : (1 : Int) ≤ (s.size : Int) := by omega
  obtain ⟨D, hD⟩ : ∃ D, s.size - sr.size = D := ⟨_, rfl⟩
  have hsub : IntKind.i64.wrap ((s.size : Int) - (sr.size : Int)) = (D : Int) := by rw [IntWalk.i64_in _ (by omega)]; omega
  have hadd : IntKind.i64.wrap ((D : Int) + (sn.size : Int)) = (Z : Int) := by rw [IntWalk.i64_in _ (by omega)]; omega
  have HV0 := Lib.hid hv0
  have X1 := Lib.hid x1
  have HNL := Lib.hid hnil
  have HSN := Lib.hid hsn
  clear hle hs1 hs2 hs3 hbl x1 hnil hv0 hres hZ hn hs hst hsr hsn hD hL ht
  obtain ⟨W1, hW1⟩ : ∃ W1, w.alloc (.cells #[.int .i64 0, .int .i64 0, .string ⟨#[]⟩] 31) = W1 := ⟨_, rfl⟩
  have hk1 : ResAt w.heap.size W1 := by rw [← hW1]; exact heap_alloc_new _ _
  have hb1 : Below w.heap.size w W1 := by rw [← hW1]; exact (Below.refl _ _).alloc (Nat.le_refl _) _
  have HK := Lib.hid hk1
  have HB := Lib.hid hb1
  have HW1 := Lib.hid hW1
  clear hk1 hb1 hW1
  have x1 := X1.out
  go_enter Tryd.func25, Tryd.ntmps25
  go_wp2_with fail
  rw [HW1.out]
  with_reducible refine (HBA.out W1).mono ?_
  rintro e w2 ⟨rfl, hb2⟩
  have HB2 := Lib.hid (below_then HB.out hb2)
  have HK2 := Lib.hid (HK.out.below hb2)
  clear hb2
  go_wp2_with fail
  with_reducible refine (HBE.out w2 HB2.out).mono ?_
  rintro e w3 ⟨rfl, hb3⟩
  have HB3 := Lib.hid (below_then HB2.out hb3)
  have HK3 := Lib.hid (HK2.out.below hb3)
  clear hb3
  by_cases hn : n = []
  · have HR : Hid (res = .error 60) := Lib.hid (by rw [HV0.out, if_pos hn])
    have hnl : (sn.toList == []) = true := by rw [HNL.out, hn]; rfl
    have hnl2 : sn.toList = [] := by simpa using hnl
    clear hn
    go_wp2_with fail
    obtain ⟨vk, vt, vz, vc, hv⟩ := rdV_form res
    have HV := Lib.hid hv
    clear hv
    have HCALL := none_calls w3
    rw [← HR.out, HV.out] at HCALL
    with_reducible refine HCALL.mono ?_
    rintro e w9 ⟨rfl, hb9⟩
    have hk9 := HK3.out.below hb9
    have HB9 := Lib.hid (below_then HB3.out hb9)
    have HK9 := Lib.hid hk9
    obtain ⟨z0, z1, z2⟩ := three_cells hk9
    have u0 := unfrozen_of_block hk9 0
    have u1 := unfrozen_of_block hk9 1
    have u2 := unfrozen_of_block hk9 2
    clear hk9 hb9 HCALL
    go_wp2_with fail
    obtain ⟨hkk, hbb⟩ := store_three (n := w.heap.size) (.int .i64 vk) (.int .i64 0) (.string vt) HK9.out (Nat.le_refl _)
    obtain ⟨g0, g1, g2⟩ := three_cells hkk
    exact bodyPost_ret (v := .tuple #[.agg #[.int .i64 vk, .int .i64 0, .string vt], .int .i64 vz, .int .i64 vc]) (by simp [results, Tryd.results25, go_sem, g0, g1, g2]) rfl ⟨by rw [HV.out], HB9.out.trans hbb⟩
  · have HR : Hid (rdV res = .tuple #[.agg #[.int .i64 9, .int .i64 0, .string sn], .int .i64 (Z : Int), .int .i64 0]) := Lib.hid (by rw [HV0.out, if_neg hn, ← HSN.out]; rfl)
    have hnl : (sn.toList == []) = false := by
      rw [HNL.out]
      cases n with
      | nil => exact absurd rfl hn
      | cons x y => rfl
    have hnl2 : ¬ sn.toList = [] := by simpa using hnl
    clear hn
    obtain ⟨z0, z1, z2⟩ := three_cells HK3.out
    have u0 := unfrozen_of_block HK3.out 0
    have u1 := unfrozen_of_block HK3.out 1
    have u2 := unfrozen_of_block HK3.out 2
    go_wp2_with fail
    obtain ⟨hkk, hbb⟩ := store_three (n := w.heap.size) (.int .i64 9) (.int .i64 0) (.string sn) HK3.out (Nat.le_refl _)
    obtain ⟨g0, g1, g2⟩ := three_cells hkk
    exact bodyPost_ret (v := .tuple #[.agg #[.int .i64 9, .int .i64 0, .string sn], .int .i64 (Z : Int), .int .i64 0]) (by simp [results, Tryd.results25, go_sem, g0, g1, g2]) rfl ⟨by rw [HR.out], HB3.out.trans hbb⟩
set_option maxRecDepth 100000 in
set_option maxHeartbeats 4000000 in
theorem quoted_calls (c : UInt8) (t : List UInt8) (w : World) (ht : t.length ≤ 1073741823) (hM : MaxLen w) : Calls Tryd.prog 24 #[.string (strB (c :: t))] w (Leaves (rdV (quotedQ c t)) w) := by
  obtain ⟨m, hm⟩ := hM
  have hs1 := strB_size (c :: t)
  rw [List.length_cons] at hs1
  have x1 : (strB (c :: t)).extract 1 (strB (c :: t)).size = strB t := drop_strB (c :: t) 1
  have x2 : (strB (c :: t)).extract 0 1 = ⟨#[c]⟩ := take_strB (c :: t) 1
  have hcut := cut_upto c t
  obtain ⟨rest, hrest⟩ : ∃ x, (Lib.cut t [c]).2.1 = x := ⟨_, rfl⟩
  rw [hrest] at hcut
  have hil : ∀ i, upTo c t = some i → i.length ≤ t.length := fun i h => by
    obtain ⟨u, h1, _⟩ := upTo_form h
    rw [h1, List.length_append]
    omega
  have hq0 : quotedQ c t = match upTo c t with | none => .error 60 | some i => .ok (7, i, 1 + i.length + 1) := rfl
  obtain ⟨res, hres⟩ : ∃ q, quotedQ c t = q := ⟨_, rfl⟩
  rw [hres] at hq0 ⊢
  have HCUT : ∀ W : World, Below w.heap.size w W → Calls Tryd.prog 39 #[.string (strB t), .string ⟨#[c]⟩] W fun e w' => e = .returned (.tuple #[.string (strB ((upTo c t).getD t)), .string (strB rest), .bool (upTo c t).isSome]) ∧ ∃ n, w' = W.drewN n := fun W hb => by
    have h := Tryd.strings_Cut (strB t) ⟨#[c]⟩ m W (by rw [strB_size]; omega) (cell_below hb hm)
    have h2 : Lib.cut (strB t).data.toList (⟨#[c]⟩ : ByteArray).data.toList = ((upTo c t).getD t, rest, (upTo c t).isSome) := hcut
    rw [h2] at h
    exact h
  have HC0 := Lib.hid HCUT
  obtain ⟨s, hs⟩ : ∃ s, strB (c :: t) = s := ⟨_, rfl⟩
  obtain ⟨st, hst⟩ : ∃ s, strB t = s := ⟨_, rfl⟩
  obtain ⟨sc, hsc⟩ : ∃ s : ByteArray, (⟨#[c]⟩ : ByteArray) = s := ⟨_, rfl⟩
  obtain ⟨srest, hsrest⟩ : ∃ s, strB rest = s := ⟨_, rfl⟩
  rw [hs] at hs1 x1 x2 ⊢
  rw [hst] at x1 HC0
  rw [hsc] at x2 HC0
  rw [hsrest] at HC0
  have h1s : (1 : Int) ≤ (s.size : Int) := by omega
  have HQ0 := Lib.hid hq0
  have HIL := Lib.hid hil
  have HT := Lib.hid ht
  have X1 := Lib.hid x1
  have X2 := Lib.hid x2
  clear hs1 x1 x2 hcut hrest hil hq0 hres HCUT hs hst hsc hsrest hm ht
  obtain ⟨W1, hW1⟩ : ∃ W1, w.alloc (.cells #[.int .i64 0, .int .i64 0, .string ⟨#[]⟩] 31) = W1 := ⟨_, rfl⟩
  have hk1 : ResAt w.heap.size W1 := by rw [← hW1]; exact heap_alloc_new _ _
  have hb1 : Below w.heap.size w W1 := by rw [← hW1]; exact (Below.refl _ _).alloc (Nat.le_refl _) _
  have HK := Lib.hid hk1
  have HB := Lib.hid hb1
  have HW1 := Lib.hid hW1
  clear hk1 hb1 hW1
  have HCC : Hid (∀ k, Calls Tryd.prog 39 #[.string st, .string sc] (W1.drewN k) (Tells (.tuple #[.string (strB ((upTo c t).getD t)), .string srest, .bool (upTo c t).isSome]) (W1.drewN k))) := Lib.hid (fun k => HC0.out _ (below_drewNv HB.out k))
  cases hu : upTo c t with
  | none =>
    rw [hu] at HCC HQ0
    have HR : Hid (res = .error 60) := Lib.hid HQ0.out
    dsimp only [Option.getD, Option.isSome] at HCC
    obtain ⟨stt, hstt⟩ : ∃ s, strB t = s := ⟨_, rfl⟩
    rw [hstt] at HCC
    have x1 := X1.out
    have x2 := X2.out
    clear hu HC0 hstt
    go_enter Tryd.func24, Tryd.ntmps24
    go_wp2_with fail
    rw [HW1.out]
    go_quiet ((exact Calls.quiet_of (HCC.out _)))
    have hk2 : ResAt w.heap.size (W1.drewN nq) := HK.out
    have hb2 : Below w.heap.size w (W1.drewN nq) := below_drewNv HB.out nq
    obtain ⟨w2, hw2⟩ : ∃ w2, W1.drewN nq = w2 := ⟨_, rfl⟩
    rw [hw2] at hk2 hb2 ⊢
    have HK2 := Lib.hid hk2
    have HB2 := Lib.hid hb2
    clear hk2 hb2 hw2
    go_wp2_with fail
    obtain ⟨vk, vt, vz, vc, hv⟩ := rdV_form res
    have HV := Lib.hid hv
    clear hv
    have HCALL := none_calls w2
    rw [← HR.out, HV.out] at HCALL
    with_reducible refine HCALL.mono ?_
    rintro e w9 ⟨rfl, hb9⟩
    have hk9 := HK2.out.below hb9
    have HB9 := Lib.hid (below_then HB2.out hb9)
    have HK9 := Lib.hid hk9
    obtain ⟨z0, z1, z2⟩ := three_cells hk9
    have u0 := unfrozen_of_block hk9 0
    have u1 := unfrozen_of_block hk9 1
    have u2 := unfrozen_of_block hk9 2
    clear hk9 hb9 HCALL
    go_wp2_with fail
    obtain ⟨hkk, hbb⟩ := store_three (n := w.heap.size) (.int .i64 vk) (.int .i64 0) (.string vt) HK9.out (Nat.le_refl _)
    obtain ⟨g0, g1, g2⟩ := three_cells hkk
    exact bodyPost_ret (v := .tuple #[.agg #[.int .i64 vk, .int .i64 0, .string vt], .int .i64 vz, .int .i64 vc]) (by simp [results, Tryd.results24, go_sem, g0, g1, g2]) rfl ⟨by rw [HV.out], HB9.out.trans hbb⟩
  | some i =>
    rw [hu] at HCC HQ0
    have hil := HIL.out i hu
    have HR0 : Hid (res = .ok (7, i, 1 + i.length + 1)) := Lib.hid HQ0.out
    dsimp only [Option.getD, Option.isSome] at HCC
    have hsi := strB_size i
    obtain ⟨Z, hZ⟩ : ∃ Z, 1 + i.length + 1 = Z := ⟨_, rfl⟩
    obtain ⟨Y, hY⟩ : ∃ Y, 1 + i.length = Y := ⟨_, rfl⟩
    have HR : Hid (rdV res = .tuple #[.agg #[.int .i64 7, .int .i64 0, .string (strB i)], .int .i64 (Z : Int), .int .i64 0]) := Lib.hid (by rw [HR0.out, ← hZ]; rfl)
    obtain ⟨stt, hstt⟩ : ∃ s, strB i = s := ⟨_, rfl⟩
    rw [hstt] at HCC hsi HR
    have htl := HT.out
    have hw1 : IntKind.i64.wrap (1 + (stt.size : Int)) = (Y : Int) := by rw [IntWalk.i64_in _ (by omega)]; omega
    have hw2 : IntKind.i64.wrap ((Y : Int) + 1) = (Z : Int) := by rw [IntWalk.i64_in _ (by omega)]; omega
    have x1 := X1.out
    have x2 := X2.out
    clear hu HC0 hstt hil hsi hZ hY HR0 HQ0 HIL htl HT
    go_enter Tryd.func24, Tryd.ntmps24
    go_wp2_with fail
    rw [HW1.out]
    go_quiet ((exact Calls.quiet_of (HCC.out _)))
    have hk2 : ResAt w.heap.size (W1.drewN nq) := HK.out
    have hb2 : Below w.heap.size w (W1.drewN nq) := below_drewNv HB.out nq
    obtain ⟨w2, hw2⟩ : ∃ w2, W1.drewN nq = w2 := ⟨_, rfl⟩
    rw [hw2] at hk2 hb2 ⊢
    have HK2 := Lib.hid hk2
    have HB2 := Lib.hid hb2
    clear hk2 hb2 hw2
    obtain ⟨z0, z1, z2⟩ := three_cells HK2.out
    have u0 := unfrozen_of_block HK2.out 0
    have u1 := unfrozen_of_block HK2.out 1
    have u2 := unfrozen_of_block HK2.out 2
    go_wp2_with fail
    obtain ⟨hkk, hbb⟩ := store_three (n := w.heap.size) (.int .i64 7) (.int .i64 0) (.string stt) HK2.out (Nat.le_refl _)
    obtain ⟨g0, g1, g2⟩ := three_cells hkk
    exact bodyPost_ret (v := .tuple #[.agg #[.int .i64 7, .int .i64 0, .string stt], .int .i64 (Z : Int), .int .i64 0]) (by simp [results, Tryd.results24, go_sem, g0, g1, g2]) rfl ⟨by rw [HR.out], HB2.out.trans hbb⟩
end Go.Proofs.YtkpgbcackphdbaaDoor
