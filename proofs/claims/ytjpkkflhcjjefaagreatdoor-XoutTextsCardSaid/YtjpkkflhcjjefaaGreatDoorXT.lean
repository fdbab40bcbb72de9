/-
 strconv.ParseUint at base 10 and 16 and 31 bits, at every text: the number, or an error.
-/
import Derived.Test.YtjpkkflhcjjefaaGreatDoorXV
import Derived.Laws.Closers25
import Derived.Laws.Closers25b
import Derived.BigCall
import Derived.BigGuard
namespace Go.Proofs.YtjpkkflhcjjefaaGreatDoor
open Go.RowKit Go.Lib Go.Joins
set_option maxRecDepth 100000
set_option maxHeartbeats 32000000
theorem bits_or32 : ∀ n : Fin 256, bits .or .u8 (n.val : Int) 32 = ((n.val ||| 32 : Nat) : Int) := by decide
theorem dig_digit : ∀ n : Fin 256, 48 ≤ n.val → n.val ≤ 57 → digS (UInt8.ofNat n.val) = n.val - 48 := by decide
theorem dig_letter : ∀ n : Fin 256, ¬ (48 ≤ n.val ∧ n.val ≤ 57) → 97 ≤ n.val ||| 32 → n.val ||| 32 ≤ 122 → (n.val ||| 32 ≤ 102 ∧ digS (UInt8.ofNat n.val) = (n.val ||| 32) - 87) ∨ (102 < n.val ||| 32 ∧ digS (UInt8.ofNat n.val) = 99) := by decide
theorem dig_other : ∀ n : Fin 256, ¬ (48 ≤ n.val ∧ n.val ≤ 57) → ¬ (97 ≤ n.val ||| 32 ∧ n.val ||| 32 ≤ 122) → digS (UInt8.ofNat n.val) = 99 := by decide
theorem or32_lt : ∀ n : Fin 256, n.val ||| 32 < 256 := by decide
theorem digsS_ge (b : Nat) (hb : 1 ≤ b) : ∀ (ds : List UInt8) (v x : Nat), digsS b v ds = some x → v ≤ x
 | [], v, x, h => by cases h; exact Nat.le_refl _
 | c :: t, v, x, h => by
  unfold digsS at h
  by_cases hc : digS c < b
  ·rw [if_pos hc] at h
   have := digsS_ge b hb t _ _ h
   have : v * 1 ≤ v * b := Nat.mul_le_mul_left v hb
   omega
  ·rw [if_neg hc] at h; cases h
def belowS (q : Option Nat) : Option Nat := q.bind fun v => if v < 2147483648 then some v else none
def NumOut (q : Option Nat) (w : World) (e : Ending) (w' : World) : Prop :=
 (match q with
  | some v => e = .returned (.tuple #[.int .u64 (v : Int), .nilIface])
  | none => ∃ u k, e = .returned (.tuple #[.int .u64 u, .iface 255 (.int .i64 k)]) ∧ (k = 1 ∨ k = 2)) ∧ Below w.heap.size w w'
theorem NumOut.some {q : Option Nat} {w w' : World} {v : Nat} (h : belowS q = some v) (hb : Below w.heap.size w w') : NumOut (belowS q) w (.returned (.tuple #[.int .u64 (v : Int), .nilIface])) w' := by
 rw [h]; exact ⟨rfl, hb⟩
theorem NumOut.none {q : Option Nat} {w w' : World} (h : belowS q = Option.none) (u k : Int) (hk : k = 1 ∨ k = 2) (hb : Below w.heap.size w w') : NumOut (belowS q) w (.returned (.tuple #[.int .u64 u, .iface 255 (.int .i64 k)])) w' := by
 rw [h]; exact ⟨⟨u, k, rfl, hk⟩, hb⟩
theorem inner10_calls (t : ByteArray) (hne : t.size ≠ 0) (hmax : t.size ≤ 1073741824) (w : World) :
  Calls Tryz.prog 205 #[.string t, .int .i64 10, .int .i64 31] w (NumOut (belowS (digsS 10 0 t.data.toList)) w) := by
 have e157 : ∀ args w, (callFunc 211 args).run Tryz.prog w = .ok (.enter 211 args) w := enters_of Tryz.func211 (by kernel_rfl) rfl
 have hemp : t.toList.isEmpty = false := by
  rw [← decide_eq_emptyBytes]
  exact decide_eq_false (fun h => hne (by rw [h]; rfl))
 have hcv := Lib.run_convert_string_bytes (P := Tryz.prog) w 9 43 5 t Tryz.underlying9 Tryz.underlying43 Tryz.underlying5
 have hB : ∀ j, j < t.size → (Lib.bytesWorld w 5 t).cell? ⟨w.heap.size, j, none⟩ = some (.int .u8 (t.data.toList.getD j 0).toNat) := fun j hj => Lib.bytesWorld_cell w 5 t j hj
 have HBE := hid (bytesWorld_below w t)
 obtain ⟨W1, hW1⟩ : ∃ W1, W1 = Lib.bytesWorld w 5 t := ⟨_, rfl⟩
 rw [← hW1] at hcv hB HBE
 clear hW1
 obtain ⟨bs, hL⟩ : ∃ bs, bs = t.data.toList := ⟨_, rfl⟩
 have hLn : bs.length = t.size := by rw [hL, Lib.size_eq]
 rw [← hL] at hB ⊢
 clear hL
 have hmv : IntKind.u64.wrap (IntKind.u64.wrap 2147483648 - 1) = 2147483647 := by
  rw [IntKind.wrap_u64, IntKind.wrap_u64]
  decide
 obtain ⟨D, hD⟩ : ∃ D, digsS 10 0 bs = D := ⟨_, rfl⟩
 rw [hD]
 have HOK : Hid (∀ v : Nat, belowS D = some v → ∀ k, NumOut (belowS D) w (.returned (.tuple #[.int .u64 (v : Int), .nilIface])) (W1.drewN k)) := hid (fun v h k => NumOut.some h (below_drewNv HBE.out k))
 have HNO : Hid (belowS D = none → ∀ (u x : Int), (x = 1 ∨ x = 2) → ∀ k, NumOut (belowS D) w (.returned (.tuple #[.int .u64 u, .iface 255 (.int .i64 x)])) (W1.drewN k)) := hid (fun h u x hx k => NumOut.none h u x hx (below_drewNv HBE.out k))
 have HD := hid hD
 clear hD HBE
 go_enter Tryz.func205, Tryz.ntmps205
 go_wp2
 go_loop [12, 13, 101] (fun vu vn vi => ∃ (k acc : Nat) (a : Int), vu = .bool false ∧ vn = .int .u64 a ∧ vi = .int .i64 k ∧ k ≤ t.size ∧ Hid (a = (acc : Int) ∧ acc ≤ 2147483647 ∧ digsS 10 acc (bs.drop k) = D))
  (fun _ _ vi => t.size - (intOf vi).toNat)
 case atStart => exact ⟨0, 0, 0, rfl, rfl, rfl, by omega, rfl, by omega, HD.out⟩
 case round =>
  obtain ⟨k, acc, a, rfl, rfl, rfl, hk, hh⟩ := hrel
  obtain ⟨ha, hacc, hdec⟩ := hh.out
  clear hh
  have a0 : 0 ≤ a := by omega
  have a1 : a ≤ 2147483647 := by omega
  by_cases hkn : k < t.size
  ·have hc := hB k hkn
   have hdrop : bs.drop k = bs[k]'(by omega) :: bs.drop (k + 1) := List.drop_eq_getElem_cons (by omega)
   have hget : bs.getD k 0 = bs[k]'(by omega) := by simp [List.getD, List.getElem?_eq_getElem (show k < bs.length by omega)]
   rw [hdrop] at hdec
   rw [hget] at hc
   generalize bs[k]'(by omega) = c at hc hdec
   have hc256 : c.toNat < 256 := c.toNat_lt
   have hof : UInt8.ofNat c.toNat = c := UInt8.ofNat_toNat
   obtain ⟨m, hm⟩ : ∃ m, c.toNat = m := ⟨_, rfl⟩
   rw [hm] at hc hc256 hof
   clear hB hdrop hget
   rw [digsS] at hdec
   by_cases hdig : 48 ≤ m ∧ m ≤ 57
   ·obtain ⟨hd0, hd1⟩ := hdig
    have hdg := dig_digit ⟨m, hc256⟩ hd0 hd1
    dsimp only at hdg
    rw [hof] at hdg
    rw [hdg, if_pos (by omega)] at hdec
    by_cases hov : 2147483647 < acc * 10 + (m - 48)
    ·have hno := HNO.out (by
      rw [← hdec]
      cases hq : digsS 10 (acc * 10 + (m - 48)) (bs.drop (k + 1)) with
      | none => rfl
      | some x =>
       have := digsS_ge 10 (by decide) _ _ _ hq
       show (if x < 2147483648 then some x else none) = none
       rw [if_neg (by omega)])
     have HN := hid hno
     have iov : 2147483647 < a * 10 + ((m : Int) - 48) := by omega
     clear hacc hov ha hdec hno hdg hof hm
     go_wp2
     go_ret2
     exact HN.out _ _ (.inl rfl) 0
    ·have HN : Hid (a * 10 + ((m : Int) - 48) = ((acc * 10 + (m - 48) : Nat) : Int) ∧ acc * 10 + (m - 48) ≤ 2147483647 ∧ digsS 10 (acc * 10 + (m - 48)) (bs.drop (k + 1)) = D) := hid ⟨by omega, by omega, hdec⟩
     have iov : a * 10 + ((m : Int) - 48) ≤ 2147483647 := by omega
     clear hacc hov hdec ha hdg hof hm
     go_wp2
     refine ⟨⟨k + 1, acc * 10 + (m - 48), a * 10 + ((m : Int) - 48), rfl, (by first | rfl | (congr 1; omega)), (by first | rfl | (congr 1; omega)), by omega, HN⟩, by simp [intOf]; omega⟩
   ·have hbo := bits_or32 ⟨m, hc256⟩
    have hvl := or32_lt ⟨m, hc256⟩
    have hlt := dig_letter ⟨m, hc256⟩ hdig
    have hot := dig_other ⟨m, hc256⟩ hdig
    dsimp only at hbo hvl hlt hot
    rw [hof] at hlt hot
    obtain ⟨v, hv⟩ : ∃ v, m ||| 32 = v := ⟨_, rfl⟩
    rw [hv] at hbo hvl hlt hot
    have hdig' : ¬ (48 ≤ (m : Int) ∧ (m : Int) ≤ 57) := by omega
    by_cases hle : 97 ≤ v ∧ v ≤ 122
    ·obtain ⟨hl0, hl1⟩ := hle
     have h95n : ¬ m = 95 := by
      intro h
      rw [h] at hv
      have : (95 ||| 32 : Nat) = 127 := by decide
      omega
     have h95 : ((m : Int) == 95) = false := by simp; omega
     rcases hlt hl0 hl1 with ⟨h102, hdg⟩ | ⟨h102, hdg⟩
     ·rw [hdg, if_neg (by omega)] at hdec
      have HN := hid (HNO.out (by rw [← hdec]; rfl))
      clear hacc hdec ha hdg hof hm hlt hot hv
      go_wp2_with (go_at_fn 211; refine (Tryz.internal_strconv_lower _ _).mono ?_; rintro e w' ⟨rfl, rfl⟩; try rw [hbo])
      all_goals go_ret2
      all_goals exact HN.out _ _ (.inr rfl) 0
     ·rw [hdg, if_neg (by decide)] at hdec
      have HN := hid (HNO.out (by rw [← hdec]; rfl))
      clear hacc hdec ha hdg hof hm hlt hot hv
      go_wp2_with (go_at_fn 211; refine (Tryz.internal_strconv_lower _ _).mono ?_; rintro e w' ⟨rfl, rfl⟩; try rw [hbo])
      all_goals go_ret2
      all_goals exact HN.out _ _ (.inr rfl) 0
    ·have hdg := hot hle
     rw [hdg, if_neg (by decide)] at hdec
     have HN := hid (HNO.out (by rw [← hdec]; rfl))
     have hle' : ¬ (97 ≤ (v : Int) ∧ (v : Int) ≤ 122) := by omega
     clear hacc hdec ha hdg hof hm hlt hot hv
     go_wp2_with (go_at_fn 211; refine (Tryz.internal_strconv_lower _ _).mono ?_; rintro e w' ⟨rfl, rfl⟩; try rw [hbo])
     all_goals go_ret2
     all_goals exact HN.out _ _ (.inr rfl) 0
  ·have hkk : k = t.size := by omega
   subst hkk
   rw [List.drop_eq_nil_of_le (by omega)] at hdec
   have HN := hid (HOK.out acc (by
    rw [← hdec]
    show (if acc < 2147483648 then some acc else none) = some acc
    rw [if_pos (by omega)]))
   subst ha
   clear hacc hdec a0 a1
   go_wp2
   go_ret2
   exact HN.out 0
theorem inner16_calls (t : ByteArray) (hne : t.size ≠ 0) (hmax : t.size ≤ 1073741824) (w : World) :
  Calls Tryz.prog 205 #[.string t, .int .i64 16, .int .i64 31] w (NumOut (belowS (digsS 16 0 t.data.toList)) w) := by
 have e157 : ∀ args w, (callFunc 211 args).run Tryz.prog w = .ok (.enter 211 args) w := enters_of Tryz.func211 (by kernel_rfl) rfl
 have hemp : t.toList.isEmpty = false := by
  rw [← decide_eq_emptyBytes]
  exact decide_eq_false (fun h => hne (by rw [h]; rfl))
 have hcv := Lib.run_convert_string_bytes (P := Tryz.prog) w 9 43 5 t Tryz.underlying9 Tryz.underlying43 Tryz.underlying5
 have hB : ∀ j, j < t.size → (Lib.bytesWorld w 5 t).cell? ⟨w.heap.size, j, none⟩ = some (.int .u8 (t.data.toList.getD j 0).toNat) := fun j hj => Lib.bytesWorld_cell w 5 t j hj
 have HBE := hid (bytesWorld_below w t)
 obtain ⟨W1, hW1⟩ : ∃ W1, W1 = Lib.bytesWorld w 5 t := ⟨_, rfl⟩
 rw [← hW1] at hcv hB HBE
 clear hW1
 obtain ⟨bs, hL⟩ : ∃ bs, bs = t.data.toList := ⟨_, rfl⟩
 have hLn : bs.length = t.size := by rw [hL, Lib.size_eq]
 rw [← hL] at hB ⊢
 clear hL
 have hmv : IntKind.u64.wrap (IntKind.u64.wrap 2147483648 - 1) = 2147483647 := by
  rw [IntKind.wrap_u64, IntKind.wrap_u64]
  decide
 obtain ⟨D, hD⟩ : ∃ D, digsS 16 0 bs = D := ⟨_, rfl⟩
 rw [hD]
 have HOK : Hid (∀ v : Nat, belowS D = some v → ∀ k, NumOut (belowS D) w (.returned (.tuple #[.int .u64 (v : Int), .nilIface])) (W1.drewN k)) := hid (fun v h k => NumOut.some h (below_drewNv HBE.out k))
 have HNO : Hid (belowS D = none → ∀ (u x : Int), (x = 1 ∨ x = 2) → ∀ k, NumOut (belowS D) w (.returned (.tuple #[.int .u64 u, .iface 255 (.int .i64 x)])) (W1.drewN k)) := hid (fun h u x hx k => NumOut.none h u x hx (below_drewNv HBE.out k))
 have HD := hid hD
 clear hD HBE
 go_enter Tryz.func205, Tryz.ntmps205
 go_wp2
 go_loop [12, 13, 101] (fun vu vn vi => ∃ (k acc : Nat) (a : Int), vu = .bool false ∧ vn = .int .u64 a ∧ vi = .int .i64 k ∧ k ≤ t.size ∧ Hid (a = (acc : Int) ∧ acc ≤ 2147483647 ∧ digsS 16 acc (bs.drop k) = D))
  (fun _ _ vi => t.size - (intOf vi).toNat)
 case atStart => exact ⟨0, 0, 0, rfl, rfl, rfl, by omega, rfl, by omega, HD.out⟩
 case round =>
  obtain ⟨k, acc, a, rfl, rfl, rfl, hk, hh⟩ := hrel
  obtain ⟨ha, hacc, hdec⟩ := hh.out
  clear hh
  have a0 : 0 ≤ a := by omega
  have a1 : a ≤ 2147483647 := by omega
  by_cases hkn : k < t.size
  ·have hc := hB k hkn
   have hdrop : bs.drop k = bs[k]'(by omega) :: bs.drop (k + 1) := List.drop_eq_getElem_cons (by omega)
   have hget : bs.getD k 0 = bs[k]'(by omega) := by simp [List.getD, List.getElem?_eq_getElem (show k < bs.length by omega)]
   rw [hdrop] at hdec
   rw [hget] at hc
   generalize bs[k]'(by omega) = c at hc hdec
   have hc256 : c.toNat < 256 := c.toNat_lt
   have hof : UInt8.ofNat c.toNat = c := UInt8.ofNat_toNat
   obtain ⟨m, hm⟩ : ∃ m, c.toNat = m := ⟨_, rfl⟩
   rw [hm] at hc hc256 hof
   clear hB hdrop hget
   rw [digsS] at hdec
   by_cases hdig : 48 ≤ m ∧ m ≤ 57
   ·obtain ⟨hd0, hd1⟩ := hdig
    have hdg := dig_digit ⟨m, hc256⟩ hd0 hd1
    dsimp only at hdg
    rw [hof] at hdg
    rw [hdg, if_pos (by omega)] at hdec
    by_cases hov : 2147483647 < acc * 16 + (m - 48)
    ·have hno := HNO.out (by
      rw [← hdec]
      cases hq : digsS 16 (acc * 16 + (m - 48)) (bs.drop (k + 1)) with
      | none => rfl
      | some x =>
       have := digsS_ge 16 (by decide) _ _ _ hq
       show (if x < 2147483648 then some x else none) = none
       rw [if_neg (by omega)])
     have HN := hid hno
     have iov : 2147483647 < a * 16 + ((m : Int) - 48) := by omega
     clear hacc hov ha hdec hno hdg hof hm
     go_wp2
     go_ret2
     exact HN.out _ _ (.inl rfl) 0
    ·have HN : Hid (a * 16 + ((m : Int) - 48) = ((acc * 16 + (m - 48) : Nat) : Int) ∧ acc * 16 + (m - 48) ≤ 2147483647 ∧ digsS 16 (acc * 16 + (m - 48)) (bs.drop (k + 1)) = D) := hid ⟨by omega, by omega, hdec⟩
     have iov : a * 16 + ((m : Int) - 48) ≤ 2147483647 := by omega
     clear hacc hov hdec ha hdg hof hm
     go_wp2
     refine ⟨⟨k + 1, acc * 16 + (m - 48), a * 16 + ((m : Int) - 48), rfl, (by first | rfl | (congr 1; omega)), (by first | rfl | (congr 1; omega)), by omega, HN⟩, by simp [intOf]; omega⟩
   ·have hbo := bits_or32 ⟨m, hc256⟩
    have hvl := or32_lt ⟨m, hc256⟩
    have hlt := dig_letter ⟨m, hc256⟩ hdig
    have hot := dig_other ⟨m, hc256⟩ hdig
    dsimp only at hbo hvl hlt hot
    rw [hof] at hlt hot
    obtain ⟨v, hv⟩ : ∃ v, m ||| 32 = v := ⟨_, rfl⟩
    rw [hv] at hbo hvl hlt hot
    have hdig' : ¬ (48 ≤ (m : Int) ∧ (m : Int) ≤ 57) := by omega
    by_cases hle : 97 ≤ v ∧ v ≤ 122
    ·obtain ⟨hl0, hl1⟩ := hle
     have h95n : ¬ m = 95 := by
      intro h
      rw [h] at hv
      have : (95 ||| 32 : Nat) = 127 := by decide
      omega
     have h95 : ((m : Int) == 95) = false := by simp; omega
     rcases hlt hl0 hl1 with ⟨h102, hdg⟩ | ⟨h102, hdg⟩
     ·rw [hdg, if_pos (by omega)] at hdec
      by_cases hov : 2147483647 < acc * 16 + (v - 87)
      ·have hno := HNO.out (by
        rw [← hdec]
        cases hq : digsS 16 (acc * 16 + (v - 87)) (bs.drop (k + 1)) with
        | none => rfl
        | some x =>
         have := digsS_ge 16 (by decide) _ _ _ hq
         show (if x < 2147483648 then some x else none) = none
         rw [if_neg (by omega)])
       have HN := hid hno
       have iov : 2147483647 < a * 16 + ((v : Int) - 97 + 10) := by omega
       clear hacc hov ha hdec hno hdg hof hm hlt hot hv
       go_wp2_with (go_at_fn 211; refine (Tryz.internal_strconv_lower _ _).mono ?_; rintro e w' ⟨rfl, rfl⟩; try rw [hbo])
       all_goals go_ret2
       all_goals exact HN.out _ _ (.inl rfl) 0
      ·have HN : Hid (a * 16 + ((v : Int) - 97 + 10) = ((acc * 16 + (v - 87) : Nat) : Int) ∧ acc * 16 + (v - 87) ≤ 2147483647 ∧ digsS 16 (acc * 16 + (v - 87)) (bs.drop (k + 1)) = D) := hid ⟨by omega, by omega, hdec⟩
       have iov : a * 16 + ((v : Int) - 97 + 10) ≤ 2147483647 := by omega
       clear hacc hov hdec ha hdg hof hm hlt hot hv
       go_wp2_with (go_at_fn 211; refine (Tryz.internal_strconv_lower _ _).mono ?_; rintro e w' ⟨rfl, rfl⟩; try rw [hbo])
       all_goals refine ⟨⟨k + 1, acc * 16 + (v - 87), a * 16 + ((v : Int) - 97 + 10), rfl, (by first | rfl | (congr 1; omega)), (by first | rfl | (congr 1; omega)), by omega, HN⟩, by simp [intOf]; omega⟩
     ·rw [hdg, if_neg (by decide)] at hdec
      have HN := hid (HNO.out (by rw [← hdec]; rfl))
      clear hacc hdec ha hdg hof hm hlt hot hv
      go_wp2_with (go_at_fn 211; refine (Tryz.internal_strconv_lower _ _).mono ?_; rintro e w' ⟨rfl, rfl⟩; try rw [hbo])
      all_goals go_ret2
      all_goals exact HN.out _ _ (.inr rfl) 0
    ·have hdg := hot hle
     rw [hdg, if_neg (by decide)] at hdec
     have HN := hid (HNO.out (by rw [← hdec]; rfl))
     have hle' : ¬ (97 ≤ (v : Int) ∧ (v : Int) ≤ 122) := by omega
     clear hacc hdec ha hdg hof hm hlt hot hv
     go_wp2_with (go_at_fn 211; refine (Tryz.internal_strconv_lower _ _).mono ?_; rintro e w' ⟨rfl, rfl⟩; try rw [hbo])
     all_goals go_ret2
     all_goals exact HN.out _ _ (.inr rfl) 0
  ·have hkk : k = t.size := by omega
   subst hkk
   rw [List.drop_eq_nil_of_le (by omega)] at hdec
   have HN := hid (HOK.out acc (by
    rw [← hdec]
    show (if acc < 2147483648 then some acc else none) = some acc
    rw [if_pos (by omega)]))
   subst ha
   clear hacc hdec a0 a1
   go_wp2
   go_ret2
   exact HN.out 0
end Go.Proofs.YtjpkkflhcjjefaaGreatDoor
