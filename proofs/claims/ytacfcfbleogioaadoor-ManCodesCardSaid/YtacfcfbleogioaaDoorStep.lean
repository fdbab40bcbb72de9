/-
  The program's step, its sum that goes on, and its sum; the reference's sum, bit by bit. Condition: the slice leads to bytes.
-/
import Derived.Test.YtacfcfbleogioaaDoorCBase
namespace Go.Proofs.YtacfcfbleogioaaDoor
open Go.RowKit Go.Lib

set_option maxRecDepth 100000 in
set_option maxHeartbeats 1000000 in
theorem step_calls (x : BitVec 32) (w : World) : Calls Tryd.prog 67 #[.int .u32 (uv x)] w (Stays (.int .u32 (uv (hbs 8 x))) w) := by
  obtain ⟨q, hq⟩ : ∃ q, hbs 8 x = q := ⟨_, rfl⟩
  rw [hq]
  have HQ := Lib.hid hq
  clear hq
  obtain ⟨X, hX⟩ : ∃ X, uv x = X := ⟨_, rfl⟩
  rw [hX]
  have HX := Lib.hid hX
  clear hX
  go_enter Tryd.func67, Tryd.ntmps67
  go_wp2
  go_loopg [0, 4] 8 (fun g v u wr => ∃ (i : Nat) (y : BitVec 32), v = .int .u32 (uv y) ∧ u = .int .i64 i ∧ g + i = 8 ∧ hbs g y = q ∧ wr = w)
  case atStart => exact ⟨0, x, by rw [HX.out], rfl, rfl, HQ.out, rfl⟩
  case round =>
    obtain ⟨i, y, rfl, rfl, hg, hy, rfl⟩ := hrel
    have HG := Lib.hid hg
    have HY := Lib.hid hy
    clear hg hy HQ HX
    by_cases hi : i < 8
    · obtain ⟨g', rfl⟩ : ∃ g', gk = g' + 1 := ⟨gk - 1, by have := HG.out; omega⟩
      have hd : decide ((i : Int) < 8) = true := by simp; omega
      have ho := uv_odd y
      have h2 := Lib.hid (uv_quo y)
      have hp := uv_xor (y >>> 1) poly
      rw [show uv poly = 3988292384 by decide] at hp
      have HP := Lib.hid hp
      have HN : Hid (hbs g' (hb y) = q) := HY
      have hY0 := uv_lo y
      obtain ⟨Y, hY⟩ : ∃ Y, uv y = Y := ⟨_, rfl⟩
      rw [hY] at ho h2 hY0 ⊢
      clear hY HY hp
      cases hb0 : y.getLsbD 0 with
      | true =>
        rw [hb0, if_pos rfl] at ho
        have hn : Hid (hb y = (y >>> 1) ^^^ poly) := Lib.hid (by unfold hb; rw [hb0, if_pos rfl])
        clear hb0
        go_wp2
        go_roundg g'
        case measure => omega
        case rel => exact ⟨i + 1, hb y, by rw [h2.out, HP.out, hn.out], by go_num, by have := HG.out; omega, HN.out, rfl⟩
      | false =>
        rw [hb0, if_neg (by decide)] at ho
        have hn : Hid (hb y = y >>> 1) := Lib.hid (by unfold hb; rw [hb0, if_neg (by decide), BitVec.xor_zero])
        clear hb0
        go_wp2
        go_roundg g'
        case measure => omega
        case rel => exact ⟨i + 1, hb y, by rw [h2.out, hn.out], by go_num, by have := HG.out; omega, HN.out, rfl⟩
    · have hd : decide ((i : Int) < 8) = false := by simp; omega
      have hq : Hid (y = q) := Lib.hid (by
        have h0 := HG.out
        have h1 := HY.out
        rw [show gk = 0 by omega] at h1
        exact h1)
      go_wp2
      go_ret
      exact ⟨by rw [hq.out]; rfl, rfl⟩

set_option maxRecDepth 100000 in
set_option maxHeartbeats 1000000 in
theorem on_calls (s : BitVec 32) (a : Option Addr) (l : List Nat) (n c : Nat) (w : World) {S : Nat → Prop} (hr : Row w S a l) (hn : l.length = n) (hm : n ≤ 1073741824) :
    Calls Tryd.prog 57 #[.int .u32 (uv s), .slice a n c] w (Stays (.int .u32 (uv (onB s l))) w) := by
  obtain ⟨q, hq⟩ : ∃ q, reg (ones ^^^ s) l = q := ⟨_, rfl⟩
  have HQ := Lib.hid hq
  have HROW := Lib.hid hr
  have HS := Lib.hid (uv_xor ones s)
  unfold onB
  rw [hq]
  clear hq hr
  obtain ⟨S, hS⟩ : ∃ S, uv s = S := ⟨_, rfl⟩
  rw [hS] at HS ⊢
  have HS0 := Lib.hid hS
  clear hS
  go_enter Tryd.func57, Tryd.ntmps57
  go_wp2
  go_loopg [5, 12] n (fun g v u wr => ∃ (i : Nat) (y : BitVec 32), v = .int .u32 (uv y) ∧ u = .int .i64 i ∧ g + i = n ∧ reg y (l.drop i) = q ∧ wr = w)
  case atStart => exact ⟨0, ones ^^^ s, by rw [← HS.out, uv_ones]; rfl, rfl, rfl, HQ.out, rfl⟩
  case round =>
    obtain ⟨i, y, rfl, rfl, hg, hy, rfl⟩ := hrel
    have HG := Lib.hid hg
    have HY := Lib.hid hy
    clear hg hy HQ HS HS0
    by_cases hi : i < n
    · obtain ⟨g', rfl⟩ : ∃ g', gk = g' + 1 := ⟨gk - 1, by have := HG.out; omega⟩
      have hd : decide ((i : Int) < (n : Int)) = true := by simp; omega
      have hl : l.drop i = l[i]'(by omega) :: l.drop (i + 1) := List.drop_eq_getElem_cons (by omega)
      have hq : l[i]? = some (l[i]'(by omega)) := List.getElem?_eq_getElem (by omega)
      have hlt : l[i]'(by omega) < 256 := HROW.out.1 _ (List.getElem_mem _)
      obtain ⟨d, hdd⟩ : ∃ d, l[i]'(by omega) = d := ⟨_, rfl⟩
      rw [hdd] at hl hq hlt
      obtain ⟨b, o, rfl, hc⟩ : ∃ b o, a = some ⟨b, o, none⟩ ∧ wr.cell? ⟨b, o + i, none⟩ = some (.int .u8 (d : Int)) := by
        rcases HROW.out.2 with h0 | ⟨b, o, ha, _, hcell⟩
        · rw [h0] at hq; simp at hq
        · exact ⟨b, o, ha, hcell i d hq⟩
      have HN : Hid (reg (stepB y d) (l.drop (i + 1)) = q) := Lib.hid (by have := HY.out; rw [hl] at this; exact this)
      have HL := Lib.hid (uv_low y)
      have HE := Lib.hid (uv_byte y)
      have HX := Lib.hid (uv_xor (y &&& 255#32) (BitVec.ofNat 32 d))
      have hdi := uv_nat hlt
      have HV := Lib.hid hdi
      have HZ := Lib.hid (uv_xor (y >>> 8) (hbs 8 ((y &&& 255#32) ^^^ BitVec.ofNat 32 d)))
      have HST := Lib.hid (step_is y d)
      have hy0 := uv_lo y
      have hd0 : (0 : Int) ≤ (d : Int) := by omega
      have hd1 : (d : Int) < 256 := by omega
      obtain ⟨D, hD⟩ : ∃ D : Int, (d : Int) = D := ⟨_, rfl⟩
      obtain ⟨Y, hY⟩ : ∃ Y, uv y = Y := ⟨_, rfl⟩
      rw [hD] at HV hc hd0 hd1
      rw [hY] at HL HE hy0 ⊢
      clear hl hq hlt hdd hdi hY hD HY
      go_wp2_with fail
      rw [HL.out, HV.out, HX.out]
      refine (step_calls _ wr).mono ?_
      rintro e w2 ⟨rfl, rfl⟩
      clear hc
      go_wp2
      go_roundg g'
      case measure => omega
      case rel => exact ⟨i + 1, stepB y d, by rw [HE.out, HZ.out, HST.out], by go_num, by have := HG.out; omega, HN.out, rfl⟩
    · have hd : decide ((i : Int) < (n : Int)) = false := by simp; omega
      have hq : Hid (y = q) := Lib.hid (by
        have h1 := HY.out
        rw [List.drop_eq_nil_of_le (by omega)] at h1
        exact h1)
      have HX := Lib.hid (uv_xor ones y)
      go_wp2
      go_ret
      exact ⟨by rw [← hq.out, ← HX.out, uv_ones]; rfl, rfl⟩

set_option maxRecDepth 100000 in
set_option maxHeartbeats 1000000 in
theorem sum_calls (a : Option Addr) (l : List Nat) (n c : Nat) (w : World) {S : Nat → Prop} (hr : Row w S a l) (hn : l.length = n) (hm : n ≤ 1073741824) :
    Calls Tryd.prog 58 #[.slice a n c] w (Stays (.int .u32 (uv (sumB l))) w) := by
  have hc := on_calls 0#32 a l n c w hr hn hm
  rw [show uv 0#32 = 0 by decide] at hc
  have HC := Lib.hid hc
  unfold sumB
  clear hr hc
  go_enter Tryd.func58, Tryd.ntmps58
  go_wp2_with fail
  refine HC.out.mono ?_
  rintro e w2 ⟨rfl, rfl⟩
  go_wp2
  go_ret
  exact ⟨rfl, rfl⟩

set_option maxRecDepth 100000 in
set_option maxHeartbeats 1000000 in
theorem ref_calls (a : Option Addr) (l : List Nat) (n c : Nat) (w : World) {S : Nat → Prop} (hr : Row w S a l) (hn : l.length = n) (hm : n ≤ 1073741824) :
    Calls Tryd.prog 45 #[.slice a n c] w (Stays (.int .u32 (uv (sumB l))) w) := by
  obtain ⟨q, hq⟩ : ∃ q, reg (ones ^^^ 0#32) l = q := ⟨_, rfl⟩
  have HROW := Lib.hid hr
  unfold sumB onB
  rw [hq]
  rw [show ones ^^^ 0#32 = ones by decide] at hq
  have HQ := Lib.hid hq
  clear hq hr
  go_enter Tryd.func45, Tryd.ntmps45
  go_wp2
  go_loopg [3, 4] n (fun g v u wr => ∃ (i : Nat) (y : BitVec 32), v = .int .u32 (uv y) ∧ u = .int .i64 i ∧ g + i = n ∧ reg y (l.drop i) = q ∧ wr = w)
  case atStart => exact ⟨0, ones, by rw [uv_ones], rfl, rfl, HQ.out, rfl⟩
  case round =>
    obtain ⟨i, y, rfl, rfl, hg, hy, rfl⟩ := hrel
    have HG := Lib.hid hg
    have HY := Lib.hid hy
    clear hg hy HQ
    by_cases hi : i < n
    · obtain ⟨g', rfl⟩ : ∃ g', gk = g' + 1 := ⟨gk - 1, by have := HG.out; omega⟩
      have hd : decide ((i : Int) < (n : Int)) = true := by simp; omega
      have hl : l.drop i = l[i]'(by omega) :: l.drop (i + 1) := List.drop_eq_getElem_cons (by omega)
      have hq : l[i]? = some (l[i]'(by omega)) := List.getElem?_eq_getElem (by omega)
      have hlt : l[i]'(by omega) < 256 := HROW.out.1 _ (List.getElem_mem _)
      obtain ⟨d, hdd⟩ : ∃ d, l[i]'(by omega) = d := ⟨_, rfl⟩
      rw [hdd] at hl hq hlt
      obtain ⟨b, o, rfl, hc⟩ : ∃ b o, a = some ⟨b, o, none⟩ ∧ wr.cell? ⟨b, o + i, none⟩ = some (.int .u8 (d : Int)) := by
        rcases HROW.out.2 with h0 | ⟨b, o, ha, _, hcell⟩
        · rw [h0] at hq; simp at hq
        · exact ⟨b, o, ha, hcell i d hq⟩
      obtain ⟨z, hz⟩ : ∃ z, stepB y d = z := ⟨_, rfl⟩
      have HN : Hid (reg z (l.drop (i + 1)) = q) := Lib.hid (by rw [← hz]; have := HY.out; rw [hl] at this; exact this)
      have HZ : Hid (hbs 8 (y ^^^ BitVec.ofNat 32 d) = z) := Lib.hid hz
      have HLT := Lib.hid hlt
      have HGONE := Lib.hid (byte_gone hlt)
      clear hl hq hlt hdd hz HY
      go_wp2
      go_loopg [3, 5] 8 (fun g v u wr2 => ∃ (k : Nat) (x : BitVec 32), v = .int .u32 (uv x) ∧ u = .int .i64 k ∧ g + k = 8 ∧ hbs g (x ^^^ (BitVec.ofNat 32 d >>> k)) = z ∧ wr2 = wr)
      case atStart => exact ⟨0, y, rfl, rfl, rfl, by rw [BitVec.ushiftRight_zero]; exact HZ.out, rfl⟩
      case round =>
        obtain ⟨k, x, rfl, rfl, hg2, hx, rfl⟩ := hrel
        have HG2 := Lib.hid hg2
        have HX := Lib.hid hx
        clear hg2 hx HZ
        by_cases hk : k < 8
        · obtain ⟨g2, rfl⟩ : ∃ g2, gk = g2 + 1 := ⟨gk - 1, by have := HG2.out; omega⟩
          have hd2 : decide ((k : Int) < 8) = true := by simp; omega
          have hx := HX.out
          rw [refBit_is, ← BitVec.shiftRight_add] at hx
          have ho := uv_odd x
          have h2 := Lib.hid (uv_quo x)
          have hp := uv_xor (x >>> 1) poly
          rw [show uv poly = 3988292384 by decide] at hp
          have HP := Lib.hid hp
          have hX0 := uv_lo x
          have hbit := byte_has HLT.out k
          obtain ⟨X, hXX⟩ : ∃ X, uv x = X := ⟨_, rfl⟩
          rw [hXX] at ho h2 hX0 ⊢
          unfold refBit at hx
          clear hXX hp HX
          cases hb1 : x.getLsbD 0 <;> cases hb2 : (BitVec.ofNat 32 d >>> k).getLsbD 0
          all_goals rw [hb1, hb2] at hx
          all_goals rw [hb2] at hbit
          all_goals rw [hb1] at ho
          all_goals simp only [bne_self_eq_false, Bool.false_eq_true, if_true, if_false, Bool.bne_true, Bool.bne_false, Bool.not_false] at hx hbit ho
          all_goals have HXX := Lib.hid hx
          all_goals clear hb1 hb2 hx
          · go_wp2
            go_roundg g2
            case measure => omega
            case rel => exact ⟨k + 1, x >>> 1, by rw [h2.out], by go_num, by have := HG2.out; omega, HXX.out, rfl⟩
          · go_wp2
            go_roundg g2
            case measure => omega
            case rel => exact ⟨k + 1, (x >>> 1) ^^^ poly, by rw [h2.out, HP.out], by go_num, by have := HG2.out; omega, HXX.out, rfl⟩
          · go_wp2
            go_roundg g2
            case measure => omega
            case rel => exact ⟨k + 1, (x >>> 1) ^^^ poly, by rw [h2.out, HP.out], by go_num, by have := HG2.out; omega, HXX.out, rfl⟩
          · go_wp2
            go_roundg g2
            case measure => omega
            case rel => exact ⟨k + 1, x >>> 1, by rw [h2.out], by go_num, by have := HG2.out; omega, HXX.out, rfl⟩
        · have hd2 : decide ((k : Int) < 8) = false := by simp; omega
          have hfin : Hid (x = z) := Lib.hid (by
            have h1 := HG2.out
            have h3 := HX.out
            rw [show gk = 0 by omega, show k = 8 by omega, HGONE.out, BitVec.xor_zero] at h3
            exact h3)
          go_wp2
          go_roundg g'
          case measure => omega
          case rel => exact ⟨i + 1, z, by rw [hfin.out], by go_num, by have := HG.out; omega, HN.out, rfl⟩
    · have hd : decide ((i : Int) < (n : Int)) = false := by simp; omega
      have hq : Hid (y = q) := Lib.hid (by
        have h1 := HY.out
        rw [List.drop_eq_nil_of_le (by omega)] at h1
        exact h1)
      have HX := Lib.hid (uv_xor y ones)
      go_wp2
      go_ret
      exact ⟨by rw [← hq.out, BitVec.xor_comm, ← HX.out, uv_ones]; rfl, rfl⟩

end Go.Proofs.YtacfcfbleogioaaDoor

