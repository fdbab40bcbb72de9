/-
  The reference's sum: bit by bit. Condition: the slice leads to bytes.
-/
import Derived.Test.YtmjadapdajbmmaaStep
namespace Go.Proofs.Ytmjadapdajbmmaa
open Go.RowKit Go.Lib

set_option maxRecDepth 100000 in
set_option maxHeartbeats 1000000 in
theorem ref_calls (a : Option Addr) (l : List Nat) (n c : Nat) (w : World) (hr : Row w a l) (hn : l.length = n) (hm : n ≤ 1073741824) :
    Calls Try.prog 8 #[.slice a n c] w (Leaves (.int .u32 (uv (sumB l))) w) := by
  obtain ⟨q, hq⟩ : ∃ q, reg (ones ^^^ 0#32) l = q := ⟨_, rfl⟩
  have HROW := Lib.hid hr
  unfold sumB onB
  rw [hq]
  rw [show ones ^^^ 0#32 = ones by decide] at hq
  have HQ := Lib.hid hq
  clear hq hr
  go_enter Try.func8, Try.ntmps8
  go_wp2
  go_loopg [3, 4] n (fun g v u wr => ∃ (i : Nat) (y : BitVec 32), v = .int .u32 (uv y) ∧ u = .int .i64 i ∧ g + i = n ∧ reg y (l.drop i) = q ∧ Below w.heap.size w wr)
  case atStart => exact ⟨0, ones, by rw [uv_ones], rfl, rfl, HQ.out, Below.refl _ _⟩
  case round =>
    obtain ⟨i, y, rfl, rfl, hg, hy, hb⟩ := hrel
    have HG := Lib.hid hg
    have HY := Lib.hid hy
    have HB := Lib.hid hb
    clear hg hy hb HQ
    by_cases hi : i < n
    · obtain ⟨g', rfl⟩ : ∃ g', gk = g' + 1 := ⟨gk - 1, by have := HG.out; omega⟩
      have hd : decide ((i : Int) < (n : Int)) = true := by simp; omega
      have hl : l.drop i = l[i]'(by omega) :: l.drop (i + 1) := List.drop_eq_getElem_cons (by omega)
      have hq : l[i]? = some (l[i]'(by omega)) := List.getElem?_eq_getElem (by omega)
      have hlt : l[i]'(by omega) < 256 := HROW.out.1 _ (List.getElem_mem _)
      obtain ⟨d, hdd⟩ : ∃ d, l[i]'(by omega) = d := ⟨_, rfl⟩
      rw [hdd] at hl hq hlt
      obtain ⟨b, o, rfl, hc⟩ : ∃ b o, a = some ⟨b, o, none⟩ ∧ wr.cell? ⟨b, o + i, none⟩ = some (.int .u8 (d : Int)) := by
        rcases (HROW.out.below HB.out).2 with h0 | ⟨b, o, ha, hcell⟩
        · rw [h0] at hq; simp at hq
        · exact ⟨b, o, ha, hcell i d hq⟩
      obtain ⟨z, hz⟩ : ∃ z, stepB y d = z := ⟨_, rfl⟩
      have HN : Hid (reg z (l.drop (i + 1)) = q) := Lib.hid (by rw [← hz]; have := HY.out; rw [hl] at this; exact this)
      have HZ : Hid (hbs 8 (y ^^^ BitVec.ofNat 32 d) = z) := Lib.hid hz
      have HLT := Lib.hid hlt
      have HGONE := Lib.hid (byte_gone hlt)
      clear hl hq hlt hdd hz HY
      go_wp2
      go_loopg [3, 5] 8 (fun g v u wr2 => ∃ (k : Nat) (x : BitVec 32), v = .int .u32 (uv x) ∧ u = .int .i64 k ∧ g + k = 8 ∧ hbs g (x ^^^ (BitVec.ofNat 32 d >>> k)) = z ∧ wr2 = wr)
      case atStart => exact ⟨0, y, rfl, rfl, rfl, by rw [BitVec.ushiftRight_zero]; exact HZ.out, rfl⟩
      case round =>
        obtain ⟨k, x, rfl, rfl, hg2, hx, rfl⟩ := hrel
        have HG2 := Lib.hid hg2
        have HX := Lib.hid hx
        clear hg2 hx HZ
        by_cases hk : k < 8
        · obtain ⟨g2, rfl⟩ : ∃ g2, gk = g2 + 1 := ⟨gk - 1, by have := HG2.out; omega⟩
          have hd2 : decide ((k : Int) < 8) = true := by simp; omega
          have hx := HX.out
          rw [refBit_is, ← BitVec.shiftRight_add] at hx
          have ho := uv_odd x
          have h2 := Lib.hid (uv_quo x)
          have hp := uv_xor (x >>> 1) poly
          rw [show uv poly = 3988292384 by decide] at hp
          have HP := Lib.hid hp
          have hX0 := uv_lo x
          have hbit := byte_has HLT.out k
          obtain ⟨X, hXX⟩ : ∃ X, uv x = X := ⟨_, rfl⟩
          rw [hXX] at ho h2 hX0 ⊢
          unfold refBit at hx
          clear hXX hp HX
          cases hb1 : x.getLsbD 0 <;> cases hb2 : (BitVec.ofNat 32 d >>> k).getLsbD 0
          all_goals rw [hb1, hb2] at hx
          all_goals rw [hb2] at hbit
          all_goals rw [hb1] at ho
          all_goals simp only [bne_self_eq_false, Bool.false_eq_true, if_true, if_false, Bool.bne_true, Bool.bne_false, Bool.not_false] at hx hbit ho
          all_goals have HXX := Lib.hid hx
          all_goals clear hb1 hb2 hx
          · go_wp2
            go_roundg g2
            case measure => omega
            case rel => exact ⟨k + 1, x >>> 1, by rw [h2.out], by go_num, by have := HG2.out; omega, HXX.out, rfl⟩
          · go_wp2
            go_roundg g2
            case measure => omega
            case rel => exact ⟨k + 1, (x >>> 1) ^^^ poly, by rw [h2.out, HP.out], by go_num, by have := HG2.out; omega, HXX.out, rfl⟩
          · go_wp2
            go_roundg g2
            case measure => omega
            case rel => exact ⟨k + 1, (x >>> 1) ^^^ poly, by rw [h2.out, HP.out], by go_num, by have := HG2.out; omega, HXX.out, rfl⟩
          · go_wp2
            go_roundg g2
            case measure => omega
            case rel => exact ⟨k + 1, x >>> 1, by rw [h2.out], by go_num, by have := HG2.out; omega, HXX.out, rfl⟩
        · have hd2 : decide ((k : Int) < 8) = false := by simp; omega
          have hfin : Hid (x = z) := Lib.hid (by
            have h1 := HG2.out
            have h3 := HX.out
            rw [show gk = 0 by omega, show k = 8 by omega, HGONE.out, BitVec.xor_zero] at h3
            exact h3)
          go_wp2
          go_roundg g'
          case measure => omega
          case rel => exact ⟨i + 1, z, by rw [hfin.out], by go_num, by have := HG.out; omega, HN.out, HB.out⟩
    · have hd : decide ((i : Int) < (n : Int)) = false := by simp; omega
      have hq : Hid (y = q) := Lib.hid (by
        have h1 := HY.out
        rw [List.drop_eq_nil_of_le (by omega)] at h1
        exact h1)
      have HX := Lib.hid (uv_xor y ones)
      go_wp2
      go_ret
      exact ⟨by rw [← hq.out, BitVec.xor_comm, ← HX.out, uv_ones]; rfl, HB.out⟩

end Go.Proofs.Ytmjadapdajbmmaa
