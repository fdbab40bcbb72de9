/-
  The program's step, its sum that goes on, and its sum. Condition: the slice leads to bytes.
-/
import Derived.Test.YtmjadapdajbmmaaBase
namespace Go.Proofs.Ytmjadapdajbmmaa
open Go.RowKit Go.Lib

set_option maxRecDepth 100000 in
set_option maxHeartbeats 1000000 in
theorem step_calls (x : BitVec 32) (w : World) : Calls Try.prog 10 #[.int .u32 (uv x)] w (Leaves (.int .u32 (uv (hbs 8 x))) w) := by
  obtain ⟨q, hq⟩ : ∃ q, hbs 8 x = q := ⟨_, rfl⟩
  rw [hq]
  have HQ := Lib.hid hq
  clear hq
  obtain ⟨X, hX⟩ : ∃ X, uv x = X := ⟨_, rfl⟩
  rw [hX]
  have HX := Lib.hid hX
  clear hX
  go_enter Try.func10, Try.ntmps10
  go_wp2
  go_loopg [0, 4] 8 (fun g v u wr => ∃ (i : Nat) (y : BitVec 32), v = .int .u32 (uv y) ∧ u = .int .i64 i ∧ g + i = 8 ∧ hbs g y = q ∧ wr = w)
  case atStart => exact ⟨0, x, by rw [HX.out], rfl, rfl, HQ.out, rfl⟩
  case round =>
    obtain ⟨i, y, rfl, rfl, hg, hy, rfl⟩ := hrel
    have HG := Lib.hid hg
    have HY := Lib.hid hy
    clear hg hy HQ HX
    by_cases hi : i < 8
    · obtain ⟨g', rfl⟩ : ∃ g', gk = g' + 1 := ⟨gk - 1, by have := HG.out; omega⟩
      have hd : decide ((i : Int) < 8) = true := by simp; omega
      have ho := uv_odd y
      have h2 := Lib.hid (uv_quo y)
      have hp := uv_xor (y >>> 1) poly
      rw [show uv poly = 3988292384 by decide] at hp
      have HP := Lib.hid hp
      have HN : Hid (hbs g' (hb y) = q) := HY
      have hY0 := uv_lo y
      obtain ⟨Y, hY⟩ : ∃ Y, uv y = Y := ⟨_, rfl⟩
      rw [hY] at ho h2 hY0 ⊢
      clear hY HY hp
      cases hb0 : y.getLsbD 0 with
      | true =>
        rw [hb0, if_pos rfl] at ho
        have hn : Hid (hb y = (y >>> 1) ^^^ poly) := Lib.hid (by unfold hb; rw [hb0, if_pos rfl])
        clear hb0
        go_wp2
        go_roundg g'
        case measure => omega
        case rel => exact ⟨i + 1, hb y, by rw [h2.out, HP.out, hn.out], by go_num, by have := HG.out; omega, HN.out, rfl⟩
      | false =>
        rw [hb0, if_neg (by decide)] at ho
        have hn : Hid (hb y = y >>> 1) := Lib.hid (by unfold hb; rw [hb0, if_neg (by decide), BitVec.xor_zero])
        clear hb0
        go_wp2
        go_roundg g'
        case measure => omega
        case rel => exact ⟨i + 1, hb y, by rw [h2.out, hn.out], by go_num, by have := HG.out; omega, HN.out, rfl⟩
    · have hd : decide ((i : Int) < 8) = false := by simp; omega
      have hq : Hid (y = q) := Lib.hid (by
        have h0 := HG.out
        have h1 := HY.out
        rw [show gk = 0 by omega] at h1
        exact h1)
      go_wp2
      go_ret
      exact ⟨by rw [hq.out]; rfl, Below.refl _ _⟩

set_option maxRecDepth 100000 in
set_option maxHeartbeats 1000000 in
theorem on_calls (s : BitVec 32) (a : Option Addr) (l : List Nat) (n c : Nat) (w : World) (hr : Row w a l) (hn : l.length = n) (hm : n ≤ 1073741824) :
    Calls Try.prog 9 #[.int .u32 (uv s), .slice a n c] w (Leaves (.int .u32 (uv (onB s l))) w) := by
  obtain ⟨q, hq⟩ : ∃ q, reg (ones ^^^ s) l = q := ⟨_, rfl⟩
  have HQ := Lib.hid hq
  have HROW := Lib.hid hr
  have HS := Lib.hid (uv_xor ones s)
  unfold onB
  rw [hq]
  clear hq hr
  obtain ⟨S, hS⟩ : ∃ S, uv s = S := ⟨_, rfl⟩
  rw [hS] at HS ⊢
  have HS0 := Lib.hid hS
  clear hS
  go_enter Try.func9, Try.ntmps9
  go_wp2
  go_loopg [5, 12] n (fun g v u wr => ∃ (i : Nat) (y : BitVec 32), v = .int .u32 (uv y) ∧ u = .int .i64 i ∧ g + i = n ∧ reg y (l.drop i) = q ∧ Below w.heap.size w wr)
  case atStart => exact ⟨0, ones ^^^ s, by rw [← HS.out, uv_ones]; rfl, rfl, rfl, HQ.out, Below.refl _ _⟩
  case round =>
    obtain ⟨i, y, rfl, rfl, hg, hy, hb⟩ := hrel
    have HG := Lib.hid hg
    have HY := Lib.hid hy
    have HB := Lib.hid hb
    clear hg hy hb HQ HS HS0
    by_cases hi : i < n
    · obtain ⟨g', rfl⟩ : ∃ g', gk = g' + 1 := ⟨gk - 1, by have := HG.out; omega⟩
      have hd : decide ((i : Int) < (n : Int)) = true := by simp; omega
      have hl : l.drop i = l[i]'(by omega) :: l.drop (i + 1) := List.drop_eq_getElem_cons (by omega)
      have hq : l[i]? = some (l[i]'(by omega)) := List.getElem?_eq_getElem (by omega)
      have hlt : l[i]'(by omega) < 256 := HROW.out.1 _ (List.getElem_mem _)
      obtain ⟨d, hdd⟩ : ∃ d, l[i]'(by omega) = d := ⟨_, rfl⟩
      rw [hdd] at hl hq hlt
      obtain ⟨b, o, rfl, hc⟩ : ∃ b o, a = some ⟨b, o, none⟩ ∧ wr.cell? ⟨b, o + i, none⟩ = some (.int .u8 (d : Int)) := by
        rcases (HROW.out.below HB.out).2 with h0 | ⟨b, o, ha, hcell⟩
        · rw [h0] at hq; simp at hq
        · exact ⟨b, o, ha, hcell i d hq⟩
      have HN : Hid (reg (stepB y d) (l.drop (i + 1)) = q) := Lib.hid (by have := HY.out; rw [hl] at this; exact this)
      have HL := Lib.hid (uv_low y)
      have HE := Lib.hid (uv_byte y)
      have HX := Lib.hid (uv_xor (y &&& 255#32) (BitVec.ofNat 32 d))
      have hdi := uv_nat hlt
      have HV := Lib.hid hdi
      have HZ := Lib.hid (uv_xor (y >>> 8) (hbs 8 ((y &&& 255#32) ^^^ BitVec.ofNat 32 d)))
      have HST := Lib.hid (step_is y d)
      have hy0 := uv_lo y
      have hd0 : (0 : Int) ≤ (d : Int) := by omega
      have hd1 : (d : Int) < 256 := by omega
      obtain ⟨D, hD⟩ : ∃ D : Int, (d : Int) = D := ⟨_, rfl⟩
      obtain ⟨Y, hY⟩ : ∃ Y, uv y = Y := ⟨_, rfl⟩
      rw [hD] at HV hc hd0 hd1
      rw [hY] at HL HE hy0 ⊢
      clear hl hq hlt hdd hdi hY hD HY
      go_wp2_with fail
      rw [HL.out, HV.out, HX.out]
      refine (step_calls _ wr).mono ?_
      rintro e w2 ⟨rfl, hb2⟩
      have HB2 := Lib.hid (below_then HB.out hb2)
      clear hb2 HB hc
      go_wp2
      go_roundg g'
      case measure => omega
      case rel => exact ⟨i + 1, stepB y d, by rw [HE.out, HZ.out, HST.out], by go_num, by have := HG.out; omega, HN.out, HB2.out⟩
    · have hd : decide ((i : Int) < (n : Int)) = false := by simp; omega
      have hq : Hid (y = q) := Lib.hid (by
        have h1 := HY.out
        rw [List.drop_eq_nil_of_le (by omega)] at h1
        exact h1)
      have HX := Lib.hid (uv_xor ones y)
      go_wp2
      go_ret
      exact ⟨by rw [← hq.out, ← HX.out, uv_ones]; rfl, HB.out⟩

set_option maxRecDepth 100000 in
set_option maxHeartbeats 1000000 in
theorem sum_calls (a : Option Addr) (l : List Nat) (n c : Nat) (w : World) (hr : Row w a l) (hn : l.length = n) (hm : n ≤ 1073741824) :
    Calls Try.prog 7 #[.slice a n c] w (Leaves (.int .u32 (uv (sumB l))) w) := by
  have hc := on_calls 0#32 a l n c w hr hn hm
  rw [show uv 0#32 = 0 by decide] at hc
  have HC := Lib.hid hc
  unfold sumB
  clear hr hc
  go_enter Try.func7, Try.ntmps7
  go_wp2_with fail
  refine HC.out.mono ?_
  rintro e w2 ⟨rfl, hb2⟩
  have HB2 := Lib.hid hb2
  clear hb2
  go_wp2
  go_ret
  exact ⟨rfl, HB2.out⟩

end Go.Proofs.Ytmjadapdajbmmaa
