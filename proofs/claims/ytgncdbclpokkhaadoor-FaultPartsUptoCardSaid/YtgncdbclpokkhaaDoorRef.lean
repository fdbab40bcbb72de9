/-
  The document's own Itoa, as the statements' reference tells it, by its contract: the decimal numeral, as strconv tells it. Condition: the number is an int.
-/
import Derived.Test.YtgncdbclpokkhaaDoorErr
import Derived.Test.YtgncdbclpokkhaaDoorPure
import Derived.Lib.ItoaLen
import Derived.Laws.BytesArg
namespace Go.Proofs.YtgncdbclpokkhaaDoor
open Go.RowKit Go.Extern.Stop Go.Stop Go.Extern

theorem conv_one (x : Int) (w : World) : (convert 54 9 (.slice (some ⟨w.heap.size, 0, none⟩) 1 1)).run Tryd.prog (w.alloc (.cells #[.int .u8 x] 5)) = .ok (.string (strOfNums [x])) (w.alloc (.cells #[.int .u8 x] 5)) :=
  run_convert_bytes_arg _ 54 5 Tryd.underlying54 Tryd.underlying5 w.heap.size 0 1 1 [x] rfl (by
    intro i hi
    obtain rfl : i = 0 := by omega
    simp) 9 Tryd.underlying9

theorem app_bytes' (x y : List UInt8) : (⟨x.toArray⟩ : ByteArray) ++ ⟨y.toArray⟩ = ⟨(x ++ y).toArray⟩ := by
  apply ByteArray.ext
  simp [ByteArray.data_append]

theorem ref_itoa_zero (w : World) : Calls Tryd.prog 21 #[.int .i64 0] w (Leaves1 (.string ⟨[48].toArray⟩) w) := by
  go_enter Tryd.func21, Tryd.ntmps21
  go_wp2
  go_ret
  exact ⟨rfl, Below.refl _ _⟩

theorem digit_push (m : Nat) (h : m ≠ 0) (o : ByteArray) (n : Nat) (d : Int) (hm : d = ((m % 10 : Nat) : Int)) (hd : digs m ++ o.data.toList = digs n) : digs (m / 10) ++ (strOfNums [48 + d] ++ o).data.toList = digs n := by
  have e : (48 + d).toNat = 48 + m % 10 := by omega
  rw [← hd, digs_pos m h, ByteArray.data_append, Array.toList_append, strOfNums_data, List.map_cons, List.map_nil, e, List.append_assoc]

theorem digs_length_le (n : Nat) (h : n ≤ 9223372036854775808) : (digs n).length ≤ 21 := by
  by_cases h0 : n = 0
  · subst h0; simp [digs]
  · rw [digs_whole n h0]
    have := Lib.itoa_length_le (-(n : Int)) (by omega) (by omega)
    unfold Lib.itoa at this
    rw [if_pos (by omega)] at this
    simp at this
    omega

set_option maxRecDepth 100000 in
set_option maxHeartbeats 2000000 in
theorem ref_itoa_pos (n : Nat) (hn : n ≠ 0) (h63 : n ≤ 9223372036854775807) (w : World) : Calls Tryd.prog 21 #[.int .i64 (n : Int)] w (Leaves1 (.string ⟨(Lib.decDigits n).toArray⟩) w) := by
  have h0 : ((n : Int) == 0) = false := beq_eq_false_iff_ne.2 (by omega)
  have hneg : decide ((n : Int) < 0) = false := by simp
  have HN := Lib.hid hn
  clear hn
  go_enter Tryd.func21, Tryd.ntmps21
  go_wp2
  go_loopg [3, 4] n (fun g o v wr => ∃ (m : Nat) (out : ByteArray), g = m ∧ m ≤ n ∧ o = .string out ∧ v = .int .i64 (m : Int) ∧ digs m ++ out.data.toList = digs n ∧ Below w.heap.size w wr)
  case atStart => exact ⟨n, ⟨#[]⟩, rfl, Nat.le_refl _, rfl, rfl, by simp, Below.refl _ _⟩
  case round =>
    obtain ⟨m, out, hg, hm, rfl, rfl, hd, hb⟩ := hrel
    have hos : out.size ≤ 21 := by
      have h1 := digs_length_le n (by omega)
      rw [← hd, List.length_append] at h1
      have h2 : out.data.toList.length = out.size := Array.length_toList
      omega
    have HG := Lib.hid hg
    have HD := Lib.hid hd
    have HB := Lib.hid hb
    clear hg hd hb
    by_cases hm0 : m = 0
    · subst hm0
      go_wp2
      go_ret
      have h1 := HD.out
      rw [digs_zero, List.nil_append, digs_whole n HN.out] at h1
      exact ⟨by rw [← h1]; rfl, HB.out⟩
    · have hmb : ((m : Int) == 0) = false := beq_eq_false_iff_ne.2 (by omega)
      have hmc : ((m : Int) != 0) = true := by simp [hm0]
      have HM := Lib.hid hm0
      have n1 : ¬ 9223372036854775807 < 1 + out.size := by omega
      have hcv := conv_one (48 + (m : Int) % 10) wr
      have hdp := digit_push m hm0 out n ((m : Int) % 10) (by omega) HD.out
      have HDP := Lib.hid hdp
      have ht : decide ((m : Int) % 10 < 0) = false := by simp; omega
      clear hm0 hdp
      go_wp2
      go_roundg (m / 10)
      case measure => rw [HG.out]; have := HM.out; omega
      case rel => exact ⟨m / 10, _, rfl, by omega, rfl, by go_num, HDP.out, HB.out.alloc HB.out.size _⟩

theorem tmod_neg (m : Nat) : (-(m : Int)).tmod 10 = -((m : Int) % 10) := by
  rw [Int.neg_tmod, Int.tmod_eq_emod_of_nonneg (by omega)]
theorem tdiv_neg (m : Nat) : (-(m : Int)).tdiv 10 = -((m : Int) / 10) := by
  rw [Int.neg_tdiv, Int.tdiv_eq_ediv_of_nonneg (by omega)]

set_option maxRecDepth 100000 in
set_option maxHeartbeats 2000000 in
theorem ref_itoa_neg (n : Nat) (hn : n ≠ 0) (h63 : n ≤ 9223372036854775808) (w : World) : Calls Tryd.prog 21 #[.int .i64 (-(n : Int))] w (Leaves1 (.string ⟨(45 :: Lib.decDigits n).toArray⟩) w) := by
  obtain ⟨x, hx⟩ : ∃ x : Int, x = -(n : Int) := ⟨_, rfl⟩
  have h0 : (x == 0) = false := beq_eq_false_iff_ne.2 (by omega)
  have hneg : decide (x < 0) = true := by simp; omega
  have HN := Lib.hid hn
  have HX := Lib.hid hx
  rw [← hx]
  clear hn hx
  go_enter Tryd.func21, Tryd.ntmps21
  go_wp2
  go_loopg [3, 4] n (fun g o v wr => ∃ (m : Nat) (y : Int) (out : ByteArray), g = m ∧ m ≤ n ∧ o = .string out ∧ y = -(m : Int) ∧ v = .int .i64 y ∧ digs m ++ out.data.toList = digs n ∧ Below w.heap.size w wr)
  case atStart => exact ⟨n, x, ⟨#[]⟩, rfl, Nat.le_refl _, rfl, HX.out, rfl, by simp, Below.refl _ _⟩
  case round =>
    obtain ⟨m, y, out, hg, hm, rfl, hy, rfl, hd, hb⟩ := hrel
    have hos : out.size ≤ 21 := by
      have h1 := digs_length_le n (by omega)
      rw [← hd, List.length_append] at h1
      have h2 : out.data.toList.length = out.size := Array.length_toList
      omega
    have n0 : ¬ 9223372036854775807 < 1 + out.size := by omega
    have HG := Lib.hid hg
    have HD := Lib.hid hd
    have HB := Lib.hid hb
    by_cases hm0 : m = 0
    · have hy0 : (y != 0) = false := by simp; omega
      have HY := Lib.hid hy
      have HM0 := Lib.hid hm0
      clear hg hd hb hy hm0
      go_wp2
      go_ret
      have h1 := HD.out
      rw [HM0.out, digs_zero, List.nil_append, digs_whole n HN.out] at h1
      exact ⟨by rw [← h1]; show Ending.returned (.string (⟨[45].toArray⟩ ++ out)) = _; rw [show out = ⟨out.data.toList.toArray⟩ by simp, app_bytes']; simp, HB.out⟩
    · have hmb : (y == 0) = false := beq_eq_false_iff_ne.2 (by omega)
      have hmc : (y != 0) = true := by simp; omega
      have HM := Lib.hid hm0
      have et : y.tmod 10 = -((m : Int) % 10) := by rw [hy, tmod_neg]
      have eq : y.tdiv 10 = -((m : Int) / 10) := by rw [hy, tdiv_neg]
      have b1 : -9 ≤ y.tmod 10 := by omega
      have b2 : y.tmod 10 ≤ 0 := by omega
      have hb' : Below w.heap.size w wr := hb
      have hq : m / 10 ≤ n ∧ y.tdiv 10 = -((m / 10 : Nat) : Int) := ⟨by omega, by rw [eq]; simp⟩
      have HQ := Lib.hid hq
      have HW := Lib.hid (show wrap64 (y.tdiv 10) = y.tdiv 10 from IntWalk.wrap64_in _ ⟨by omega, by omega⟩)
      have hlow : m / 10 < m := by omega
      by_cases hs : y.tmod 10 < 0
      · have hdp := digit_push m hm0 out n (-y.tmod 10) (by omega) HD.out
        have HDP := Lib.hid hdp
        have ht : decide (y.tmod 10 < 0) = true := by simpa using hs
        have hcv := conv_one (48 + -y.tmod 10) wr
        clear hg hd hb hdp hm0 eq et hy hq hs hb'
        go_wp2
        go_roundg (m / 10)
        case measure => rw [HG.out]; exact hlow
        case rel => exact ⟨m / 10, _, _, rfl, HQ.out.1, rfl, HW.out.trans HQ.out.2, rfl, HDP.out, HB.out.alloc HB.out.size _⟩
      · have hdp := digit_push m hm0 out n (y.tmod 10) (by omega) HD.out
        have HDP := Lib.hid hdp
        have ht : decide (y.tmod 10 < 0) = false := by simpa using hs
        have hcv := conv_one (48 + y.tmod 10) wr
        clear hg hd hb hdp hm0 eq et hy hq hs hb'
        go_wp2
        go_roundg (m / 10)
        case measure => rw [HG.out]; exact hlow
        case rel => exact ⟨m / 10, _, _, rfl, HQ.out.1, rfl, HW.out.trans HQ.out.2, rfl, HDP.out, HB.out.alloc HB.out.size _⟩

/-- The reference's Itoa is strconv's. -/
theorem ref_itoa (n : Int) (h0 : -9223372036854775808 ≤ n) (h1 : n ≤ 9223372036854775807) (w : World) : Calls Tryd.prog 21 #[.int .i64 n] w (Leaves1 (.string ⟨(Lib.itoa n).toArray⟩) w) := by
  unfold Lib.itoa
  by_cases hn : n < 0
  · rw [if_pos hn]
    have h := ref_itoa_neg n.natAbs (by omega) (by omega) w
    rwa [show -((n.natAbs : Nat) : Int) = n by omega] at h
  · rw [if_neg hn]
    by_cases hz : n = 0
    · subst hz
      have h := ref_itoa_zero w
      have e : Lib.decDigits (0 : Int).toNat = [48] := by rw [Lib.decDigits]; rfl
      rwa [e]
    · have h := ref_itoa_pos n.toNat (by omega) (by omega) w
      rwa [show ((n.toNat : Nat) : Int) = n by omega] at h
end Go.Proofs.YtgncdbclpokkhaaDoor
