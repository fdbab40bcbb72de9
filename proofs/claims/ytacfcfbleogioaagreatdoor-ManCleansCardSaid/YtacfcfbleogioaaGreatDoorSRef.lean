/-
  Names, told by the reference. No condition.
-/
import Derived.Test.YtacfcfbleogioaaGreatDoorSName
import Derived.Lib.SlBytesRow
import Derived.Lib.SlBytesConst
namespace Go.Proofs.YtacfcfbleogioaaGreatDoor
open Go.RowKit Go.Lib Go.Joins

theorem rmay7_calls (n : Int) (w : World) : Calls Tryz.prog 71 #[.int .i64 n] w fun e w' => e = .returned (.bool (mayN n)) ∧ w = w' := by
  by_cases h1 : 1 ≤ n
  · have d1 : decide (1 ≤ n) = true := by simpa using h1
    have d1' : decide (n ≥ 1) = true := by simpa using h1
    by_cases h2 : n ≤ 99999999
    · have d2 : decide (n ≤ 99999999) = true := by simpa using h2
      have hm : mayN n = true := mayN_is.2 ⟨h1, h2⟩
      rw [hm]
      go_enter Tryz.func71, Tryz.ntmps71
      go_wp2
      go_ret
      exact ⟨rfl, rfl⟩
    · have d2 : decide (n ≤ 99999999) = false := by simpa using h2
      have hm : mayN n = false := by unfold mayN; rw [d2, Bool.and_false]
      rw [hm]
      go_enter Tryz.func71, Tryz.ntmps71
      go_wp2
      go_ret
      exact ⟨rfl, rfl⟩
  · have d1 : decide (1 ≤ n) = false := by simpa using h1
    have d1' : decide (n ≥ 1) = false := by simpa using h1
    have hm : mayN n = false := by unfold mayN; rw [d1, Bool.false_and]
    rw [hm]
    go_enter Tryz.func71, Tryz.ntmps71
    go_wp2
    go_ret
    exact ⟨rfl, rfl⟩

/-- The last digits of a number. -/
def suf : Nat → Nat → List UInt8
  | 0, _ => []
  | i + 1, m => UInt8.ofNat (48 + m / 10 ^ i % 10) :: suf i m
theorem pad_suf (m : Nat) : ∀ i k, pad (k + i) m = pad k (m / 10 ^ i) ++ suf i m
  | 0, k => by simp [suf]
  | i + 1, k => by
    have ih := pad_suf m i (k + 1)
    rw [show k + 1 + i = k + (i + 1) by omega] at ih
    rw [ih, pad, suf, List.append_assoc, Nat.div_div_eq_div_mul, ← Nat.pow_succ]
    rfl
theorem pad_suf8 (m : Nat) : pad 8 m = suf 8 m := by
  have := pad_suf m 8 0
  simpa [pad] using this
theorem suf_len : ∀ i m, (suf i m).length = i
  | 0, _ => rfl
  | i + 1, m => by rw [suf, List.length_cons, suf_len i]

set_option maxRecDepth 100000 in
set_option maxHeartbeats 2000000 in
theorem eight_calls (m : Nat) (w : World) (hm : m ≤ 99999999) : Calls Tryz.prog 94 #[.int .i64 (m : Int)] w (Leaves (.string ⟨(suf 8 m).toArray⟩) w) := by
  obtain ⟨PST, hP⟩ : ∃ P, Leaves (.string ⟨(suf 8 m).toArray⟩) w = P := ⟨_, rfl⟩
  have HFIN : Hid (∀ W, Below w.heap.size w W → PST (.returned (.string ⟨(suf 8 m).toArray⟩)) W) := Lib.hid (fun W hb => by rw [← hP]; exact ⟨rfl, hb⟩)
  rw [hP]
  clear hP
  go_enter Tryz.func94, Tryz.ntmps94
  go_wp2
  go_loopg [0, 3, 4] 8 (fun g nn out idx wr => ∃ (i : Nat), nn = .int .i64 ((m / 10 ^ i : Nat) : Int) ∧ out = .string ⟨(suf i m).toArray⟩ ∧ idx = .int .i64 (i : Int) ∧ g + i = 8 ∧ Below w.heap.size w wr)
  case atStart => exact ⟨0, by simp, rfl, rfl, rfl, Below.refl _ _⟩
  case round =>
    obtain ⟨i, rfl, rfl, rfl, hg, hb⟩ := hrel
    have HG := Lib.hid hg
    have HB := Lib.hid hb
    clear hg hb
    by_cases hlt : i < 8
    · obtain ⟨g', rfl⟩ : ∃ g', gk = g' + 1 := ⟨gk - 1, by have := HG.out; omega⟩
      have hd : decide ((i : Int) < 8) = true := by simp; omega
      have hq1 : m / 10 ^ i ≤ 99999999 := Nat.le_trans (Nat.div_le_self _ _) hm
      have HQ2 : Hid (m / 10 ^ (i + 1) = m / 10 ^ i / 10) := Lib.hid (by rw [Nat.pow_succ, Nat.div_div_eq_div_mul])
      have HS2 : Hid (suf (i + 1) m = UInt8.ofNat (48 + m / 10 ^ i % 10) :: suf i m) := Lib.hid rfl
      obtain ⟨q, hq⟩ : ∃ q, m / 10 ^ i = q := ⟨_, rfl⟩
      rw [hq] at hq1 HQ2 HS2 ⊢
      have hsl : (⟨(suf i m).toArray⟩ : ByteArray).size = i := by show (suf i m).toArray.size = i; rw [List.size_toArray, suf_len]
      have HCV : Hid (∀ X : Int, X = ((48 + q % 10 : Nat) : Int) → (convert 61 9 (.slice (some ⟨wr.heap.size, 0, none⟩) 1 1)).run Tryz.prog (wr.alloc (.cells #[.int .u8 X] 5)) = .ok (.string ⟨#[UInt8.ofNat (48 + q % 10)]⟩) (wr.alloc (.cells #[.int .u8 X] 5))) := Lib.hid (fun X hX => by
        subst hX
        have := Lib.run_convert_whole (P := Tryz.prog) (wr.alloc (.cells #[.int .u8 ((48 + q % 10 : Nat) : Int)] 5)) 61 5 9 Tryz.underlying61 Tryz.underlying5 Tryz.underlying9 wr.heap.size 0 ⟨#[UInt8.ofNat (48 + q % 10)]⟩ (fun i hi => by
          have h1 : i < 1 := hi
          obtain rfl : i = 0 := by omega
          rw [Nat.zero_add, World.cell?_alloc_mark wr _ 5 (0, 0) 0]
          show some (Value.int .u8 ((48 + q % 10 : Nat) : Int)) = some (Value.int .u8 (((UInt8.ofNat (48 + q % 10)).toNat : Nat) : Int))
          rw [UInt8.toNat_ofNat', Nat.mod_eq_of_lt (show 48 + q % 10 < 2 ^ 8 by omega)]) 1
        exact this)
      have hcat : (⟨#[UInt8.ofNat (48 + q % 10)]⟩ : ByteArray) ++ ⟨(suf i m).toArray⟩ = ⟨(UInt8.ofNat (48 + q % 10) :: suf i m).toArray⟩ := app_bytes [UInt8.ofNat (48 + q % 10)] (suf i m)
      rw [← HS2.out] at hcat
      obtain ⟨Y, hY⟩ : ∃ Y : ByteArray, ⟨(suf i m).toArray⟩ = Y := ⟨_, rfl⟩
      obtain ⟨c, hc⟩ : ∃ c : ByteArray, ⟨#[UInt8.ofNat (48 + q % 10)]⟩ = c := ⟨_, rfl⟩
      have hcs : c.size = 1 := by rw [← hc]; rfl
      rw [hY] at hsl hcat ⊢
      rw [hc] at HCV hcat
      have hl1 : ¬ 9223372036854775807 < c.size + Y.size := by omega
      have HCAT := Lib.hid hcat
      have hcv1 := HCV.out (48 + (q : Int) % 10) (by omega)
      clear hq hY hc hcat HCV HS2
      go_wp2_with fail
      go_roundg g'
      case measure => omega
      case rel => exact ⟨i + 1, by rw [HQ2.out]; go_num, by rw [← HCAT.out], by go_num, by have := HG.out; omega, HB.out.alloc HB.out.size _⟩
    · have hd : decide ((i : Int) < 8) = false := by simp; omega
      obtain rfl : i = 8 := by have := HG.out; omega
      go_wp2
      exact HFIN.out _ HB.out

set_option maxRecDepth 100000 in
set_option maxHeartbeats 1000000 in
theorem rname_calls (n : Int) (w : World) : Calls Tryz.prog 50 #[.int .i64 n] w (Leaves (.string (nameB n)) w) := by
  have HM := Lib.hid (rmay7_calls n w)
  cases hm : mayN n with
  | false =>
    rw [nameB_not hm]
    rw [hm] at HM
    clear hm
    go_enter Tryz.func50, Tryz.ntmps50
    go_wp2_with fail
    with_reducible refine HM.out.mono ?_
    rintro e w1 ⟨rfl, rfl⟩
    go_wp2
    go_ret
    exact ⟨rfl, Below.refl _ _⟩
  | true =>
    rw [hm] at HM
    obtain ⟨h1, h2⟩ := mayN_is.1 hm
    rw [nameB_may hm]
    obtain ⟨m, rfl⟩ : ∃ m : Nat, n = (m : Int) := ⟨n.toNat, by omega⟩
    rw [Int.toNat_natCast, nameL, pad_suf8]
    have HE := Lib.hid (eight_calls m w (by omega))
    have hcat : (⟨#[115, 101, 103, 46]⟩ : ByteArray) ++ ⟨(suf 8 m).toArray⟩ = ⟨([115, 101, 103, 46] ++ suf 8 m).toArray⟩ := app_bytes [115, 101, 103, 46] (suf 8 m)
    have hsl : (⟨(suf 8 m).toArray⟩ : ByteArray).size = 8 := by show (suf 8 m).toArray.size = 8; rw [List.size_toArray, suf_len]
    obtain ⟨Y, hY⟩ : ∃ Y : ByteArray, ⟨(suf 8 m).toArray⟩ = Y := ⟨_, rfl⟩
    rw [hY] at HE hcat hsl
    obtain ⟨V, hV⟩ : ∃ V : ByteArray, ⟨([115, 101, 103, 46] ++ suf 8 m).toArray⟩ = V := ⟨_, rfl⟩
    rw [hV] at hcat ⊢
    have HC := Lib.hid hcat
    have hl1 : ¬ 9223372036854775807 < 4 + Y.size := by omega
    clear hm h1 h2 hY hV hcat
    go_enter Tryz.func50, Tryz.ntmps50
    go_wp2_with fail
    with_reducible refine HM.out.mono ?_
    rintro e w1 ⟨rfl, rfl⟩
    go_wp2_with fail
    with_reducible refine HE.out.mono ?_
    rintro e w2 ⟨rfl, hb2⟩
    have HB2 := Lib.hid hb2
    clear hb2
    go_wp2
    go_ret
    exact ⟨congrArg (fun z => Ending.returned (Value.string z)) HC.out, HB2.out⟩

end Go.Proofs.YtacfcfbleogioaaGreatDoor
