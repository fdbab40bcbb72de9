/-
  Names, told by the reference. No condition.
-/
import Derived.Test.YtacfcfbleogioaaDoorSName
import Derived.Lib.SlBytesRow
import Derived.Lib.SlBytesConst
namespace Go.Proofs.YtacfcfbleogioaaDoor
open Go.RowKit Go.Lib Go.Joins

theorem rmay7_calls (n : Int) (w : World) : Calls Tryd.prog 26 #[.int .i64 n] w fun e w' => e = .returned (.bool (mayN n)) ∧ w = w' := by
  by_cases h1 : 1 ≤ n
  · have d1 : decide (1 ≤ n) = true := by simpa using h1
    have d1' : decide (n ≥ 1) = true := by simpa using h1
    by_cases h2 : n ≤ 99999999
    · have d2 : decide (n ≤ 99999999) = true := by simpa using h2
      have hm : mayN n = true := mayN_is.2 ⟨h1, h2⟩
      rw [hm]
      go_enter Tryd.func26, Tryd.ntmps26
      go_wp2
      go_ret
      exact ⟨rfl, rfl⟩
    · have d2 : decide (n ≤ 99999999) = false := by simpa using h2
      have hm : mayN n = false := by unfold mayN; rw [d2, Bool.and_false]
      rw [hm]
      go_enter Tryd.func26, Tryd.ntmps26
      go_wp2
      go_ret
      exact ⟨rfl, rfl⟩
  · have d1 : decide (1 ≤ n) = false := by simpa using h1
    have d1' : decide (n ≥ 1) = false := by simpa using h1
    have hm : mayN n = false := by unfold mayN; rw [d1, Bool.false_and]
    rw [hm]
    go_enter Tryd.func26, Tryd.ntmps26
    go_wp2
    go_ret
    exact ⟨rfl, rfl⟩

/-- The last digits of a number. -/
def suf : Nat → Nat → List UInt8
  | 0, _ => []
  | i + 1, m => UInt8.ofNat (48 + m / 10 ^ i % 10) :: suf i m
theorem pad_suf (m : Nat) : ∀ i k, pad (k + i) m = pad k (m / 10 ^ i) ++ suf i m
  | 0, k => by simp [suf]
  | i + 1, k => by
    have ih := pad_suf m i (k + 1)
    rw [show k + 1 + i = k + (i + 1) by omega] at ih
    rw [ih, pad, suf, List.append_assoc, Nat.div_div_eq_div_mul, ← Nat.pow_succ]
    rfl
theorem pad_suf8 (m : Nat) : pad 8 m = suf 8 m := by
  have := pad_suf m 8 0
  simpa [pad] using this
theorem suf_len : ∀ i m, (suf i m).length = i
  | 0, _ => rfl
  | i + 1, m => by rw [suf, List.length_cons, suf_len i]

set_option maxRecDepth 100000 in
set_option maxHeartbeats 2000000 in
theorem eight_calls (m : Nat) (w : World) (hm : m ≤ 99999999) : Calls Tryd.prog 32 #[.int .i64 (m : Int)] w (Leaves (.string ⟨(suf 8 m).toArray⟩) w) := by
  obtain ⟨PST, hP⟩ : ∃ P, Leaves (.string ⟨(suf 8 m).toArray⟩) w = P := ⟨_, rfl⟩
  have HFIN : Hid (∀ W, Below w.heap.size w W → PST (.returned (.string ⟨(suf 8 m).toArray⟩)) W) := Lib.hid (fun W hb => by rw [← hP]; exact ⟨rfl, hb⟩)
  rw [hP]
  clear hP
  go_enter Tryd.func32, Tryd.ntmps32
  go_wp2
  go_loopg [0, 3, 4] 8 (fun g nn out idx wr => ∃ (i : Nat), nn = .int .i64 ((m / 10 ^ i : Nat) : Int) ∧ out = .string ⟨(suf i m).toArray⟩ ∧ idx = .int .i64 (i : Int) ∧ g + i = 8 ∧ Below w.heap.size w wr)
  case atStart => exact ⟨0, by simp, rfl, rfl, rfl, Below.refl _ _⟩
  case round =>
    obtain ⟨i, rfl, rfl, rfl, hg, hb⟩ := hrel
    have HG := Lib.hid hg
    have HB := Lib.hid hb
    clear hg hb
    by_cases hlt : i < 8
    · obtain ⟨g', rfl⟩ : ∃ g', gk = g' + 1 := ⟨gk - 1, by have := HG.out; omega⟩
      have hd : decide ((i : Int) < 8) = true := by simp; omega
      have hq1 : m / 10 ^ i ≤ 99999999 := Nat.le_trans (Nat.div_le_self _ _) hm
      have HQ2 : Hid (m / 10 ^ (i + 1) = m / 10 ^ i / 10) := Lib.hid (by rw [Nat.pow_succ, Nat.div_div_eq_div_mul])
      have HS2 : Hid (suf (i + 1) m = UInt8.ofNat (48 + m / 10 ^ i % 10) :: suf i m) := Lib.hid rfl
      obtain ⟨q, hq⟩ : ∃ q, m / 10 ^ i = q := ⟨_, rfl⟩
      rw [hq] at hq1 HQ2 HS2 ⊢
      have hsl : (⟨(suf i m).toArray⟩ : ByteArray).size = i := by show (suf i m).toArray.size = i; rw [List.size_toArray, suf_len]
      have HCV : Hid (∀ X : Int, X = ((48 + q % 10 : Nat) : Int) → (convert 25 9 (.slice (some ⟨wr.heap.size, 0, none⟩) 1 1)).run Tryd.prog (wr.alloc (.cells #[.int .u8 X] 5)) = .ok (.string ⟨#[UInt8.ofNat (48 + q % 10)]⟩) (wr.alloc (.cells #[.int .u8 X] 5))) := Lib.hid (fun X hX => by
        subst hX
        have := Lib.run_convert_whole (P := Tryd.prog) (wr.alloc (.cells #[.int .u8 ((48 + q % 10 : Nat) : Int)] 5)) 25 5 9 Tryd.underlying25 Tryd.underlying5 Tryd.underlying9 wr.heap.size 0 ⟨#[UInt8.ofNat (48 + q % 10)]⟩ (fun i hi => by
          have h1 : i < 1 := hi
          obtain rfl : i = 0 := by omega
          rw [Nat.zero_add, World.cell?_alloc_mark wr _ 5 (0, 0) 0]
          show some (Value.int .u8 ((48 + q % 10 : Nat) : Int)) = some (Value.int .u8 (((UInt8.ofNat (48 + q % 10)).toNat : Nat) : Int))
          rw [UInt8.toNat_ofNat', Nat.mod_eq_of_lt (show 48 + q % 10 < 2 ^ 8 by omega)]) 1
        exact this)
      have hcat : (⟨#[UInt8.ofNat (48 + q % 10)]⟩ : ByteArray) ++ ⟨(suf i m).toArray⟩ = ⟨(UInt8.ofNat (48 + q % 10) :: suf i m).toArray⟩ := app_bytes [UInt8.ofNat (48 + q % 10)] (suf i m)
      rw [← HS2.out] at hcat
      obtain ⟨Y, hY⟩ : ∃ Y : ByteArray, ⟨(suf i m).toArray⟩ = Y := ⟨_, rfl⟩
      obtain ⟨c, hc⟩ : ∃ c : ByteArray, ⟨#[UInt8.ofNat (48 + q % 10)]⟩ = c := ⟨_, rfl⟩
      have hcs : c.size = 1 := by rw [← hc]; rfl
      rw [hY] at hsl hcat ⊢
      rw [hc] at HCV hcat
      have hl1 : ¬ 9223372036854775807 < c.size + Y.size := by omega
      have HCAT := Lib.hid hcat
      have hcv1 := HCV.out (48 + (q : Int) % 10) (by omega)
      clear hq hY hc hcat HCV HS2
      go_wp2_with fail
      go_roundg g'
      case measure => omega
      case rel => exact ⟨i + 1, by rw [HQ2.out]; go_num, by rw [← HCAT.out], by go_num, by have := HG.out; omega, HB.out.alloc HB.out.size _⟩
    · have hd : decide ((i : Int) < 8) = false := by simp; omega
      obtain rfl : i = 8 := by have := HG.out; omega
      go_wp2
      exact HFIN.out _ HB.out

end Go.Proofs.YtacfcfbleogioaaDoor
