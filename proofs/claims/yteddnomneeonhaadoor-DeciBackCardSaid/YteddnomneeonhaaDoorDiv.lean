/-
  math/bits.Div64: the quotient of a number of two words and one of one word. Condition: the high word is below the divisor, which is below 2 to the 63.
-/
import Derived.Test.YteddnomneeonhaaDoorBase
import Derived.Test.YteddnomneeonhaaDoorDivPure
import Derived.Test.YteddnomneeonhaaDoorShelf
namespace Go.Proofs.YteddnomneeonhaaDoor
open Go.RowKit Go.Lib

/-- A call that returns the quotient, and some rest. -/
def Quot (q : Int) (w : World) (e : Ending) (w' : World) : Prop := (∃ r : Int, e = .returned (.tuple #[.int .u64 q, .int .u64 r])) ∧ Below w.heap.size w w'

/-- What holds at the head of a digit's loop. -/
def DigRel (h u T : Int) (g : Nat) (a r : Int) : Prop := (g : Int) + r = 4294967296 ∧ 0 ≤ r ∧ r < 4294967296 ∧ a * h + r = u ∧ T ≤ a ∧ a ≤ 4294967297

theorem prod_fits {p l : Int} (h0 : 0 ≤ p) (h1 : p ≤ 4294967297) (h2 : 0 ≤ l) (h3 : l < 4294967296) : 0 ≤ p * l ∧ p * l < 18446744073709551616 := by
  have a := Int.mul_nonneg h0 h2
  have b := Int.mul_le_mul h1 (show l ≤ 4294967295 by omega) h2 (by omega)
  omega

set_option maxRecDepth 100000 in
set_option maxHeartbeats 4000000 in
theorem div_walk (hi lo y Y h l u L u1 u0 g1 r1 T1 z g2 r2 T2 q : Int) (s : Nat) (w : World) (h0 : 0 < hi) (h1 : hi < y) (_h2 : y < 9223372036854775808) (_h3 : 0 ≤ lo) (_h4 : lo < 18446744073709551616) (hs1 : 1 ≤ s) (hs2 : s ≤ 63)
    (HLZ : Hid (∀ W, Calls Tryd.prog 69 #[.int .u64 y] W fun e w' => e = .returned (.int .i64 (s : Int)) ∧ w' = W))
    (F1 : IntKind.u64.wrap (y * 2 ^ s) = Y) (F2 : Y / 4294967296 = h) (F3 : bits .and .u64 Y 4294967295 = l)
    (F4 : bits .or .u64 (IntKind.u64.wrap (hi * 2 ^ s)) (lo / 2 ^ (64 - s)) = u)
    (F5 : IntKind.u64.wrap (lo * 2 ^ s) = L) (F6 : L / 4294967296 = u1) (F7 : bits .and .u64 L 4294967295 = u0)
    (hh : 2147483648 ≤ h) (hh2 : h < 4294967296) (hl0 : 0 ≤ l) (hl : l < 4294967296) (_hu : 0 ≤ u) (_hz : 0 ≤ z) (hu10 : 0 ≤ u1) (hu1 : u1 < 4294967296) (hu00 : 0 ≤ u0) (hu0 : u0 < 4294967296)
    (_G1 : IntKind.u64.wrap (u / h) = g1) (G1' : IntKind.u64.wrap (u.tdiv h) = g1) (G4' : IntKind.u64.wrap (z.tdiv h) = g2) (G2 : IntKind.u64.wrap (u - IntKind.u64.wrap (g1 * h)) = r1)
    (G3 : IntKind.u64.wrap (IntKind.u64.wrap (IntKind.u64.wrap (u * 4294967296) + u1) - IntKind.u64.wrap (T1 * Y)) = z)
    (_G4 : IntKind.u64.wrap (z / h) = g2) (G5 : IntKind.u64.wrap (z - IntKind.u64.wrap (g2 * h)) = r2)
    (HT1 : Hid ((u * 4294967296 + u1) / (h * 4294967296 + l) = T1)) (HT2 : Hid ((z * 4294967296 + u0) / (h * 4294967296 + l) = T2))
    (HU : Hid (u < h * 4294967296 + l)) (HZ : Hid (z < h * 4294967296 + l)) (hT10 : 0 ≤ T1) (hT1 : T1 < 4294967296) (hT20 : 0 ≤ T2) (hT2 : T2 < 4294967296)
    (HS1 : Hid (DigRel h u T1 (4294967296 - r1).toNat g1 r1)) (HS2 : Hid (DigRel h z T2 (4294967296 - r2).toNat g2 r2)) 
    (HQ : Hid (T1 * 4294967296 + T2 = q)) :
    Calls Tryd.prog 58 #[.int .u64 hi, .int .u64 lo, .int .u64 y] w (Quot q w) := by
  have hy0 : (y == 0) = false := by simp; omega
  have hy1 : decide (y ≤ hi) = false := by simp; omega
  have hi0 : (hi == 0) = false := by simp; omega
  go_enter Tryd.func58, Tryd.ntmps58
  go_wp2_with fail
  refine (HLZ.out _).mono ?_
  rintro e w1 ⟨rfl, rfl⟩
  go_wp2
  go_loopg [15, 16] (4294967296 - r1).toNat (fun g v k wr => ∃ a r : Int, v = .int .u64 a ∧ k = .int .u64 r ∧ DigRel h u T1 g a r ∧ wr = w1)
  case atStart => exact ⟨g1, r1, rfl, rfl, HS1.out, rfl⟩
  case round =>
    obtain ⟨a, r, rfl, rfl, ⟨hg, hr0, hr, har, hTa, ha⟩, rfl⟩ := hrel
    have hround := dig_roundI HT1.out HU.out hu10 hu1 hl0 hl (by omega) har hr0 hT10 hTa ha
    have HG := Lib.hid hg
    have HAR := Lib.hid har
    have HN : Hid ((a - 1) * h + (r + h) = u) := Lib.hid (by rw [Int.sub_mul, Int.one_mul]; omega)
    clear hg har
    clear F1 F2 F3 F4 F5 F6 F7 _G1 G1' G2 h0 h1 _h2 _h3 _h4 hy0 hy1 hi0
    rcases hround with ⟨k1, k2, k3⟩ | ⟨k1, k2, k3, k4⟩ | ⟨k1, k2, k3⟩ | ⟨k1, k2, k3, k4⟩ | ⟨k1, k2, k3⟩
    · go_wp2
      go_roundg (gk - h.toNat)
      case measure => have := HG.out; omega
      case rel => exact ⟨a - 1, r + h, rfl, rfl, ⟨by have := HG.out; omega, by omega, by omega, HN.out, by omega, by omega⟩, rfl⟩
    · obtain ⟨m, hm⟩ : ∃ m, a * l = m := ⟨_, rfl⟩
      obtain ⟨pm1, pm2⟩ := prod_fits (show 0 ≤ a by omega) ha hl0 hl
      rw [hm] at k3 pm1 pm2
      have hm3 : IntKind.u64.wrap (a * l) = m := by rw [hm, IntKind.wrap_u64]; omega
      clear hm
      go_wp2
      go_roundg (gk - h.toNat)
      case measure => have := HG.out; omega
      case rel => exact ⟨a - 1, r + h, rfl, rfl, ⟨by have := HG.out; omega, by omega, by omega, HN.out, by omega, by omega⟩, rfl⟩
    · obtain rfl : a = T1 + 1 := k1
      go_wp2
      clear HN HAR HG
      go_loopg [18, 16] (4294967296 - r2).toNat (fun g v k wr2 => ∃ a r : Int, v = .int .u64 a ∧ k = .int .u64 r ∧ DigRel h z T2 g a r ∧ wr2 = wr)
      case atStart => exact ⟨g2, r2, rfl, rfl, HS2.out, rfl⟩
      case round =>
        obtain ⟨b, t, rfl, rfl, ⟨hg, ht0, ht, hbt, hTb, hb⟩, rfl⟩ := hrel
        have hround := dig_roundI HT2.out HZ.out hu00 hu0 hl0 hl (by omega) hbt ht0 hT20 hTb hb
        have HG := Lib.hid hg
        have HN : Hid ((b - 1) * h + (t + h) = z) := Lib.hid (by rw [Int.sub_mul, Int.one_mul]; omega)
        clear hg hbt G3 _G4 G4' G5
        rcases hround with ⟨j1, j2, j3⟩ | ⟨j1, j2, j3, j4⟩ | ⟨j1, j2, j3⟩ | ⟨j1, j2, j3, j4⟩ | ⟨j1, j2, j3⟩
        · go_wp2
          go_roundg (gk - h.toNat)
          case measure => have := HG.out; omega
          case rel => exact ⟨b - 1, t + h, rfl, rfl, ⟨by have := HG.out; omega, by omega, by omega, HN.out, by omega, by omega⟩, rfl⟩
        · skip
          obtain ⟨mb, hmb⟩ : ∃ mb, b * l = mb := ⟨_, rfl⟩
          obtain ⟨pm1b, pm2b⟩ := prod_fits (show 0 ≤ b by omega) (show b ≤ 4294967297 by omega) hl0 hl
          rw [hmb] at j3 pm1b pm2b
          have hm3b : IntKind.u64.wrap (b * l) = mb := by rw [hmb, IntKind.wrap_u64]; omega
          clear hmb
          go_wp2
          go_roundg (gk - h.toNat)
          case measure => have := HG.out; omega
          case rel => exact ⟨b - 1, t + h, rfl, rfl, ⟨by have := HG.out; omega, by omega, by omega, HN.out, by omega, by omega⟩, rfl⟩
        · clear HN HG
          obtain rfl : b = T2 + 1 := j1
          go_wp2
          go_ret2
          exact ⟨⟨_, by rw [← HQ.out]; rfl⟩, Below.refl _ _⟩
        · clear HN HG
          obtain ⟨mb, hmb⟩ : ∃ mb, b * l = mb := ⟨_, rfl⟩
          obtain ⟨pm1b, pm2b⟩ := prod_fits (show 0 ≤ b by omega) (show b ≤ 4294967297 by omega) hl0 hl
          rw [hmb] at j3 pm1b pm2b
          have hm3b : IntKind.u64.wrap (b * l) = mb := by rw [hmb, IntKind.wrap_u64]; omega
          clear hmb
          obtain rfl : b = T2 + 1 := j1
          go_wp2
          go_ret2
          exact ⟨⟨_, by rw [← HQ.out]; rfl⟩, Below.refl _ _⟩
        · clear HN HG
          obtain ⟨mb, hmb⟩ : ∃ mb, b * l = mb := ⟨_, rfl⟩
          obtain ⟨pm1b, pm2b⟩ := prod_fits (show 0 ≤ b by omega) (show b ≤ 4294967297 by omega) hl0 hl
          rw [hmb] at j3 pm1b pm2b
          have hm3b : IntKind.u64.wrap (b * l) = mb := by rw [hmb, IntKind.wrap_u64]; omega
          clear hmb
          obtain rfl : b = T2 := j1
          go_wp2
          go_ret2
          exact ⟨⟨_, by rw [← HQ.out]; rfl⟩, Below.refl _ _⟩
    · skip
      obtain ⟨ma, hma⟩ : ∃ ma, a * l = ma := ⟨_, rfl⟩
      obtain ⟨pm1a, pm2a⟩ := prod_fits (show 0 ≤ a by omega) (show a ≤ 4294967297 by omega) hl0 hl
      rw [hma] at k3 pm1a pm2a
      have hm3a : IntKind.u64.wrap (a * l) = ma := by rw [hma, IntKind.wrap_u64]; omega
      clear hma
      obtain rfl : a = T1 + 1 := k1
      go_wp2
      clear HN HAR HG
      go_loopg [18, 16] (4294967296 - r2).toNat (fun g v k wr2 => ∃ a r : Int, v = .int .u64 a ∧ k = .int .u64 r ∧ DigRel h z T2 g a r ∧ wr2 = wr)
      case atStart => exact ⟨g2, r2, rfl, rfl, HS2.out, rfl⟩
      case round =>
        obtain ⟨b, t, rfl, rfl, ⟨hg, ht0, ht, hbt, hTb, hb⟩, rfl⟩ := hrel
        have hround := dig_roundI HT2.out HZ.out hu00 hu0 hl0 hl (by omega) hbt ht0 hT20 hTb hb
        have HG := Lib.hid hg
        have HN : Hid ((b - 1) * h + (t + h) = z) := Lib.hid (by rw [Int.sub_mul, Int.one_mul]; omega)
        clear hg hbt G3 _G4 G4' G5
        rcases hround with ⟨j1, j2, j3⟩ | ⟨j1, j2, j3, j4⟩ | ⟨j1, j2, j3⟩ | ⟨j1, j2, j3, j4⟩ | ⟨j1, j2, j3⟩
        · go_wp2
          go_roundg (gk - h.toNat)
          case measure => have := HG.out; omega
          case rel => exact ⟨b - 1, t + h, rfl, rfl, ⟨by have := HG.out; omega, by omega, by omega, HN.out, by omega, by omega⟩, rfl⟩
        · skip
          obtain ⟨mb, hmb⟩ : ∃ mb, b * l = mb := ⟨_, rfl⟩
          obtain ⟨pm1b, pm2b⟩ := prod_fits (show 0 ≤ b by omega) (show b ≤ 4294967297 by omega) hl0 hl
          rw [hmb] at j3 pm1b pm2b
          have hm3b : IntKind.u64.wrap (b * l) = mb := by rw [hmb, IntKind.wrap_u64]; omega
          clear hmb
          go_wp2
          go_roundg (gk - h.toNat)
          case measure => have := HG.out; omega
          case rel => exact ⟨b - 1, t + h, rfl, rfl, ⟨by have := HG.out; omega, by omega, by omega, HN.out, by omega, by omega⟩, rfl⟩
        · clear HN HG
          obtain rfl : b = T2 + 1 := j1
          go_wp2
          go_ret2
          exact ⟨⟨_, by rw [← HQ.out]; rfl⟩, Below.refl _ _⟩
        · clear HN HG
          obtain ⟨mb, hmb⟩ : ∃ mb, b * l = mb := ⟨_, rfl⟩
          obtain ⟨pm1b, pm2b⟩ := prod_fits (show 0 ≤ b by omega) (show b ≤ 4294967297 by omega) hl0 hl
          rw [hmb] at j3 pm1b pm2b
          have hm3b : IntKind.u64.wrap (b * l) = mb := by rw [hmb, IntKind.wrap_u64]; omega
          clear hmb
          obtain rfl : b = T2 + 1 := j1
          go_wp2
          go_ret2
          exact ⟨⟨_, by rw [← HQ.out]; rfl⟩, Below.refl _ _⟩
        · clear HN HG
          obtain ⟨mb, hmb⟩ : ∃ mb, b * l = mb := ⟨_, rfl⟩
          obtain ⟨pm1b, pm2b⟩ := prod_fits (show 0 ≤ b by omega) (show b ≤ 4294967297 by omega) hl0 hl
          rw [hmb] at j3 pm1b pm2b
          have hm3b : IntKind.u64.wrap (b * l) = mb := by rw [hmb, IntKind.wrap_u64]; omega
          clear hmb
          obtain rfl : b = T2 := j1
          go_wp2
          go_ret2
          exact ⟨⟨_, by rw [← HQ.out]; rfl⟩, Below.refl _ _⟩
    · skip
      obtain ⟨ma, hma⟩ : ∃ ma, a * l = ma := ⟨_, rfl⟩
      obtain ⟨pm1a, pm2a⟩ := prod_fits (show 0 ≤ a by omega) (show a ≤ 4294967297 by omega) hl0 hl
      rw [hma] at k3 pm1a pm2a
      have hm3a : IntKind.u64.wrap (a * l) = ma := by rw [hma, IntKind.wrap_u64]; omega
      clear hma
      obtain rfl : a = T1 := k1
      go_wp2
      clear HN HAR HG
      go_loopg [18, 16] (4294967296 - r2).toNat (fun g v k wr2 => ∃ a r : Int, v = .int .u64 a ∧ k = .int .u64 r ∧ DigRel h z T2 g a r ∧ wr2 = wr)
      case atStart => exact ⟨g2, r2, rfl, rfl, HS2.out, rfl⟩
      case round =>
        obtain ⟨b, t, rfl, rfl, ⟨hg, ht0, ht, hbt, hTb, hb⟩, rfl⟩ := hrel
        have hround := dig_roundI HT2.out HZ.out hu00 hu0 hl0 hl (by omega) hbt ht0 hT20 hTb hb
        have HG := Lib.hid hg
        have HN : Hid ((b - 1) * h + (t + h) = z) := Lib.hid (by rw [Int.sub_mul, Int.one_mul]; omega)
        clear hg hbt G3 _G4 G4' G5
        rcases hround with ⟨j1, j2, j3⟩ | ⟨j1, j2, j3, j4⟩ | ⟨j1, j2, j3⟩ | ⟨j1, j2, j3, j4⟩ | ⟨j1, j2, j3⟩
        · go_wp2
          go_roundg (gk - h.toNat)
          case measure => have := HG.out; omega
          case rel => exact ⟨b - 1, t + h, rfl, rfl, ⟨by have := HG.out; omega, by omega, by omega, HN.out, by omega, by omega⟩, rfl⟩
        · skip
          obtain ⟨mb, hmb⟩ : ∃ mb, b * l = mb := ⟨_, rfl⟩
          obtain ⟨pm1b, pm2b⟩ := prod_fits (show 0 ≤ b by omega) (show b ≤ 4294967297 by omega) hl0 hl
          rw [hmb] at j3 pm1b pm2b
          have hm3b : IntKind.u64.wrap (b * l) = mb := by rw [hmb, IntKind.wrap_u64]; omega
          clear hmb
          go_wp2
          go_roundg (gk - h.toNat)
          case measure => have := HG.out; omega
          case rel => exact ⟨b - 1, t + h, rfl, rfl, ⟨by have := HG.out; omega, by omega, by omega, HN.out, by omega, by omega⟩, rfl⟩
        · clear HN HG
          obtain rfl : b = T2 + 1 := j1
          go_wp2
          go_ret2
          exact ⟨⟨_, by rw [← HQ.out]; rfl⟩, Below.refl _ _⟩
        · clear HN HG
          obtain ⟨mb, hmb⟩ : ∃ mb, b * l = mb := ⟨_, rfl⟩
          obtain ⟨pm1b, pm2b⟩ := prod_fits (show 0 ≤ b by omega) (show b ≤ 4294967297 by omega) hl0 hl
          rw [hmb] at j3 pm1b pm2b
          have hm3b : IntKind.u64.wrap (b * l) = mb := by rw [hmb, IntKind.wrap_u64]; omega
          clear hmb
          obtain rfl : b = T2 + 1 := j1
          go_wp2
          go_ret2
          exact ⟨⟨_, by rw [← HQ.out]; rfl⟩, Below.refl _ _⟩
        · clear HN HG
          obtain ⟨mb, hmb⟩ : ∃ mb, b * l = mb := ⟨_, rfl⟩
          obtain ⟨pm1b, pm2b⟩ := prod_fits (show 0 ≤ b by omega) (show b ≤ 4294967297 by omega) hl0 hl
          rw [hmb] at j3 pm1b pm2b
          have hm3b : IntKind.u64.wrap (b * l) = mb := by rw [hmb, IntKind.wrap_u64]; omega
          clear hmb
          obtain rfl : b = T2 := j1
          go_wp2
          go_ret2
          exact ⟨⟨_, by rw [← HQ.out]; rfl⟩, Below.refl _ _⟩

end Go.Proofs.YteddnomneeonhaaDoor
