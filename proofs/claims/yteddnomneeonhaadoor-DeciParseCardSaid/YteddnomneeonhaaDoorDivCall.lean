/-
  math/bits.Div64 by its contract: the quotient, and some rest. Condition: the high word is below the divisor, which is below 2 to the 63.
-/
import Derived.Test.YteddnomneeonhaaDoorDiv
import Derived.BigQuiet
import Derived.Deep.QuietTactic
import Derived.Laws.Bits64b
namespace Go.Proofs.YteddnomneeonhaaDoor
open Go.RowKit Go.Lib

theorem below_drewN (w : World) (n : Nat) : Below w.heap.size w (w.drewN n) := ⟨rfl, rfl, rfl, Nat.le_refl _, fun _ _ => rfl⟩

theorem maskN (a : Nat) (ha : a < 18446744073709551616) : bits .and .u64 (a : Int) 4294967295 = ((a % 4294967296 : Nat) : Int) := by
  have h := bits_and_u64_nat a 4294967295 ha (by omega)
  have e : a &&& 4294967295 = a % 4294967296 := Nat.and_two_pow_sub_one_eq_mod a 32
  rw [e] at h
  exact h
theorem wrapN (a : Nat) (ha : a < 18446744073709551616) : IntKind.u64.wrap (a : Int) = (a : Int) := by rw [IntKind.wrap_u64]; omega
theorem wrapM (a : Nat) : IntKind.u64.wrap (a : Int) = ((a % 18446744073709551616 : Nat) : Int) := by rw [IntKind.wrap_u64]; omega
theorem pow_cast (a s : Nat) : (a : Int) * 2 ^ s = ((a * 2 ^ s : Nat) : Int) := by simp
theorem div_cast (a k : Nat) : (a : Int) / 2 ^ k = ((a / 2 ^ k : Nat) : Int) := by simp [Int.natCast_ediv]

theorem or_parts (a b s : Nat) (hb : b < 2 ^ s) : (a * 2 ^ s) ||| b = a * 2 ^ s + b := by
  have := Nat.two_pow_add_eq_or_of_lt hb a
  rw [Nat.mul_comm a, ← this]

/-- The low word, turned by s: what goes over, and what stays. -/
theorem low_split (lo s : Nat) (hs : s ≤ 63) (hlo : lo < 18446744073709551616) : lo * 2 ^ s = lo / 2 ^ (64 - s) * 18446744073709551616 + lo * 2 ^ s % 18446744073709551616 ∧ lo / 2 ^ (64 - s) < 2 ^ s := by
  have hp : 2 ^ (64 - s) * 2 ^ s = 18446744073709551616 := by rw [← Nat.pow_add, show 64 - s + s = 64 by omega]
  have hs0 : 0 < 2 ^ s := Nat.pow_pos (by decide)
  have hk0 : 0 < 2 ^ (64 - s) := Nat.pow_pos (by decide)
  have e : lo * 2 ^ s / 18446744073709551616 = lo / 2 ^ (64 - s) := by
    rw [← hp, Nat.mul_div_mul_right _ _ hs0]
  refine ⟨?_, ?_⟩
  · rw [← e]
    have := Nat.div_add_mod (lo * 2 ^ s) 18446744073709551616
    omega
  · rw [Nat.div_lt_iff_lt_mul hk0, Nat.mul_comm, hp]
    exact hlo

theorem digRel_start {h u l n T : Nat} (hu : u < h * 4294967296 + l) (hn : n < 4294967296) (hl : l < 4294967296) (hh : 2147483648 ≤ h) (hh2 : h < 4294967296) (hT : (u * 4294967296 + n) / (h * 4294967296 + l) = T) :
    DigRel (h : Int) (u : Int) (T : Int) ((4294967296 - ((u % h : Nat) : Int)).toNat) ((u / h : Nat) : Int) ((u % h : Nat) : Int) := by
  have hm : u % h < h := Nat.mod_lt _ (by omega)
  have hd : u / h * h + u % h = u := by rw [Nat.mul_comm]; exact Nat.div_add_mod u h
  have hf : T ≤ u / h := by
    rcases dig_first (u := u) (n := n) (l := l) (show 0 < h by omega) with h1 | h1
    · rwa [hT] at h1
    · omega
  have hg := dig_guess hu hl hh
  refine ⟨by omega, by omega, by omega, ?_, by omega, by omega⟩
  rw [← Int.natCast_mul, ← Int.natCast_add, hd]

theorem wrap_rest {u h : Nat} (hu : u < 18446744073709551616) : IntKind.u64.wrap ((u : Int) - IntKind.u64.wrap (((u / h : Nat) : Int) * (h : Int))) = ((u % h : Nat) : Int) := by
  have hd := Nat.div_add_mod u h
  have hc : ((u / h : Nat) : Int) * (h : Int) = ((h * (u / h) : Nat) : Int) := by rw [← Int.natCast_mul, Nat.mul_comm]
  rw [hc, IntKind.wrap_u64, IntKind.wrap_u64]
  generalize h * (u / h) = p at *
  omega

theorem wrap_next {u u1 Y : Nat} (hY : Y < 18446744073709551616) (h0 : 0 < Y) : IntKind.u64.wrap (IntKind.u64.wrap (IntKind.u64.wrap ((u : Int) * 4294967296) + (u1 : Int)) - IntKind.u64.wrap ((((u * 4294967296 + u1) / Y : Nat) : Int) * (Y : Int))) = (((u * 4294967296 + u1) % Y : Nat) : Int) := by
  have hd := Nat.div_add_mod (u * 4294967296 + u1) Y
  have hm := Nat.mod_lt (u * 4294967296 + u1) h0
  have hc : (((u * 4294967296 + u1) / Y : Nat) : Int) * (Y : Int) = ((Y * ((u * 4294967296 + u1) / Y) : Nat) : Int) := by rw [← Int.natCast_mul, Nat.mul_comm]
  rw [hc]
  simp only [IntKind.wrap_u64]
  generalize Y * ((u * 4294967296 + u1) / Y) = p at *
  generalize (u * 4294967296 + u1) % Y = r at *
  omega

theorem num_turn (hi lo p x o L l1 l2 B C : Nat) (hx : hi * p = x) (hlow : lo * p = o * B + L) (hL : l1 * C + l2 = L) (hB : B = C * C) : (hi * B + lo) * p = ((x + o) * C + l1) * C + l2 := by
  subst hx hB hL
  rw [Nat.add_mul, hlow]
  simp only [Nat.add_mul, Nat.mul_assoc, Nat.mul_comm p]
  omega

theorem div_calls (hi lo y : Nat) (w : World) (h0 : 0 < hi) (h1 : hi < y) (h2 : y < 9223372036854775808) (h3 : lo < 18446744073709551616) :
    Calls Tryd.prog 58 #[.int .u64 hi, .int .u64 lo, .int .u64 y] w (Quot (((hi * 18446744073709551616 + lo) / y : Nat) : Int) w) := by
  obtain ⟨s, hs, hs1, hs2, hs3, hs4⟩ := norm_bits (show 0 < y by omega) h2
  obtain ⟨hlow, hlow2⟩ := low_split lo s (by omega) h3
  have hs0 : 0 < 2 ^ s := Nat.pow_pos (by decide)
  obtain ⟨Y, hY⟩ : ∃ Y, y * 2 ^ s = Y := ⟨_, rfl⟩
  obtain ⟨o, ho⟩ : ∃ o, lo / 2 ^ (64 - s) = o := ⟨_, rfl⟩
  obtain ⟨L, hL⟩ : ∃ L, lo * 2 ^ s % 18446744073709551616 = L := ⟨_, rfl⟩
  obtain ⟨x, hx⟩ : ∃ x, hi * 2 ^ s = x := ⟨_, rfl⟩
  have hLb : L < 18446744073709551616 := by rw [← hL]; exact Nat.mod_lt _ (by decide)
  have hxY : x + 2 ^ s ≤ Y := by
    have : (hi + 1) * 2 ^ s ≤ y * 2 ^ s := Nat.mul_le_mul_right _ h1
    rw [Nat.add_mul, Nat.one_mul, hx, hY] at this
    exact this
  rw [hY] at hs3 hs4
  rw [ho, hL] at hlow
  rw [ho] at hlow2
  have hYd := Nat.div_add_mod Y 4294967296
  have hLd := Nat.div_add_mod L 4294967296
  have hh1 : Y / 4294967296 * 4294967296 + Y % 4294967296 = Y := by rw [Nat.mul_comm]; exact hYd
  have hLd1 : L / 4294967296 * 4294967296 + L % 4294967296 = L := by rw [Nat.mul_comm]; exact hLd
  have hu : x + o < Y := by omega
  -- the quotient of the turned numbers
  have hquo : (hi * 18446744073709551616 + lo) / y = ((x + o) * 4294967296 + L / 4294967296) / Y * 4294967296 + (((x + o) * 4294967296 + L / 4294967296) % Y * 4294967296 + L % 4294967296) / Y := by
    have hnum : (hi * 18446744073709551616 + lo) * 2 ^ s = ((x + o) * 4294967296 + L / 4294967296) * 4294967296 + L % 4294967296 := by
      exact num_turn hi lo (2 ^ s) x o L _ _ 18446744073709551616 4294967296 hx hlow hLd1 rfl
    have h5 : (hi * 18446744073709551616 + lo) * 2 ^ s / (y * 2 ^ s) = (hi * 18446744073709551616 + lo) / y := Nat.mul_div_mul_right _ _ hs0
    rw [← h5, hnum, hY]
    exact two_digits _ _ _ (by omega)
  rw [hquo]
  have hzlt : ((x + o) * 4294967296 + L / 4294967296) % Y < Y := Nat.mod_lt _ (by omega)
  have hT1 : ((x + o) * 4294967296 + L / 4294967296) / Y < 4294967296 := by
    have := dig_top (u := x + o) (n := L / 4294967296) (h := Y / 4294967296) (l := Y % 4294967296) (by rw [hh1]; exact hu) (by omega)
    rwa [hh1] at this
  have hT2 : (((x + o) * 4294967296 + L / 4294967296) % Y * 4294967296 + L % 4294967296) / Y < 4294967296 := by
    have := dig_top (u := ((x + o) * 4294967296 + L / 4294967296) % Y) (n := L % 4294967296) (h := Y / 4294967296) (l := Y % 4294967296) (by rw [hh1]; exact hzlt) (by omega)
    rwa [hh1] at this
  have hlz := fun W => Tryd.bits_LeadingZeros64 (y : Int) W (by omega) (by omega)
  rw [show ((y : Int)).toNat = y from rfl, hs] at hlz
  have e1 := digRel_start (u := x + o) (n := L / 4294967296) (h := Y / 4294967296) (l := Y % 4294967296) (by rw [hh1]; exact hu) (by omega) (by omega) (by omega) (by omega) (T := ((x + o) * 4294967296 + L / 4294967296) / Y) (by rw [hh1])
  have e2 := digRel_start (u := ((x + o) * 4294967296 + L / 4294967296) % Y) (n := L % 4294967296) (h := Y / 4294967296) (l := Y % 4294967296) (by rw [hh1]; exact hzlt) (by omega) (by omega) (by omega) (by omega) (T := (((x + o) * 4294967296 + L / 4294967296) % Y * 4294967296 + L % 4294967296) / Y) (by rw [hh1])
  have g3 := wrap_next (u := x + o) (u1 := L / 4294967296) (Y := Y) (by omega) (by omega)
  have f4 : bits .or .u64 (IntKind.u64.wrap ((hi : Int) * 2 ^ s)) ((lo : Int) / 2 ^ (64 - s)) = ((x + o : Nat) : Int) := by
    rw [pow_cast, hx, wrapN x (by omega), div_cast, ho, bits_or_u64_nat x o (by omega) (by omega), ← hx, or_parts hi o s hlow2]
  obtain ⟨u, hud⟩ : ∃ u, x + o = u := ⟨_, rfl⟩
  rw [hud] at g3 e1 e2 f4 hzlt hT1 hT2 hu ⊢
  obtain ⟨z, hz⟩ : ∃ z, (u * 4294967296 + L / 4294967296) % Y = z := ⟨_, rfl⟩
  rw [hz] at g3 e2 hzlt hT2 ⊢
  obtain ⟨T1, hT1d⟩ : ∃ T1, (u * 4294967296 + L / 4294967296) / Y = T1 := ⟨_, rfl⟩
  rw [hT1d] at g3 e1 hT1 ⊢
  obtain ⟨T2, hT2d⟩ : ∃ T2, (z * 4294967296 + L % 4294967296) / Y = T2 := ⟨_, rfl⟩
  rw [hT2d] at e2 hT2 ⊢
  have hh2 : Y / 4294967296 < 4294967296 := by omega
  have hh3 : 2147483648 ≤ Y / 4294967296 := by omega
  have hYc : ((Y / 4294967296 : Nat) : Int) * 4294967296 + ((Y % 4294967296 : Nat) : Int) = (Y : Int) := by omega
  refine div_walk (hi : Int) (lo : Int) (y : Int) (Y : Int) ((Y / 4294967296 : Nat) : Int) ((Y % 4294967296 : Nat) : Int) (u : Int) (L : Int) ((L / 4294967296 : Nat) : Int) ((L % 4294967296 : Nat) : Int)
    ((u / (Y / 4294967296) : Nat) : Int) ((u % (Y / 4294967296) : Nat) : Int) (T1 : Int) (z : Int) ((z / (Y / 4294967296) : Nat) : Int) ((z % (Y / 4294967296) : Nat) : Int) (T2 : Int) _ s w
    (by omega) (by omega) (by omega) (by omega) (by omega) hs1 hs2 (Lib.hid hlz) ?_ ?_ ?_ f4 ?_ ?_ ?_ (by omega) (by omega) (by omega) (by omega) (by omega) (by omega) (by omega) (by omega) (by omega) (by omega)
    ?_ ?_ ?_ ?_ g3 ?_ ?_ (Lib.hid ?_) (Lib.hid ?_) (Lib.hid ?_) (Lib.hid ?_) (by omega) (by omega) (by omega) (by omega) (Lib.hid e1) (Lib.hid e2) (Lib.hid ?_)
  · rw [pow_cast, hY, wrapN Y (by omega)]
  · omega
  · exact maskN Y (by omega)
  · rw [pow_cast, wrapM, hL]
  · omega
  · exact maskN L hLb
  · rw [← Int.natCast_ediv, wrapN _ (Nat.lt_of_le_of_lt (Nat.div_le_self _ _) (by omega))]
  · rw [← Int.ofNat_tdiv, wrapN _ (Nat.lt_of_le_of_lt (Nat.div_le_self _ _) (by omega))]
  · rw [← Int.ofNat_tdiv, wrapN _ (Nat.lt_of_le_of_lt (Nat.div_le_self _ _) (by omega))]
  · exact wrap_rest (by omega)
  · rw [← Int.natCast_ediv, wrapN _ (Nat.lt_of_le_of_lt (Nat.div_le_self _ _) (by omega))]
  · exact wrap_rest (by omega)
  · rw [hYc, ← hT1d]; simp [Int.natCast_ediv]
  · rw [hYc, ← hT2d]; simp [Int.natCast_ediv]
  · rw [hYc]; omega
  · rw [hYc]; omega
  · omega

/-- Where the high word is 0. -/
theorem div_low (lo y : Nat) (w : World) (h1 : 0 < y) (h2 : y < 9223372036854775808) (h3 : lo < 18446744073709551616) :
    Calls Tryd.prog 58 #[.int .u64 0, .int .u64 lo, .int .u64 y] w (Quot (((lo / y : Nat)) : Int) w) := by
  obtain ⟨a, ha⟩ : ∃ a : Int, (lo : Int) = a := ⟨_, rfl⟩
  obtain ⟨b, hb⟩ : ∃ b : Int, (y : Int) = b := ⟨_, rfl⟩
  obtain ⟨c, hc⟩ : ∃ c : Int, ((lo / y : Nat) : Int) = c := ⟨_, rfl⟩
  have hdiv : a / b = c := by rw [← ha, ← hb, ← hc]; simp [Int.natCast_ediv]
  have hc1 : c ≤ a := by rw [← hc, ← ha]; exact Int.ofNat_le.2 (Nat.div_le_self _ _)
  have hc0 : 0 ≤ c := by rw [← hc]; exact Int.natCast_nonneg _
  rw [ha, hb, hc]
  have hb1 : 1 ≤ b := by omega
  have hb2 : b < 9223372036854775808 := by omega
  have ha0 : 0 ≤ a := by omega
  have ha1 : a < 18446744073709551616 := by omega
  have hy0 : (b == 0) = false := by simp; omega
  have hy1 : decide (b ≤ 0) = false := by simp; omega
  clear ha hb hc h1 h2 h3
  go_enter Tryd.func58, Tryd.ntmps58
  go_wp2
  go_quiet (fail)
  go_wp2
  go_ret2
  exact ⟨⟨_, by rw [← hdiv]; rfl⟩, below_drewN _ _⟩

end Go.Proofs.YteddnomneeonhaaDoor
