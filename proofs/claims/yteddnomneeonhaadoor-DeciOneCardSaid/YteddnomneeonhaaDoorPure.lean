/-
  Plain numbers: what the document says of sum, difference, product, quotient, rest, floor, ceiling and order of decimal numbers, as functions of integers; what follows of them. No program, no condition.
-/
namespace Go.Proofs.YteddnomneeonhaaDoor

structure Num where
  nan : Bool
  v : Int
deriving DecidableEq

def nanN : Num := ⟨true, 0⟩
def zeroN : Num := ⟨false, 0⟩
/-- Beyond the greatest number, either way. -/
def outB (v : Int) : Bool := decide (1000000000000000 < v) || decide (v < -1000000000000000)
def oddN (a : Num) : Bool := a.nan || outB a.v
def fitP (v : Int) : Num × Int := if outB v = true then (zeroN, 66) else (⟨false, v⟩, 0)
def sgnd (neg : Bool) (n : Nat) : Int := if neg = true then -(n : Int) else n
def negB (v : Int) : Bool := decide (v < 0)
def odd2 (a b : Num) : Bool := oddN a || oddN b

def addP (a b : Num) : Num × Int := if odd2 a b = true then (nanN, 0) else fitP (a.v + b.v)
def negP (a : Num) : Num := if oddN a = true then nanN else ⟨false, -a.v⟩
def subP (a b : Num) : Num × Int := if odd2 a b = true then (nanN, 0) else fitP (a.v - b.v)
/-- a by b through c, cut off towards 0. -/
def ratioP (a b c : Int) : Num × Int := fitP (sgnd ((negB a != negB b) != negB c) (a.natAbs * b.natAbs / c.natAbs))
def mulP (a b : Num) : Num × Int := if odd2 a b = true then (nanN, 0) else ratioP a.v b.v 1000000
def divP (a b : Num) : Num × Int := if odd2 a b = true then (nanN, 0) else if b.v = 0 then (zeroN, 67) else ratioP a.v 1000000 b.v
def modP (a b : Num) : Num × Int := if odd2 a b = true then (nanN, 0) else if b.v = 0 then (zeroN, 67) else (⟨false, a.v.tmod b.v⟩, 0)
def floorI (v : Int) : Int := v / 1000000 * 1000000
def floorP (a : Num) : Num × Int := if oddN a = true then (nanN, 0) else fitP (floorI a.v)
def ceilP (a : Num) : Num × Int := if oddN a = true then (nanN, 0) else fitP (-floorI (-a.v))
def roundP (a : Num) : Num × Int := if oddN a = true then (nanN, 0) else fitP (floorI (a.v + 500000))
def ofP (n : Int) : Num × Int := if n < -1000000000 ∨ 1000000000 < n then (zeroN, 66) else (⟨false, n * 1000000⟩, 0)
def lessP (a b : Num) : Bool := !odd2 a b && decide (a.v < b.v)
def equalP (a b : Num) : Bool := !odd2 a b && decide (a.v = b.v)

theorem outB_false {v : Int} : outB v = false ↔ (-1000000000000000 ≤ v ∧ v ≤ 1000000000000000) := by
  unfold outB
  simp only [Bool.or_eq_false_iff, decide_eq_false_iff_not]
  omega
theorem outB_true {v : Int} : outB v = true ↔ (1000000000000000 < v ∨ v < -1000000000000000) := by
  unfold outB
  simp only [Bool.or_eq_true, decide_eq_true_eq]
theorem odd2_false {a b : Num} : odd2 a b = false ↔ (oddN a = false ∧ oddN b = false) := by unfold odd2; simp
theorem odd2_comm (a b : Num) : odd2 a b = odd2 b a := Bool.or_comm _ _
theorem oddN_false {a : Num} : oddN a = false ↔ (a.nan = false ∧ -1000000000000000 ≤ a.v ∧ a.v ≤ 1000000000000000) := by
  unfold oddN
  rw [Bool.or_eq_false_iff, outB_false]
theorem fit_ok {v : Int} (h : outB v = false) : fitP v = (⟨false, v⟩, 0) := by unfold fitP; rw [h]; rfl
theorem fit_out {v : Int} (h : outB v = true) : fitP v = (zeroN, 66) := by unfold fitP; rw [h]; rfl
theorem known_eta {a : Num} (h : oddN a = false) : (⟨false, a.v⟩ : Num) = a := by
  obtain ⟨n, v⟩ := a
  have := (oddN_false.1 h).1
  simp only at this
  subst this
  rfl

theorem sgnd_self (v : Int) : sgnd (negB v) v.natAbs = v := by
  unfold sgnd negB
  by_cases h : v < 0
  · rw [if_pos (by simpa using h)]; omega
  · rw [if_neg (by simpa using h)]; omega
theorem outB_sgnd (g : Bool) (n : Nat) : outB (sgnd g n) = decide (1000000000000000 < n) := by
  rw [Bool.eq_iff_iff, outB_true, decide_eq_true_iff]
  cases g <;> simp [sgnd] <;> omega

/-! ### The laws -/
theorem addP_comm (a b : Num) : addP a b = addP b a := by
  unfold addP
  rw [odd2_comm, Int.add_comm]
theorem mulP_comm (a b : Num) : mulP a b = mulP b a := by
  unfold mulP ratioP
  rw [odd2_comm, Nat.mul_comm a.v.natAbs, show (negB a.v != negB b.v) = (negB b.v != negB a.v) from by cases negB a.v <;> cases negB b.v <;> rfl]
theorem odd_add {a b : Num} (h : odd2 a b = true) : addP a b = (nanN, 0) := by unfold addP; rw [h]; rfl
theorem odd_mul {a b : Num} (h : odd2 a b = true) : mulP a b = (nanN, 0) := by unfold mulP; rw [h]; rfl

/-- What is added and taken away again is as it was. -/
theorem back_sub {a b x : Num} (ha : oddN a = false) (hb : oddN b = false) (h : addP a b = (x, 0)) : subP x b = (a, 0) := by
  unfold addP at h
  rw [odd2_false.2 ⟨ha, hb⟩, if_neg (by decide)] at h
  cases ho : outB (a.v + b.v) with
  | true => rw [fit_out ho] at h; simp at h
  | false =>
    rw [fit_ok ho] at h
    have hx : x = ⟨false, a.v + b.v⟩ := (congrArg Prod.fst h).symm
    subst hx
    unfold subP
    have hodd : oddN (⟨false, a.v + b.v⟩ : Num) = false := by unfold oddN; rw [ho]; rfl
    have e : a.v + b.v - b.v = a.v := by omega
    rw [odd2_false.2 ⟨hodd, hb⟩, if_neg (by decide), e, fit_ok (outB_false.2 (oddN_false.1 ha).2), known_eta ha]

theorem mod_known {a b : Num} (ha : oddN a = false) (hb : oddN b = false) (h : b.v ≠ 0) : modP a b = (⟨false, a.v.tmod b.v⟩, 0) := by
  unfold modP
  rw [odd2_false.2 ⟨ha, hb⟩, if_neg (by decide), if_neg h]
theorem mod_zero {a b : Num} (ha : oddN a = false) (hb : oddN b = false) (h : b.v = 0) : modP a b = (zeroN, 67) := by
  unfold modP
  rw [odd2_false.2 ⟨ha, hb⟩, if_neg (by decide), if_pos h]

theorem unit_ratio (v : Int) : ratioP v 1000000 1000000 = fitP v := by
  unfold ratioP
  have e1 : v.natAbs * (1000000 : Int).natAbs / (1000000 : Int).natAbs = v.natAbs := Nat.mul_div_cancel _ (by decide)
  have e2 : ((negB v != negB 1000000) != negB 1000000) = negB v := by
    have : negB 1000000 = false := by decide
    rw [this]
    cases negB v <;> rfl
  rw [e1, e2, sgnd_self]

def oneN : Num := ⟨false, 1000000⟩
theorem one_known : oddN oneN = false := by decide
theorem zero_known : oddN zeroN = false := by decide
theorem mul_one {a : Num} (h : oddN a = false) : mulP a oneN = (a, 0) := by
  unfold mulP
  rw [odd2_false.2 ⟨h, one_known⟩, if_neg (by decide)]
  show ratioP a.v 1000000 1000000 = _
  rw [unit_ratio, fit_ok (outB_false.2 (oddN_false.1 h).2), known_eta h]
theorem div_one {a : Num} (h : oddN a = false) : divP a oneN = (a, 0) := by
  unfold divP
  rw [odd2_false.2 ⟨h, one_known⟩, if_neg (by decide), if_neg (by decide)]
  show ratioP a.v 1000000 1000000 = _
  rw [unit_ratio, fit_ok (outB_false.2 (oddN_false.1 h).2), known_eta h]
theorem add_zero {a : Num} (h : oddN a = false) : addP a zeroN = (a, 0) := by
  unfold addP
  rw [odd2_false.2 ⟨h, zero_known⟩, if_neg (by decide)]
  show fitP (a.v + 0) = _
  rw [Int.add_zero, fit_ok (outB_false.2 (oddN_false.1 h).2), known_eta h]
theorem sub_self {a : Num} (h : oddN a = false) : subP a a = (zeroN, 0) := by
  unfold subP
  rw [odd2_false.2 ⟨h, h⟩, if_neg (by decide), Int.sub_self]
  rfl
theorem neg_neg {a : Num} (h : oddN a = false) : negP (negP a) = a := by
  have hb := (oddN_false.1 h).2
  have hn : oddN (⟨false, -a.v⟩ : Num) = false := oddN_false.2 ⟨rfl, by show _ ≤ -a.v; omega, by show -a.v ≤ _; omega⟩
  have e : negP a = ⟨false, -a.v⟩ := by unfold negP; rw [h]; rfl
  rw [e]
  unfold negP
  rw [hn, if_neg (by decide)]
  show (⟨false, - -a.v⟩ : Num) = a
  rw [Int.neg_neg, known_eta h]
theorem odd_left {a b : Num} (h : oddN a = true) : odd2 a b = true := by unfold odd2; rw [h]; rfl
theorem odd_right {a b : Num} (h : oddN b = true) : odd2 a b = true := by unfold odd2; rw [h, Bool.or_true]
theorem odd_mulP {a b : Num} (h : odd2 a b = true) : mulP a b = (nanN, 0) := by unfold mulP; rw [h]; rfl
theorem odd_divP {a b : Num} (h : odd2 a b = true) : divP a b = (nanN, 0) := by unfold divP; rw [h]; rfl
theorem odd_subP {a b : Num} (h : odd2 a b = true) : subP a b = (nanN, 0) := by unfold subP; rw [h]; rfl

theorem odd_less {a b : Num} (h : odd2 a b = true) : lessP a b = false := by unfold lessP; rw [h]; rfl
theorem odd_equal {a b : Num} (h : odd2 a b = true) : equalP a b = false := by unfold equalP; rw [h]; rfl
theorem less_known {a b : Num} (ha : oddN a = false) (hb : oddN b = false) : lessP a b = decide (a.v < b.v) := by
  unfold lessP; rw [odd2_false.2 ⟨ha, hb⟩]; rfl
theorem equal_known {a b : Num} (ha : oddN a = false) (hb : oddN b = false) : equalP a b = decide (a.v = b.v) := by
  unfold equalP; rw [odd2_false.2 ⟨ha, hb⟩]; rfl

theorem fit_known {v : Int} {x : Num} (h : fitP v = (x, 0)) : x = ⟨false, v⟩ ∧ oddN x = false := by
  cases ho : outB v with
  | true => rw [fit_out ho] at h; simp at h
  | false =>
    rw [fit_ok ho] at h
    have hx : x = ⟨false, v⟩ := (congrArg Prod.fst h).symm
    subst hx
    exact ⟨rfl, by unfold oddN; rw [ho]; rfl⟩
theorem add_known {a b x : Num} (ha : oddN a = false) (hb : oddN b = false) (h : addP a b = (x, 0)) : x = ⟨false, a.v + b.v⟩ ∧ oddN x = false := by
  unfold addP at h
  rw [odd2_false.2 ⟨ha, hb⟩, if_neg (by decide)] at h
  exact fit_known h

/-- What is added to both leaves which is less. -/
theorem less_add {a b c x y : Num} (ha : oddN a = false) (hb : oddN b = false) (hc : oddN c = false) (h1 : addP a c = (x, 0)) (h2 : addP b c = (y, 0)) : lessP x y = lessP a b := by
  obtain ⟨rfl, kx⟩ := add_known ha hc h1
  obtain ⟨rfl, ky⟩ := add_known hb hc h2
  rw [less_known kx ky, less_known ha hb]
  show decide (a.v + c.v < b.v + c.v) = decide (a.v < b.v)
  rw [decide_eq_decide]
  omega
theorem floor_below {a x : Num} (ha : oddN a = false) (h : floorP a = (x, 0)) : lessP a x = false := by
  unfold floorP at h
  rw [ha, if_neg (by decide)] at h
  obtain ⟨rfl, kx⟩ := fit_known h
  rw [less_known ha kx]
  show decide (a.v < floorI a.v) = false
  unfold floorI
  simp
  omega
theorem ceil_above {a x : Num} (ha : oddN a = false) (h : ceilP a = (x, 0)) : lessP x a = false := by
  unfold ceilP at h
  rw [ha, if_neg (by decide)] at h
  obtain ⟨rfl, kx⟩ := fit_known h
  rw [less_known kx ha]
  show decide (-floorI (-a.v) < a.v) = false
  unfold floorI
  simp
  omega

/-! ### The reference's ways -/
/-- The product, whole parts and places apart. -/
theorem mul_parts (x y : Nat) : x * y / 1000000 = x / 1000000 * y + x % 1000000 * (y / 1000000) + x % 1000000 * (y % 1000000) / 1000000 := by
  have hx := Nat.div_add_mod x 1000000
  have hy := Nat.div_add_mod y 1000000
  generalize x / 1000000 = w at *
  generalize x % 1000000 = f at *
  have e : x * y = 1000000 * (w * y + f * (y / 1000000)) + f * (y % 1000000) := by
    rw [← hx, Nat.add_mul, Nat.mul_add, ← Nat.mul_assoc]
    have : f * y = 1000000 * (f * (y / 1000000)) + f * (y % 1000000) := by
      conv => lhs; rw [← hy]
      rw [Nat.mul_add, ← Nat.mul_assoc, ← Nat.mul_assoc, Nat.mul_comm f]
    omega
  rw [e, Nat.mul_add_div (by decide)]

theorem mul_guard {x y : Nat} (hw : 0 < x / 1000000) : 1000000000000000 / (x / 1000000) < y → 1000000000000000 < x * y / 1000000 := by
  intro h
  rw [Nat.div_lt_iff_lt_mul hw] at h
  have h1 := mul_parts x y
  have h2 : y * (x / 1000000) = x / 1000000 * y := Nat.mul_comm _ _
  omega
theorem mul_guard' {x y : Nat} (h : ¬ (0 < x / 1000000 ∧ 1000000000000000 / (x / 1000000) < y)) : x / 1000000 * y ≤ 1000000000000000 := by
  rcases Nat.eq_zero_or_pos (x / 1000000) with h0 | h0
  · rw [h0, Nat.zero_mul]; omega
  · have h1 : ¬ 1000000000000000 / (x / 1000000) < y := fun h2 => h ⟨h0, h2⟩
    have h2 : y ≤ 1000000000000000 / (x / 1000000) := Nat.le_of_not_lt h1
    rw [Nat.le_div_iff_mul_le h0] at h2
    rw [Nat.mul_comm]
    exact h2
/-- One digit more of a quotient. -/
theorem div_digit (x y : Nat) (hy : 0 < y) : x * 10 / y = x / y * 10 + x % y * 10 / y ∧ x * 10 % y = x % y * 10 % y := by
  have h := Nat.div_add_mod x y
  have e : x * 10 = x % y * 10 + y * (x / y * 10) := by
    rw [← Nat.mul_assoc]
    generalize y * (x / y) = z at *
    omega
  constructor
  · rw [e, Nat.add_mul_div_left _ _ hy]
    omega
  · rw [e, Nat.add_mul_mod_self_left]

end Go.Proofs.YteddnomneeonhaaDoor
