/-
  The reference's Next: of the widths 1 to 4 the first at which the value's own bytes stand. Condition: the slice's cells are there. The reference's Next and the program's are one function of the bytes: what decodes is what its own bytes stand for. Condition: each is a byte.
-/
import Derived.Test.YtfonflbpkbibbaaGreatDoorEnc2
import Derived.Test.YtfonflbpkbibbaaGreatDoorNext
namespace Go.Proofs.YtfonflbpkbibbaaGreatDoor
open Go.RowKit Go.Lib

def md (n : Nat) : Nat := if n = 2 then 32 else if n = 3 then 16 else if n = 4 then 8 else 256

/-- The value of the first k of n bytes from a place on. -/
def vAt (f : Nat → Nat) (p n : Nat) : Nat → Nat
  | 0 => 0
  | 1 => f p % md n
  | k + 2 => vAt f p n (k + 1) * 64 + f (p + (k + 1)) % 64

theorem vAt_lt (f : Nat → Nat) (p n : Nat) : ∀ k, vAt f p n (k + 1) < 256 * 64 ^ k
  | 0 => by
    have : md n ≤ 256 := by unfold md; (repeat' split) <;> omega
    have h0 : 0 < md n := by unfold md; (repeat' split) <;> omega
    have := Nat.mod_lt (f p) h0
    simp only [vAt]
    omega
  | k + 1 => by
    have ih := vAt_lt f p n k
    have := Nat.mod_lt (f (p + (k + 1))) (show 0 < 64 by omega)
    simp only [vAt, Nat.pow_succ] at *
    omega

theorem vAt_small {f : Nat → Nat} {p n k : Nat} (hk : k ≤ 4) : vAt f p n k < 67108864 := by
  rcases (show k = 0 ∨ k = 1 ∨ k = 2 ∨ k = 3 ∨ k = 4 from by omega) with rfl | rfl | rfl | rfl | rfl
  · simp [vAt]
  · exact Nat.lt_of_lt_of_le (vAt_lt f p n 0) (by decide)
  · exact Nat.lt_of_lt_of_le (vAt_lt f p n 1) (by decide)
  · exact Nat.lt_of_lt_of_le (vAt_lt f p n 2) (by decide)
  · exact Nat.lt_of_lt_of_le (vAt_lt f p n 3) (by decide)

def sameTo (l : List Nat) (f : Nat → Nat) (p : Nat) : Nat → Bool
  | 0 => true
  | k + 1 => sameTo l f p k && (nth l k == f (p + k))

/-- The value of n bytes, if XML has it and these are its bytes. -/
def fits (f : Nat → Nat) (p n : Nat) : Bool :=
  (encL (vAt f p n n)).length == n && inTab charsT (vAt f p n n) && sameTo (encL (vAt f p n n)) f p n

def refFrom (f : Nat → Nat) (N p : Nat) : Nat → Nat → Nat × Nat
  | 0, _ => (0, 0)
  | g + 1, n => if p + n ≤ N then (if fits f p n = true then (vAt f p n n, n) else refFrom f N p g (n + 1)) else (0, 0)

theorem natBeq (x y : Nat) : ((x : Int) == (y : Int)) = (x == y) := by
  rw [Bool.eq_iff_iff, beq_iff_eq, beq_iff_eq]
  omega

set_option maxRecDepth 100000 in
set_option maxHeartbeats 8000000 in
theorem refNext_in (b o c N k : Nat) (f : Nat → Nat) (w : World) (hf : ∀ i, f i < 256) (hN : N ≤ 9223372036854775800) (hk : k < N) (hcell : ∀ i, i < N → w.cell? ⟨b, o + i, none⟩ = some (.int .u8 (f i))) :
    Calls Tryz.prog 86 #[.slice (some ⟨b, o, none⟩) N c, .int .i64 k] w (Leaves (runeOf (refFrom f N k 4 1)) w) := by
  have hd0 : decide ((k : Int) < 0) = false := by simp
  have hd1 : decide ((k : Int) ≥ (N : Int)) = false := by simp; omega
  have hd1b : decide (N ≤ k) = false := by simp; omega
  obtain ⟨q, hq⟩ : ∃ q, refFrom f N k 4 1 = q := ⟨_, rfl⟩
  rw [hq]
  have HQ := Lib.hid hq
  have HC := Lib.hid hcell
  have HF := Lib.hid hf
  clear hq hcell hf
  go_enter Tryz.func86, Tryz.ntmps86
  go_wp2
  go_loopg [6] 4 (fun g s wr => ∃ n : Nat, s = .int .i64 n ∧ 1 ≤ n ∧ g + n = 5 ∧ Below w.heap.size w wr ∧ refFrom f N k g n = q)
  case atStart => exact ⟨1, rfl, Nat.le_refl _, rfl, Below.refl _ _, HQ.out⟩
  case round =>
    obtain ⟨n, rfl, hn1, hg, hb, hr⟩ := hrel
    have HG := Lib.hid hg
    have HB := Lib.hid hb
    have HR := Lib.hid hr
    clear hg hb hr HQ
    by_cases hn4 : n ≤ 4
    · have hd2 : decide ((n : Int) ≤ 4) = true := by simp; omega
      obtain ⟨g', rfl⟩ : ∃ g', gk = g' + 1 := ⟨gk - 1, by have := HG.out; omega⟩
      by_cases hend : k + n ≤ N
      · have hd3 : decide ((k : Int) + (n : Int) ≤ (N : Int)) = true := by simp; omega
        have k0 := cell_below HB.out (HC.out k hk)
        have l0 := HF.out k
        have hkN : (k : Int) < (N : Int) := by omega
        rcases (show n = 1 ∨ n = 2 ∨ n = 3 ∨ n = 4 from by omega) with h | h | h | h
        all_goals
          have e2 : ((n : Int) == 2) = decide (n = 2) := by rw [Bool.eq_iff_iff]; simp; omega
          have e3 : ((n : Int) == 3) = decide (n = 3) := by rw [Bool.eq_iff_iff]; simp; omega
          have e4 : ((n : Int) == 4) = decide (n = 4) := by rw [Bool.eq_iff_iff]; simp; omega
          simp only [h, Nat.reduceEqDiff, decide_true, decide_false] at e2 e3 e4
          go_wp2
          go_loopg [7, 8] n (fun g2 v s wr2 => ∃ j : Nat, v = .int .i64 (vAt f k n j) ∧ s = .int .i64 j ∧ 1 ≤ j ∧ j ≤ n ∧ g2 + j = n + 1 ∧ wr2 = wr)
          case atStart => exact ⟨1, by simp [vAt, md, h]; try omega, rfl, Nat.le_refl _, hn1, rfl, rfl⟩
          case round =>
            obtain ⟨j, rfl, rfl, hj1, hjn0, hg2, rfl⟩ := hrel
            have HG2 := Lib.hid hg2
            clear hg2
            have hvs := vAt_small (f := f) (p := k) (n := n) (k := j) (by omega)
            by_cases hjn : j < n
            · have hdj : decide ((j : Int) < (n : Int)) = true := by simp; omega
              have kj := cell_below HB.out (HC.out (k + j) (by omega))
              have lj := HF.out (k + j)
              have hkj : (k : Int) + (j : Int) < (N : Int) := by omega
              obtain ⟨v, hv⟩ : ∃ v, vAt f k n j = v := ⟨_, rfl⟩
              rw [hv] at hvs ⊢
              have HV := Lib.hid hv
              clear hv
              first
                | (exfalso; omega)
                | (go_wp2
                   go_roundg (gk - 1)
                   case measure => have := HG2.out; omega
                   case rel => exact ⟨j + 1, by have := HV.out; obtain ⟨j', rfl⟩ : ∃ j', j = j' + 1 := ⟨j - 1, by omega⟩; simp [vAt, this], by go_num, by omega, by omega, by have := HG2.out; omega, rfl⟩)
            · have hdj : decide ((j : Int) < (n : Int)) = false := by simp; omega
              have hjn2 : j = n := by omega
              subst hjn2
              obtain ⟨v, hv⟩ : ∃ v, vAt f k j j = v := ⟨_, rfl⟩
              obtain ⟨l, hl⟩ : ∃ l, encL v = l := ⟨_, rfl⟩
              have HFT : Hid ((l.length == j && inTab charsT v && sameTo l f k j) = fits f k j) := by
                refine Lib.hid ?_
                rw [← hl, ← hv]
                rfl
              have hRR : (if fits f k j = true then (v, j) else refFrom f N k g' (j + 1)) = q := by
                have := HR.out
                rw [refFrom, if_pos hend, hv] at this
                exact this
              have HRR := Lib.hid hRR
              have hl4 := encL_len (v : Int)
              rw [hv] at hvs ⊢
              have HV := Lib.hid hv
              clear hv hRR
              go_wp2_with fail
              refine (refEncode_calls (v : Int) _ (by omega) (by omega)).mono ?_
              rintro e w2 ⟨a, cc, rfl, hlc, hcc, hrow, hb2⟩
              rw [hl] at hl4 hlc hrow ⊢
              have HL := Lib.hid hl
              have HB2 := Lib.hid hb2
              have HROW := Lib.hid hrow
              clear hl hb2 hrow
              have next : Hid (fits f k j = false → refFrom f N k g' (j + 1) = q) := Lib.hid fun h0 => by
                have := HRR.out
                rw [if_neg (by rw [h0]; exact Bool.false_ne_true)] at this
                exact this
              by_cases hlen : l.length = j
              · have hdl : ((l.length : Int) != (j : Int)) = false := by simp [hlen]
                go_wp2_with fail
                refine (refChar_calls (v : Int) _).mono ?_
                rintro e w3 ⟨rfl, rfl⟩
                obtain ⟨x, hx⟩ : ∃ x, inTab charsT (v : Int) = x := ⟨_, rfl⟩
                rw [hx]
                have HX := Lib.hid hx
                clear hx
                cases x with
                | false =>
                  go_wp2
                  go_roundg g'
                  case measure => omega
                  case rel => exact ⟨j + 1, by go_num, by omega, by have := HG.out; omega, below_then HB.out HB2.out, next.out (by rw [← HFT.out, HX.out]; simp)⟩
                | true =>
                  go_wp2
                  go_loopg [10, 11] j (fun g3 sm s wr3 => ∃ i : Nat, sm = .bool (sameTo l f k i) ∧ s = .int .i64 i ∧ g3 + i = j ∧ Below w.heap.size w wr3 ∧ Below w3.heap.size w3 wr3)
                  case atStart => exact ⟨0, rfl, rfl, rfl, below_then HB.out HB2.out, Below.refl _ _⟩
                  case round =>
                    obtain ⟨i, rfl, rfl, hg3, hb3, hb4⟩ := hrel
                    have HG3 := Lib.hid hg3
                    have HB3 := Lib.hid hb3
                    have HB4 := Lib.hid hb4
                    clear hg3 hb3 hb4
                    by_cases hij : i < j
                    · have hdi : decide ((i : Int) < (j : Int)) = true := by simp; omega
                      obtain ⟨y, hy⟩ : ∃ y, sameTo l f k i = y := ⟨_, rfl⟩
                      rw [hy]
                      have HY := Lib.hid hy
                      clear hy
                      cases y with
                      | true =>
                        obtain ⟨hfl, _, hrw⟩ := HROW.out
                        rcases hrw with h0 | ⟨eb, eo, rfl, hec⟩
                        · omega
                        have ke := cell_below HB4.out (hec i (by omega))
                        have le := hfl i
                        have ki := cell_below HB3.out (HC.out (k + i) (by omega))
                        have li := HF.out (k + i)
                        have hki : (k : Int) + (i : Int) < (N : Int) := by omega
                        have hil : (i : Int) < (l.length : Int) := by omega
                        clear hfl hec
                        go_wp2
                        go_quiet (fail)
                        go_wp2
                        go_roundg (gk - 1)
                        case measure => have := HG3.out; omega
                        case rel => exact ⟨i + 1, by rw [sameTo, HY.out, Bool.true_and, natBeq], by go_num, by have := HG3.out; omega, below_drewNv HB3.out _, below_drewNv HB4.out _⟩
                      | false =>
                        go_wp2
                        go_quiet (fail)
                        go_wp2
                        go_roundg (gk - 1)
                        case measure => have := HG3.out; omega
                        case rel => exact ⟨i + 1, by rw [sameTo, HY.out, Bool.false_and], by go_num, by have := HG3.out; omega, below_drewNv HB3.out _, below_drewNv HB4.out _⟩
                    · have hdi : decide ((i : Int) < (j : Int)) = false := by simp; omega
                      have hii : i = j := by have := HG3.out; omega
                      subst hii
                      obtain ⟨y, hy⟩ : ∃ y, sameTo l f k i = y := ⟨_, rfl⟩
                      rw [hy]
                      have HY := Lib.hid hy
                      clear hy
                      cases y with
                      | true =>
                        go_wp2
                        go_ret2
                        refine ⟨?_, HB3.out⟩
                        have := HRR.out
                        rw [if_pos (by rw [← HFT.out, HX.out, HY.out]; simp [hlen])] at this
                        rw [← this]
                        simp only [runeOf]
                        rw [h]
                        rfl
                      | false =>
                        go_wp2
                        go_roundg g'
                        case measure => omega
                        case rel => exact ⟨i + 1, by go_num, by omega, by have := HG.out; omega, HB3.out, next.out (by rw [← HFT.out, HY.out]; simp)⟩
              · have hdl : ((l.length : Int) != (j : Int)) = true := by simp; omega
                go_wp2
                go_roundg g'
                case measure => omega
                case rel => exact ⟨j + 1, by go_num, by omega, by have := HG.out; omega, below_then HB.out HB2.out, next.out (by rw [← HFT.out]; simp [hlen])⟩
      · have hd3 : decide ((k : Int) + (n : Int) ≤ (N : Int)) = false := by simp; omega
        go_wp2
        go_ret2
        refine ⟨?_, HB.out⟩
        have := HR.out
        rw [refFrom, if_neg hend] at this
        rw [← this]
        rfl
    · have hd2 : decide ((n : Int) ≤ 4) = false := by simp; omega
      have : gk = 0 := by have := HG.out; omega
      subst this
      go_wp2
      go_ret2
      refine ⟨?_, HB.out⟩
      have := HR.out
      rw [refFrom] at this
      rw [← this]
      rfl
end Go.Proofs.YtfonflbpkbibbaaGreatDoor
namespace Go.Proofs.YtfonflbpkbibbaaGreatDoor
set_option linter.unusedVariables false
open Go.RowKit Go.Lib

theorem chars_nat (m : Nat) : (inTab charsT (m : Int) = true) ↔ (m = 9 ∨ m = 10 ∨ m = 13 ∨ (32 ≤ m ∧ m ≤ 55295) ∨ (57344 ≤ m ∧ m ≤ 65533) ∨ (65536 ≤ m ∧ m ≤ 1114111)) := by
  simp only [inTab, charsT, List.any_cons, List.any_nil, inPair, Bool.or_false, Bool.or_eq_true, Bool.and_eq_true, decide_eq_true_eq]
  omega

theorem encL_nat (m : Nat) : encL (m : Int) = encN m := by
  unfold encL
  rw [if_neg (by omega), Int.toNat_natCast]

/-- The bytes of n are those of v. -/
theorem enc_is (v n b0 b1 b2 b3 : Nat) (g : Nat → Nat) (hg0 : g 0 = b0) (hg1 : g 1 = b1) (hg2 : g 2 = b2) (hg3 : g 3 = b3) :
    ((encN v).length = n ∧ ∀ i, i < n → nth (encN v) i = g i) ↔
      (n = 0 ∧ (1114111 < v ∨ (55296 ≤ v ∧ v ≤ 57343))) ∨
      (n = 1 ∧ v < 128 ∧ b0 = v) ∨
      (n = 2 ∧ 128 ≤ v ∧ v < 2048 ∧ b0 = 192 + v / 64 ∧ b1 = 128 + v % 64) ∨
      (n = 3 ∧ 2048 ≤ v ∧ v < 65536 ∧ ¬ (55296 ≤ v ∧ v ≤ 57343) ∧ b0 = 224 + v / 4096 ∧ b1 = 128 + v / 64 % 64 ∧ b2 = 128 + v % 64) ∨
      (n = 4 ∧ 65536 ≤ v ∧ v ≤ 1114111 ∧ b0 = 240 + v / 262144 ∧ b1 = 128 + v / 4096 % 64 ∧ b2 = 128 + v / 64 % 64 ∧ b3 = 128 + v % 64) := by
  have all1 : (∀ i, i < 1 → nth (encN v) i = g i) ↔ nth (encN v) 0 = g 0 := ⟨fun h => h 0 (by omega), fun h i hi => by
    rcases (show i = 0 from by omega) with rfl
    exact h⟩
  have all2 : (∀ i, i < 2 → nth (encN v) i = g i) ↔ (nth (encN v) 0 = g 0 ∧ nth (encN v) 1 = g 1) := ⟨fun h => ⟨h 0 (by omega), h 1 (by omega)⟩, fun h i hi => by
    rcases (show i = 0 ∨ i = 1 from by omega) with rfl | rfl
    · exact h.1
    · exact h.2⟩
  have all3 : (∀ i, i < 3 → nth (encN v) i = g i) ↔ (nth (encN v) 0 = g 0 ∧ nth (encN v) 1 = g 1 ∧ nth (encN v) 2 = g 2) := ⟨fun h => ⟨h 0 (by omega), h 1 (by omega), h 2 (by omega)⟩, fun h i hi => by
    rcases (show i = 0 ∨ i = 1 ∨ i = 2 from by omega) with rfl | rfl | rfl
    · exact h.1
    · exact h.2.1
    · exact h.2.2⟩
  have all4 : (∀ i, i < 4 → nth (encN v) i = g i) ↔ (nth (encN v) 0 = g 0 ∧ nth (encN v) 1 = g 1 ∧ nth (encN v) 2 = g 2 ∧ nth (encN v) 3 = g 3) := ⟨fun h => ⟨h 0 (by omega), h 1 (by omega), h 2 (by omega), h 3 (by omega)⟩, fun h i hi => by
    rcases (show i = 0 ∨ i = 1 ∨ i = 2 ∨ i = 3 from by omega) with rfl | rfl | rfl | rfl
    · exact h.1
    · exact h.2.1
    · exact h.2.2.1
    · exact h.2.2.2⟩
  rw [hg0] at all1 all2 all3 all4
  rw [hg1] at all2 all3 all4
  rw [hg2] at all3 all4
  rw [hg3] at all4
  have key : ∀ m, (encN v).length = m → (((encN v).length = n ∧ ∀ i, i < n → nth (encN v) i = g i) ↔ (n = m ∧ ∀ i, i < m → nth (encN v) i = g i)) := fun m hm => by
    rw [hm]
    constructor
    · rintro ⟨rfl, h⟩
      exact ⟨rfl, h⟩
    · rintro ⟨rfl, h⟩
      exact ⟨rfl, h⟩
  by_cases c0 : 1114111 < v ∨ (55296 ≤ v ∧ v ≤ 57343)
  · have he : encN v = [] := by unfold encN; rw [if_pos c0]
    rw [key 0 (by rw [he]; rfl)]
    constructor
    · rintro ⟨h, _⟩
      exact Or.inl ⟨h, c0⟩
    · intro h
      exact ⟨by omega, fun i hi => by omega⟩
  · by_cases c1 : v < 128
    · have he : encN v = [v] := by unfold encN; rw [if_neg c0, if_pos c1]
      rw [key 1 (by rw [he]; rfl), all1, he]
      simp only [nth, List.getD_cons_zero]
      omega
    · by_cases c2 : v < 2048
      · have he : encN v = [192 + v / 64, 128 + v % 64] := by unfold encN; rw [if_neg c0, if_neg c1, if_pos c2]
        rw [key 2 (by rw [he]; rfl), all2, he]
        simp only [nth, List.getD_cons_zero, List.getD_cons_succ]
        omega
      · by_cases c3 : v < 65536
        · have he : encN v = [224 + v / 4096, 128 + v / 64 % 64, 128 + v % 64] := by unfold encN; rw [if_neg c0, if_neg c1, if_neg c2, if_pos c3]
          rw [key 3 (by rw [he]; rfl), all3, he]
          simp only [nth, List.getD_cons_zero, List.getD_cons_succ]
          omega
        · have he : encN v = [240 + v / 262144, 128 + v / 4096 % 64, 128 + v / 64 % 64, 128 + v % 64] := by unfold encN; rw [if_neg c0, if_neg c1, if_neg c2, if_neg c3]
          rw [key 4 (by rw [he]; rfl), all4, he]
          simp only [nth, List.getD_cons_zero, List.getD_cons_succ]
          omega

theorem sameTo_iff (l : List Nat) (f : Nat → Nat) (p : Nat) : ∀ n, sameTo l f p n = true ↔ ∀ i, i < n → nth l i = f (p + i)
  | 0 => by simp [sameTo]
  | n + 1 => by
    rw [sameTo, Bool.and_eq_true, sameTo_iff l f p n, beq_iff_eq]
    constructor
    · rintro ⟨h, h2⟩ i hi
      by_cases hin : i = n
      · rw [hin]; exact h2
      · exact h i (by omega)
    · intro h
      exact ⟨fun i hi => h i (by omega), h n (by omega)⟩

theorem fits_iff (f : Nat → Nat) (p n : Nat) : fits f p n = true ↔ (inTab charsT (vAt f p n n) = true ∧ ((encN (vAt f p n n)).length = n ∧ ∀ i, i < n → nth (encN (vAt f p n n)) i = f (p + i))) := by
  unfold fits
  rw [encL_nat, Bool.and_eq_true, Bool.and_eq_true, beq_iff_eq, sameTo_iff]
  constructor
  · rintro ⟨⟨h1, h2⟩, h3⟩
    exact ⟨h2, h1, h3⟩
  · rintro ⟨h2, h1, h3⟩
    exact ⟨⟨h1, h2⟩, h3⟩

theorem v1 (f : Nat → Nat) (p : Nat) : vAt f p 1 1 = f p % 256 := by simp [vAt, md]
theorem v2 (f : Nat → Nat) (p : Nat) : vAt f p 2 2 = f p % 32 * 64 + f (p + 1) % 64 := by simp [vAt, md]
theorem v3 (f : Nat → Nat) (p : Nat) : vAt f p 3 3 = (f p % 16 * 64 + f (p + 1) % 64) * 64 + f (p + 2) % 64 := by simp [vAt, md]
theorem v4 (f : Nat → Nat) (p : Nat) : vAt f p 4 4 = ((f p % 8 * 64 + f (p + 1) % 64) * 64 + f (p + 2) % 64) * 64 + f (p + 3) % 64 := by simp [vAt, md]

theorem fits_1 (f : Nat → Nat) (p x0 x1 x2 x3 : Nat) (h0 : f p = x0) (h1 : f (p + 1) = x1) (h2 : f (p + 2) = x2) (h3 : f (p + 3) = x3) (l0 : x0 < 256) (l1 : x1 < 256) (l2 : x2 < 256) (l3 : x3 < 256) :
    fits f p 1 = true ↔ (x0 < 128) ∧ inTab charsT ((x0 : Nat) : Int) = true := by
  have hv : vAt f p 1 1 = x0 := by rw [v1, h0]; omega
  rw [fits_iff, hv, enc_is x0 1 x0 x1 x2 x3 (fun i => f (p + i)) h0 h1 h2 h3]
  constructor
  · rintro ⟨hc, h⟩
    exact ⟨by omega, hc⟩
  · rintro ⟨h, hc⟩
    exact ⟨hc, by omega⟩

theorem fits_2 (f : Nat → Nat) (p x0 x1 x2 x3 : Nat) (h0 : f p = x0) (h1 : f (p + 1) = x1) (h2 : f (p + 2) = x2) (h3 : f (p + 3) = x3) (l0 : x0 < 256) (l1 : x1 < 256) (l2 : x2 < 256) (l3 : x3 < 256) :
    fits f p 2 = true ↔ (x0 / 32 = 6 ∧ x1 / 64 = 2 ∧ (x0 % 32 * 64 + x1 % 64) ≥ 128) ∧ inTab charsT (((x0 % 32 * 64 + x1 % 64) : Nat) : Int) = true := by
  have hv : vAt f p 2 2 = (x0 % 32 * 64 + x1 % 64) := by rw [v2, h0, h1]
  rw [fits_iff, hv, enc_is (x0 % 32 * 64 + x1 % 64) 2 x0 x1 x2 x3 (fun i => f (p + i)) h0 h1 h2 h3]
  constructor
  · rintro ⟨hc, h⟩
    exact ⟨by omega, hc⟩
  · rintro ⟨h, hc⟩
    exact ⟨hc, by omega⟩

theorem fits_3 (f : Nat → Nat) (p x0 x1 x2 x3 : Nat) (h0 : f p = x0) (h1 : f (p + 1) = x1) (h2 : f (p + 2) = x2) (h3 : f (p + 3) = x3) (l0 : x0 < 256) (l1 : x1 < 256) (l2 : x2 < 256) (l3 : x3 < 256) :
    fits f p 3 = true ↔ (x0 / 16 = 14 ∧ x1 / 64 = 2 ∧ x2 / 64 = 2 ∧ (x0 % 16 * 4096 + x1 % 64 * 64 + x2 % 64) ≥ 2048 ∧ ¬ (55296 ≤ (x0 % 16 * 4096 + x1 % 64 * 64 + x2 % 64) ∧ (x0 % 16 * 4096 + x1 % 64 * 64 + x2 % 64) ≤ 57343)) ∧ inTab charsT (((x0 % 16 * 4096 + x1 % 64 * 64 + x2 % 64) : Nat) : Int) = true := by
  have hv : vAt f p 3 3 = (x0 % 16 * 4096 + x1 % 64 * 64 + x2 % 64) := by rw [v3, h0, h1, h2]; omega
  rw [fits_iff, hv, enc_is (x0 % 16 * 4096 + x1 % 64 * 64 + x2 % 64) 3 x0 x1 x2 x3 (fun i => f (p + i)) h0 h1 h2 h3]
  obtain ⟨v, hvv⟩ : ∃ v, (x0 % 16 * 4096 + x1 % 64 * 64 + x2 % 64) = v := ⟨_, rfl⟩
  rw [hvv]
  have q0 : v / 4096 = x0 % 16 := by omega
  have q1 : v / 64 % 64 = x1 % 64 := by omega
  have q2 : v % 64 = x2 % 64 := by omega
  clear hvv hv h0 h1 h2 h3
  simp only [q0, q1, q2, Nat.reduceEqDiff, show ((3 : Nat) = 0) = False from by simp, false_and, false_or, or_false, true_and]
  constructor
  · rintro ⟨hc, h⟩
    exact ⟨by omega, hc⟩
  · rintro ⟨h, hc⟩
    exact ⟨hc, by omega⟩

theorem fits_4 (f : Nat → Nat) (p x0 x1 x2 x3 : Nat) (h0 : f p = x0) (h1 : f (p + 1) = x1) (h2 : f (p + 2) = x2) (h3 : f (p + 3) = x3) (l0 : x0 < 256) (l1 : x1 < 256) (l2 : x2 < 256) (l3 : x3 < 256) :
    fits f p 4 = true ↔ (x0 / 8 = 30 ∧ x1 / 64 = 2 ∧ x2 / 64 = 2 ∧ x3 / 64 = 2 ∧ (x0 % 8 * 262144 + x1 % 64 * 4096 + x2 % 64 * 64 + x3 % 64) ≥ 65536 ∧ (x0 % 8 * 262144 + x1 % 64 * 4096 + x2 % 64 * 64 + x3 % 64) ≤ 1114111) ∧ inTab charsT (((x0 % 8 * 262144 + x1 % 64 * 4096 + x2 % 64 * 64 + x3 % 64) : Nat) : Int) = true := by
  have hv : vAt f p 4 4 = (x0 % 8 * 262144 + x1 % 64 * 4096 + x2 % 64 * 64 + x3 % 64) := by rw [v4, h0, h1, h2, h3]; omega
  rw [fits_iff, hv, enc_is (x0 % 8 * 262144 + x1 % 64 * 4096 + x2 % 64 * 64 + x3 % 64) 4 x0 x1 x2 x3 (fun i => f (p + i)) h0 h1 h2 h3]
  obtain ⟨v, hvv⟩ : ∃ v, (x0 % 8 * 262144 + x1 % 64 * 4096 + x2 % 64 * 64 + x3 % 64) = v := ⟨_, rfl⟩
  rw [hvv]
  have q0 : v / 262144 = x0 % 8 := by omega
  have q1 : v / 4096 % 64 = x1 % 64 := by omega
  have q2 : v / 64 % 64 = x2 % 64 := by omega
  have q3 : v % 64 = x3 % 64 := by omega
  clear hvv hv h0 h1 h2 h3
  simp only [q0, q1, q2, q3, Nat.reduceEqDiff, show ((4 : Nat) = 0) = False from by simp, false_and, false_or, true_and]
  constructor
  · rintro ⟨hc, h⟩
    exact ⟨by omega, hc⟩
  · rintro ⟨h, hc⟩
    exact ⟨hc, by omega⟩

theorem ref_is_nx (f : Nat → Nat) (N k : Nat) (hk : k < N) (hf : ∀ i, f i < 256) : refFrom f N k 4 1 = nx f N k := by
  obtain ⟨x0, h0⟩ : ∃ x, f k = x := ⟨_, rfl⟩
  obtain ⟨x1, h1⟩ : ∃ x, f (k + 1) = x := ⟨_, rfl⟩
  obtain ⟨x2, h2⟩ : ∃ x, f (k + 2) = x := ⟨_, rfl⟩
  obtain ⟨x3, h3⟩ : ∃ x, f (k + 3) = x := ⟨_, rfl⟩
  have l0 : x0 < 256 := h0 ▸ hf k
  have l1 : x1 < 256 := h1 ▸ hf (k + 1)
  have l2 : x2 < 256 := h2 ▸ hf (k + 2)
  have l3 : x3 < 256 := h3 ▸ hf (k + 3)
  have e1 := fits_1 f k x0 x1 x2 x3 h0 h1 h2 h3 l0 l1 l2 l3
  have e2 := fits_2 f k x0 x1 x2 x3 h0 h1 h2 h3 l0 l1 l2 l3
  have e3 := fits_3 f k x0 x1 x2 x3 h0 h1 h2 h3 l0 l1 l2 l3
  have e4 := fits_4 f k x0 x1 x2 x3 h0 h1 h2 h3 l0 l1 l2 l3
  have w1 : vAt f k 1 1 = x0 := by rw [v1, h0]; omega
  have w2 : vAt f k 2 2 = x0 % 32 * 64 + x1 % 64 := by rw [v2, h0, h1]
  have w3 : vAt f k 3 3 = x0 % 16 * 4096 + x1 % 64 * 64 + x2 % 64 := by rw [v3, h0, h1, h2]; omega
  have w4 : vAt f k 4 4 = x0 % 8 * 262144 + x1 % 64 * 4096 + x2 % 64 * 64 + x3 % 64 := by rw [v4, h0, h1, h2, h3]; omega
  unfold nx
  simp only [refFrom, Nat.reduceAdd, w1, w2, w3, w4, h0, h1, h2, h3]
  generalize fits f k 1 = F1 at *
  generalize fits f k 2 = F2 at *
  generalize fits f k 3 = F3 at *
  generalize fits f k 4 = F4 at *
  obtain ⟨d, hd⟩ : ∃ d, decodeN (N - k) x0 x1 x2 x3 = d := ⟨_, rfl⟩
  rw [hd]
  have hnn : 1 ≤ N - k := by omega
  have a1 : (k + 1 ≤ N) = (0 < N - k) := propext ⟨fun h => by omega, fun h => by omega⟩
  have a2 : (k + 2 ≤ N) = (1 < N - k) := propext ⟨fun h => by omega, fun h => by omega⟩
  have a3 : (k + 3 ≤ N) = (2 < N - k) := propext ⟨fun h => by omega, fun h => by omega⟩
  have a4 : (k + 4 ≤ N) = (3 < N - k) := propext ⟨fun h => by omega, fun h => by omega⟩
  simp only [a1, a2, a3, a4]
  generalize N - k = m at *
  rw [if_pos (show 0 < m by omega)]
  unfold decodeN at hd
  clear h0 h1 h2 h3 w1 w2 w3 w4 a1 a2 a3 a4 hk hf
  by_cases c1 : x0 < 128
  · rw [if_pos c1] at hd
    subst hd
    have f2 : F2 = false := by cases F2 with | false => rfl | true => have := e2.1 rfl; omega
    have f3 : F3 = false := by cases F3 with | false => rfl | true => have := e3.1 rfl; omega
    have f4 : F4 = false := by cases F4 with | false => rfl | true => have := e4.1 rfl; omega
    subst f2 f3 f4
    simp only [Bool.false_eq_true, if_false, ite_self]
    by_cases ht : inTab charsT (x0 : Int) = true
    · rw [if_pos (e1.2 ⟨c1, ht⟩), if_pos ⟨ht, by omega⟩]
    · rw [if_neg (fun h => ht (e1.1 h).2), if_neg (fun h => ht h.1)]
  · have f1 : F1 = false := by cases F1 with | false => rfl | true => have := e1.1 rfl; omega
    subst f1
    rw [if_neg c1] at hd
    simp only [Bool.false_eq_true, if_false]
    by_cases c2 : x0 / 32 = 6 ∧ (1 < m ∧ x1 / 64 = 2)
    · rw [if_pos c2] at hd
      have f3 : F3 = false := by cases F3 with | false => rfl | true => have := e3.1 rfl; omega
      have f4 : F4 = false := by cases F4 with | false => rfl | true => have := e4.1 rfl; omega
      subst f3 f4
      simp only [Bool.false_eq_true, if_false, ite_self]
      rw [if_pos c2.2.1]
      by_cases g2 : x0 % 32 * 64 + x1 % 64 ≥ 128
      · rw [if_pos g2] at hd
        subst hd
        by_cases ht : inTab charsT ((x0 % 32 * 64 + x1 % 64 : Nat) : Int) = true
        · rw [if_pos (e2.2 ⟨⟨c2.1, c2.2.2, g2⟩, ht⟩), if_pos ⟨ht, fun h => absurd h.2 (by simp)⟩]
        · rw [if_neg (fun h => ht (e2.1 h).2), if_neg (fun h => ht h.1)]
      · rw [if_neg g2] at hd
        subst hd
        rw [if_neg (fun h => g2 (e2.1 h).1.2.2), if_neg (fun h => h.2 ⟨rfl, rfl⟩)]
    · rw [if_neg c2] at hd
      by_cases c3 : x0 / 16 = 14 ∧ (1 < m ∧ x1 / 64 = 2) ∧ (2 < m ∧ x2 / 64 = 2)
      · rw [if_pos c3] at hd
        have f2 : F2 = false := by cases F2 with | false => rfl | true => have := e2.1 rfl; omega
        have f4 : F4 = false := by cases F4 with | false => rfl | true => have := e4.1 rfl; omega
        subst f2 f4
        simp only [Bool.false_eq_true, if_false, ite_self]
        rw [if_pos c3.2.1.1, if_pos c3.2.2.1]
        by_cases g3 : x0 % 16 * 4096 + x1 % 64 * 64 + x2 % 64 ≥ 2048 ∧ (x0 % 16 * 4096 + x1 % 64 * 64 + x2 % 64 < 55296 ∨ (57344 ≤ x0 % 16 * 4096 + x1 % 64 * 64 + x2 % 64 ∧ x0 % 16 * 4096 + x1 % 64 * 64 + x2 % 64 ≤ 1114111))
        · rw [if_pos g3] at hd
          subst hd
          by_cases ht : inTab charsT ((x0 % 16 * 4096 + x1 % 64 * 64 + x2 % 64 : Nat) : Int) = true
          · rw [if_pos (e3.2 ⟨⟨c3.1, c3.2.1.2, c3.2.2.2, g3.1, by omega⟩, ht⟩), if_pos ⟨ht, fun h => absurd h.2 (by simp)⟩]
          · rw [if_neg (fun h => ht (e3.1 h).2), if_neg (fun h => ht h.1)]
        · rw [if_neg g3] at hd
          subst hd
          rw [if_neg (fun h => g3 (by have := (e3.1 h).1; omega)), if_neg (fun h => h.2 ⟨rfl, rfl⟩)]
      · rw [if_neg c3] at hd
        by_cases c4 : x0 / 8 = 30 ∧ (1 < m ∧ x1 / 64 = 2) ∧ (2 < m ∧ x2 / 64 = 2) ∧ (3 < m ∧ x3 / 64 = 2)
        · rw [if_pos c4] at hd
          have f2 : F2 = false := by cases F2 with | false => rfl | true => have := e2.1 rfl; omega
          have f3 : F3 = false := by cases F3 with | false => rfl | true => have := e3.1 rfl; omega
          subst f2 f3
          simp only [Bool.false_eq_true, if_false]
          rw [if_pos c4.2.1.1, if_pos c4.2.2.1.1, if_pos c4.2.2.2.1]
          by_cases g4 : x0 % 8 * 262144 + x1 % 64 * 4096 + x2 % 64 * 64 + x3 % 64 ≥ 65536 ∧ (x0 % 8 * 262144 + x1 % 64 * 4096 + x2 % 64 * 64 + x3 % 64 < 55296 ∨ (57344 ≤ x0 % 8 * 262144 + x1 % 64 * 4096 + x2 % 64 * 64 + x3 % 64 ∧ x0 % 8 * 262144 + x1 % 64 * 4096 + x2 % 64 * 64 + x3 % 64 ≤ 1114111))
          · rw [if_pos g4] at hd
            subst hd
            by_cases ht : inTab charsT ((x0 % 8 * 262144 + x1 % 64 * 4096 + x2 % 64 * 64 + x3 % 64 : Nat) : Int) = true
            · rw [if_pos (e4.2 ⟨⟨c4.1, c4.2.1.2, c4.2.2.1.2, c4.2.2.2.2, g4.1, by omega⟩, ht⟩), if_pos ⟨ht, fun h => absurd h.2 (by simp)⟩]
            · rw [if_neg (fun h => ht (e4.1 h).2), if_neg (fun h => ht h.1)]
          · rw [if_neg g4] at hd
            subst hd
            rw [if_neg (fun h => g4 (by have := (e4.1 h).1; omega)), if_neg (fun h => h.2 ⟨rfl, rfl⟩)]
        · rw [if_neg c4] at hd
          subst hd
          have hz : (if inTab charsT ((65533 : Nat) : Int) = true ∧ ¬ ((65533 : Nat) = 65533 ∧ (1 : Nat) = 1) then ((65533 : Nat), (1 : Nat)) else (0, 0)) = (0, 0) := if_neg (fun h => h.2 ⟨rfl, rfl⟩)
          have n2 : 1 < m → ¬ F2 = true := fun h h2 => c2 ⟨(e2.1 h2).1.1, h, (e2.1 h2).1.2.1⟩
          have n3 : 2 < m → ¬ F3 = true := fun h h3 => c3 ⟨(e3.1 h3).1.1, ⟨by omega, (e3.1 h3).1.2.1⟩, h, (e3.1 h3).1.2.2.1⟩
          have n4 : 3 < m → ¬ F4 = true := fun h h4 => c4 ⟨(e4.1 h4).1.1, ⟨by omega, (e4.1 h4).1.2.1⟩, ⟨by omega, (e4.1 h4).1.2.2.1⟩, h, (e4.1 h4).1.2.2.2.1⟩
          by_cases m1 : 1 < m
          · rw [if_pos m1, if_neg (n2 m1)]
            by_cases m2 : 2 < m
            · rw [if_pos m2, if_neg (n3 m2)]
              by_cases m3 : 3 < m
              · rw [if_pos m3, if_neg (n4 m3)]
                exact hz.symm
              · rw [if_neg m3]
                exact hz.symm
            · rw [if_neg m2]
              exact hz.symm
          · rw [if_neg m1]
            exact hz.symm

end Go.Proofs.YtfonflbpkbibbaaGreatDoor
