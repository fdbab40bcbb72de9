/-
  The reference's Next: of the widths 1 to 4 the first at which the value's own bytes stand. Condition: the slice's cells are there.
-/
import Derived.Test.YtkpgbcackphdbaaDoorEnc2
namespace Go.Proofs.YtkpgbcackphdbaaDoor
open Go.RowKit Go.Lib

theorem below_drewNv {B : Nat} {a w : World} (h : Below B a w) (q : Nat) : Below B a (w.drewN q) := ⟨h.os, h.tape, h.output, h.size, h.block⟩

def md (n : Nat) : Nat := if n = 2 then 32 else if n = 3 then 16 else if n = 4 then 8 else 256

/-- The value of the first k of n bytes from a place on. -/
def vAt (f : Nat → Nat) (p n : Nat) : Nat → Nat
  | 0 => 0
  | 1 => f p % md n
  | k + 2 => vAt f p n (k + 1) * 64 + f (p + (k + 1)) % 64

theorem vAt_lt (f : Nat → Nat) (p n : Nat) : ∀ k, vAt f p n (k + 1) < 256 * 64 ^ k
  | 0 => by
    have : md n ≤ 256 := by unfold md; (repeat' split) <;> omega
    have h0 : 0 < md n := by unfold md; (repeat' split) <;> omega
    have := Nat.mod_lt (f p) h0
    simp only [vAt]
    omega
  | k + 1 => by
    have ih := vAt_lt f p n k
    have := Nat.mod_lt (f (p + (k + 1))) (show 0 < 64 by omega)
    simp only [vAt, Nat.pow_succ] at *
    omega

theorem vAt_small {f : Nat → Nat} {p n k : Nat} (hk : k ≤ 4) : vAt f p n k < 67108864 := by
  rcases (show k = 0 ∨ k = 1 ∨ k = 2 ∨ k = 3 ∨ k = 4 from by omega) with rfl | rfl | rfl | rfl | rfl
  · simp [vAt]
  · exact Nat.lt_of_lt_of_le (vAt_lt f p n 0) (by decide)
  · exact Nat.lt_of_lt_of_le (vAt_lt f p n 1) (by decide)
  · exact Nat.lt_of_lt_of_le (vAt_lt f p n 2) (by decide)
  · exact Nat.lt_of_lt_of_le (vAt_lt f p n 3) (by decide)

def sameTo (l : List Nat) (f : Nat → Nat) (p : Nat) : Nat → Bool
  | 0 => true
  | k + 1 => sameTo l f p k && (nth l k == f (p + k))

/-- The value of n bytes, if XML has it and these are its bytes. -/
def fits (f : Nat → Nat) (p n : Nat) : Bool :=
  (encL (vAt f p n n)).length == n && inTab charsT (vAt f p n n) && sameTo (encL (vAt f p n n)) f p n

def refFrom (f : Nat → Nat) (N p : Nat) : Nat → Nat → Nat × Nat
  | 0, _ => (0, 0)
  | g + 1, n => if p + n ≤ N then (if fits f p n = true then (vAt f p n n, n) else refFrom f N p g (n + 1)) else (0, 0)

theorem natBeq (x y : Nat) : ((x : Int) == (y : Int)) = (x == y) := by
  rw [Bool.eq_iff_iff, beq_iff_eq, beq_iff_eq]
  omega

set_option maxRecDepth 100000 in
set_option maxHeartbeats 8000000 in
theorem refNext_in (b o c N k : Nat) (f : Nat → Nat) (w : World) (hf : ∀ i, f i < 256) (hN : N ≤ 9223372036854775800) (hk : k < N) (hcell : ∀ i, i < N → w.cell? ⟨b, o + i, none⟩ = some (.int .u8 (f i))) :
    Calls Tryd.prog 18 #[.slice (some ⟨b, o, none⟩) N c, .int .i64 k] w (Leaves (runeOf (refFrom f N k 4 1)) w) := by
  have hd0 : decide ((k : Int) < 0) = false := by simp
  have hd1 : decide ((k : Int) ≥ (N : Int)) = false := by simp; omega
  have hd1b : decide (N ≤ k) = false := by simp; omega
  obtain ⟨q, hq⟩ : ∃ q, refFrom f N k 4 1 = q := ⟨_, rfl⟩
  rw [hq]
  have HQ := Lib.hid hq
  have HC := Lib.hid hcell
  have HF := Lib.hid hf
  clear hq hcell hf
  go_enter Tryd.func18, Tryd.ntmps18
  go_wp2
  go_loopg [6] 4 (fun g s wr => ∃ n : Nat, s = .int .i64 n ∧ 1 ≤ n ∧ g + n = 5 ∧ Below w.heap.size w wr ∧ refFrom f N k g n = q)
  case atStart => exact ⟨1, rfl, Nat.le_refl _, rfl, Below.refl _ _, HQ.out⟩
  case round =>
    obtain ⟨n, rfl, hn1, hg, hb, hr⟩ := hrel
    have HG := Lib.hid hg
    have HB := Lib.hid hb
    have HR := Lib.hid hr
    clear hg hb hr HQ
    by_cases hn4 : n ≤ 4
    · have hd2 : decide ((n : Int) ≤ 4) = true := by simp; omega
      obtain ⟨g', rfl⟩ : ∃ g', gk = g' + 1 := ⟨gk - 1, by have := HG.out; omega⟩
      by_cases hend : k + n ≤ N
      · have hd3 : decide ((k : Int) + (n : Int) ≤ (N : Int)) = true := by simp; omega
        have k0 := cell_below HB.out (HC.out k hk)
        have l0 := HF.out k
        have hkN : (k : Int) < (N : Int) := by omega
        rcases (show n = 1 ∨ n = 2 ∨ n = 3 ∨ n = 4 from by omega) with h | h | h | h
        all_goals
          have e2 : ((n : Int) == 2) = decide (n = 2) := by rw [Bool.eq_iff_iff]; simp; omega
          have e3 : ((n : Int) == 3) = decide (n = 3) := by rw [Bool.eq_iff_iff]; simp; omega
          have e4 : ((n : Int) == 4) = decide (n = 4) := by rw [Bool.eq_iff_iff]; simp; omega
          simp only [h, Nat.reduceEqDiff, decide_true, decide_false] at e2 e3 e4
          go_wp2
          go_loopg [7, 8] n (fun g2 v s wr2 => ∃ j : Nat, v = .int .i64 (vAt f k n j) ∧ s = .int .i64 j ∧ 1 ≤ j ∧ j ≤ n ∧ g2 + j = n + 1 ∧ wr2 = wr)
          case atStart => exact ⟨1, by simp [vAt, md, h]; try omega, rfl, Nat.le_refl _, hn1, rfl, rfl⟩
          case round =>
            obtain ⟨j, rfl, rfl, hj1, hjn0, hg2, rfl⟩ := hrel
            have HG2 := Lib.hid hg2
            clear hg2
            have hvs := vAt_small (f := f) (p := k) (n := n) (k := j) (by omega)
            by_cases hjn : j < n
            · have hdj : decide ((j : Int) < (n : Int)) = true := by simp; omega
              have kj := cell_below HB.out (HC.out (k + j) (by omega))
              have lj := HF.out (k + j)
              have hkj : (k : Int) + (j : Int) < (N : Int) := by omega
              obtain ⟨v, hv⟩ : ∃ v, vAt f k n j = v := ⟨_, rfl⟩
              rw [hv] at hvs ⊢
              have HV := Lib.hid hv
              clear hv
              first
                | (exfalso; omega)
                | (go_wp2
                   go_roundg (gk - 1)
                   case measure => have := HG2.out; omega
                   case rel => exact ⟨j + 1, by have := HV.out; obtain ⟨j', rfl⟩ : ∃ j', j = j' + 1 := ⟨j - 1, by omega⟩; simp [vAt, this], by go_num, by omega, by omega, by have := HG2.out; omega, rfl⟩)
            · have hdj : decide ((j : Int) < (n : Int)) = false := by simp; omega
              have hjn2 : j = n := by omega
              subst hjn2
              obtain ⟨v, hv⟩ : ∃ v, vAt f k j j = v := ⟨_, rfl⟩
              obtain ⟨l, hl⟩ : ∃ l, encL v = l := ⟨_, rfl⟩
              have HFT : Hid ((l.length == j && inTab charsT v && sameTo l f k j) = fits f k j) := by
                refine Lib.hid ?_
                rw [← hl, ← hv]
                rfl
              have hRR : (if fits f k j = true then (v, j) else refFrom f N k g' (j + 1)) = q := by
                have := HR.out
                rw [refFrom, if_pos hend, hv] at this
                exact this
              have HRR := Lib.hid hRR
              have hl4 := encL_len (v : Int)
              rw [hv] at hvs ⊢
              have HV := Lib.hid hv
              clear hv hRR
              go_wp2_with fail
              refine (refEncode_calls (v : Int) _ (by omega) (by omega)).mono ?_
              rintro e w2 ⟨a, cc, rfl, hlc, hcc, hrow, hb2⟩
              rw [hl] at hl4 hlc hrow ⊢
              have HL := Lib.hid hl
              have HB2 := Lib.hid hb2
              have HROW := Lib.hid hrow
              clear hl hb2 hrow
              have next : Hid (fits f k j = false → refFrom f N k g' (j + 1) = q) := Lib.hid fun h0 => by
                have := HRR.out
                rw [if_neg (by rw [h0]; exact Bool.false_ne_true)] at this
                exact this
              by_cases hlen : l.length = j
              · have hdl : ((l.length : Int) != (j : Int)) = false := by simp [hlen]
                go_wp2_with fail
                refine (refChar_calls (v : Int) _).mono ?_
                rintro e w3 ⟨rfl, rfl⟩
                obtain ⟨x, hx⟩ : ∃ x, inTab charsT (v : Int) = x := ⟨_, rfl⟩
                rw [hx]
                have HX := Lib.hid hx
                clear hx
                cases x with
                | false =>
                  go_wp2
                  go_roundg g'
                  case measure => omega
                  case rel => exact ⟨j + 1, by go_num, by omega, by have := HG.out; omega, below_then HB.out HB2.out, next.out (by rw [← HFT.out, HX.out]; simp)⟩
                | true =>
                  go_wp2
                  go_loopg [10, 11] j (fun g3 sm s wr3 => ∃ i : Nat, sm = .bool (sameTo l f k i) ∧ s = .int .i64 i ∧ g3 + i = j ∧ Below w.heap.size w wr3 ∧ Below w3.heap.size w3 wr3)
                  case atStart => exact ⟨0, rfl, rfl, rfl, below_then HB.out HB2.out, Below.refl _ _⟩
                  case round =>
                    obtain ⟨i, rfl, rfl, hg3, hb3, hb4⟩ := hrel
                    have HG3 := Lib.hid hg3
                    have HB3 := Lib.hid hb3
                    have HB4 := Lib.hid hb4
                    clear hg3 hb3 hb4
                    by_cases hij : i < j
                    · have hdi : decide ((i : Int) < (j : Int)) = true := by simp; omega
                      obtain ⟨y, hy⟩ : ∃ y, sameTo l f k i = y := ⟨_, rfl⟩
                      rw [hy]
                      have HY := Lib.hid hy
                      clear hy
                      cases y with
                      | true =>
                        obtain ⟨hfl, _, hrw⟩ := HROW.out
                        rcases hrw with h0 | ⟨eb, eo, rfl, hec⟩
                        · omega
                        have ke := cell_below HB4.out (hec i (by omega))
                        have le := hfl i
                        have ki := cell_below HB3.out (HC.out (k + i) (by omega))
                        have li := HF.out (k + i)
                        have hki : (k : Int) + (i : Int) < (N : Int) := by omega
                        have hil : (i : Int) < (l.length : Int) := by omega
                        clear hfl hec
                        go_wp2
                        go_quiet (fail)
                        go_wp2
                        go_roundg (gk - 1)
                        case measure => have := HG3.out; omega
                        case rel => exact ⟨i + 1, by rw [sameTo, HY.out, Bool.true_and, natBeq], by go_num, by have := HG3.out; omega, below_drewNv HB3.out _, below_drewNv HB4.out _⟩
                      | false =>
                        go_wp2
                        go_quiet (fail)
                        go_wp2
                        go_roundg (gk - 1)
                        case measure => have := HG3.out; omega
                        case rel => exact ⟨i + 1, by rw [sameTo, HY.out, Bool.false_and], by go_num, by have := HG3.out; omega, below_drewNv HB3.out _, below_drewNv HB4.out _⟩
                    · have hdi : decide ((i : Int) < (j : Int)) = false := by simp; omega
                      have hii : i = j := by have := HG3.out; omega
                      subst hii
                      obtain ⟨y, hy⟩ : ∃ y, sameTo l f k i = y := ⟨_, rfl⟩
                      rw [hy]
                      have HY := Lib.hid hy
                      clear hy
                      cases y with
                      | true =>
                        go_wp2
                        go_ret2
                        refine ⟨?_, HB3.out⟩
                        have := HRR.out
                        rw [if_pos (by rw [← HFT.out, HX.out, HY.out]; simp [hlen])] at this
                        rw [← this]
                        simp only [runeOf]
                        rw [h]
                        rfl
                      | false =>
                        go_wp2
                        go_roundg g'
                        case measure => omega
                        case rel => exact ⟨i + 1, by go_num, by omega, by have := HG.out; omega, HB3.out, next.out (by rw [← HFT.out, HY.out]; simp)⟩
              · have hdl : ((l.length : Int) != (j : Int)) = true := by simp; omega
                go_wp2
                go_roundg g'
                case measure => omega
                case rel => exact ⟨j + 1, by go_num, by omega, by have := HG.out; omega, below_then HB.out HB2.out, next.out (by rw [← HFT.out]; simp [hlen])⟩
      · have hd3 : decide ((k : Int) + (n : Int) ≤ (N : Int)) = false := by simp; omega
        go_wp2
        go_ret2
        refine ⟨?_, HB.out⟩
        have := HR.out
        rw [refFrom, if_neg hend] at this
        rw [← this]
        rfl
    · have hd2 : decide ((n : Int) ≤ 4) = false := by simp; omega
      have : gk = 0 := by have := HG.out; omega
      subst this
      go_wp2
      go_ret2
      refine ⟨?_, HB.out⟩
      have := HR.out
      rw [refFrom] at this
      rw [← this]
      rfl
end Go.Proofs.YtkpgbcackphdbaaDoor
