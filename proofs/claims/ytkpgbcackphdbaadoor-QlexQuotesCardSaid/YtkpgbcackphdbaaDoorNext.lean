/-
  The program's Next, at every slice of bytes and every place. Condition: the tables of unicode/utf8 and of the program hold what their initialisers lay.
-/
import Derived.Test.YtkpgbcackphdbaaDoorDecode
import Derived.Test.YtkpgbcackphdbaaDoorTabs
namespace Go.Proofs.YtkpgbcackphdbaaDoor
open Go.RowKit Go.Lib

/-- What the laid variables hold. -/
def Laid (w : World) : Prop := Lib.Utf8Tabs 6 7 w ∧ TabAt 3 charsT w ∧ TabAt 4 firstsT w ∧ TabAt 5 furtherT w

theorem Laid.below {w w' : World} (h : Laid w) (hb : Below w.heap.size w w') : Laid w' :=
  ⟨⟨fun c hc => cell_below hb (h.1.1 c hc), fun i hi => ⟨cell_below hb (h.1.2 i hi).1, cell_below hb (h.1.2 i hi).2⟩⟩, h.2.1.below hb, h.2.2.1.below hb, h.2.2.2.below hb⟩

/-- The rune at a place of a row of bytes and its width, if XML has it; else 0 and 0. -/
def nx (f : Nat → Nat) (n k : Nat) : Nat × Nat :=
  let d := decodeN (n - k) (f k) (f (k + 1)) (f (k + 2)) (f (k + 3))
  if inTab charsT d.1 = true ∧ ¬ (d.1 = 65533 ∧ d.2 = 1) then d else (0, 0)

def nextZ (f : Nat → Nat) (n : Nat) (at' : Int) : Nat × Nat := if at' < 0 ∨ (n : Int) ≤ at' then (0, 0) else nx f n at'.toNat

set_option maxRecDepth 100000 in
set_option maxHeartbeats 1000000 in
theorem decode_calls (b o c n : Nat) (f : Nat → Nat) (w : World) (hT : Lib.Utf8Tabs 6 7 w) (hf : ∀ i, f i < 256) (hn1 : 1 ≤ n) (hn : n ≤ 9223372036854775807) (hcell : ∀ i, i < n → w.cell? ⟨b, o + i, none⟩ = some (.int .u8 (f i))) :
    Calls Tryd.prog 36 #[.slice (some ⟨b, o, none⟩) n c] w (Leaves (runeOf (decodeN n (f 0) (f 1) (f 2) (f 3))) w) := by
  have hz0 : (0 : Int) < (n : Int) := by omega
  have hd : decide ((0 : Int) < (n : Int)) = true := decide_eq_true hz0
  have k0 : w.cell? ⟨b, o, none⟩ = some (.int .u8 (f 0)) := hcell 0 (by omega)
  have sl := slow_calls b o c n f w hT hf hn1 hn hcell
  have l0 := hf 0
  by_cases h : f 0 < 128
  · have hd2 : decide (((f 0 : Nat) : Int) < 128) = true := by simp; omega
    have he : decodeN n (f 0) (f 1) (f 2) (f 3) = (f 0, 1) := by unfold decodeN; rw [if_pos h]
    rw [he]
    clear sl he hcell hf hT
    go_enter Tryd.func36, Tryd.ntmps36
    go_wp2_with fail
    refine wp_loop_rounds 1 ?_
    rw [rounds_succ]
    go_wp2
    go_ret2
    exact ⟨rfl, Below.refl _ _⟩
  · have hd2 : decide (((f 0 : Nat) : Int) < 128) = false := by simp; omega
    clear hcell hf hT
    go_enter Tryd.func36, Tryd.ntmps36
    go_wp2_with fail
    refine wp_loop_rounds 1 ?_
    rw [rounds_succ]
    go_wp2_with fail
    refine sl.mono ?_
    rintro e w1 ⟨rfl, hb⟩
    have HB := Lib.hid hb
    clear hb
    unfold runeOf
    go_wp2
    go_ret2
    exact ⟨rfl, HB.out⟩

set_option maxRecDepth 100000 in
set_option maxHeartbeats 1000000 in
theorem next_calls (a : Option Addr) (n c : Nat) (f : Nat → Nat) (i : Int) (w : World) (hL : Laid w) (hr : Row8 w a n f) (hc : n ≤ c) (_hc2 : c ≤ 9223372036854775807) :
    Calls Tryd.prog 21 #[.slice a n c, .int .i64 i] w (Leaves (runeOf (nextZ f n i)) w) := by
  obtain ⟨hf, hn, hrow⟩ := hr
  unfold nextZ
  by_cases h0 : i < 0
  · have hd : decide (i < 0) = true := decide_eq_true h0
    rw [if_pos (Or.inl h0)]
    go_enter Tryd.func21, Tryd.ntmps21
    go_wp2
    go_ret2
    exact ⟨rfl, Below.refl _ _⟩
  · have hd : decide (i < 0) = false := decide_eq_false h0
    by_cases h1 : (n : Int) ≤ i
    · have hd1 : decide (i ≥ (n : Int)) = true := decide_eq_true h1
      rw [if_pos (Or.inr h1)]
      go_enter Tryd.func21, Tryd.ntmps21
      go_wp2
      go_ret2
      exact ⟨rfl, Below.refl _ _⟩
    · have hd1 : decide (i ≥ (n : Int)) = false := decide_eq_false h1
      rw [if_neg (by omega)]
      obtain ⟨k, rfl⟩ : ∃ k : Nat, i = (k : Int) := ⟨i.toNat, by omega⟩
      rcases hrow with h | ⟨b, o, rfl, hcell⟩
      · omega
      have dc := fun cc => decode_calls b (o + k) cc (n - k) (fun j => f (k + j)) w hL.1 (fun j => hf _) (by omega) (by omega) (fun j hj => by have := hcell (k + j) (by omega); rwa [← Nat.add_assoc] at this)
      have CH := fun r W (hb : Below w.heap.size w W) => chars_calls r W (hL.2.1.below hb)
      rw [Int.toNat_natCast]
      simp only [Nat.add_zero] at dc
      obtain ⟨⟨r, z⟩, hdec⟩ : ∃ d, decodeN (n - k) (f k) (f (k + 1)) (f (k + 2)) (f (k + 3)) = d := ⟨_, rfl⟩
      obtain ⟨q, hq⟩ : ∃ q, nx f n k = q := ⟨_, rfl⟩
      have HQ : Hid ((if inTab charsT r = true ∧ ¬ (r = 65533 ∧ z = 1) then (r, z) else (0, 0)) = q) := by
        refine Lib.hid ?_
        rw [← hq]
        unfold nx
        rw [hdec]
      rw [hq]
      rw [hdec] at dc
      clear hq
      have hkn : (k : Int) ≤ (n : Int) := by omega
      have DC := Lib.hid dc
      have CHH := Lib.hid CH
      clear hL hcell hdec dc CH hf
      go_enter Tryd.func21, Tryd.ntmps21
      go_wp2_with fail
      refine (DC.out _).mono ?_
      rintro e w1 ⟨rfl, hb⟩
      have HB := Lib.hid hb
      clear hb DC
      unfold runeOf
      by_cases hbad : r = 65533 ∧ z = 1
      · obtain ⟨rfl, rfl⟩ := hbad
        go_wp2
        go_ret2
        refine ⟨?_, HB.out⟩
        have h2 : ((0 : Nat), (0 : Nat)) = q := by simpa using HQ.out
        rw [← h2]
        rfl
      · cases he : ((r : Int) == 65533) with
        | true =>
          have hz : ((z : Int) == 1) = false := by
            rw [beq_eq_false_iff_ne]
            rw [beq_iff_eq] at he
            intro hz
            exact hbad ⟨by omega, by omega⟩
          go_wp2_with fail
          refine (CHH.out r w1 HB.out).mono ?_
          rintro e w2 ⟨rfl, hb2⟩
          have HB2 := Lib.hid hb2
          clear hb2
          obtain ⟨x, hx⟩ : ∃ x, inTab charsT r = x := ⟨_, rfl⟩
          rw [hx]
          have HX := Lib.hid hx
          clear hx
          cases x with
          | true =>
            go_wp2
            go_ret2
            refine ⟨?_, below_then HB.out HB2.out⟩
            have := HQ.out
            rw [if_pos ⟨HX.out, hbad⟩] at this
            rw [← this]
            rfl
          | false =>
            go_wp2
            go_ret2
            refine ⟨?_, below_then HB.out HB2.out⟩
            have := HQ.out
            rw [if_neg (fun h => by rw [HX.out] at h; exact absurd h.1 (by decide))] at this
            rw [← this]
            rfl
        | false =>
          go_wp2_with fail
          refine (CHH.out r w1 HB.out).mono ?_
          rintro e w2 ⟨rfl, hb2⟩
          have HB2 := Lib.hid hb2
          clear hb2
          obtain ⟨x, hx⟩ : ∃ x, inTab charsT r = x := ⟨_, rfl⟩
          rw [hx]
          have HX := Lib.hid hx
          clear hx
          cases x with
          | true =>
            go_wp2
            go_ret2
            refine ⟨?_, below_then HB.out HB2.out⟩
            have := HQ.out
            rw [if_pos ⟨HX.out, hbad⟩] at this
            rw [← this]
            rfl
          | false =>
            go_wp2
            go_ret2
            refine ⟨?_, below_then HB.out HB2.out⟩
            have := HQ.out
            rw [if_neg (fun h => by rw [HX.out] at h; exact absurd h.1 (by decide))] at this
            rw [← this]
            rfl
end Go.Proofs.YtkpgbcackphdbaaDoor
