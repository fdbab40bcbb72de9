/-
  Names and heads, told by the reference. No condition.
-/
import Derived.Test.YtjhiekijbcjohaaDoorSHead
import Derived.Lib.SlBytesRow
import Derived.Lib.SlBytesConst
namespace Go.Proofs.YtjhiekijbcjohaaDoor
open Go.RowKit Go.Lib Go.Joins

theorem rmay7_calls (n : Int) (w : World) : Calls Tryd.prog 18 #[.int .i64 n] w fun e w' => e = .returned (.bool (mayN n)) ∧ w = w' := by
  by_cases h1 : 1 ≤ n
  · have d1 : decide (1 ≤ n) = true := by simpa using h1
    have d1' : decide (n ≥ 1) = true := by simpa using h1
    by_cases h2 : n ≤ 99999999
    · have d2 : decide (n ≤ 99999999) = true := by simpa using h2
      have hm : mayN n = true := mayN_is.2 ⟨h1, h2⟩
      rw [hm]
      go_enter Tryd.func18, Tryd.ntmps18
      go_wp2
      go_ret
      exact ⟨rfl, rfl⟩
    · have d2 : decide (n ≤ 99999999) = false := by simpa using h2
      have hm : mayN n = false := by unfold mayN; rw [d2, Bool.and_false]
      rw [hm]
      go_enter Tryd.func18, Tryd.ntmps18
      go_wp2
      go_ret
      exact ⟨rfl, rfl⟩
  · have d1 : decide (1 ≤ n) = false := by simpa using h1
    have d1' : decide (n ≥ 1) = false := by simpa using h1
    have hm : mayN n = false := by unfold mayN; rw [d1, Bool.false_and]
    rw [hm]
    go_enter Tryd.func18, Tryd.ntmps18
    go_wp2
    go_ret
    exact ⟨rfl, rfl⟩

/-- The last digits of a number. -/
def suf : Nat → Nat → List UInt8
  | 0, _ => []
  | i + 1, m => UInt8.ofNat (48 + m / 10 ^ i % 10) :: suf i m
theorem pad_suf (m : Nat) : ∀ i k, pad (k + i) m = pad k (m / 10 ^ i) ++ suf i m
  | 0, k => by simp [suf]
  | i + 1, k => by
    have ih := pad_suf m i (k + 1)
    rw [show k + 1 + i = k + (i + 1) by omega] at ih
    rw [ih, pad, suf, List.append_assoc, Nat.div_div_eq_div_mul, ← Nat.pow_succ]
    rfl
theorem pad_suf8 (m : Nat) : pad 8 m = suf 8 m := by
  have := pad_suf m 8 0
  simpa [pad] using this
theorem suf_len : ∀ i m, (suf i m).length = i
  | 0, _ => rfl
  | i + 1, m => by rw [suf, List.length_cons, suf_len i]

set_option maxRecDepth 100000 in
set_option maxHeartbeats 2000000 in
theorem rhead_calls (n : Int) (w : World) : Calls Tryd.prog 17 #[.int .i64 n] w (Gives (headB n) w) := by
  have HM := Lib.hid (rmay7_calls n w)
  cases hm : mayN n with
  | false =>
    rw [headB_not hm]
    rw [hm] at HM
    clear hm
    go_enter Tryd.func17, Tryd.ntmps17
    go_wp2_with fail
    with_reducible refine HM.out.mono ?_
    rintro e w1 ⟨rfl, rfl⟩
    go_wp2
    go_ret
    exact ⟨_, rfl, Own.nil _⟩
  | true =>
    rw [hm] at HM
    obtain ⟨h1, h2⟩ := mayN_is.1 hm
    rw [headB_may hm]
    obtain ⟨m, rfl⟩ : ∃ m : Nat, n = (m : Int) := ⟨n.toNat, by omega⟩
    rw [Int.toNat_natCast]
    have hm32 : m < 4294967296 := by omega
    have hcv : (convert 22 22 (.slice (some ⟨w.heap.size, 0, none⟩) 4 4)).run Tryd.prog (w.alloc (.cells magC 5)) = .ok (.slice (some ⟨w.heap.size, 0, none⟩) 4 4) (w.alloc (.cells magC 5 (4, 5))) :=
      Lib.run_convert_bytes_const w 22 5 magC 4 4 Tryd.underlying22 Tryd.underlying5
    have hrow : Row (w.alloc (.cells magC 5 (4, 5))) (One w.heap.size) (some ⟨w.heap.size, 0, none⟩) [82, 67, 83, 49] := row_new w [82, 67, 83, 49] (by decide) (4, 5)
    have hb1 : Below w.heap.size w (w.alloc (.cells magC 5 (4, 5))) := (Below.refl _ _).alloc (Nat.le_refl _) _
    obtain ⟨W1, hW1⟩ : ∃ W1, w.alloc (.cells magC 5 (4, 5)) = W1 := ⟨_, rfl⟩
    rw [hW1] at hcv hrow hb1
    unfold magC at hcv
    have HROW := Lib.hid hrow
    have HB1 := Lib.hid hb1
    have HP := Lib.hid (put32_gives m W1 (by omega))
    clear hm h1 h2 hrow hb1 hW1
    go_enter Tryd.func17, Tryd.ntmps17
    go_wp2_with fail
    with_reducible refine HM.out.mono ?_
    rintro e wm ⟨rfl, rfl⟩
    go_wp2_with fail
    with_reducible refine HP.out.mono ?_
    rintro e w2 ⟨rfl, hown2⟩
    obtain ⟨a2, c2, hv2, hr2, -⟩ := hown2.form
    simp only [Value.slice.injEq] at hv2
    obtain ⟨rfl, -, rfl⟩ := hv2
    obtain ⟨v3, w3, hrun3, hown3⟩ := append_full (n := 4) (m := 4) (c := 4) (HROW.out.below hown2.bel) rfl hr2 rfl (by decide) (by decide)
    have hown3' := hown3.from (below_then HB1.out hown2.bel)
    have hx := row_new w3 [0, 0, 0, 0] (by decide) (0, 0)
    have hbw : Below w3.heap.size w3 (w3.alloc (.cells (cellsN [0, 0, 0, 0]).toArray 5)) := (Below.refl _ _).alloc (Nat.le_refl _) _
    obtain ⟨v4, w4, hrun4, hown4, -⟩ := (hown3'.below hbw).append (m := 4) (c := 4) hx rfl (fun e => by cases e) (by rw [List.length_append, w32_len]; decide)
    have hrun4' : ∀ ty, (Builtin.append_ #[22, 22] ty #[v3, .slice (some ⟨w3.heap.size, 0, none⟩) 4 4]).run Tryd.prog (w3.alloc (.cells #[.int .u8 0, .int .u8 0, .int .u8 0, .int .u8 0] 5)) = .ok v4 w4 := hrun4
    have HRUN3 := Lib.hid hrun3
    have HRUN4 := Lib.hid hrun4'
    have HO4 := Lib.hid hown4
    obtain ⟨a3, c3, rfl, -⟩ := hown3.form
    obtain ⟨a4, c4, rfl, -⟩ := hown4.form
    clear hown2 hr2 hrun3 hown3 hown3' hx hbw hrun4 hrun4' hown4 HP HROW
    go_wp2_with (at_builtin; first | refine wpList_step (fun K hK => step_app HRUN3.out (.tmp 7) (.tmp 10) rfl rfl rfl rfl (hK _ _ ?_)) | refine wpList_step (fun K hK => step_app HRUN4.out (.tmp 11) (.tmp 12) rfl rfl rfl rfl (hK _ _ ?_)))
    go_wp2
    go_ret
    exact ⟨_, rfl, HO4.out⟩

end Go.Proofs.YtjhiekijbcjohaaDoor
