/-
  Names and heads, told by the reference. No condition.
-/
import Derived.Test.YtjhiekijbcjohaaGreatDoorSHead
import Derived.Lib.SlBytesRow
import Derived.Lib.SlBytesConst
namespace Go.Proofs.YtjhiekijbcjohaaGreatDoor
open Go.RowKit Go.Lib Go.Joins

theorem rmay7_calls (n : Int) (w : World) : Calls Tryz.prog 14 #[.int .i64 n] w fun e w' => e = .returned (.bool (mayN n)) ∧ w = w' := by
  by_cases h1 : 1 ≤ n
  · have d1 : decide (1 ≤ n) = true := by simpa using h1
    have d1' : decide (n ≥ 1) = true := by simpa using h1
    by_cases h2 : n ≤ 99999999
    · have d2 : decide (n ≤ 99999999) = true := by simpa using h2
      have hm : mayN n = true := mayN_is.2 ⟨h1, h2⟩
      rw [hm]
      go_enter Tryz.func14, Tryz.ntmps14
      go_wp2
      go_ret
      exact ⟨rfl, rfl⟩
    · have d2 : decide (n ≤ 99999999) = false := by simpa using h2
      have hm : mayN n = false := by unfold mayN; rw [d2, Bool.and_false]
      rw [hm]
      go_enter Tryz.func14, Tryz.ntmps14
      go_wp2
      go_ret
      exact ⟨rfl, rfl⟩
  · have d1 : decide (1 ≤ n) = false := by simpa using h1
    have d1' : decide (n ≥ 1) = false := by simpa using h1
    have hm : mayN n = false := by unfold mayN; rw [d1, Bool.false_and]
    rw [hm]
    go_enter Tryz.func14, Tryz.ntmps14
    go_wp2
    go_ret
    exact ⟨rfl, rfl⟩

/-- The last digits of a number. -/
def suf : Nat → Nat → List UInt8
  | 0, _ => []
  | i + 1, m => UInt8.ofNat (48 + m / 10 ^ i % 10) :: suf i m
theorem pad_suf (m : Nat) : ∀ i k, pad (k + i) m = pad k (m / 10 ^ i) ++ suf i m
  | 0, k => by simp [suf]
  | i + 1, k => by
    have ih := pad_suf m i (k + 1)
    rw [show k + 1 + i = k + (i + 1) by omega] at ih
    rw [ih, pad, suf, List.append_assoc, Nat.div_div_eq_div_mul, ← Nat.pow_succ]
    rfl
theorem pad_suf8 (m : Nat) : pad 8 m = suf 8 m := by
  have := pad_suf m 8 0
  simpa [pad] using this
theorem suf_len : ∀ i m, (suf i m).length = i
  | 0, _ => rfl
  | i + 1, m => by rw [suf, List.length_cons, suf_len i]

set_option maxRecDepth 100000 in
set_option maxHeartbeats 2000000 in
theorem eight_calls (m : Nat) (w : World) (hm : m ≤ 99999999) : Calls Tryz.prog 40 #[.int .i64 (m : Int)] w (Leaves (.string ⟨(suf 8 m).toArray⟩) w) := by
  obtain ⟨PST, hP⟩ : ∃ P, Leaves (.string ⟨(suf 8 m).toArray⟩) w = P := ⟨_, rfl⟩
  have HFIN : Hid (∀ W, Below w.heap.size w W → PST (.returned (.string ⟨(suf 8 m).toArray⟩)) W) := Lib.hid (fun W hb => by rw [← hP]; exact ⟨rfl, hb⟩)
  rw [hP]
  clear hP
  go_enter Tryz.func40, Tryz.ntmps40
  go_wp2
  go_loopg [0, 3, 4] 8 (fun g nn out idx wr => ∃ (i : Nat), nn = .int .i64 ((m / 10 ^ i : Nat) : Int) ∧ out = .string ⟨(suf i m).toArray⟩ ∧ idx = .int .i64 (i : Int) ∧ g + i = 8 ∧ Below w.heap.size w wr)
  case atStart => exact ⟨0, by simp, rfl, rfl, rfl, Below.refl _ _⟩
  case round =>
    obtain ⟨i, rfl, rfl, rfl, hg, hb⟩ := hrel
    have HG := Lib.hid hg
    have HB := Lib.hid hb
    clear hg hb
    by_cases hlt : i < 8
    · obtain ⟨g', rfl⟩ : ∃ g', gk = g' + 1 := ⟨gk - 1, by have := HG.out; omega⟩
      have hd : decide ((i : Int) < 8) = true := by simp; omega
      have hq1 : m / 10 ^ i ≤ 99999999 := Nat.le_trans (Nat.div_le_self _ _) hm
      have HQ2 : Hid (m / 10 ^ (i + 1) = m / 10 ^ i / 10) := Lib.hid (by rw [Nat.pow_succ, Nat.div_div_eq_div_mul])
      have HS2 : Hid (suf (i + 1) m = UInt8.ofNat (48 + m / 10 ^ i % 10) :: suf i m) := Lib.hid rfl
      obtain ⟨q, hq⟩ : ∃ q, m / 10 ^ i = q := ⟨_, rfl⟩
      rw [hq] at hq1 HQ2 HS2 ⊢
      have hsl : (⟨(suf i m).toArray⟩ : ByteArray).size = i := by show (suf i m).toArray.size = i; rw [List.size_toArray, suf_len]
      have HCV : Hid (∀ X : Int, X = ((48 + q % 10 : Nat) : Int) → (convert 27 9 (.slice (some ⟨wr.heap.size, 0, none⟩) 1 1)).run Tryz.prog (wr.alloc (.cells #[.int .u8 X] 5)) = .ok (.string ⟨#[UInt8.ofNat (48 + q % 10)]⟩) (wr.alloc (.cells #[.int .u8 X] 5))) := Lib.hid (fun X hX => by
        subst hX
        have := Lib.run_convert_whole (P := Tryz.prog) (wr.alloc (.cells #[.int .u8 ((48 + q % 10 : Nat) : Int)] 5)) 27 5 9 Tryz.underlying27 Tryz.underlying5 Tryz.underlying9 wr.heap.size 0 ⟨#[UInt8.ofNat (48 + q % 10)]⟩ (fun i hi => by
          have h1 : i < 1 := hi
          obtain rfl : i = 0 := by omega
          rw [Nat.zero_add, World.cell?_alloc_mark wr _ 5 (0, 0) 0]
          show some (Value.int .u8 ((48 + q % 10 : Nat) : Int)) = some (Value.int .u8 (((UInt8.ofNat (48 + q % 10)).toNat : Nat) : Int))
          rw [UInt8.toNat_ofNat', Nat.mod_eq_of_lt (show 48 + q % 10 < 2 ^ 8 by omega)]) 1
        exact this)
      have hcat : (⟨#[UInt8.ofNat (48 + q % 10)]⟩ : ByteArray) ++ ⟨(suf i m).toArray⟩ = ⟨(UInt8.ofNat (48 + q % 10) :: suf i m).toArray⟩ := app_bytes [UInt8.ofNat (48 + q % 10)] (suf i m)
      rw [← HS2.out] at hcat
      obtain ⟨Y, hY⟩ : ∃ Y : ByteArray, ⟨(suf i m).toArray⟩ = Y := ⟨_, rfl⟩
      obtain ⟨c, hc⟩ : ∃ c : ByteArray, ⟨#[UInt8.ofNat (48 + q % 10)]⟩ = c := ⟨_, rfl⟩
      have hcs : c.size = 1 := by rw [← hc]; rfl
      rw [hY] at hsl hcat ⊢
      rw [hc] at HCV hcat
      have hl1 : ¬ 9223372036854775807 < c.size + Y.size := by omega
      have HCAT := Lib.hid hcat
      have hcv1 := HCV.out (48 + (q : Int) % 10) (by omega)
      clear hq hY hc hcat HCV HS2
      go_wp2_with fail
      go_roundg g'
      case measure => omega
      case rel => exact ⟨i + 1, by rw [HQ2.out]; go_num, by rw [← HCAT.out], by go_num, by have := HG.out; omega, HB.out.alloc HB.out.size _⟩
    · have hd : decide ((i : Int) < 8) = false := by simp; omega
      obtain rfl : i = 8 := by have := HG.out; omega
      go_wp2
      exact HFIN.out _ HB.out

set_option maxRecDepth 100000 in
set_option maxHeartbeats 1000000 in
theorem rname_calls (n : Int) (w : World) : Calls Tryz.prog 10 #[.int .i64 n] w (Leaves (.string (nameB n)) w) := by
  have HM := Lib.hid (rmay7_calls n w)
  cases hm : mayN n with
  | false =>
    rw [nameB_not hm]
    rw [hm] at HM
    clear hm
    go_enter Tryz.func10, Tryz.ntmps10
    go_wp2_with fail
    with_reducible refine HM.out.mono ?_
    rintro e w1 ⟨rfl, rfl⟩
    go_wp2
    go_ret
    exact ⟨rfl, Below.refl _ _⟩
  | true =>
    rw [hm] at HM
    obtain ⟨h1, h2⟩ := mayN_is.1 hm
    rw [nameB_may hm]
    obtain ⟨m, rfl⟩ : ∃ m : Nat, n = (m : Int) := ⟨n.toNat, by omega⟩
    rw [Int.toNat_natCast, nameL, pad_suf8]
    have HE := Lib.hid (eight_calls m w (by omega))
    have hcat : (⟨#[115, 101, 103, 46]⟩ : ByteArray) ++ ⟨(suf 8 m).toArray⟩ = ⟨([115, 101, 103, 46] ++ suf 8 m).toArray⟩ := app_bytes [115, 101, 103, 46] (suf 8 m)
    have hsl : (⟨(suf 8 m).toArray⟩ : ByteArray).size = 8 := by show (suf 8 m).toArray.size = 8; rw [List.size_toArray, suf_len]
    obtain ⟨Y, hY⟩ : ∃ Y : ByteArray, ⟨(suf 8 m).toArray⟩ = Y := ⟨_, rfl⟩
    rw [hY] at HE hcat hsl
    obtain ⟨V, hV⟩ : ∃ V : ByteArray, ⟨([115, 101, 103, 46] ++ suf 8 m).toArray⟩ = V := ⟨_, rfl⟩
    rw [hV] at hcat ⊢
    have HC := Lib.hid hcat
    have hl1 : ¬ 9223372036854775807 < 4 + Y.size := by omega
    clear hm h1 h2 hY hV hcat
    go_enter Tryz.func10, Tryz.ntmps10
    go_wp2_with fail
    with_reducible refine HM.out.mono ?_
    rintro e w1 ⟨rfl, rfl⟩
    go_wp2_with fail
    with_reducible refine HE.out.mono ?_
    rintro e w2 ⟨rfl, hb2⟩
    have HB2 := Lib.hid hb2
    clear hb2
    go_wp2
    go_ret
    exact ⟨congrArg (fun z => Ending.returned (Value.string z)) HC.out, HB2.out⟩

set_option maxRecDepth 100000 in
set_option maxHeartbeats 2000000 in
theorem rhead_calls (n : Int) (w : World) : Calls Tryz.prog 13 #[.int .i64 n] w (Gives (headB n) w) := by
  have HM := Lib.hid (rmay7_calls n w)
  cases hm : mayN n with
  | false =>
    rw [headB_not hm]
    rw [hm] at HM
    clear hm
    go_enter Tryz.func13, Tryz.ntmps13
    go_wp2_with fail
    with_reducible refine HM.out.mono ?_
    rintro e w1 ⟨rfl, rfl⟩
    go_wp2
    go_ret
    exact ⟨_, rfl, Own.nil _⟩
  | true =>
    rw [hm] at HM
    obtain ⟨h1, h2⟩ := mayN_is.1 hm
    rw [headB_may hm]
    obtain ⟨m, rfl⟩ : ∃ m : Nat, n = (m : Int) := ⟨n.toNat, by omega⟩
    rw [Int.toNat_natCast]
    have hm32 : m < 4294967296 := by omega
    have hcv : (convert 27 27 (.slice (some ⟨w.heap.size, 0, none⟩) 4 4)).run Tryz.prog (w.alloc (.cells magC 5)) = .ok (.slice (some ⟨w.heap.size, 0, none⟩) 4 4) (w.alloc (.cells magC 5 (4, 5))) :=
      Lib.run_convert_bytes_const w 27 5 magC 4 4 Tryz.underlying27 Tryz.underlying5
    have hrow : Row (w.alloc (.cells magC 5 (4, 5))) (One w.heap.size) (some ⟨w.heap.size, 0, none⟩) [82, 67, 83, 49] := row_new w [82, 67, 83, 49] (by decide) (4, 5)
    have hb1 : Below w.heap.size w (w.alloc (.cells magC 5 (4, 5))) := (Below.refl _ _).alloc (Nat.le_refl _) _
    obtain ⟨W1, hW1⟩ : ∃ W1, w.alloc (.cells magC 5 (4, 5)) = W1 := ⟨_, rfl⟩
    rw [hW1] at hcv hrow hb1
    unfold magC at hcv
    have HROW := Lib.hid hrow
    have HB1 := Lib.hid hb1
    have HP := Lib.hid (put32_gives m W1 (by omega))
    clear hm h1 h2 hrow hb1 hW1
    go_enter Tryz.func13, Tryz.ntmps13
    go_wp2_with fail
    with_reducible refine HM.out.mono ?_
    rintro e wm ⟨rfl, rfl⟩
    go_wp2_with fail
    with_reducible refine HP.out.mono ?_
    rintro e w2 ⟨rfl, hown2⟩
    obtain ⟨a2, c2, hv2, hr2, -⟩ := hown2.form
    simp only [Value.slice.injEq] at hv2
    obtain ⟨rfl, -, rfl⟩ := hv2
    obtain ⟨v3, w3, hrun3, hown3⟩ := append_full (n := 4) (m := 4) (c := 4) (HROW.out.below hown2.bel) rfl hr2 rfl (by decide) (by decide)
    have hown3' := hown3.from (below_then HB1.out hown2.bel)
    have hx := row_new w3 [0, 0, 0, 0] (by decide) (0, 0)
    have hbw : Below w3.heap.size w3 (w3.alloc (.cells (cellsN [0, 0, 0, 0]).toArray 5)) := (Below.refl _ _).alloc (Nat.le_refl _) _
    obtain ⟨v4, w4, hrun4, hown4, -⟩ := (hown3'.below hbw).append (m := 4) (c := 4) hx rfl (fun e => by cases e) (by rw [List.length_append, w32_len]; decide)
    have hrun4' : ∀ ty, (Builtin.append_ #[27, 27] ty #[v3, .slice (some ⟨w3.heap.size, 0, none⟩) 4 4]).run Tryz.prog (w3.alloc (.cells #[.int .u8 0, .int .u8 0, .int .u8 0, .int .u8 0] 5)) = .ok v4 w4 := hrun4
    have HRUN3 := Lib.hid hrun3
    have HRUN4 := Lib.hid hrun4'
    have HO4 := Lib.hid hown4
    obtain ⟨a3, c3, rfl, -⟩ := hown3.form
    obtain ⟨a4, c4, rfl, -⟩ := hown4.form
    clear hown2 hr2 hrun3 hown3 hown3' hx hbw hrun4 hrun4' hown4 HP HROW
    go_wp2_with (at_builtin; first | refine wpList_step (fun K hK => step_app HRUN3.out (.tmp 7) (.tmp 10) rfl rfl rfl rfl (hK _ _ ?_)) | refine wpList_step (fun K hK => step_app HRUN4.out (.tmp 11) (.tmp 12) rfl rfl rfl rfl (hK _ _ ?_)))
    go_wp2
    go_ret
    exact ⟨_, rfl, HO4.out⟩

end Go.Proofs.YtjhiekijbcjohaaGreatDoor
