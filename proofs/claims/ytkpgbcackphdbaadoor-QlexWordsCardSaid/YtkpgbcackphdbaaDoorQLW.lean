/-
  QlexWords: of any row of one of the four words or *, every second one is an operator. Conditions: the tables, the library's bound, the arrays of signs and the handle are laid.
-/
import Derived.Test.YtkpgbcackphdbaaDoorQL
namespace Go.Proofs.YtkpgbcackphdbaaDoor
open Go.RowKit Go.Lib Go.Joins

theorem rep_string (wd : List UInt8) (i : Nat) : strB (repQ wd i) ++ strB wd ++ ⟨#[32]⟩ = strB (repQ wd (i + 1)) := by
  rw [repQ_snoc, show (⟨#[32]⟩ : ByteArray) = strB [32] from rfl, strB_app, strB_app, List.append_assoc]
theorem word_of (X : Int) (_h0 : 0 ≤ X) : ∃ wd, wd ∈ fiveQ ∧ ((X % 5 = 0 ∧ (⟨#[97, 110, 100]⟩ : ByteArray) = strB wd) ∨ (X % 5 = 1 ∧ (⟨#[111, 114]⟩ : ByteArray) = strB wd) ∨ (X % 5 = 2 ∧ (⟨#[100, 105, 118]⟩ : ByteArray) = strB wd) ∨ (X % 5 = 3 ∧ (⟨#[109, 111, 100]⟩ : ByteArray) = strB wd) ∨ (X % 5 = 4 ∧ (⟨#[42]⟩ : ByteArray) = strB wd)) := by
  have hm : X % 5 = 0 ∨ X % 5 = 1 ∨ X % 5 = 2 ∨ X % 5 = 3 ∨ X % 5 = 4 := by omega
  rcases hm with h | h | h | h | h
  · exact ⟨[97, 110, 100], .head _, .inl ⟨h, rfl⟩⟩
  · exact ⟨[111, 114], .tail _ (.head _), .inr (.inl ⟨h, rfl⟩)⟩
  · exact ⟨[100, 105, 118], .tail _ (.tail _ (.head _)), .inr (.inr (.inl ⟨h, rfl⟩))⟩
  · exact ⟨[109, 111, 100], .tail _ (.tail _ (.tail _ (.head _))), .inr (.inr (.inr (.inl ⟨h, rfl⟩)))⟩
  · exact ⟨[42], .tail _ (.tail _ (.tail _ (.tail _ (.head _)))), .inr (.inr (.inr (.inr ⟨h, rfl⟩)))⟩
set_option maxRecDepth 100000 in
set_option maxHeartbeats 16000000 in
theorem words_calls (X N : Int) (hX0 : 0 ≤ X) (hX1 : X < 256) (hN0 : 0 ≤ N) (hN1 : N < 256) (w : World) (hE : AwE w) : Calls Tryd.prog 4 #[.int .u8 X, .int .u8 N] w (Leaves (.bool true) w) := by
  have HAW := Lib.hid (awake_calls w hE)
  obtain ⟨wd, hwd, hcase⟩ := word_of X hX0
  obtain ⟨m, hm⟩ : ∃ m : Nat, N % 100 = (m : Int) := ⟨(N % 100).toNat, by omega⟩
  have hm1 : N.tmod 100 = (m : Int) := by rw [Int.tmod_eq_emod_of_nonneg hN0, hm]
  have hmt : X.tmod 5 = X % 5 := Int.tmod_eq_emod_of_nonneg hX0
  obtain ⟨K, hK⟩ : ∃ K, 1 + m = K := ⟨_, rfl⟩
  have hwK : IntKind.i64.wrap (1 + (m : Int)) = (K : Int) := by rw [IntWalk.i64_in _ (by omega)]; omega
  have hK100 : K ≤ 100 := by omega
  obtain ⟨ts, hts, htl, htn⟩ := all_words hwd K hK100
  have hlow := five_low hwd
  have hrl := repQ_len wd K
  have hmul : K * (wd.length + 1) ≤ 100 * 4 := Nat.mul_le_mul hK100 (by omega)
  have HALL := Lib.hid (fun (W : World) (hb : Below w.heap.size w W) => all_calls (repQ wd K) W (by omega) (hE.env.below hb))
  unfold AllOut at HALL
  have HTS := Lib.hid hts
  have HTL := Lib.hid htl
  have HTN := Lib.hid htn
  have HE := Lib.hid hE
  have HLOW := Lib.hid hlow.1
  have HK := Lib.hid hK100
  have HREP := Lib.hid (fun i => rep_string wd i)
  have HRL := Lib.hid (fun i => repQ_len wd i)
  have HSW := Lib.hid (strB_size wd)
  obtain ⟨sw, hsw⟩ : ∃ sw, strB wd = sw := ⟨_, rfl⟩
  rw [hsw] at hcase HREP HSW
  have HW := Lib.hid hsw
  clear hwd hts htl htn hlow hrl hmul hE hK100 hsw hK
  rcases hcase with ⟨hj, hlit⟩ | ⟨hj, hlit⟩ | ⟨hj, hlit⟩ | ⟨hj, hlit⟩ | ⟨hj, hlit⟩
  all_goals
    rw [hj] at hmt
    have HLIT := Lib.hid hlit
    clear hlit
    go_enter Tryd.func4, Tryd.ntmps4
    go_wp2_with fail
    with_reducible refine HAW.out.mono ?_
    rintro e w1 ⟨rfl, hb1⟩
    have HB1 := Lib.hid hb1
    clear hb1 HAW
    go_wp2_with fail
    rw [HLIT.out]
    go_loopg [6, 8] K (fun g v6 v8 wr => ∃ i : Nat, v6 = .string (strB (repQ wd i)) ∧ v8 = .int .i64 i ∧ g + i = K ∧ Below w.heap.size w wr)
    case atStart => exact ⟨0, rfl, rfl, rfl, HB1.out.alloc HB1.out.size _⟩
    case round =>
      obtain ⟨i, rfl, rfl, hg, hb⟩ := hrel
      have HG := Lib.hid hg
      have HB := Lib.hid hb
      clear hg hb
      by_cases hlt : i < K
      · have hd : decide ((i : Int) < (K : Int)) = true := decide_eq_true (by omega)
        have hii : (i : Int) < (K : Int) := by omega
        have hszi := strB_size (repQ wd i)
        rw [HRL.out i] at hszi
        have hmul2 : i * (wd.length + 1) ≤ 100 * 4 := Nat.mul_le_mul (by have := HK.out; omega) (by have := HLOW.out; omega)
        have hrep := HREP.out i
        obtain ⟨si, hsi⟩ : ∃ si, strB (repQ wd i) = si := ⟨_, rfl⟩
        rw [hsi] at hszi hrep ⊢
        have n1 : ¬ 9223372036854775807 < si.size + sw.size := by have := HSW.out; have := HLOW.out; omega
        have n2 : ¬ 9223372036854775807 < si.size + sw.size + 1 := by have := HSW.out; have := HLOW.out; omega
        have HREPI := Lib.hid hrep
        have hwi : IntKind.i64.wrap ((i : Int) + 1) = ((i + 1 : Nat) : Int) := by have := HK.out; rw [IntWalk.i64_in _ (by omega)]; rfl
        clear hszi hmul2 hrep hsi
        go_wp2_with fail
        go_roundg (gk - 1)
        case measure => have := HG.out; omega
        case rel => exact ⟨i + 1, by rw [← HREPI.out], rfl, by have := HG.out; omega, HB.out⟩
      · have hd : decide ((i : Int) < (K : Int)) = false := decide_eq_false (by omega)
        have hii : ¬ (i : Int) < (K : Int) := by omega
        obtain rfl : i = K := by have := HG.out; omega
        have HAL := Lib.hid (HALL.out wr HB.out)
        obtain ⟨si, hsi⟩ : ∃ si, strB (repQ wd i) = si := ⟨_, rfl⟩
        rw [hsi] at HAL ⊢
        clear hsi HALL HREP hlt
        go_wp2_with fail
        with_reducible refine HAL.out.mono ?_
        rintro e w2 ⟨tv, ev, rfl, hb2, ⟨l, hl, hin, rfl⟩ | ⟨cc, nn, hl, _⟩⟩
        case inr => rw [HTS.out] at hl; cases hl
        rw [HTS.out] at hl
        injection hl with hl
        subst hl
        have HB2 := Lib.hid (below_then HB.out hb2)
        have HC := Lib.hid (code_calls (B := 0) 0 0 .nilIface w2 (.inl ⟨rfl, rfl⟩) (HE.out.handle.below HB2.out))
        obtain ⟨ta, tc, rfl, _, _⟩ := hin.form
        rw [HTL.out] at hin ⊢
        have HIN := Lib.hid hin
        clear hb2 hin HAL
        go_wp2_with fail
        with_reducible refine HC.out.mono ?_
        rintro e w3 ⟨rfl, hb3⟩
        have HB3 := Lib.hid (below_then HB2.out hb3)
        have HIN3 := Lib.hid (HIN.out.below hb3)
        clear hb3 HC HIN
        have hii0 : (0 : Int) ≤ (i : Int) := by omega
        go_wp2_with fail
        go_loopg [11] i (fun g v wr2 => ∃ k : Nat, v = .int .i64 k ∧ g + k = i ∧ wr2 = w3)
        case atStart => exact ⟨0, rfl, rfl, rfl⟩
        case round =>
          obtain ⟨k, rfl, hg2, rfl⟩ := hrel
          have HG2 := Lib.hid hg2
          clear hg2
          by_cases hlt : k < i
          · have hdk : decide ((k : Int) < (i : Int)) = true := decide_eq_true (by omega)
            have hki : (k : Int) < (i : Int) := by omega
            have hk0 : (0 : Int) ≤ (k : Int) := by omega
            have hwi : IntKind.i64.wrap ((k : Int) + 1) = ((k + 1 : Nat) : Int) := by have := HK.out; rw [IntWalk.i64_in _ (by omega)]; rfl
            obtain ⟨x, hx⟩ : ∃ x, ts[k]? = some x := ⟨_, List.getElem?_eq_getElem (show k < ts.length by rw [HTL.out]; exact hlt)⟩
            obtain ⟨b, o, rfl, y1, y2, y3⟩ := HIN3.out.at hx
            obtain ⟨tx, tk⟩ := turns_at HTN.out hx
            rw [tx, HW.out] at y3
            rw [tk] at y1
            clear tx tk hx y2
            rcases Nat.mod_two_eq_zero_or_one k with hp | hp
            · have hpi : (k : Int) % 2 = 0 := by omega
              have hpt : (k : Int).tmod 2 = 0 := by rw [Int.tmod_eq_emod_of_nonneg hk0, hpi]
              rw [hp] at y1
              have y1' : wr.cell? ⟨b, o + k * 3, none⟩ = some (.int .i64 1) := y1
              clear y1 hp
              go_wp2_with fail
              go_roundg (gk - 1)
              case measure => have := HG2.out; omega
              case rel => exact ⟨k + 1, rfl, by have := HG2.out; omega, rfl⟩
            · have hpi : (k : Int) % 2 = 1 := by omega
              have hpt : (k : Int).tmod 2 = 1 := by rw [Int.tmod_eq_emod_of_nonneg hk0, hpi]
              rw [hp] at y1
              have y1' : wr.cell? ⟨b, o + k * 3, none⟩ = some (.int .i64 5) := y1
              clear y1 hp
              go_wp2_with fail
              go_roundg (gk - 1)
              case measure => have := HG2.out; omega
              case rel => exact ⟨k + 1, rfl, by have := HG2.out; omega, rfl⟩
          · have hdk : decide ((k : Int) < (i : Int)) = false := decide_eq_false (by omega)
            have hki : ¬ (k : Int) < (i : Int) := by omega
            go_wp2_with fail
            go_ret
            exact ⟨rfl, HB3.out⟩
end Go.Proofs.YtkpgbcackphdbaaDoor
