/-
  Whether XML has a rune, whether a name may begin and go on with it: the program's three loops over its tables. Condition: the tables' cells hold the ranges.
-/
import Derived.Test.YtkpgbcackphdbaaDoorBase
namespace Go.Proofs.YtkpgbcackphdbaaDoor
open Go.RowKit

theorem under39 : Tryd.prog.underlying 87 = some (.array 5 86) := by kernel_rfl
theorem under40 : Tryd.prog.underlying 95 = some (.array 15 86) := by kernel_rfl

theorem index_chars (i : Nat) (p : Int × Int) (hp : charsT[i]? = some p) (w : World) : (Instr.index 87 (.agg (flatT charsT).toArray) (.int .i64 (i : Int))).run Tryd.prog w = .ok (.agg #[.int .i32 p.1, .int .i32 p.2]) w := by
  have x0 : ∀ w : World, (Instr.index 87 (.agg (flatT charsT).toArray) (.int .i64 0)).run Tryd.prog w = .ok (.agg #[.int .i32 9, .int .i32 10]) w := fun _ => by kernel_rfl
  have x1 : ∀ w : World, (Instr.index 87 (.agg (flatT charsT).toArray) (.int .i64 1)).run Tryd.prog w = .ok (.agg #[.int .i32 13, .int .i32 13]) w := fun _ => by kernel_rfl
  have x2 : ∀ w : World, (Instr.index 87 (.agg (flatT charsT).toArray) (.int .i64 2)).run Tryd.prog w = .ok (.agg #[.int .i32 32, .int .i32 55295]) w := fun _ => by kernel_rfl
  have x3 : ∀ w : World, (Instr.index 87 (.agg (flatT charsT).toArray) (.int .i64 3)).run Tryd.prog w = .ok (.agg #[.int .i32 57344, .int .i32 65533]) w := fun _ => by kernel_rfl
  have x4 : ∀ w : World, (Instr.index 87 (.agg (flatT charsT).toArray) (.int .i64 4)).run Tryd.prog w = .ok (.agg #[.int .i32 65536, .int .i32 1114111]) w := fun _ => by kernel_rfl
  have hi : i < 5 := by
    rcases Nat.lt_or_ge i 5 with h | h
    · exact h
    · rw [List.getElem?_eq_none (show charsT.length ≤ i from h)] at hp
      cases hp
  rcases (show i = 0 ∨ i = 1 ∨ i = 2 ∨ i = 3 ∨ i = 4 from by omega) with rfl | rfl | rfl | rfl | rfl
  · cases hp; exact x0 w
  · cases hp; exact x1 w
  · cases hp; exact x2 w
  · cases hp; exact x3 w
  · cases hp; exact x4 w

set_option maxRecDepth 100000 in
set_option maxHeartbeats 4000000 in
theorem chars_calls (r : Int) (w : World) (hT : TabAt 3 charsT w) : Calls Tryd.prog 37 #[.int .i32 r] w (Leaves (.bool (inTab charsT r)) w) := by
  have ix := index_chars
  obtain ⟨fl, hfl⟩ : ∃ fl, flatT charsT = fl := ⟨_, rfl⟩
  have hlen : fl.length = 10 := by rw [← hfl]; rfl
  unfold TabAt at hT
  rw [hfl] at hT ix
  go_enter Tryd.func37, Tryd.ntmps37
  go_wp2_with (refine wpList_load_mid rfl 87 _ rfl 3 0 rfl fl _ hT under39 rfl (by rw [hlen]; kernel_rfl) ?_)
  go_loopg [6] 5 (fun g s wr => ∃ i : Nat, s = .int .i64 i ∧ g + i = 5 ∧ inTab charsT r = inTab (charsT.drop i) r ∧ Below w.heap.size w wr)
  case atStart => exact ⟨0, rfl, rfl, rfl, Below.refl _ _⟩
  case round =>
    obtain ⟨i, rfl, hg, ht, hb⟩ := hrel
    have HG := Lib.hid hg
    have HT := Lib.hid ht
    have HB := Lib.hid hb
    clear hg ht hb
    by_cases hlt : i < 5
    · have hd : decide ((i : Int) < 5) = true := by simp; omega
      obtain ⟨⟨a, b⟩, hp⟩ : ∃ p, charsT[i]? = some p := ⟨_, List.getElem?_eq_getElem (show i < charsT.length from hlt)⟩
      have ix2 := ix i (a, b) hp
      have HP := Lib.hid hp
      clear hp ix
      go_wp2_with fail
      refine (holds_pair (a, b) r _).mono ?_
      rintro e w2 ⟨rfl, hb2⟩
      have HB2 := Lib.hid hb2
      clear hb2
      cases hin : inPair r (a, b) with
      | true =>
        go_wp2
        go_ret
        refine ⟨by rw [HT.out, inTab_cons HP.out, hin]; rfl, ?_⟩
        exact below_then (HB.out.alloc HB.out.size _) HB2.out
      | false =>
        go_wp2
        go_roundg (gk - 1)
        case measure => have := HG.out; omega
        case rel => exact ⟨i + 1, by go_num, by have := HG.out; omega, by rw [HT.out, inTab_cons HP.out, hin]; rfl, below_then (HB.out.alloc HB.out.size _) HB2.out⟩
    · have hd : decide ((i : Int) < 5) = false := by simp; omega
      have hi : i = 5 := by have := HG.out; omega
      have h0 : inTab (charsT.drop i) r = false := by rw [hi]; rfl
      have H0 := Lib.hid h0
      clear h0 ix
      go_wp2
      go_ret
      exact ⟨by rw [HT.out, H0.out]; rfl, HB.out⟩

theorem index_firsts (i : Nat) (p : Int × Int) (hp : firstsT[i]? = some p) (w : World) : (Instr.index 95 (.agg (flatT firstsT).toArray) (.int .i64 (i : Int))).run Tryd.prog w = .ok (.agg #[.int .i32 p.1, .int .i32 p.2]) w := by
  have x0 : ∀ w : World, (Instr.index 95 (.agg (flatT firstsT).toArray) (.int .i64 0)).run Tryd.prog w = .ok (.agg #[.int .i32 65, .int .i32 90]) w := fun _ => by kernel_rfl
  have x1 : ∀ w : World, (Instr.index 95 (.agg (flatT firstsT).toArray) (.int .i64 1)).run Tryd.prog w = .ok (.agg #[.int .i32 95, .int .i32 95]) w := fun _ => by kernel_rfl
  have x2 : ∀ w : World, (Instr.index 95 (.agg (flatT firstsT).toArray) (.int .i64 2)).run Tryd.prog w = .ok (.agg #[.int .i32 97, .int .i32 122]) w := fun _ => by kernel_rfl
  have x3 : ∀ w : World, (Instr.index 95 (.agg (flatT firstsT).toArray) (.int .i64 3)).run Tryd.prog w = .ok (.agg #[.int .i32 192, .int .i32 214]) w := fun _ => by kernel_rfl
  have x4 : ∀ w : World, (Instr.index 95 (.agg (flatT firstsT).toArray) (.int .i64 4)).run Tryd.prog w = .ok (.agg #[.int .i32 216, .int .i32 246]) w := fun _ => by kernel_rfl
  have x5 : ∀ w : World, (Instr.index 95 (.agg (flatT firstsT).toArray) (.int .i64 5)).run Tryd.prog w = .ok (.agg #[.int .i32 248, .int .i32 767]) w := fun _ => by kernel_rfl
  have x6 : ∀ w : World, (Instr.index 95 (.agg (flatT firstsT).toArray) (.int .i64 6)).run Tryd.prog w = .ok (.agg #[.int .i32 880, .int .i32 893]) w := fun _ => by kernel_rfl
  have x7 : ∀ w : World, (Instr.index 95 (.agg (flatT firstsT).toArray) (.int .i64 7)).run Tryd.prog w = .ok (.agg #[.int .i32 895, .int .i32 8191]) w := fun _ => by kernel_rfl
  have x8 : ∀ w : World, (Instr.index 95 (.agg (flatT firstsT).toArray) (.int .i64 8)).run Tryd.prog w = .ok (.agg #[.int .i32 8204, .int .i32 8205]) w := fun _ => by kernel_rfl
  have x9 : ∀ w : World, (Instr.index 95 (.agg (flatT firstsT).toArray) (.int .i64 9)).run Tryd.prog w = .ok (.agg #[.int .i32 8304, .int .i32 8591]) w := fun _ => by kernel_rfl
  have x10 : ∀ w : World, (Instr.index 95 (.agg (flatT firstsT).toArray) (.int .i64 10)).run Tryd.prog w = .ok (.agg #[.int .i32 11264, .int .i32 12271]) w := fun _ => by kernel_rfl
  have x11 : ∀ w : World, (Instr.index 95 (.agg (flatT firstsT).toArray) (.int .i64 11)).run Tryd.prog w = .ok (.agg #[.int .i32 12289, .int .i32 55295]) w := fun _ => by kernel_rfl
  have x12 : ∀ w : World, (Instr.index 95 (.agg (flatT firstsT).toArray) (.int .i64 12)).run Tryd.prog w = .ok (.agg #[.int .i32 63744, .int .i32 64975]) w := fun _ => by kernel_rfl
  have x13 : ∀ w : World, (Instr.index 95 (.agg (flatT firstsT).toArray) (.int .i64 13)).run Tryd.prog w = .ok (.agg #[.int .i32 65008, .int .i32 65533]) w := fun _ => by kernel_rfl
  have x14 : ∀ w : World, (Instr.index 95 (.agg (flatT firstsT).toArray) (.int .i64 14)).run Tryd.prog w = .ok (.agg #[.int .i32 65536, .int .i32 983039]) w := fun _ => by kernel_rfl
  have hi : i < 15 := by
    rcases Nat.lt_or_ge i 15 with h | h
    · exact h
    · rw [List.getElem?_eq_none (show firstsT.length ≤ i from h)] at hp
      cases hp
  rcases (show i = 0 ∨ i = 1 ∨ i = 2 ∨ i = 3 ∨ i = 4 ∨ i = 5 ∨ i = 6 ∨ i = 7 ∨ i = 8 ∨ i = 9 ∨ i = 10 ∨ i = 11 ∨ i = 12 ∨ i = 13 ∨ i = 14 from by omega) with rfl | rfl | rfl | rfl | rfl | rfl | rfl | rfl | rfl | rfl | rfl | rfl | rfl | rfl | rfl
  · cases hp; exact x0 w
  · cases hp; exact x1 w
  · cases hp; exact x2 w
  · cases hp; exact x3 w
  · cases hp; exact x4 w
  · cases hp; exact x5 w
  · cases hp; exact x6 w
  · cases hp; exact x7 w
  · cases hp; exact x8 w
  · cases hp; exact x9 w
  · cases hp; exact x10 w
  · cases hp; exact x11 w
  · cases hp; exact x12 w
  · cases hp; exact x13 w
  · cases hp; exact x14 w

set_option maxRecDepth 100000 in
set_option maxHeartbeats 4000000 in
theorem firsts_calls (r : Int) (w : World) (hT : TabAt 4 firstsT w) : Calls Tryd.prog 43 #[.int .i32 r] w (Leaves (.bool (inTab firstsT r)) w) := by
  have ix := index_firsts
  obtain ⟨fl, hfl⟩ : ∃ fl, flatT firstsT = fl := ⟨_, rfl⟩
  have hlen : fl.length = 30 := by rw [← hfl]; rfl
  unfold TabAt at hT
  rw [hfl] at hT ix
  go_enter Tryd.func43, Tryd.ntmps43
  go_wp2_with (refine wpList_load_mid rfl 95 _ rfl 4 0 rfl fl _ hT under40 rfl (by rw [hlen]; kernel_rfl) ?_)
  go_loopg [6] 15 (fun g s wr => ∃ i : Nat, s = .int .i64 i ∧ g + i = 15 ∧ inTab firstsT r = inTab (firstsT.drop i) r ∧ Below w.heap.size w wr)
  case atStart => exact ⟨0, rfl, rfl, rfl, Below.refl _ _⟩
  case round =>
    obtain ⟨i, rfl, hg, ht, hb⟩ := hrel
    have HG := Lib.hid hg
    have HT := Lib.hid ht
    have HB := Lib.hid hb
    clear hg ht hb
    by_cases hlt : i < 15
    · have hd : decide ((i : Int) < 15) = true := by simp; omega
      obtain ⟨⟨a, b⟩, hp⟩ : ∃ p, firstsT[i]? = some p := ⟨_, List.getElem?_eq_getElem (show i < firstsT.length from hlt)⟩
      have ix2 := ix i (a, b) hp
      have HP := Lib.hid hp
      clear hp ix
      go_wp2_with fail
      refine (holds_pair (a, b) r _).mono ?_
      rintro e w2 ⟨rfl, hb2⟩
      have HB2 := Lib.hid hb2
      clear hb2
      cases hin : inPair r (a, b) with
      | true =>
        go_wp2
        go_ret
        refine ⟨by rw [HT.out, inTab_cons HP.out, hin]; rfl, ?_⟩
        exact below_then (HB.out.alloc HB.out.size _) HB2.out
      | false =>
        go_wp2
        go_roundg (gk - 1)
        case measure => have := HG.out; omega
        case rel => exact ⟨i + 1, by go_num, by have := HG.out; omega, by rw [HT.out, inTab_cons HP.out, hin]; rfl, below_then (HB.out.alloc HB.out.size _) HB2.out⟩
    · have hd : decide ((i : Int) < 15) = false := by simp; omega
      have hi : i = 15 := by have := HG.out; omega
      have h0 : inTab (firstsT.drop i) r = false := by rw [hi]; rfl
      have H0 := Lib.hid h0
      clear h0 ix
      go_wp2
      go_ret
      exact ⟨by rw [HT.out, H0.out]; rfl, HB.out⟩

theorem index_further (i : Nat) (p : Int × Int) (hp : furtherT[i]? = some p) (w : World) : (Instr.index 87 (.agg (flatT furtherT).toArray) (.int .i64 (i : Int))).run Tryd.prog w = .ok (.agg #[.int .i32 p.1, .int .i32 p.2]) w := by
  have x0 : ∀ w : World, (Instr.index 87 (.agg (flatT furtherT).toArray) (.int .i64 0)).run Tryd.prog w = .ok (.agg #[.int .i32 45, .int .i32 46]) w := fun _ => by kernel_rfl
  have x1 : ∀ w : World, (Instr.index 87 (.agg (flatT furtherT).toArray) (.int .i64 1)).run Tryd.prog w = .ok (.agg #[.int .i32 48, .int .i32 57]) w := fun _ => by kernel_rfl
  have x2 : ∀ w : World, (Instr.index 87 (.agg (flatT furtherT).toArray) (.int .i64 2)).run Tryd.prog w = .ok (.agg #[.int .i32 183, .int .i32 183]) w := fun _ => by kernel_rfl
  have x3 : ∀ w : World, (Instr.index 87 (.agg (flatT furtherT).toArray) (.int .i64 3)).run Tryd.prog w = .ok (.agg #[.int .i32 768, .int .i32 879]) w := fun _ => by kernel_rfl
  have x4 : ∀ w : World, (Instr.index 87 (.agg (flatT furtherT).toArray) (.int .i64 4)).run Tryd.prog w = .ok (.agg #[.int .i32 8255, .int .i32 8256]) w := fun _ => by kernel_rfl
  have hi : i < 5 := by
    rcases Nat.lt_or_ge i 5 with h | h
    · exact h
    · rw [List.getElem?_eq_none (show furtherT.length ≤ i from h)] at hp
      cases hp
  rcases (show i = 0 ∨ i = 1 ∨ i = 2 ∨ i = 3 ∨ i = 4 from by omega) with rfl | rfl | rfl | rfl | rfl
  · cases hp; exact x0 w
  · cases hp; exact x1 w
  · cases hp; exact x2 w
  · cases hp; exact x3 w
  · cases hp; exact x4 w

set_option maxRecDepth 100000 in
set_option maxHeartbeats 4000000 in
theorem further_calls (r : Int) (w : World) (hT : TabAt 5 furtherT w) (hF : TabAt 4 firstsT w) : Calls Tryd.prog 44 #[.int .i32 r] w (Leaves (.bool (inTab furtherT r || inTab firstsT r)) w) := by
  have ix := index_further
  obtain ⟨fl, hfl⟩ : ∃ fl, flatT furtherT = fl := ⟨_, rfl⟩
  have hlen : fl.length = 10 := by rw [← hfl]; rfl
  unfold TabAt at hT
  rw [hfl] at hT ix
  go_enter Tryd.func44, Tryd.ntmps44
  go_wp2_with (refine wpList_load_mid rfl 87 _ rfl 5 0 rfl fl _ hT under39 rfl (by rw [hlen]; kernel_rfl) ?_)
  go_loopg [6] 5 (fun g s wr => ∃ i : Nat, s = .int .i64 i ∧ g + i = 5 ∧ inTab furtherT r = inTab (furtherT.drop i) r ∧ Below w.heap.size w wr)
  case atStart => exact ⟨0, rfl, rfl, rfl, Below.refl _ _⟩
  case round =>
    obtain ⟨i, rfl, hg, ht, hb⟩ := hrel
    have HG := Lib.hid hg
    have HT := Lib.hid ht
    have HB := Lib.hid hb
    clear hg ht hb
    by_cases hlt : i < 5
    · have hd : decide ((i : Int) < 5) = true := by simp; omega
      obtain ⟨⟨a, b⟩, hp⟩ : ∃ p, furtherT[i]? = some p := ⟨_, List.getElem?_eq_getElem (show i < furtherT.length from hlt)⟩
      have ix2 := ix i (a, b) hp
      have HP := Lib.hid hp
      clear hp ix
      go_wp2_with fail
      refine (holds_pair (a, b) r _).mono ?_
      rintro e w2 ⟨rfl, hb2⟩
      have HB2 := Lib.hid hb2
      clear hb2
      cases hin : inPair r (a, b) with
      | true =>
        go_wp2
        go_ret
        refine ⟨by rw [HT.out, inTab_cons HP.out, hin]; rfl, ?_⟩
        exact below_then (HB.out.alloc HB.out.size _) HB2.out
      | false =>
        go_wp2
        go_roundg (gk - 1)
        case measure => have := HG.out; omega
        case rel => exact ⟨i + 1, by go_num, by have := HG.out; omega, by rw [HT.out, inTab_cons HP.out, hin]; rfl, below_then (HB.out.alloc HB.out.size _) HB2.out⟩
    · have hd : decide ((i : Int) < 5) = false := by simp; omega
      have hi : i = 5 := by have := HG.out; omega
      have h0 : inTab (furtherT.drop i) r = false := by rw [hi]; rfl
      have H0 := Lib.hid h0
      clear h0 ix
      go_wp2_with fail
      refine (firsts_calls r _ (hF.below HB.out)).mono ?_
      rintro e w2 ⟨rfl, hb2⟩
      have HB2 := Lib.hid hb2
      clear hb2
      go_wp2
      go_ret
      exact ⟨by rw [HT.out, H0.out]; rfl, below_then HB.out HB2.out⟩

end Go.Proofs.YtkpgbcackphdbaaDoor
