/-
  The fixed answers that each law asks first. No condition.
-/
import Derived.Test.YtoceknldlhmnoaaAll
import Derived.Lib.SlBytesConst
import Derived.Laws.IdiomStrings
namespace Go.Proofs.Ytoceknldlhmnoaa
open Go.RowKit Go.Lib

theorem row_lit (w : World) (l : List Nat) (fr : Nat × Nat) (h : Byts l) : Row (w.alloc (.cells (cellsN l).toArray 5 fr)) (fun k => k = w.heap.size) (some ⟨w.heap.size, 0, none⟩) l := by
  refine ⟨h, .inr ⟨_, _, rfl, rfl, fun i c hi => ?_⟩⟩
  rw [Nat.zero_add, World.cell?_alloc_mark w (cellsN l).toArray 5 fr i]
  simp [cellsN, hi]

theorem put_a : putB [97] = frm [97] := rfl
theorem put_a_len : (putB [97]).length = 9 := rfl
theorem put_a_stands : standsB (putB [97]) = 1 := by
  have := (frm_first [97] [] (by decide) (by decide)).1
  rwa [List.append_nil] at this
theorem put_a_get : get32 (putB [97]) = 1 := by
  have := (frm_first [97] [] (by decide) (by decide)).2.1
  rwa [List.append_nil] at this
theorem put_a_rec : recB (putB [97]) = [97] := by
  have := (frm_first [97] [] (by decide) (by decide)).2.2.1
  rwa [List.append_nil] at this

set_option maxRecDepth 100000 in
set_option maxHeartbeats 4000000 in
theorem awake_calls (w : World) : Calls Try.prog 8 #[] w (Leaves (.bool true) w) := by
  have hcv : (convert 22 22 (.slice (some ⟨w.heap.size, 0, none⟩) 1 1)).run Try.prog (w.alloc (.cells #[.int .u8 97] 5)) = .ok (.slice (some ⟨w.heap.size, 0, none⟩) 1 1) (w.alloc (.cells #[.int .u8 97] 5 (1, 2))) :=
    Lib.run_convert_bytes_const w 22 5 #[.int .u8 97] 1 1 Try.underlying22 Try.underlying5
  have hb0 : Below w.heap.size w (w.alloc (.cells #[.int .u8 97] 5 (1, 2))) := (Below.refl _ _).alloc (Nat.le_refl _) _
  have hrow : Row (w.alloc (.cells #[.int .u8 97] 5 (1, 2))) (fun k => k = w.heap.size) (some ⟨w.heap.size, 0, none⟩) [97] := row_lit w [97] (1, 2) (by unfold Byts; decide)
  obtain ⟨W1, hW1⟩ : ∃ W1, w.alloc (.cells #[.int .u8 97] 5 (1, 2)) = W1 := ⟨_, rfl⟩
  rw [hW1] at hcv hb0 hrow
  have HB0 := Lib.hid hb0
  have HROW := Lib.hid hrow
  clear hb0 hrow hW1
  go_enter Try.func8, Try.ntmps8
  go_wp2_with fail
  refine (put_calls _ [97] 1 1 W1 HROW.out rfl (by decide) (fun e => by cases e) (Nat.le_refl _) (by decide)).mono ?_
  rintro e w2 ⟨v2, rfl, hown2⟩
  obtain ⟨a2, c2, rfl, hr2, -, hc2, hm2⟩ := hown2.form
  rw [put_a_len] at hc2
  have HB2 := Lib.hid (below_then HB0.out hown2.bel)
  have HN2 := Lib.hid (next_calls a2 (putB [97]) 9 c2 w2 hr2 rfl (by decide) hc2 hm2)
  rw [put_a_len]
  clear hown2 hr2 hc2 hm2
  go_wp2_with fail
  refine HN2.out.mono ?_
  rintro e w3 ⟨v3, rfl, hown3⟩
  have hx1 : nxtN (putB [97]) = 9 := by unfold nxtN; rw [if_pos put_a_stands, put_a_get]
  have hx2 : nxtR (putB [97]) = [97] := by unfold nxtR; rw [if_pos put_a_stands, put_a_rec]
  rw [hx1, put_a_stands]
  rw [hx2] at hown3
  have HB3 := Lib.hid (below_then HB2.out hown3.bel)
  have HO3 := Lib.hid hown3
  obtain ⟨a3, c3, rfl, -⟩ := hown3.form
  clear hown3 hx1 hx2 HN2
  have hb4 : Below w3.heap.size w3 (w3.alloc (.cells #[.int .u8 1, .int .u8 0] 5)) := (Below.refl _ _).alloc (Nat.le_refl _) _
  have HN4 := Lib.hid (next_calls _ [1, 0] 2 2 _ (row_lit w3 [1, 0] (0, 0) (by unfold Byts; decide)) rfl (by decide) (Nat.le_refl _) (by decide))
  have HB4 := Lib.hid (below_then HB3.out hb4)
  have HO4 := Lib.hid (HO3.out.below hb4)
  clear hb4
  go_wp2_with fail
  refine HN4.out.mono ?_
  rintro e w5 ⟨v5, rfl, hown5⟩
  have HB5 := Lib.hid (below_then HB4.out hown5.bel)
  have HO5 := Lib.hid (HO4.out.below hown5.bel)
  obtain ⟨a5, c5, rfl, -⟩ := hown5.form
  rw [show standsB [1, 0] = 3 from rfl, show nxtN [1, 0] = 0 from rfl, show (nxtR [1, 0]).length = 0 from rfl]
  clear hown5 HN4 HB3 HB4 HO3 HO4
  have hb6 : Below w5.heap.size w5 (w5.alloc (.cells #[.int .u8 0, .int .u8 0, .int .u8 0, .int .u8 0] 5)) := (Below.refl _ _).alloc (Nat.le_refl _) _
  have HN6 := Lib.hid (next_calls _ [0, 0, 0, 0] 4 4 _ (row_lit w5 [0, 0, 0, 0] (0, 0) (by unfold Byts; decide)) rfl (by decide) (Nat.le_refl _) (by decide))
  have HB6 := Lib.hid (below_then HB5.out hb6)
  have HO6 := Lib.hid (HO5.out.below hb6)
  clear hb6
  go_wp2_with fail
  refine HN6.out.mono ?_
  rintro e w7 ⟨v7, rfl, hown7⟩
  have HB7 := Lib.hid (below_then HB6.out hown7.bel)
  have hO7 := HO6.out.below hown7.bel
  obtain ⟨a7, c7, rfl, -⟩ := hown7.form
  rw [show standsB [0, 0, 0, 0] = 4 from rfl, show nxtN [0, 0, 0, 0] = 0 from rfl, show (nxtR [0, 0, 0, 0]).length = 0 from rfl]
  have hs : (convert 22 9 (.slice a3 1 c3)).run Try.prog w7 = .ok (.string ⟨#[97]⟩) w7 := by
    obtain ⟨b8, c8, e8, hr8, -⟩ := hO7.form
    simp only [Value.slice.injEq] at e8
    obtain ⟨rfl, -, rfl⟩ := e8
    obtain ⟨b, o, rfl, hcell⟩ := row_at hr8 (i := 0) rfl
    refine run_convert_bytes_back w7 22 9 5 ⟨b, o, none⟩ c3 [97] Try.underlying22 Try.underlying5 Try.underlying9 (fun j hj => ?_)
    obtain rfl : j = 0 := by simpa using hj
    rw [Addr.add_mid]
    exact hcell
  clear hown7 HN6 HB5 HB6 HO5 HO6 hO7
  go_wp2
  go_ret
  exact ⟨rfl, HB7.out⟩

end Go.Proofs.Ytoceknldlhmnoaa
