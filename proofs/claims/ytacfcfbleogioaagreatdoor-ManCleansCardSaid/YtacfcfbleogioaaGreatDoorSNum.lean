/-
  The number of a name, told by the program. Conditions: the library's table of powers of ten and its two errors are laid; the name is short.
-/
import Derived.Test.YtacfcfbleogioaaGreatDoorSName
import Derived.Test.YtacfcfbleogioaaGreatDoorNPure
namespace Go.Proofs.YtacfcfbleogioaaGreatDoor
open Go.RowKit Go.Lib

/-- The library's variables of errors hold errors, or none. -/
def Errs (w : World) : Prop :=
  (∃ ev, w.cell? ⟨3, 0, none⟩ = some ev ∧ (ev = .nilIface ∨ ∃ te pe, ev = .iface te pe)) ∧ (∃ ev, w.cell? ⟨4, 0, none⟩ = some ev ∧ (ev = .nilIface ∨ ∃ te pe, ev = .iface te pe))
theorem Errs.below {w w' : World} (h : Errs w) (hb : Below w.heap.size w w') : Errs w' := by
  obtain ⟨⟨a, h1, h2⟩, ⟨b, h3, h4⟩⟩ := h
  exact ⟨⟨a, (hb.cell (p := ⟨_, 0, none⟩) (lt_of_cell h1)).trans h1, h2⟩, ⟨b, (hb.cell (p := ⟨_, 0, none⟩) (lt_of_cell h3)).trans h3, h4⟩⟩

theorem toList_ne {a b : ByteArray} (h : a ≠ b) : (a.toList == b.toList) = false := by
  rw [ByteArray.toList_eq, ByteArray.toList_eq]
  have := same_is a b
  rw [decide_eq_false h] at this
  exact this
/-- What Atoi leaves of a text. -/
def AtoiOut (l : List UInt8) (w : World) (e : Ending) (w' : World) : Prop :=
  Below w.heap.size w w' ∧ ((∃ v, Lib.atoiAll l = .ok v ∧ e = .returned (.tuple #[.int .i64 v, .nilIface])) ∨ ((∀ v, Lib.atoiAll l ≠ .ok v) ∧ ∃ v T x, e = .returned (.tuple #[.int .i64 v, .iface T x])))
theorem atoi_any (s : ByteArray) (w : World) (hs : s.size ≤ 281474976710656) (he : Errs w) : Calls Tryz.prog 154 #[.string s] w (AtoiOut s.data.toList w) := by
  obtain ⟨⟨a, h1, h2⟩, ⟨b, h3, h4⟩⟩ := he
  cases hr : Lib.atoiAll s.data.toList with
  | ok v =>
    refine (Tryz.strconv_Atoi_ok s (by omega) v hr w).mono ?_
    rintro e w' ⟨rfl, hw⟩
    refine ⟨?_, .inl ⟨v, hr, rfl⟩⟩
    rcases hw with rfl | ⟨t, rfl⟩
    · exact Below.refl _ _
    · exact Lib.bytesWorld_below _ _ _
  | range =>
    refine (Tryz.strconv_Atoi_range s hs hr b w h3 h4).mono ?_
    rintro e w' ⟨N, rfl, _, _, hb⟩
    exact ⟨hb, .inr ⟨(by rw [hr]; intro v h; cases h), _, _, _, rfl⟩⟩
  | _ =>
    refine (Tryz.strconv_Atoi_syntax s hs hr a w h1 h2).mono ?_
    rintro e w' ⟨N, rfl, _, _, hb⟩
    exact ⟨hb, .inr ⟨(by rw [hr]; intro v h; cases h), _, _, _, rfl⟩⟩

/-- A name's number, and whether there is one. -/
def NumOut (s : ByteArray) (w : World) (e : Ending) (w' : World) : Prop := e = .returned (.tuple #[.int .i64 (numB s : Int), .bool (decide (0 < numB s))]) ∧ Below w.heap.size w w'

set_option maxRecDepth 100000 in
set_option maxHeartbeats 2000000 in
theorem number_calls (s : ByteArray) (w : World) (hs : s.size ≤ 1099511627776) (ht : Tab w) (he : Errs w) : Calls Tryz.prog 130 #[.string s] w (NumOut s w) := by
  have hcl := cutP_le s
  have HTR : Hid (Calls Tryz.prog 129 #[.string s, .string ⟨#[115, 101, 103, 46]⟩] w fun e w' => e = .returned (.string ⟨(cutP s).toArray⟩) ∧ w' = w) := Lib.hid (Tryz.strings_TrimPrefix s ⟨#[115, 101, 103, 46]⟩ w)
  have hls : (⟨(cutP s).toArray⟩ : ByteArray).data.toList = cutP s := by simp
  have hsz : (⟨(cutP s).toArray⟩ : ByteArray).size ≤ 281474976710656 := by
    show (cutP s).toArray.size ≤ _
    rw [List.size_toArray]
    omega
  have hat := atoi_any ⟨(cutP s).toArray⟩ w hsz he
  rw [hls] at hat
  have HAT := Lib.hid hat
  have HNM := Lib.hid (fun W v (hb : Below w.heap.size w W) => name_calls v W (ht.below hb))
  have HBAD : Hid ((∀ v, Lib.atoiAll (cutP s) ≠ .ok v) → ∀ W, Below w.heap.size w W → NumOut s w (.returned (.tuple #[.int .i64 0, .bool false])) W) := Lib.hid (fun h W hb => by
    unfold NumOut
    rw [atoi_bad h]
    exact ⟨rfl, hb⟩)
  have HOK : Hid (∀ v, Lib.atoiAll (cutP s) = .ok v → ∀ W, Below w.heap.size w W → (s = nameB v → NumOut s w (.returned (.tuple #[.int .i64 v, .bool true])) W) ∧ (s ≠ nameB v → NumOut s w (.returned (.tuple #[.int .i64 0, .bool false])) W)) := Lib.hid (fun v h W hb => by
    obtain ⟨h1, h2⟩ := atoi_is h
    unfold NumOut
    refine ⟨fun e => ?_, fun e => ?_⟩
    · rw [(h1 e).1, decide_eq_true (h1 e).2]
      exact ⟨rfl, hb⟩
    · rw [h2 e]
      exact ⟨rfl, hb⟩)
  obtain ⟨X, hX⟩ : ∃ X : ByteArray, ⟨(cutP s).toArray⟩ = X := ⟨_, rfl⟩
  rw [hX] at HTR HAT
  obtain ⟨PST, hP⟩ : ∃ P, NumOut s w = P := ⟨_, rfl⟩
  simp only [hP] at HBAD HOK ⊢
  clear hcl hls hsz hat hX hP ht he hs
  go_enter Tryz.func130, Tryz.ntmps130
  go_wp2_with fail
  with_reducible refine HTR.out.mono ?_
  rintro e w1 ⟨rfl, rfl⟩
  go_wp2_with fail
  with_reducible refine HAT.out.mono ?_
  rintro e w2 ⟨hb2, h2⟩
  have HB2 := Lib.hid hb2
  clear hb2
  rcases h2 with ⟨v, hv, rfl⟩ | ⟨hv, v, T, x, rfl⟩
  · have HV := Lib.hid (fun W hb => HOK.out v hv W hb)
    clear hv
    go_wp2_with fail
    with_reducible refine (HNM.out w2 v HB2.out).mono ?_
    rintro e w3 ⟨rfl, hb3⟩
    have HB3 := Lib.hid (below_then HB2.out hb3)
    clear hb3
    obtain ⟨Y, hY⟩ : ∃ Y, nameB v = Y := ⟨_, rfl⟩
    simp only [hY] at HV
    rw [hY]
    clear hY
    by_cases hsy : s = Y
    · subst hsy
      have HF := Lib.hid ((HV.out _ HB3.out).1 rfl)
      have e1 : (s.toList == s.toList) = true := by simp
      clear HV
      go_wp2
      exact HF.out
    · have HF := Lib.hid ((HV.out _ HB3.out).2 hsy)
      have e1 := toList_ne hsy
      clear HV
      go_wp2
      exact HF.out
  · have HF := Lib.hid (HBAD.out hv _ HB2.out)
    clear hv
    go_wp2
    exact HF.out

end Go.Proofs.YtacfcfbleogioaaGreatDoor
