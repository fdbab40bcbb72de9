/-
  The statements' own 'awake': true. Condition: the library's table of powers of ten is laid.
-/
import Derived.Test.YtjhiekijbcjohaaGreatDoorSAppend
import Derived.Test.YtjhiekijbcjohaaGreatDoorSOpen
import Derived.Lib.SlBytesConst
import Derived.Lib.SlBytesRow
import Derived.KernelRfl
namespace Go.Proofs.YtjhiekijbcjohaaGreatDoor
open Go.RowKit Go.Lib Go.Joins

def oneL : List (List Nat) := [[111, 110, 101]]
def sa0 : Dsk := dsk0 1000
def sa1 : Dsk := (createB sa0 7).2
def sa2 : Dsk := (appendB sa1 7 ⟨12, false⟩ oneL).2.2
theorem saA : (createB sa0 7).1 = 0 := by decide +kernel
theorem saB : (appendB sa1 7 ⟨12, false⟩ oneL).1 = 0 := by decide +kernel
theorem saC : (openB sa2 7).1 = 0 := by decide +kernel
theorem saD : (openB sa2 7).2.2.1 = oneL := by decide +kernel
theorem saN : nameB 7 = ⟨#[115, 101, 103, 46, 48, 48, 48, 48, 48, 48, 48, 55]⟩ := by kernel_rfl
theorem few_dsk0 {room : Int} (h : room ≤ 9223372036854775807) : Few (dsk0 room) 0 0 :=
  ⟨⟨by unfold dsk0; show 0 ≤ max room 0; omega, by unfold dsk0; show max room 0 ≤ _; omega, List.Pairwise.nil, Nat.zero_le _, fun f hf => (by cases hf), fun f hf => (by cases hf), fun f hf => (by cases hf), by show ((used [] : Nat) : Int) ≤ max room 0; simp [used]; omega⟩, Nat.le_refl _, Int.le_refl _, Int.le_refl _⟩
theorem saF1 : Few sa1 12 4 := (few_dsk0 (by decide)).create 7
theorem saF2 : Few sa2 (12 + 11) 7 := saF1.append 7 ⟨12, false⟩ (by intro r hr; obtain rfl := List.mem_singleton.1 hr; intro c hc; simp only [List.mem_cons, List.not_mem_nil, or_false] at hc; omega)
def oneC : Array Value := #[.int .u8 111, .int .u8 110, .int .u8 101]
def oneS : ByteArray := { data := #[111, 110, 101] }

set_option maxRecDepth 100000 in
set_option maxHeartbeats 4000000 in
theorem awake_calls (w : World) (ht : Tab w) : Calls Tryz.prog 6 #[] w (Leaves (.bool true) w) := by
  have HTAB := Lib.hid ht
  have kc1 : ∀ w : World, (convert 27 27 (.slice (some ⟨w.heap.size, 0, none⟩) 3 3)).run Tryz.prog (w.alloc (.cells oneC 5)) = .ok (.slice (some ⟨w.heap.size, 0, none⟩) 3 3) (w.alloc (.cells oneC 5 (3, 4))) := fun w => Lib.run_convert_bytes_const (P := Tryz.prog) w 27 5 oneC 3 3 Tryz.underlying27 Tryz.underlying5
  unfold oneC at kc1
  clear ht
  go_enter Tryz.func6, Tryz.ntmps6
  go_wp2_with fail
  with_reducible refine (new_calls 1000 w (by decide)).mono ?_
  rintro e w1 ⟨B, S1, rfl, hd1, hf1, hb1⟩
  have HL1 : Hid (Live w w1 S1 B sa0) := Lib.hid (Live.born (Below.refl _ w) hd1 hf1 hb1)
  clear hd1 hf1 hb1
  have hc2 := screate_calls (n := 7) HL1.out HTAB.out (by decide) (few_dsk0 (by decide)) (by decide) (by decide)
  rw [saA, if_pos rfl] at hc2
  have HC2 := Lib.hid hc2
  clear hc2
  go_wp2_with fail
  with_reducible refine HC2.out.mono ?_
  rintro e w2 ⟨v2, ev2, rfl, herr2, S2, hl2, hf2, hk2, b, rfl, hbw, hbS, hg2⟩
  obtain rfl : ev2 = .nilIface := by
    rcases herr2 with ⟨_, h⟩ | ⟨h, _⟩
    · exact h
    · exact absurd rfl h
  have HL2 : Hid (Live w w2 S2 B sa1) := Lib.hid hl2
  have HG2 := Lib.hid hg2
  have HBS := Lib.hid hbS
  have HBW : Hid (w.heap.size ≤ b) := Lib.hid (Nat.le_trans HL1.out.bel.size hbw)
  obtain ⟨W2, hW2⟩ : ∃ W, w2.alloc (.cells oneC 5 (3, 4)) = W := ⟨_, rfl⟩
  have hb2 : Below w2.heap.size w2 W2 := by rw [← hW2]; exact (Below.refl _ _).alloc (Nat.le_refl _) _
  have hrow : Row W2 (One w2.heap.size) (some ⟨w2.heap.size, 0, none⟩) [111, 110, 101] := by rw [← hW2]; exact row_new w2 [111, 110, 101] (by decide) (3, 4)
  have hrecs := recs_made (RCells.one (byt_of (n := 3) (c := 3) hrow rfl (fun e => by cases e) (Nat.le_refl _) (by unfold maxLen; omega)))
  obtain ⟨W3, hW3⟩ : ∃ W, W2.alloc (.cells #[.slice (some ⟨w2.heap.size, 0, none⟩) 3 3] 27) = W := ⟨_, rfl⟩
  have hb3 : Below W2.heap.size W2 W3 := by rw [← hW3]; exact (Below.refl _ _).alloc (Nat.le_refl _) _
  obtain ⟨SR0, hrecs2⟩ : ∃ SR, Recs W3 SR (some ⟨W2.heap.size, 0, none⟩) oneL := ⟨_, by rw [← hW3]; exact hrecs⟩
  have hb23 := below_then hb2 hb3
  have hc3 := sappend_calls (some ⟨W2.heap.size, 0, none⟩) oneL 1 1 (HL2.out.quiet hb23) HTAB.out (HG2.out.below hb23) HBS.out HBW.out saF1 (by decide) (by decide) hrecs2 rfl (by decide)
  have hc3' : Calls Tryz.prog 23 #[.pointer (some ⟨b, 0, none⟩), .slice (some ⟨W2.heap.size, 0, none⟩) 1 1] W3 (AOut w W3 S2 b B 7 (appendB sa1 7 ⟨12, false⟩ oneL).1 sa2 (appendB sa1 7 ⟨12, false⟩ oneL).2.1) := hc3
  rw [saB] at hc3'
  subst hW3
  subst hW2
  unfold oneC at hc3'
  rw [World.size_alloc] at hc3'
  have HC3 := Lib.hid hc3'
  clear herr2 hl2 hf2 hk2 hbw hbS hg2 hb2 hrow hrecs hb3 hrecs2 hb23 hc3 hc3' HG2 HBS HBW
  go_wp2_with fail
  with_reducible refine HC3.out.mono ?_
  rintro e w4 ⟨ev4, rfl, herr4, S4, hl4, -, hbS4, hg4, -⟩
  obtain rfl : ev4 = .nilIface := by
    rcases herr4 with ⟨_, h⟩ | ⟨h, _⟩
    · exact h
    · exact absurd rfl h
  have hc5 := sopen_calls (n := 7) hl4 HTAB.out saF2 (by decide) (by decide)
  rw [saC, saD] at hc5
  have HC5 := Lib.hid hc5
  clear herr4 hl4 hbS4 hg4 hc5 HC3 kc1
  go_wp2_with fail
  with_reducible refine HC5.out.mono ?_
  rintro e w5 ⟨v5, ev5, a5, c5, SR, rfl, herr5, ⟨S5, hl5, -⟩, hr5, -, -, -, -⟩
  obtain rfl : ev5 = .nilIface := by
    rcases herr5 with ⟨_, h⟩ | ⟨h, _⟩
    · exact h
    · exact absurd rfl h
  have HB5 : Hid (Below w.heap.size w w5) := Lib.hid hl5.bel
  obtain ⟨b5, o5, da, dc, rfl, _, r0, hrow5, _⟩ := recs_at hr5 (i := 0) (l := [111, 110, 101]) rfl
  obtain ⟨bb, oo, rfl, hby⟩ : ∃ bb oo, da = some ⟨bb, oo, none⟩ ∧ Lib.Bytes w5 bb oo oneS := by
    obtain ⟨bb, oo, ha, _⟩ := row_at hrow5 (i := 0) (x := 111) rfl
    refine ⟨bb, oo, ha, fun i hi => ?_⟩
    obtain ⟨b', o', ha', hc⟩ := row_at hrow5 (i := i) (x := (oneS[i]).toNat) (by
      have hall : ∀ k : Fin 3, ([111, 110, 101] : List Nat)[k.val]? = some (oneS[k.val]'k.isLt).toNat := by decide +kernel
      exact hall ⟨i, hi⟩)
    rw [ha] at ha'
    obtain ⟨rfl, rfl⟩ : bb = b' ∧ oo = o' := by simpa using ha'
    exact hc
  have hcv := Lib.run_convert_whole (P := Tryz.prog) w5 27 5 9 Tryz.underlying27 Tryz.underlying5 Tryz.underlying9 bb oo oneS hby dc
  rw [show oneS.size = 3 from rfl] at hcv
  unfold oneS at hcv
  have HNM := Lib.hid (name_calls 7 w5 (HTAB.out.below HB5.out))
  rw [saN] at HNM
  have r0' : w5.cell? ⟨b5, o5, none⟩ = some (.slice (some ⟨bb, oo, none⟩) 3 dc) := r0
  dsimp only [oneL, List.length_cons, List.length_nil, Nat.zero_add, Nat.reduceAdd]
  clear herr5 hl5 hr5 hrow5 hby HC5 r0
  go_wp2_with fail
  with_reducible refine HNM.out.mono ?_
  rintro e w6 ⟨rfl, hb6⟩
  have HB6 := Lib.hid (below_then HB5.out hb6)
  clear hb6
  go_wp2
  go_ret
  exact ⟨rfl, HB6.out⟩

end Go.Proofs.YtjhiekijbcjohaaGreatDoor
