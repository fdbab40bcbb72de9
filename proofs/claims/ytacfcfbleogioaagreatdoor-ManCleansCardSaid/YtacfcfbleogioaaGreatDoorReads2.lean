/-
  The program's Read, Ops, Down, New. Conditions: the disk lies in memory; numbers and names are small.
-/
import Derived.Test.YtacfcfbleogioaaGreatDoorUsedA
import Derived.Test.YtacfcfbleogioaaGreatDoorOpsB
namespace Go.Proofs.YtacfcfbleogioaaGreatDoor
open Go.RowKit Go.Lib Go.Joins

/-- What Read answers. -/
def ReadOut (o : Option Fil) (w : World) (e : Ending) (w' : World) : Prop :=
  Below w.heap.size w w' ∧ match o with
    | none => e = .returned (.tuple #[.slice none 0 0, .int .i64 42])
    | some f => ∃ v, e = .returned (.tuple #[v, .int .i64 0]) ∧ w'.ownsRow w.heap.size 5 1 v f.data.length (cellsN f.data)

set_option maxRecDepth 100000 in
set_option maxHeartbeats 2000000 in
theorem read_calls (s : ByteArray) (w : World) {S : Nat → Prop} {B : Nat} {d : Dsk} (hd : Disk w S B d) (hu : used d.L ≤ 1073741824) (hz : s.size ≤ 1099511627776) :
    Calls Tryz.prog 43 #[.pointer (some ⟨B, 0, none⟩), .string s] w (ReadOut (fnd s d.L) w) := by
  obtain ⟨hi, _, F, T, cs, h⟩ := hd
  have hfc := find_calls s w h hz
  have hcf := fnd_cs h s
  rw [hcf]
  cases hc : cfnd s cs with
  | none =>
    rw [hc] at hfc
    dsimp only [Option.isSome, ptr] at hfc
    simp only [Bool.false_eq_true, if_false] at hfc
    have HFC := Lib.hid hfc
    clear hfc hu h hi hcf hc
    go_enter Tryz.func43, Tryz.ntmps43
    go_wp2_with fail
    refine HFC.out.mono ?_
    rintro e w' ⟨rfl, rfl⟩
    go_wp2
    go_ret2
    exact ⟨Below.refl _ _, rfl⟩
  | some c =>
    rw [hc] at hfc
    dsimp only [Option.isSome, ptr] at hfc
    simp only [if_true] at hfc
    have HFC := Lib.hid hfc
    obtain ⟨hm, hcn⟩ := cfnd_some hc
    obtain ⟨a, cap, hdv⟩ := dv_form (h.row c hm)
    have hlen : c.f.data.length ≤ 1073741824 := Nat.le_trans (used_mem (by rw [← h.is]; exact List.mem_map.2 ⟨c, hm, rfl⟩)) hu
    have hcd : w.cell? ⟨c.fb, 0, none⟩ = some (.slice a c.f.data.length cap) := by rw [← hdv]; exact (cell_of_block (h.file c hm) 0).trans rfl
    have hby := row_of_own (hi.byte c.f (by rw [← h.is]; exact List.mem_map.2 ⟨c, hm, rfl⟩)) rfl (h.row c hm)
    obtain ⟨a2, cap2, hv2, hrow, _⟩ := hby.is
    rw [hdv] at hv2
    obtain ⟨rfl, _, rfl⟩ := Value.slice.inj hv2
    have HCL := Lib.hid (clone_calls a cap c.f.data _ w hrow hlen)
    show Calls Tryz.prog 43 _ w (ReadOut (some c.f) w)
    obtain ⟨D, hD⟩ : ∃ D, c.f.data = D := ⟨_, rfl⟩
    obtain ⟨len, hln⟩ : ∃ len, c.f.data.length = len := ⟨_, rfl⟩
    rw [hln] at hcd HCL
    have HLN := Lib.hid hln
    clear hfc hu h hi hcf hc hdv hlen hby hv2 hrow hD hln
    go_enter Tryz.func43, Tryz.ntmps43
    go_wp2_with fail
    refine HFC.out.mono ?_
    rintro e w' ⟨rfl, rfl⟩
    go_wp2_with fail
    with_reducible refine HCL.out.mono ?_
    rintro e w2 ⟨v, rfl, hown, hb⟩
    have HO := Lib.hid hown
    have HB := Lib.hid hb
    clear hown hb
    go_wp2
    go_ret2
    exact ⟨HB.out, v, rfl, HO.out⟩

def dsk0 (room : Int) : Dsk := ⟨max room 0, [], [], 0, false⟩

/-- A new disk. -/
def Born (d : Dsk) (w : World) (e : Ending) (w' : World) : Prop := ∃ B S, e = .returned (.pointer (some ⟨B, 0, none⟩)) ∧ Disk w' S B d ∧ Fresh Non w.heap.size S ∧ Below w.heap.size w w'

set_option maxRecDepth 100000 in
theorem new_calls (room : Int) (w : World) (h1 : room ≤ 9223372036854775807) : Calls Tryz.prog 28 #[.int .i64 room] w (Born (dsk0 room) w) := by
  have hmm := @run_makeMap Tryz.prog
  obtain ⟨R, hR⟩ : ∃ R, max room 0 = R := ⟨_, rfl⟩
  have H : Hid (Born (dsk0 room) w (.returned (.pointer (some ⟨w.heap.size + 1, 0, none⟩))) ((w.alloc (.map #[] 0)).alloc (.cells #[.int .i64 R, .map (some w.heap.size), .map none, .int .i64 0, .bool false] 78))) := Lib.hid (by
    refine ⟨w.heap.size + 1, _, rfl, ⟨⟨?_, ?_, List.Pairwise.nil, Nat.zero_le _, ?_, ?_, ?_, ?_⟩, fun k e => e.2, w.heap.size, none, [], DiskAt.tight (S := fun k => w.heap.size ≤ k) ?_⟩, fun k hk => .inr hk.1, ((Below.refl _ w).alloc (Nat.le_refl _) _).alloc (by simp) _⟩
    · unfold dsk0; show 0 ≤ max room 0; omega
    · unfold dsk0; show max room 0 ≤ _; omega
    · intro f hf; cases hf
    · intro f hf; cases hf
    · intro f hf; cases hf
    · show ((used [] : Nat) : Int) ≤ max room 0; simp [used]; omega
    · refine { blk := ?_, map := ?_, tro := fun i => rfl, file := ?_, row := ?_, is := rfl, fbs := List.nodup_nil, dbs := ?_, mapT := by simp, sB := by omega, sF := Nat.le_refl _, sT := (fun k e => by cases e), sfb := ?_, sdb := ?_ }
      · rw [← hR]; exact alloc2_at1 _ _ _
      · exact ((World.ownsMap_made w Tryz.prog 9 Rp).alloc _)
      · intro c hc; cases hc
      · intro c hc; cases hc
      · intro c hc; cases hc
      · intro c hc; cases hc
      · intro c hc; cases hc)
  clear h1
  go_enter Tryz.func28, Tryz.ntmps28
  go_wp2
  go_ret
  exact H.out

end Go.Proofs.YtacfcfbleogioaaGreatDoor
