/-
  The program's New, Names, Read, Ops, Down. Conditions: the disk lies in memory.
-/
import Derived.Test.YtjhiekijbcjohaaGreatDoorUsed
import Derived.OwnWalkIn
import Derived.TacticsInMore
namespace Go.Proofs.YtjhiekijbcjohaaGreatDoor
open Go.RowKit Go.Lib Go.Joins

theorem info9 : (Tryz.prog.info? 9).map (fun i => (i.zero, i.size, i.bytes)) = some (some (.string ⟨#[]⟩), 1, 16) := by kernel_rfl

/-- A new slice of these names. -/
def NamesOut (l : List ByteArray) (w : World) (e : Ending) (w' : World) : Prop :=
  ∃ v, e = .returned v ∧ w'.ownsRow w.heap.size 9 1 v l.length (l.map Value.string) ∧ Below w.heap.size w w'

theorem srt_le : ∀ (L : List Fil), Srt L → (L.map (fun f => f.name.data.toList)).Pairwise (fun x y => x ≤ y) := by
  intro L h
  rw [List.pairwise_map]
  refine h.imp (fun {a b} hab => ?_)
  unfold nlt at hab
  simp only [decide_eq_true_eq] at hab
  exact List.le_of_lt hab

theorem sorted_names {L : List Fil} (h : Srt L) {ss : List (List UInt8)} (hp : ss.Perm (L.map (fun f => f.name.data.toList))) : ss.mergeSort (fun x y => decide (x ≤ y)) = L.map (fun f => f.name.data.toList) := by
  rw [Go.mergeSort_of_perm hp]
  refine List.mergeSort_of_pairwise ?_
  exact (srt_le L h).imp (fun hxy => by simpa using hxy)

theorem enc_name (s : ByteArray) : encStr s.data.toList = .string s := by simp [encStr]

set_option maxRecDepth 100000 in
set_option maxHeartbeats 2000000 in
theorem names_calls (w : World) {S : Nat → Prop} {B : Nat} {d : Dsk} {F : Nat} {T : Option Nat} {cs : List Cel} (h : DiskAt w S B d F T cs) (hi : Inv d) :
    Calls Tryz.prog 48 #[.pointer (some ⟨B, 0, none⟩)] w (NamesOut (d.L.map Fil.name) w) := by
  have hown := h.map
  have hc1 : w.cell? ⟨B, 1, none⟩ = some (.map (some F)) := (cell_of_block h.blk 1).trans rfl
  have hlen : cs.length ≤ 64 := by have := hi.most; rw [← h.is, List.length_map] at this; exact this
  have hsz := size_dat cs
  have HS : Hid (∀ ss : List (List UInt8), ss.Perm (Go.strKeys (dat cs)) → (ss.mergeSort (fun x y => decide (x ≤ y))).map encStr = (d.L.map Fil.name).map Value.string ∧ ss.length = (d.L.map Fil.name).length) := Lib.hid (by
    intro ss hp
    have e : Go.strKeys (dat cs) = d.L.map (fun f => f.name.data.toList) := by
      rw [← h.is, List.map_map]
      show (cs.map ent).map (fun p => Go.strOf p.1) = _
      rw [List.map_map]
      rfl
    rw [e] at hp
    refine ⟨?_, by have := hp.length_eq; simpa using this⟩
    rw [sorted_names hi.srt hp, List.map_map, List.map_map]
    exact List.map_congr_left (fun f _ => enc_name _))
  obtain ⟨l, hl⟩ : ∃ l, d.L.map Fil.name = l := ⟨_, rfl⟩
  rw [hl] at HS ⊢
  have HC := fun W (ho : W.ownsMap Tryz.prog 9 Rp F cs.length (dat cs)) => Tryz.slices_Sorted_keys_44_45 F cs.length (dat cs) Rp W ho (by rw [hsz]; unfold maxLen; omega) (by rw [hsz]; omega)
  have HCC := Lib.hid (HC w hown)
  clear HC hlen hsz hl h hi hown
  refine (callsIn_wide (n := 6)).1 ?_
  have hfK : Fence.wide.fn 86 := trivial
  have hfS : Fence.wide.fn 85 := trivial
  refine callsIn_of_wp Tryz.func48 rfl trivial ?_ rfl
  simp only [Tryz.ntmps48, List.size_toArray, List.length_cons, List.length_nil, Nat.reduceAdd, Nat.reduceSub, Array.replicate_succ, Array.replicate_zero, List.push_toArray, List.append_toArray, List.nil_append, List.cons_append]
  gi_wp2_with (first
    | (gi_at_call 86; refine (Tryz.maps_Keys_45 _ _).mono ?_; rintro e w' ⟨rfl, rfl⟩)
    | (gi_at_call 85; refine HCC.out.mono ?_; rintro e w' ⟨v, ss, rfl, hS, hrow, hnil, hb⟩))
  go_ret
  obtain ⟨h1, h2⟩ := HS.out ss hS
  rw [h1, h2] at hrow
  exact ⟨v, rfl, ownsRow_base_a hrow (by simp), ((Below.refl _ w).alloc (Nat.le_refl _) _).trans (hb.mono (by simp))⟩

end Go.Proofs.YtjhiekijbcjohaaGreatDoor
