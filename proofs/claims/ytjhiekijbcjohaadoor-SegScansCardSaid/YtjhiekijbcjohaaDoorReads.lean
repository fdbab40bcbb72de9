/-
  The program's New, Names, Read, Ops, Down. Conditions: the disk lies in memory.
-/
import Derived.Test.YtjhiekijbcjohaaDoorUsed
import Derived.OwnWalkIn
import Derived.TacticsInMore
namespace Go.Proofs.YtjhiekijbcjohaaDoor
open Go.RowKit Go.Lib Go.Joins

theorem info9 : (Tryd.prog.info? 9).map (fun i => (i.zero, i.size, i.bytes)) = some (some (.string ⟨#[]⟩), 1, 16) := by kernel_rfl

/-- A new slice of these names. -/
def NamesOut (l : List ByteArray) (w : World) (e : Ending) (w' : World) : Prop :=
  ∃ v, e = .returned v ∧ w'.ownsRow w.heap.size 9 1 v l.length (l.map Value.string) ∧ Below w.heap.size w w'

theorem srt_le : ∀ (L : List Fil), Srt L → (L.map (fun f => f.name.data.toList)).Pairwise (fun x y => x ≤ y) := by
  intro L h
  rw [List.pairwise_map]
  refine h.imp (fun {a b} hab => ?_)
  unfold nlt at hab
  simp only [decide_eq_true_eq] at hab
  exact List.le_of_lt hab

theorem sorted_names {L : List Fil} (h : Srt L) {ss : List (List UInt8)} (hp : ss.Perm (L.map (fun f => f.name.data.toList))) : ss.mergeSort (fun x y => decide (x ≤ y)) = L.map (fun f => f.name.data.toList) := by
  rw [Go.mergeSort_of_perm hp]
  refine List.mergeSort_of_pairwise ?_
  exact (srt_le L h).imp (fun hxy => by simpa using hxy)

theorem enc_name (s : ByteArray) : encStr s.data.toList = .string s := by simp [encStr]

end Go.Proofs.YtjhiekijbcjohaaDoor
