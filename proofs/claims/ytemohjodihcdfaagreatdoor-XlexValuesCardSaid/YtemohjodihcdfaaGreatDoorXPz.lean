/-
  A scan's steps fail with a code that isn't 0; the tokens of two short documents. Of no program. No condition.
-/
import Derived.Test.YtemohjodihcdfaaGreatDoorXP
import Derived.KernelRfl
namespace Go.Proofs.YtemohjodihcdfaaGreatDoor

def Sx.Nz {α : Type} (s : Sx α) : Prop := ∀ c p, s = .no c p → c ≠ 0
theorem Sx.nz_no {α : Type} {c p : Nat} (h : c ≠ 0) : (Sx.no c p : Sx α).Nz := fun _ _ e => by cases e; exact h
theorem Sx.nz_ok {α : Type} (x : α) (i : Nat) (r : List UInt8) : (Sx.ok x i r).Nz := fun _ _ e => by cases e
theorem Sx.Nz.then {α β : Type} {s : Sx α} {f : α → Nat → List UInt8 → Sx β} (h : s.Nz) (hf : ∀ x j t, (f x j t).Nz) : (s.then f).Nz := by
  cases s with
  | no c p => intro c' p' e; cases e; exact h c p rfl
  | ok x j t => exact hf x j t
theorem peekS_nz (i : Nat) (r : List UInt8) : (peekS i r).Nz := by cases r; exact Sx.nz_no (by decide); exact Sx.nz_ok _ _ _
theorem mustS_nz (c : UInt8) (i : Nat) (r : List UInt8) : (mustS c i r).Nz := by
  cases r with
  | nil => exact Sx.nz_no (by decide)
  | cons x t => rw [mustS]; split; exact Sx.nz_ok _ _ _; exact Sx.nz_no (by decide)
theorem blkS_nz : ∀ (r : List UInt8) (i : Nat), (blkS i r).Nz
  | [], _ => Sx.nz_no (by decide)
  | x :: t, i => by rw [blkS]; split; exact blkS_nz t _; exact Sx.nz_ok _ _ _
theorem blanksS_nz (i : Nat) (r : List UInt8) : (blanksS i r).Nz := (blkS_nz r i).then fun _ _ _ => Sx.nz_ok _ _ _
theorem nmG_nz : ∀ (g : Nat) (fb : Bool) (i : Nat) (r : List UInt8), (nmG g fb i r).Nz
  | 0, _, _, _ => Sx.nz_no (by decide)
  | g + 1, fb, i, r => by
    rw [nmG]
    split
    · exact Sx.nz_no (by decide)
    · split
      · exact nmG_nz g _ _ _
      · exact Sx.nz_ok _ _ _
theorem nameS_nz (i : Nat) (r : List UInt8) : (nameS i r).Nz := (nmG_nz _ _ _ _).then fun _ _ _ => by
  try dsimp only
  split
  · exact Sx.nz_no (by decide)
  · exact Sx.nz_ok _ _ _
theorem upToS_nz (m : List UInt8) (i : Nat) (r : List UInt8) : (upToS m i r).Nz := by
  unfold upToS
  split
  · exact Sx.nz_no (by decide)
  · exact Sx.nz_ok _ _ _
theorem refS_nz (i : Nat) (r : List UInt8) : (refS i r).Nz := by
  unfold refS
  split
  · exact Sx.nz_no (by decide)
  · split
    · exact Sx.nz_no (by decide)
    · exact Sx.nz_ok _ _ _
theorem mixG_nz (q : Option UInt8) : ∀ (g i : Nat) (r : List UInt8), (mixG q g i r).Nz
  | 0, _, _ => Sx.nz_no (by decide)
  | g + 1, i, r => by
    rw [mixG]
    split
    · exact Sx.nz_no (by decide)
    · split
      · exact (refS_nz _ _).then fun _ _ _ => (mixG_nz q g _ _).then fun _ _ _ => Sx.nz_ok _ _ _
      · exact Sx.nz_ok _ _ _
theorem valueS_nz (i : Nat) (r : List UInt8) : (valueS i r).Nz := (peekS_nz _ _).then fun _ _ _ => by
  try dsimp only
  split
  · exact Sx.nz_no (by decide)
  · exact (mixG_nz _ _ _ _).then fun _ _ _ => (mustS_nz _ _ _).then fun _ _ _ => Sx.nz_ok _ _ _
theorem attrS_nz (ns : List (List UInt8)) (i : Nat) (r : List UInt8) : (attrS ns i r).Nz := (nameS_nz _ _).then fun _ _ _ => by
  try dsimp only
  split
  · exact Sx.nz_no (by decide)
  · exact (blanksS_nz _ _).then fun _ _ _ => (mustS_nz _ _ _).then fun _ _ _ => (blanksS_nz _ _).then fun _ _ _ => (valueS_nz _ _).then fun _ _ _ => Sx.nz_ok _ _ _
theorem tagG_nz : ∀ (g : Nat) (ats : List (List UInt8 × List UInt8)) (i : Nat) (r : List UInt8), (tagG g ats i r).Nz
  | 0, _, _, _ => Sx.nz_no (by decide)
  | g + 1, ats, i, r => by
    rw [tagG]
    refine (blanksS_nz _ _).then fun _ _ _ => (peekS_nz _ _).then fun _ _ _ => ?_
    try dsimp only
    split
    · exact (mustS_nz _ _ _).then fun _ _ _ => Sx.nz_ok _ _ _
    · split
      · exact (mustS_nz _ _ _).then fun _ _ _ => Sx.nz_ok _ _ _
      · split
        · exact Sx.nz_no (by decide)
        · exact (attrS_nz _ _ _).then fun _ _ _ => tagG_nz g _ _ _
theorem startS_nz (i : Nat) (r : List UInt8) : (startS i r).Nz := (nameS_nz _ _).then fun _ _ _ => (tagG_nz _ _ _ _).then fun _ _ _ => Sx.nz_ok _ _ _
theorem endTagS_nz (i : Nat) (r : List UInt8) : (endTagS i r).Nz := (nameS_nz _ _).then fun _ _ _ => (blanksS_nz _ _).then fun _ _ _ => (mustS_nz _ _ _).then fun _ _ _ => Sx.nz_ok _ _ _
theorem piS_nz (i : Nat) (r : List UInt8) : (piS i r).Nz := (nameS_nz _ _).then fun _ _ _ => by
  try dsimp only
  split
  · exact Sx.nz_no (by decide)
  · refine (blanksS_nz _ _).then fun _ _ _ => ?_
    try dsimp only
    split
    · exact (upToS_nz _ _ _).then fun _ _ _ => Sx.nz_ok _ _ _
    · exact (mustS_nz _ _ _).then fun _ _ _ => (mustS_nz _ _ _).then fun _ _ _ => Sx.nz_ok _ _ _
theorem commentS_nz (i : Nat) (r : List UInt8) : (commentS i r).Nz := (upToS_nz _ _ _).then fun _ _ _ => (peekS_nz _ _).then fun _ _ _ => by
  try dsimp only
  split
  · exact Sx.nz_no (by decide)
  · exact Sx.nz_ok _ _ _
theorem opensS_nz (m : List UInt8) (i : Nat) (r : List UInt8) : (opensS m i r).Nz := by
  unfold opensS
  split
  · exact Sx.nz_no (by decide)
  · split <;> exact Sx.nz_ok _ _ _
theorem lenS_nz (i : Nat) {m : Sx Bool} {yes : Nat → List UInt8 → Sx Tk} {no : Sx Tk} (hm : m.Nz) (hy : ∀ j t, (yes j t).Nz) (hn : no.Nz) : (lenS i m yes no).Nz := hm.then fun _ _ _ => by
  try dsimp only
  split
  · exact hy _ _
  · exact hn
theorem tokS_nz (i : Nat) (r : List UInt8) : (tokS i r).Nz := by
  unfold tokS
  split
  · exact (mixG_nz _ _ _ _).then fun _ _ _ => Sx.nz_ok _ _ _
  · refine lenS_nz i (opensS_nz _ _ _) (fun _ _ => (commentS_nz _ _).then fun _ _ _ => Sx.nz_ok _ _ _) ?_
    refine lenS_nz i (opensS_nz _ _ _) (fun _ _ => (upToS_nz _ _ _).then fun _ _ _ => Sx.nz_ok _ _ _) ?_
    refine lenS_nz i (opensS_nz _ _ _) (fun _ _ => Sx.nz_no (by decide)) ?_
    refine lenS_nz i (opensS_nz _ _ _) (fun _ _ => (piS_nz _ _).then fun _ _ _ => Sx.nz_ok _ _ _) ?_
    refine lenS_nz i (opensS_nz _ _ _) (fun _ _ => (endTagS_nz _ _).then fun _ _ _ => Sx.nz_ok _ _ _) ?_
    refine lenS_nz i (opensS_nz _ _ _) (fun _ _ => (startS_nz _ _).then fun _ _ _ => Sx.nz_ok _ _ _) ?_
    first
      | exact Sx.nz_ok _ _ _
      | exact Sx.nz_no (by decide)
theorem Sx.nz_ite {α : Type} {c : Prop} [Decidable c] {s t : Sx α} (hs : s.Nz) (ht : t.Nz) : (if c then s else t).Nz := by
  split
  · exact hs
  · exact ht
theorem declS_nz (b : List UInt8) : (declS b).Nz := Sx.nz_ite ((upToS_nz _ _ _).then fun _ _ _ => Sx.nz_ite (Sx.nz_ok _ _ _) (Sx.nz_no (by decide))) (Sx.nz_ok _ _ _)

end Go.Proofs.YtemohjodihcdfaaGreatDoor
namespace Go.Proofs.YtemohjodihcdfaaGreatDoor
def doc1 : List UInt8 := [60, 97, 32, 120, 61, 39, 49, 39, 62, 98, 38, 97, 109, 112, 59, 99, 60, 47, 97, 62]
set_option maxRecDepth 100000 in
theorem all_doc1 : allS doc1 = .ok [⟨1, 0, [97], [], [([120], [49])]⟩, ⟨4, 9, [], [98, 38, 99], []⟩, ⟨3, 16, [97], [], []⟩] 20 [] := by kernel_rfl
set_option maxRecDepth 100000 in
theorem all_doc2 : allS [60, 97] = .no 6 2 := by kernel_rfl
end Go.Proofs.YtemohjodihcdfaaGreatDoor
