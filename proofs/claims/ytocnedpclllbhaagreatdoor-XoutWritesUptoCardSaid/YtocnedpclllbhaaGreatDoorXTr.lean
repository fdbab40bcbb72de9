/-
 A document's tree by definition, as the program grows it token by token; what bounds it has. Of no program. No condition.
-/
import Derived.Test.YtocnedpclllbhaaGreatDoorXGd
namespace Go.Proofs.YtocnedpclllbhaaGreatDoor
open Go.RowKit Go.Lib Go.Joins

/-- A node of a tree. -/
inductive Tr where
  | mk (kind : Int) (name text : List UInt8) (attrs : List (List UInt8 × List UInt8)) (kids : List Tr)
def Tr.kind : Tr → Int
  | .mk k _ _ _ _ => k
def Tr.name : Tr → List UInt8
  | .mk _ n _ _ _ => n
def Tr.text : Tr → List UInt8
  | .mk _ _ t _ _ => t
def Tr.attrs : Tr → List (List UInt8 × List UInt8)
  | .mk _ _ _ a _ => a
def Tr.kids : Tr → List Tr
  | .mk _ _ _ _ k => k
mutual
def Tr.count : Tr → Nat
  | .mk _ _ _ ats ks => 1 + ats.length + cntL ks
def cntL : List Tr → Nat
  | [] => 0
  | t :: ts => t.count + cntL ts
end
mutual
def Tr.depth : Tr → Nat
  | .mk k _ _ _ ks => if k = 1 then depL ks + 1 else 0
def depL : List Tr → Nat
  | [] => 0
  | t :: ts => max t.depth (depL ts)
end
/-- An open element, and its children so far. -/
structure Fr where
  name : List UInt8
  attrs : List (List UInt8 × List UInt8)
  kids : List Tr
theorem cntL_app : ∀ a b : List Tr, cntL (a ++ b) = cntL a + cntL b
  | [], b => by rw [List.nil_append, cntL]; omega
  | t :: a, b => by rw [List.cons_append, cntL, cntL, cntL_app a b]; omega
theorem cntL_one (t : Tr) : cntL [t] = t.count := by rw [cntL, cntL]; omega
theorem depL_app : ∀ a b : List Tr, depL (a ++ b) = max (depL a) (depL b)
  | [], b => by rw [List.nil_append, depL]; omega
  | t :: a, b => by rw [List.cons_append, depL, depL, depL_app a b]; omega
theorem depL_one (t : Tr) : depL [t] = t.depth := by rw [depL, depL]; omega
theorem count_mk (k : Int) (n t : List UInt8) (a : List (List UInt8 × List UInt8)) (ks : List Tr) : (Tr.mk k n t a ks).count = 1 + a.length + cntL ks := by rw [Tr.count]
theorem depth_mk (k : Int) (n t : List UInt8) (a : List (List UInt8 × List UInt8)) (ks : List Tr) : (Tr.mk k n t a ks).depth = if k = 1 then depL ks + 1 else 0 := by rw [Tr.depth]
variable {nm : List UInt8 → Bool}
theorem cntL_len : ∀ l : List Tr, l.length ≤ cntL l
  | [] => Nat.zero_le _
  | t :: l => by
    have := cntL_len l
    obtain ⟨k, n, x, a, ks⟩ := t
    rw [cntL, count_mk, List.length_cons]
    omega
end Go.Proofs.YtocnedpclllbhaaGreatDoor
