/-
 Takes of drawn regions, said shortly. No condition.
-/
import Derived.OrdersHeld
import Derived.Test.YtjpkkflhcjjefaaGreatDoorBase
namespace Go.Proofs.YtjpkkflhcjjefaaGreatDoor
open Go.RowKit Go.Lib

theorem LT : type_of% @List.getElem_toArray.{0} ∧ type_of% @List.getElem_cons_succ.{0} ∧ type_of% @List.getElem_cons_zero.{0} ∧ type_of% @List.setIfInBounds_toArray.{0} ∧ type_of% @List.set_cons_zero.{0} ∧ type_of% @List.set_cons_succ.{0} :=
  ⟨@List.getElem_toArray.{0}, @List.getElem_cons_succ.{0}, @List.getElem_cons_zero.{0}, @List.setIfInBounds_toArray.{0}, @List.set_cons_zero.{0}, @List.set_cons_succ.{0}⟩
theorem tkH {P : Program} {md : Region.Mode} {ops : Array Oper} {Q : Exit → Act → World → Prop} {S : World → Prop} (i : Nat) {oi : Oper} {v : Value} {fuel : Nat} {listed : Array Bool} {a : Act} {w : World} (h : wpAnyH P md ops Q S fuel (listed.setIfInBounds i true) (a.put oi.dst v) w) (hi : ops[i]? = some oi := by rfl)
    (hy : ∀ w, S w → (execOp a.eval oi).run P w = .ok (.value v) w := by (intro W hS; (try dsimp only at hS); go_simp; try with_reducible rfl))
    (hk : (Region.noSelect ops && Region.free md ops listed i && (Region.ready md ops listed).contains i) = true := by kernel_rfl)
    (hQ : ∀ c a w, Q (.panic c) (a.put oi.dst v) w → Q (.panic c) a w := by exact fun _ _ _ h => h) (hg : Region.wanted oi (yielded ops a.tmps) = true := by rfl) (hS : S w := by assumption) : wpAnyH P md ops Q S (fuel + 1) listed a w := by
  rw [Bool.and_eq_true, Bool.and_eq_true] at hk
  exact wpAnyH_take hi hk.1.1 hk.1.2 hk.2 hQ (.inl ⟨hg, hy⟩) hS h

end Go.Proofs.YtjpkkflhcjjefaaGreatDoor
