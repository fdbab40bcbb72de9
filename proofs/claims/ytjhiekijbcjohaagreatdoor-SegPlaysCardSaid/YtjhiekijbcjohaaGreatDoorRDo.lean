/-
  The reference's Do, at every operation. Conditions: the disk lies in memory; names are short, bytes, files and troubles few.
-/
import Derived.Test.YtjhiekijbcjohaaGreatDoorRDoDT
import Derived.Test.YtjhiekijbcjohaaGreatDoorRDoCE
import Derived.Test.YtjhiekijbcjohaaGreatDoorRDoU
namespace Go.Proofs.YtjhiekijbcjohaaGreatDoor
open Go.RowKit Go.Lib Go.Joins

theorem rdo_calls (s t : ByteArray) (n : Int) (a : Option Addr) (b : List Nat) (m c : Nat) (w : World) {S O : Nat → Prop} {B : Nat} {d : Dsk} {k : Nat} (hk : 1 ≤ k ∧ k ≤ 6) (hh : DoHyp w S O B d s t a b m c) :
    Calls Tryz.prog 46 #[.pointer (some ⟨B, 0, none⟩), .int .i64 (k : Int), .string s, .string t, .int .i64 n, .slice a m c] w (RDoes w S B (.int .i64 (step d ⟨k, s, t, n, b⟩).1) (step d ⟨k, s, t, n, b⟩).2) := by
  cases hdown : d.down with
  | true => exact rdo_down s t n a b m c w hh hdown
  | false =>
    by_cases hr : ref d ⟨k, s, t, n, b⟩ = 0
    · cases ht : tro d.tr (d.ops + 1) with
      | none =>
        rcases (show k = 1 ∨ k = 2 ∨ k = 3 ∨ k = 4 ∨ k = 5 ∨ k = 6 by omega) with rfl | rfl | rfl | rfl | rfl | rfl
        · exact rdo_1 s t n a b m c w hh hdown hr ht
        · exact rdo_2 s t n a b m c w hh hdown hr ht
        · exact rdo_3 s t n a b m c w hh hdown hr ht
        · exact rdo_4 s t n a b m c w hh hdown hr ht
        · exact rdo_5 s t n a b m c w hh hdown hr ht
        · exact rdo_6 s t n a b m c w hh hdown hr ht
      | some tt =>
        by_cases h2 : k = 2
        · subst h2
          rcases Int.lt_or_le 0 tt.part with hp | hp
          · exact rdo_t2p s t n a b m c w hh hdown hr ht hp
          · exact rdo_t2n s t n a b m c w hh hdown hr ht hp
        · exact rdo_tn s t n a b m c w hh hk h2 hdown hr ht
    · by_cases h2 : k = 2
      · subst h2
        exact rdo_ref2 s t n a b m c w hh hdown hr
      · exact rdo_ref s t n a b m c w hh hk h2 hdown hr

end Go.Proofs.YtjhiekijbcjohaaGreatDoor
