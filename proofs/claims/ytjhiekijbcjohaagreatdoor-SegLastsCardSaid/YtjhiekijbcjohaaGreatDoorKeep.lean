/-
  The program's keep: a file's first bytes are left. Conditions: the file lies in memory; it has so many bytes.
-/
import Derived.Test.YtjhiekijbcjohaaGreatDoorUsed
import Derived.BigRegion
namespace Go.Proofs.YtjhiekijbcjohaaGreatDoor
open Go.RowKit Go.Lib Go.Joins

/-- A file's struct has been written, and nothing else. -/
def SetF (fb : Nat) (dv : Value) (safe : Int) (w w' : World) : Prop := w'.heap[fb]? = some (.cells #[dv, .int .i64 safe] 98 (0, 0)) ∧ Keeps (One fb) w w'

def KeepOut (fb : Nat) (dv : Value) (safe : Int) (w : World) (e : Ending) (w' : World) : Prop := e = .returned (.tuple #[]) ∧ SetF fb dv safe w w'

theorem setF_of {fb : Nat} {dv dv' : Value} {s s' : Int} {w : World} (h : w.heap[fb]? = some (.cells #[dv, .int .i64 s] 98 (0, 0))) :
    SetF fb dv' s' w ((w.setCell ⟨fb, 0, none⟩ dv').setCell ⟨fb, 1, none⟩ (.int .i64 s')) :=
  ⟨block_setCell (block_setCell h dv') (.int .i64 s'), ((Keeps.refl (One fb) w).setCell (p := ⟨fb, 0, none⟩) (.inl rfl) _).setCell (p := ⟨fb, 1, none⟩) (.inl rfl) _⟩
theorem SetF.drew {fb : Nat} {dv : Value} {s : Int} {w w' : World} (h : SetF fb dv s w w') : SetF fb dv s w w'.drew := ⟨h.1, h.2.drew⟩

/-- The slice behind a cut. -/
def cutV (dv : Value) (n : Nat) : Value := match dv with | .slice a _ c => .slice a n c | v => v

set_option maxRecDepth 100000 in
set_option maxHeartbeats 4000000 in
theorem keep_calls (fb : Nat) (a : Option Addr) (len cap n safe : Nat) (w : World) (h : w.heap[fb]? = some (.cells #[.slice a len cap, .int .i64 (safe : Int)] 98 (0, 0))) (hn : n ≤ len) (hl : len ≤ cap) (hc : cap ≤ maxLen) (ha : a = none → cap = 0) :
    Calls Tryz.prog 55 #[.pointer (some ⟨fb, 0, none⟩), .int .i64 (n : Int)] w (KeepOut fb (.slice a n cap) ((min safe n : Nat) : Int) w) := by
  have h0 : w.cell? ⟨fb, 0, none⟩ = some (.slice a len cap) := (cell_of_block h 0).trans rfl
  have h1 : w.cell? ⟨fb, 1, none⟩ = some (.int .i64 (safe : Int)) := (cell_of_block h 1).trans rfl
  have f0 : w.frozen? ⟨fb, 0, none⟩ = false := unfrozen_of_block h 0
  have f1 : w.frozen? ⟨fb, 1, none⟩ = false := unfrozen_of_block h 1
  have HH := Lib.hid h
  obtain ⟨Z, hZ⟩ : ∃ Z : Int, ((min safe n : Nat) : Int) = Z := ⟨_, rfl⟩
  have hm : min (safe : Int) (n : Int) = Z := by omega
  rw [hZ]
  clear h hZ
  unfold maxLen at hc
  cases a with
  | none =>
    obtain rfl : cap = 0 := ha rfl
    obtain rfl : len = 0 := by omega
    obtain rfl : n = 0 := by omega
    have hm2 : min (safe : Int) 0 = Z := hm
    clear hm
    go_enter Tryz.func55, Tryz.ntmps55
    go_wp2
    go_region
    all_goals
      go_end0
      exact ⟨rfl, (setF_of HH.out).drew⟩
  | some b =>
    clear ha
    go_enter Tryz.func55, Tryz.ntmps55
    go_wp2
    go_region
    all_goals
      go_end0
      exact ⟨rfl, (setF_of HH.out).drew⟩

end Go.Proofs.YtjhiekijbcjohaaGreatDoor
