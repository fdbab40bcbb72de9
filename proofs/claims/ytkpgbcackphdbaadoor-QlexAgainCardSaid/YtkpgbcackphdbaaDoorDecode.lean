/-
  unicode/utf8.DecodeRune over a slice of bytes: the rune at its beginning and its width, as the model's own decoder of strings tells them. Condition: the two tables of unicode/utf8 hold what their initialisers lay.
-/
import Derived.Test.YtkpgbcackphdbaaDoorBase
import Derived.Shelf.Unicode.DecodeSlow
namespace Go.Proofs.YtkpgbcackphdbaaDoor
open Go.RowKit Go.Lib

/-- A slice of bytes of length n leads to the numbers f 0, .., f (n - 1). -/
def Row8 (w : World) (a : Option Addr) (n : Nat) (f : Nat → Nat) : Prop :=
  (∀ i, f i < 256) ∧ n ≤ 9223372036854775807 ∧ (n = 0 ∨ ∃ b o, a = some ⟨b, o, none⟩ ∧ ∀ i, i < n → w.cell? ⟨b, o + i, none⟩ = some (.int .u8 (f i)))

theorem Row8.below {w w' : World} {a n f} (h : Row8 w a n f) (hb : Below w.heap.size w w') : Row8 w' a n f := by
  refine ⟨h.1, h.2.1, ?_⟩
  rcases h.2.2 with h0 | ⟨b, o, ha, hc⟩
  · exact Or.inl h0
  · exact Or.inr ⟨b, o, ha, fun i hi => cell_below hb (hc i hi)⟩

theorem cell_alloc {w : World} {b o : Nat} {v : Value} (h : w.cell? ⟨b, o, none⟩ = some v) (ob : Obj) : (w.alloc ob).cell? ⟨b, o, none⟩ = some v :=
  cell_below ((Below.refl _ w).alloc (Nat.le_refl _) ob) h

def runeOf (d : Nat × Nat) : Value := .tuple #[.int .i32 d.1, .int .i64 d.2]

set_option maxHeartbeats 4000000 in
set_option maxRecDepth 1000000 in
theorem slow_calls (b o c n : Nat) (f : Nat → Nat) (w : World) (hT : Lib.Utf8Tabs 6 7 w) (hf : ∀ i, f i < 256) (hn1 : 1 ≤ n) (hn : n ≤ 9223372036854775807) (hcell : ∀ i, i < n → w.cell? ⟨b, o + i, none⟩ = some (.int .u8 (f i))) :
    Calls Tryd.prog 51 #[.slice (some ⟨b, o, none⟩) n c] w (Leaves (runeOf (decodeN n (f 0) (f 1) (f 2) (f 3))) w) := by
  obtain ⟨x0, hx0⟩ : ∃ x0, f 0 = x0 := ⟨_, rfl⟩
  obtain ⟨x1, hx1⟩ : ∃ x1, f 1 = x1 := ⟨_, rfl⟩
  obtain ⟨x2, hx2⟩ : ∃ x2, f 2 = x2 := ⟨_, rfl⟩
  obtain ⟨x3, hx3⟩ : ∃ x3, f 3 = x3 := ⟨_, rfl⟩
  have l0 : x0 < 256 := hx0 ▸ hf 0
  have l1 : x1 < 256 := hx1 ▸ hf 1
  have l2 : x2 < 256 := hx2 ▸ hf 2
  have l3 : x3 < 256 := hx3 ▸ hf 3
  have hz0 : (0 : Int) < (n : Int) := by omega
  have hz0' : ¬ ((n : Int) < 1) := by omega
  have k0 : w.cell? ⟨b, o, none⟩ = some (.int .u8 x0) := by have := hcell 0 (by omega); rwa [hx0] at this
  have hk1 : 1 < n → w.cell? ⟨b, o + 1, none⟩ = some (.int .u8 x1) := fun h => by have := hcell 1 h; rwa [hx1] at this
  have hk2 : 2 < n → w.cell? ⟨b, o + 2, none⟩ = some (.int .u8 x2) := fun h => by have := hcell 2 h; rwa [hx2] at this
  have hk3 : 3 < n → w.cell? ⟨b, o + 3, none⟩ = some (.int .u8 x3) := fun h => by have := hcell 3 h; rwa [hx3] at this
  rw [hx0, hx1, hx2, hx3]
  clear hcell hf hx0 hx1 hx2 hx3 f
  have hc0 := hT.1 x0 (by omega)
  have hres : firstT x0 < 240 → decodeN n x0 x1 x2 x3 = slowN n x0 x1 x2 x3 (firstT x0 % 8) (accLo (firstT x0 / 16)) (accHi (firstT x0 / 16)) :=
    fun h => (Lib.slow_eq _ _ _ _ _ (by omega) (by omega) (by omega) (by omega) h).symm
  rcases Lib.firstT_cases x0 with hX | hX | hX | hX | hX | hX | hX | hX | hX
  · rw [Lib.ascii_eq _ _ _ _ _ hX]
    rw [hX] at hc0
    clear hres hT hX hk1 hk2 hk3
    go_enter Tryd.func51, Tryd.ntmps51
    go_wp2
    rw [Utf8W.mask240, Utf8W.keep_byte ⟨x0, l0⟩]
    go_ret2
    exact ⟨rfl, Below.refl _ _⟩
  · rw [Lib.bad_eq _ _ _ _ _ (by omega) hX]
    rw [hX] at hc0
    clear hres hT hX hk1 hk2 hk3
    go_enter Tryd.func51, Tryd.ntmps51
    go_wp2
    rw [Utf8W.mask241, Utf8W.drop_byte ⟨x0, l0⟩]
    go_ret2
    exact ⟨rfl, Below.refl _ _⟩
  all_goals replace hres := hres (by omega)
  · rw [hX] at hc0 hres
    have ha0 := (hT.2 0 (by omega)).1
    have ha1 := (hT.2 0 (by omega)).2
    simp only [accLo, accHi, Nat.reduceMul, Nat.reduceAdd, Nat.reduceEqDiff, if_true, if_false, Nat.reduceMod, Nat.reduceDiv] at ha0 ha1 hres
    rw [hres]
    clear hres hT hX
    by_cases hs : n < 2
    · have hsz : (n : Int) < 2 := by omega
      clear hk1 hk2 hk3
      go_enter Tryd.func51, Tryd.ntmps51
      go_wp2
      all_goals
        go_ret2
        refine ⟨?_, (Below.refl _ _).alloc (Nat.le_refl _) _⟩
        unfold slowN runeOf
        repeat' split
        all_goals first
          | (exfalso; omega)
          | rfl
          | (simp only [Int.natCast_add, Int.natCast_mul, Int.natCast_emod, Int.natCast_ofNat]; rfl)
    · have hz1 : (1 : Int) < (n : Int) := by omega
      have k1 := fun ob => cell_alloc (hk1 (by omega)) ob
      clear hk1 hk2 hk3
      go_enter Tryd.func51, Tryd.ntmps51
      go_wp2
      all_goals
        go_ret2
        refine ⟨?_, (Below.refl _ _).alloc (Nat.le_refl _) _⟩
        unfold slowN runeOf
        repeat' split
        all_goals first
          | (exfalso; omega)
          | rfl
          | (simp only [Int.natCast_add, Int.natCast_mul, Int.natCast_emod, Int.natCast_ofNat]; rfl)
  · rw [hX] at hc0 hres
    have ha0 := (hT.2 1 (by omega)).1
    have ha1 := (hT.2 1 (by omega)).2
    simp only [accLo, accHi, Nat.reduceMul, Nat.reduceAdd, Nat.reduceEqDiff, if_true, if_false, Nat.reduceMod, Nat.reduceDiv] at ha0 ha1 hres
    rw [hres]
    clear hres hT hX
    by_cases hs : n < 3
    · have hsz : (n : Int) < 3 := by omega
      clear hk1 hk2 hk3
      go_enter Tryd.func51, Tryd.ntmps51
      go_wp2
      all_goals
        go_ret2
        refine ⟨?_, (Below.refl _ _).alloc (Nat.le_refl _) _⟩
        unfold slowN runeOf
        repeat' split
        all_goals first
          | (exfalso; omega)
          | rfl
          | (simp only [Int.natCast_add, Int.natCast_mul, Int.natCast_emod, Int.natCast_ofNat]; rfl)
    · have hz1 : (1 : Int) < (n : Int) := by omega
      have k1 := fun ob => cell_alloc (hk1 (by omega)) ob
      have hz2 : (2 : Int) < (n : Int) := by omega
      have k2 := fun ob => cell_alloc (hk2 (by omega)) ob
      clear hk1 hk2 hk3
      go_enter Tryd.func51, Tryd.ntmps51
      go_wp2
      all_goals
        go_ret2
        refine ⟨?_, (Below.refl _ _).alloc (Nat.le_refl _) _⟩
        unfold slowN runeOf
        repeat' split
        all_goals first
          | (exfalso; omega)
          | rfl
          | (simp only [Int.natCast_add, Int.natCast_mul, Int.natCast_emod, Int.natCast_ofNat]; rfl)
  · rw [hX] at hc0 hres
    have ha0 := (hT.2 0 (by omega)).1
    have ha1 := (hT.2 0 (by omega)).2
    simp only [accLo, accHi, Nat.reduceMul, Nat.reduceAdd, Nat.reduceEqDiff, if_true, if_false, Nat.reduceMod, Nat.reduceDiv] at ha0 ha1 hres
    rw [hres]
    clear hres hT hX
    by_cases hs : n < 3
    · have hsz : (n : Int) < 3 := by omega
      clear hk1 hk2 hk3
      go_enter Tryd.func51, Tryd.ntmps51
      go_wp2
      all_goals
        go_ret2
        refine ⟨?_, (Below.refl _ _).alloc (Nat.le_refl _) _⟩
        unfold slowN runeOf
        repeat' split
        all_goals first
          | (exfalso; omega)
          | rfl
          | (simp only [Int.natCast_add, Int.natCast_mul, Int.natCast_emod, Int.natCast_ofNat]; rfl)
    · have hz1 : (1 : Int) < (n : Int) := by omega
      have k1 := fun ob => cell_alloc (hk1 (by omega)) ob
      have hz2 : (2 : Int) < (n : Int) := by omega
      have k2 := fun ob => cell_alloc (hk2 (by omega)) ob
      clear hk1 hk2 hk3
      go_enter Tryd.func51, Tryd.ntmps51
      go_wp2
      all_goals
        go_ret2
        refine ⟨?_, (Below.refl _ _).alloc (Nat.le_refl _) _⟩
        unfold slowN runeOf
        repeat' split
        all_goals first
          | (exfalso; omega)
          | rfl
          | (simp only [Int.natCast_add, Int.natCast_mul, Int.natCast_emod, Int.natCast_ofNat]; rfl)
  · rw [hX] at hc0 hres
    have ha0 := (hT.2 2 (by omega)).1
    have ha1 := (hT.2 2 (by omega)).2
    simp only [accLo, accHi, Nat.reduceMul, Nat.reduceAdd, Nat.reduceEqDiff, if_true, if_false, Nat.reduceMod, Nat.reduceDiv] at ha0 ha1 hres
    rw [hres]
    clear hres hT hX
    by_cases hs : n < 3
    · have hsz : (n : Int) < 3 := by omega
      clear hk1 hk2 hk3
      go_enter Tryd.func51, Tryd.ntmps51
      go_wp2
      all_goals
        go_ret2
        refine ⟨?_, (Below.refl _ _).alloc (Nat.le_refl _) _⟩
        unfold slowN runeOf
        repeat' split
        all_goals first
          | (exfalso; omega)
          | rfl
          | (simp only [Int.natCast_add, Int.natCast_mul, Int.natCast_emod, Int.natCast_ofNat]; rfl)
    · have hz1 : (1 : Int) < (n : Int) := by omega
      have k1 := fun ob => cell_alloc (hk1 (by omega)) ob
      have hz2 : (2 : Int) < (n : Int) := by omega
      have k2 := fun ob => cell_alloc (hk2 (by omega)) ob
      clear hk1 hk2 hk3
      go_enter Tryd.func51, Tryd.ntmps51
      go_wp2
      all_goals
        go_ret2
        refine ⟨?_, (Below.refl _ _).alloc (Nat.le_refl _) _⟩
        unfold slowN runeOf
        repeat' split
        all_goals first
          | (exfalso; omega)
          | rfl
          | (simp only [Int.natCast_add, Int.natCast_mul, Int.natCast_emod, Int.natCast_ofNat]; rfl)
  · rw [hX] at hc0 hres
    have ha0 := (hT.2 3 (by omega)).1
    have ha1 := (hT.2 3 (by omega)).2
    simp only [accLo, accHi, Nat.reduceMul, Nat.reduceAdd, Nat.reduceEqDiff, if_true, if_false, Nat.reduceMod, Nat.reduceDiv] at ha0 ha1 hres
    rw [hres]
    clear hres hT hX
    by_cases hs : n < 4
    · have hsz : (n : Int) < 4 := by omega
      clear hk1 hk2 hk3
      go_enter Tryd.func51, Tryd.ntmps51
      go_wp2
      all_goals
        go_ret2
        refine ⟨?_, (Below.refl _ _).alloc (Nat.le_refl _) _⟩
        unfold slowN runeOf
        repeat' split
        all_goals first
          | (exfalso; omega)
          | rfl
          | (simp only [Int.natCast_add, Int.natCast_mul, Int.natCast_emod, Int.natCast_ofNat]; rfl)
    · have hz1 : (1 : Int) < (n : Int) := by omega
      have k1 := fun ob => cell_alloc (hk1 (by omega)) ob
      have hz2 : (2 : Int) < (n : Int) := by omega
      have k2 := fun ob => cell_alloc (hk2 (by omega)) ob
      have hz3 : (3 : Int) < (n : Int) := by omega
      have k3 := fun ob => cell_alloc (hk3 (by omega)) ob
      clear hk1 hk2 hk3
      go_enter Tryd.func51, Tryd.ntmps51
      go_wp2
      all_goals
        go_ret2
        refine ⟨?_, (Below.refl _ _).alloc (Nat.le_refl _) _⟩
        unfold slowN runeOf
        repeat' split
        all_goals first
          | (exfalso; omega)
          | rfl
          | (simp only [Int.natCast_add, Int.natCast_mul, Int.natCast_emod, Int.natCast_ofNat]; rfl)
  · rw [hX] at hc0 hres
    have ha0 := (hT.2 0 (by omega)).1
    have ha1 := (hT.2 0 (by omega)).2
    simp only [accLo, accHi, Nat.reduceMul, Nat.reduceAdd, Nat.reduceEqDiff, if_true, if_false, Nat.reduceMod, Nat.reduceDiv] at ha0 ha1 hres
    rw [hres]
    clear hres hT hX
    by_cases hs : n < 4
    · have hsz : (n : Int) < 4 := by omega
      clear hk1 hk2 hk3
      go_enter Tryd.func51, Tryd.ntmps51
      go_wp2
      all_goals
        go_ret2
        refine ⟨?_, (Below.refl _ _).alloc (Nat.le_refl _) _⟩
        unfold slowN runeOf
        repeat' split
        all_goals first
          | (exfalso; omega)
          | rfl
          | (simp only [Int.natCast_add, Int.natCast_mul, Int.natCast_emod, Int.natCast_ofNat]; rfl)
    · have hz1 : (1 : Int) < (n : Int) := by omega
      have k1 := fun ob => cell_alloc (hk1 (by omega)) ob
      have hz2 : (2 : Int) < (n : Int) := by omega
      have k2 := fun ob => cell_alloc (hk2 (by omega)) ob
      have hz3 : (3 : Int) < (n : Int) := by omega
      have k3 := fun ob => cell_alloc (hk3 (by omega)) ob
      clear hk1 hk2 hk3
      go_enter Tryd.func51, Tryd.ntmps51
      go_wp2
      all_goals
        go_ret2
        refine ⟨?_, (Below.refl _ _).alloc (Nat.le_refl _) _⟩
        unfold slowN runeOf
        repeat' split
        all_goals first
          | (exfalso; omega)
          | rfl
          | (simp only [Int.natCast_add, Int.natCast_mul, Int.natCast_emod, Int.natCast_ofNat]; rfl)
  · rw [hX] at hc0 hres
    have ha0 := (hT.2 4 (by omega)).1
    have ha1 := (hT.2 4 (by omega)).2
    simp only [accLo, accHi, Nat.reduceMul, Nat.reduceAdd, Nat.reduceEqDiff, if_true, if_false, Nat.reduceMod, Nat.reduceDiv] at ha0 ha1 hres
    rw [hres]
    clear hres hT hX
    by_cases hs : n < 4
    · have hsz : (n : Int) < 4 := by omega
      clear hk1 hk2 hk3
      go_enter Tryd.func51, Tryd.ntmps51
      go_wp2
      all_goals
        go_ret2
        refine ⟨?_, (Below.refl _ _).alloc (Nat.le_refl _) _⟩
        unfold slowN runeOf
        repeat' split
        all_goals first
          | (exfalso; omega)
          | rfl
          | (simp only [Int.natCast_add, Int.natCast_mul, Int.natCast_emod, Int.natCast_ofNat]; rfl)
    · have hz1 : (1 : Int) < (n : Int) := by omega
      have k1 := fun ob => cell_alloc (hk1 (by omega)) ob
      have hz2 : (2 : Int) < (n : Int) := by omega
      have k2 := fun ob => cell_alloc (hk2 (by omega)) ob
      have hz3 : (3 : Int) < (n : Int) := by omega
      have k3 := fun ob => cell_alloc (hk3 (by omega)) ob
      clear hk1 hk2 hk3
      go_enter Tryd.func51, Tryd.ntmps51
      go_wp2
      all_goals
        go_ret2
        refine ⟨?_, (Below.refl _ _).alloc (Nat.le_refl _) _⟩
        unfold slowN runeOf
        repeat' split
        all_goals first
          | (exfalso; omega)
          | rfl
          | (simp only [Int.natCast_add, Int.natCast_mul, Int.natCast_emod, Int.natCast_ofNat]; rfl)

end Go.Proofs.YtkpgbcackphdbaaDoor
