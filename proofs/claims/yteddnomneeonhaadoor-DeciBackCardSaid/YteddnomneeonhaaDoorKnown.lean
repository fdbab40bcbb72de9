/-
  The program's known: whether all of a list are numbers that may be. Condition: the list lies in its cells.
-/
import Derived.Test.YteddnomneeonhaaDoorBase
namespace Go.Proofs.YteddnomneeonhaaDoor
open Go.RowKit

/-- A list of numbers lies from the head of a block on. -/
def NumsAt (b : Nat) (l : List Num) (w : World) : Prop := ∀ i a, l[i]? = some a → w.cell? ⟨b, i * 2, none⟩ = some (.bool a.nan) ∧ w.cell? ⟨b, i * 2 + 1, none⟩ = some (.int .i64 a.v)

theorem all_cons {l : List Num} {i : Nat} {a : Num} (h : l[i]? = some a) : (l.drop i).all (fun x => !oddN x) = (!oddN a && (l.drop (i + 1)).all (fun x => !oddN x)) := by
  obtain ⟨hi, rfl⟩ := List.getElem?_eq_some_iff.1 h
  rw [List.drop_eq_getElem_cons hi]
  rfl

set_option maxRecDepth 100000 in
set_option maxHeartbeats 1000000 in
theorem known_calls (l : List Num) (b c : Nat) (w : World) (hl : l.length ≤ 2) (hcells : NumsAt b l w) :
    Calls Tryd.prog 39 #[.slice (some ⟨b, 0, none⟩) l.length c] w (Leaves (.bool (l.all fun x => !oddN x)) w) := by
  obtain ⟨n, hn⟩ : ∃ n, l.length = n := ⟨_, rfl⟩
  obtain ⟨q, hq⟩ : ∃ q, (l.all fun x => !oddN x) = q := ⟨_, rfl⟩
  rw [hq]
  rw [hn] at hl ⊢
  have HN := Lib.hid hn
  have HQ := Lib.hid hq
  have HC := Lib.hid hcells
  clear hn hq hcells
  go_enter Tryd.func39, Tryd.ntmps39
  go_wp2
  go_loopg [4, 7] n (fun g _ v wr => ∃ i : Nat, v = .int .i64 i ∧ g + i = n ∧ ((l.drop i).all fun x => !oddN x) = q ∧ Below w.heap.size w wr)
  case atStart => exact ⟨0, rfl, rfl, HQ.out, Below.refl _ _⟩
  case round =>
    obtain ⟨i, rfl, hg, hall, hb⟩ := hrel
    have HG := Lib.hid hg
    have HA := Lib.hid hall
    have HB := Lib.hid hb
    clear hg hall hb
    by_cases hlt : i < n
    · obtain ⟨a, ha⟩ : ∃ a, l[i]? = some a := ⟨_, List.getElem?_eq_getElem (by rw [HN.out]; exact hlt)⟩
      have hd : decide ((i : Int) < (n : Int)) = true := by simp; omega
      have hi0 : (i : Int) < (n : Int) := by omega
      obtain ⟨hc0, hc1⟩ := HC.out i a ha
      have hc0 := cell_below HB.out hc0
      have hc1 := cell_below HB.out hc1
      have hstep := all_cons ha
      have HS : Hid (oddN a = true → q = false) := Lib.hid fun h => by have := HA.out; rw [hstep, h] at this; exact this.symm
      have HK : Hid (oddN a = false → ((l.drop (i + 1)).all fun x => !oddN x) = q) := Lib.hid fun h => by have := HA.out; rw [hstep, h] at this; exact this
      clear hstep ha
      have bB : w.heap.size ≤ wr.heap.size := HB.out.size
      by_cases hnan : a.nan = true
      · have ho : Hid (q = false) := Lib.hid (HS.out (by unfold oddN; rw [hnan]; rfl))
        go_wp2
        go_ret
        exact ⟨by rw [ho.out]; rfl, HB.out.alloc bB _⟩
      · have hnan2 : a.nan = false := by simpa using hnan
        have hb2 : ∀ h : outB a.v = true, oddN a = true := fun h => by unfold oddN; rw [h, Bool.or_true]
        by_cases hlo : a.v < -1000000000000000
        · have ho : Hid (q = false) := Lib.hid (HS.out (hb2 (outB_true.2 (Or.inr hlo))))
          clear hb2
          go_wp2
          go_ret
          exact ⟨by rw [ho.out]; rfl, HB.out.alloc bB _⟩
        · by_cases hhi : 1000000000000000 < a.v
          · have ho : Hid (q = false) := Lib.hid (HS.out (hb2 (outB_true.2 (Or.inl hhi))))
            clear hb2
            go_wp2
            go_ret
            exact ⟨by rw [ho.out]; rfl, HB.out.alloc bB _⟩
          · have ho : Hid (((l.drop (i + 1)).all fun x => !oddN x) = q) := Lib.hid (HK.out (oddN_false.2 ⟨hnan2, by omega, by omega⟩))
            clear hb2
            go_wp2
            go_roundg (gk - 1)
            case measure => have := HG.out; omega
            case rel => exact ⟨i + 1, by go_num, by have := HG.out; omega, ho.out, HB.out.alloc bB _⟩
    · have hd : decide ((i : Int) < (n : Int)) = false := by simp; omega
      have hfin : Hid (q = true) := Lib.hid (by have := HA.out; rw [List.drop_eq_nil_of_le (by rw [HN.out]; omega)] at this; exact this.symm)
      go_wp2
      go_ret
      exact ⟨by rw [hfin.out]; rfl, HB.out⟩

theorem numsAt_one {a : Num} {b : Nat} {w : World} (h0 : w.cell? ⟨b, 0, none⟩ = some (.bool a.nan)) (h1 : w.cell? ⟨b, 1, none⟩ = some (.int .i64 a.v)) : NumsAt b [a] w := by
  intro i x hx
  match i, hx with
  | 0, hx => obtain rfl := Option.some.inj hx; exact ⟨h0, h1⟩
  | i + 1, hx => simp at hx
theorem numsAt_two {a c : Num} {b : Nat} {w : World} (h0 : w.cell? ⟨b, 0, none⟩ = some (.bool a.nan)) (h1 : w.cell? ⟨b, 1, none⟩ = some (.int .i64 a.v))
    (h2 : w.cell? ⟨b, 2, none⟩ = some (.bool c.nan)) (h3 : w.cell? ⟨b, 3, none⟩ = some (.int .i64 c.v)) : NumsAt b [a, c] w := by
  intro i x hx
  match i, hx with
  | 0, hx => obtain rfl := Option.some.inj hx; exact ⟨h0, h1⟩
  | 1, hx => obtain rfl := Option.some.inj hx; exact ⟨h2, h3⟩
  | i + 2, hx => simp at hx
theorem known1 (a : Num) (b c : Nat) (w : World) (h : NumsAt b [a] w) : Calls Tryd.prog 39 #[.slice (some ⟨b, 0, none⟩) 1 c] w (Leaves (.bool (!oddN a)) w) := by
  have := known_calls [a] b c w (by simp) h
  simpa using this
theorem known2 (a d : Num) (b c : Nat) (w : World) (h : NumsAt b [a, d] w) : Calls Tryd.prog 39 #[.slice (some ⟨b, 0, none⟩) 2 c] w (Leaves (.bool (!odd2 a d)) w) := by
  have := known_calls [a, d] b c w (by simp) h
  simpa [odd2] using this

/-- Behind a call that makes new blocks alone, old cells are as they were. -/
theorem bcell {W w1 : World} (hb : Below W.heap.size W w1) : (∀ b o, b < W.heap.size → w1.cell? ⟨b, o, none⟩ = W.cell? ⟨b, o, none⟩) ∧ (∀ b o, b < W.heap.size → w1.frozen? ⟨b, o, none⟩ = W.frozen? ⟨b, o, none⟩) :=
  ⟨fun b o h => hb.cell (p := ⟨b, o, none⟩) h, fun b o h => hb.frozen (p := ⟨b, o, none⟩) h⟩

end Go.Proofs.YteddnomneeonhaaDoor
