/-
  What stands up to a mark, told by a document's scan. Conditions: the laid variables hold what their initialisers lay; the scan lies in memory, in a block behind theirs; the mark is one to a thousand bytes.
-/
import Derived.Test.YtemohjodihcdfaaGreatDoorXN
import Derived.Test.YtemohjodihcdfaaGreatDoorShelf
import Derived.Lib.ConvBytes
import Derived.Lib.IndexMore
namespace Go.Proofs.YtemohjodihcdfaaGreatDoor
open Go.RowKit Go.Lib Go.Joins

/-- Bytes as numbers. -/
def intsB (l : List UInt8) : List Int := l.map fun x => (x.toNat : Int)
theorem bytesOf_ints (l : List UInt8) : Lib.bytesOf (intsB l) = l := by
  unfold Lib.bytesOf intsB
  rw [List.map_map]
  conv => rhs; rw [← List.map_id l]
  apply List.map_congr_left
  intro x _
  simp
theorem intsB_range (l : List UInt8) : ∀ x ∈ intsB l, 0 ≤ x ∧ x < 256 := by
  intro x hx
  obtain ⟨y, _, rfl⟩ := List.mem_map.1 hx
  have := y.toNat_lt
  omega
theorem intsB_len (l : List UInt8) : (intsB l).length = l.length := List.length_map _
theorem intsB_getD (l : List UInt8) (k : Nat) (hk : k < l.length) : (intsB l).getD k 0 = (fs l k : Int) := by
  unfold intsB fs
  rw [List.getD_eq_getElem?_getD, List.getD_eq_getElem?_getD, List.getElem?_map, List.getElem?_eq_getElem hk]
  rfl
/-- Where the rest of a document lies from a place on. -/
def tailA (a : Option Addr) (c i : Nat) : Option Addr := if c = i then a else a.map (·.add i)
theorem ScAt.tail {w : World} {B : Nat} {a : Option Addr} {c : Nat} {l : List UInt8} {i : Nat} {t : List UInt8} (h : ScAt w B a c l i t) (j : Nat) (hj : j ≤ l.length) : Lib.BytesIn w (tailA a c j) (l.length - j) (intsB (l.drop j)) ∧ (tailA a c j = none → c - j = 0) ∧ l.length - j ≤ c - j := by
  have hcap := h.cap
  refine ⟨?_, ?_, by omega⟩
  · intro hpos
    obtain ⟨b, o, rfl⟩ : ∃ b o, a = some ⟨b, o, none⟩ := by
      rcases h.row with h1 | ⟨b, o, h1, _⟩
      · omega
      · exact ⟨b, o, h1⟩
    refine ⟨b, o + j, ?_, fun k hk => ?_⟩
    · unfold tailA
      rw [if_neg (by omega)]
      simp [Addr.add]
    · rcases h.row with h1 | ⟨b2, o2, h1, _, h3⟩
      · omega
      · cases h1
        rw [Nat.add_assoc, h3 (j + k) (by omega), intsB_getD _ _ (by rw [List.length_drop]; exact hk), fs_drop]
  · unfold tailA
    intro h0
    by_cases hc : c = j
    · omega
    · rw [if_neg hc] at h0
      cases a with
      | none => have := h.nul rfl; omega
      | some a => cases h0
theorem index_cutS (m : List UInt8) (hm : m ≠ []) : ∀ r : List UInt8, Lib.index r m = match cutS m r with | none => -1 | some q => (q.1.length : Int)
  | [] => by cases m with
    | nil => exact absurd rfl hm
    | cons => rfl
  | x :: t => by
    have ih := index_cutS m hm t
    unfold cutS Lib.index
    by_cases h : m.isPrefixOf (x :: t) = true
    · rw [if_pos h, if_pos h]; rfl
    · rw [if_neg h, if_neg h, ih]
      cases cutS m t with
      | none => rfl
      | some q => simp
theorem cutS_split (m : List UInt8) : ∀ {r : List UInt8} {q : List UInt8 × List UInt8}, cutS m r = some q → r = q.1 ++ (m ++ q.2)
  | [], q, h => by cases h
  | x :: t, q, h => by
    unfold cutS at h
    by_cases hp : m.isPrefixOf (x :: t) = true
    · rw [if_pos hp] at h
      cases h
      have := List.isPrefixOf_iff_prefix.1 hp
      obtain ⟨s, hs⟩ := this
      rw [← hs]
      simp
    · rw [if_neg hp] at h
      cases hc : cutS m t with
      | none => rw [hc] at h; cases h
      | some q' =>
        rw [hc] at h
        cases h
        rw [cutS_split m hc]
        rfl

theorem conv_zero (W : World) (a : Option Addr) (k : Nat) : (convert 22 9 (.slice a 0 k)).run Tryz.prog W = .ok (.string ⟨#[]⟩) W := by
  rw [run_convert_bytes_string W 22 9 5 a 0 k Tryz.underlying22 Tryz.underlying5 Tryz.underlying9]
  cases a <;> rfl
theorem map_add (b o j : Nat) : Option.map (fun x : Addr => x.add j) (some ⟨b, o, none⟩) = some ⟨b, o + j, none⟩ := by simp [Addr.add]
/-- A piece of a document, as a text. -/
theorem ScAt.conv {w : World} {B : Nat} {a : Option Addr} {c : Nat} {l : List UInt8} {i : Nat} {t : List UInt8} (h : ScAt w B a c l i t) (j k cc : Nat) (hj : j + k ≤ l.length) : (convert 22 9 (.slice (tailA a c j) k cc)).run Tryz.prog w = .ok (.string (strB ((l.drop j).take k))) w := by
  have hcap := h.cap
  by_cases hk : k = 0
  · subst hk
    rw [List.take_zero]
    exact conv_zero w _ cc
  · obtain ⟨b, o, rfl⟩ : ∃ b o, a = some ⟨b, o, none⟩ := by
      rcases h.row with h1 | ⟨b, o, h1, _⟩
      · omega
      · exact ⟨b, o, h1⟩
    unfold tailA
    rw [if_neg (by omega), map_add]
    have := h.text j (j + k) cc (by omega) hj
    unfold cut at this
    rw [Nat.add_sub_cancel_left] at this
    exact this

end Go.Proofs.YtemohjodihcdfaaGreatDoor
