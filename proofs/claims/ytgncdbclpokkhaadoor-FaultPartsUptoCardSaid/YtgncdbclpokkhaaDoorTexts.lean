/-
  A row of texts, opened: what its reading gives the walks. Conditions: each theorem's own.
-/
import Derived.Test.YtgncdbclpokkhaaDoorBulk
import Derived.Test.YtgncdbclpokkhaaDoorLawParts
namespace Go.Proofs.YtgncdbclpokkhaaDoor
open Go.ChangeShapes Go.WideShapes Go.ChangeAt Go.RowKit

set_option maxRecDepth 100000 in
/-- A row of texts, opened. -/
theorem open_texts {H : Type} {enc : TypeId × Value → H} {W : World} {base : Nat} {v : Value} {d : DataW H} {p : List MemPlace} (hv : Value.okWide Tryd.prog W .any base 23 v) (h : DataW.Trod enc Tryd.prog W 0 (fun _ => true) true 23 v d p) :
    ∃ (sa : Option Addr) (len cap : Nat) (xs : List ByteArray), v = .slice sa len cap ∧ xs.length = len ∧ RowOf W sa xs ∧ TextsOf W v xs ∧ (∀ c a, len ≤ 50 → Makes W c a v xs.reverse) ∧ total xs + len ≤ Rows.uptoBulk d := by
  obtain ⟨a0, len, cap, rfl⟩ := okWide_slice Tryd.underlying23 hv
  obtain ⟨fuel, hf⟩ := h
  rcases open_strings Tryd.underlying23 Tryd.underlying9 cells23 hf with ⟨hcs, hx⟩ | ⟨ad, len', cap', ss, hcs, _, hl, hm, hz, hx, hcell, hws⟩
  · simp [Value.cells] at hcs
    obtain ⟨rfl, rfl, rfl⟩ := hcs
    refine ⟨none, 0, 0, [], rfl, rfl, fun j y hj => by simp at hj, Or.inl ⟨rfl, rfl⟩, fun c a _ w' _ => made_none c a none 0 w', ?_⟩
    simp [total, Lib.lens]
  · simp [Value.cells] at hcs
    obtain ⟨rfl, rfl, rfl⟩ := hcs
    simp only [if_true] at hz
    simp only [Prod.mk.injEq] at hx
    have hbk : total (ss.take len) + len ≤ Rows.uptoBulk d := by
      rw [hx.1]
      simp only [Rows.uptoBulk]
      rw [bulk_strs, bulk_strs]
      have : (ss.take len).length = len := by simp; omega
      omega
    have hln : (ss.take len).length = len := by simp; omega
    by_cases hl0 : len = 0
    · subst hl0
      refine ⟨some ad, 0, cap, [], rfl, rfl, fun j y hj => by simp at hj, Or.inr ⟨ad, cap, rfl, fun j y hj => by simp at hj⟩, fun c a _ w' _ => made_none c a (some ad) cap w', ?_⟩
      simpa using hbk
    · obtain ⟨b, off, spot⟩ := ad
      have hspot : spot = none := by simpa [Addr.add] using World.cell?_spot (hcell 0 (by omega))
      subst hspot
      have hcell' : ∀ j, j < ss.length → W.cell? ⟨b, off + j, none⟩ = some (.string (ss.getD j ByteArray.empty)) := fun j hj => by rw [← add_plain]; exact hcell j hj
      have each : ∀ (j : Nat) y, (ss.take len)[j]? = some y → W.cell? ⟨b, off + j, none⟩ = some (.string y) := by
        intro j y hj
        have hj2 : j < len := by have := (List.getElem?_eq_some_iff.1 hj).1; omega
        rw [hcell' j (by omega)]
        rw [List.getElem?_take, if_pos hj2] at hj
        simp [List.getD, hj]
      exact ⟨some ⟨b, off, none⟩, len, cap, ss.take len, rfl, hln, fun j y hj => ⟨b, off, rfl, each j y hj⟩, Or.inr ⟨⟨b, off, none⟩, cap, by rw [hln], fun j y hj => by rw [add_plain]; exact each j y hj⟩,
        fun c a h50 => makes_of_cells (ss := ss) (by omega) hcell' h50 c a, hbk⟩

/-- The reference's text of a row of texts, wherever it lies. -/
theorem refs_of_texts {w : World} {x : Value} {zs : List ByteArray} {c : Int} (hx : TextsOf w x zs) (h50 : zs.length ≤ 50) (ht : total zs ≤ 1048576) (hc : c ≠ 0) (hc0 : -9223372036854775808 ≤ c) (hc1 : c ≤ 9223372036854775807) :
    Calls Tryd.prog 13 #[.int .i64 c, .int .i64 1, x] w (Leaves1 (.string ⟨(refOf c 1 zs).toArray⟩) w) := by
  rcases hx with ⟨rfl, rfl⟩ | ⟨ad, cap, rfl, hcl⟩
  · exact ref_text_none c 1 none 0 w (beq_eq_false_iff_ne.2 hc) hc0 hc1 (by omega) (by omega)
  · by_cases h0 : zs = []
    · subst h0
      exact ref_text_none c 1 (some ad) cap w (beq_eq_false_iff_ne.2 hc) hc0 hc1 (by omega) (by omega)
    · obtain ⟨b, off, spot⟩ := ad
      have hpos : 0 < zs.length := List.length_pos_iff.2 h0
      have hspot : spot = none := by simpa [Addr.add] using World.cell?_spot (hcl 0 _ (List.getElem?_eq_getElem hpos))
      subst hspot
      exact ref_text c 1 b off cap zs w (beq_eq_false_iff_ne.2 hc) hc0 hc1 (by omega) (by omega) (fun j y hj => by rw [← add_plain]; exact hcl j y hj) h50 (fun y hy => by have := size_le_total hy; omega)

end Go.Proofs.YtgncdbclpokkhaaDoor
