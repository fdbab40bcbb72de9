/-
  From the reading of an argument to what the walks ask of it: a slice of bytes. No condition.
-/
import Derived.Test.YtmjadapdajbmmaaAwake
import Derived.Test.YtmjadapdajbmmaaRows
import Derived.OpenShut
namespace Go.Proofs.Ytmjadapdajbmmaa
open Go.ChangeShapes Go.WideShapes Go.ChangeAt Go.RowKit

theorem own : ownKnob Try.prog.godebug = none := by kernel_rfl
theorem laidOut : laidOutB Try.prog = true := by kernel_rfl

theorem row_of {W : World} {a : Addr} {len : Nat} {zs : List Int} (hz : len ≤ zs.length)
    (hcell : ∀ i, i < zs.length → W.cell? (a.add i) = some (.int .u8 (zs.getD i 0))) (hwz : ∀ n ∈ zs, (Lit.int .u8 n).wf = true) :
    ∃ l : List Nat, Row W (some a) l ∧ l.length = len := by
  have hb : ∀ z ∈ zs, 0 ≤ z ∧ z < 256 := by
    intro z hz
    have := hwz z hz
    simp [Lit.wf, IntKind.min, IntKind.max, IntKind.signed, IntKind.bits] at this
    omega
  refine ⟨(zs.take len).map Int.toNat, ⟨?_, ?_⟩, by rw [List.length_map, List.length_take]; omega⟩
  · intro c hc
    obtain ⟨z, hz1, rfl⟩ := List.mem_map.1 hc
    have := hb z (List.mem_of_mem_take hz1)
    omega
  · by_cases h0 : len = 0
    · left; rw [h0]; rfl
    · obtain ⟨b, off, spot⟩ := a
      have hspot : spot = none := by simpa [Addr.add] using World.cell?_spot (hcell 0 (by omega))
      subst hspot
      refine Or.inr ⟨b, off, rfl, fun i c hi => ?_⟩
      rw [List.getElem?_map] at hi
      obtain ⟨z, hz1, rfl⟩ := Option.map_eq_some_iff.1 hi
      have hlt : i < zs.length := by
        have := (List.getElem?_eq_some_iff.1 hz1).1
        rw [List.length_take] at this
        omega
      have hg : zs[i]? = some z := by
        rw [List.getElem?_take] at hz1
        split at hz1
        · exact hz1
        · cases hz1
      have hc := hcell i hlt
      rw [Addr.add_mid, List.getD_eq_getElem?_getD, hg, Option.getD_some] at hc
      rw [hc]
      have := hb z (List.mem_of_getElem? hg)
      congr 2
      omega

variable {H : Type} {enc : TypeId × Value → H}

/-- An argument that is a slice of bytes. -/
theorem bytes_of {W : World} {base : Nat} {spare : Nat → Bool} {held : Bool} {v : Value} {d : DataW H} {p : List MemPlace} (hv : Value.okWide Try.prog W .any base 22 v) (h0 : DataW.Trod enc Try.prog W 0 spare held 22 v d p) :
    ∃ a len cap l, v = .slice a len cap ∧ Row W a l ∧ l.length = len ∧ (a = none → cap = 0) ∧ ∀ x ∈ p, x.block < W.heap.size := by
  obtain ⟨a0, len0, cap0, rfl⟩ := okWide_slice Try.underlying22 hv
  have k0 := h0
  have lt0 : ∀ x ∈ p, x.block < W.heap.size := by obtain ⟨m, hm⟩ := k0; exact DataW.trod_lt m _ _ _ hm
  obtain ⟨fuel, hf⟩ := h0
  rcases open_ints Try.underlying22 Try.underlying5 (by kernel_rfl) hf with ⟨hcs, _⟩ | ⟨x, l, c, zs, hcs, _, hl, hm, hz, _, hcell, hwz⟩
  · simp [Value.cells] at hcs
    obtain ⟨rfl, rfl, rfl⟩ := hcs
    exact ⟨none, 0, 0, [], rfl, row_nil _ _, rfl, fun _ => rfl, lt0⟩
  · simp [Value.cells] at hcs
    obtain ⟨rfl, rfl, rfl⟩ := hcs
    obtain ⟨l, h1, h2⟩ := row_of (W := W) (a := x) (len := len0) (zs := zs) (by rw [hz]; split <;> omega) hcell hwz
    exact ⟨_, _, _, l, rfl, h1, h2, (fun e => by cases e), lt0⟩

end Go.Proofs.Ytmjadapdajbmmaa
