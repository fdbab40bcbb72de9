/-
  From the reading of a slice of files to what the walk asks of it. No condition.
-/
import Derived.Test.YtacfcfbleogioaaGreatDoorMOpenA
namespace Go.Proofs.YtacfcfbleogioaaGreatDoor
open Go.ChangeShapes Go.WideShapes Go.ChangeAt Go.RowKit Go.Deep Go.Joins

theorem u8_bounds {z : Int} (h : (Lit.int .u8 z).wf = true) : 0 ≤ z ∧ z < 256 := by
  simp [Lit.wf, IntKind.min, IntKind.max, IntKind.signed, IntKind.bits] at h
  omega
theorem row_of {W : World} {a : Addr} {len : Nat} {zs : List Int} (hz : len ≤ zs.length) (hb : a.block < W.heap.size)
    (hcell : ∀ i, i < zs.length → W.cell? (a.add i) = some (.int .u8 (zs.getD i 0))) (hwz : ∀ n ∈ zs, (Lit.int .u8 n).wf = true) :
    ∃ l : List Nat, Row W (Was0 W) (some a) l ∧ l.length = len := by
  refine ⟨(zs.take len).map Int.toNat, ⟨?_, ?_⟩, by rw [List.length_map, List.length_take]; omega⟩
  · intro c hc
    obtain ⟨z, hz1, rfl⟩ := List.mem_map.1 hc
    have := u8_bounds (hwz z (List.mem_of_mem_take hz1))
    omega
  · by_cases h0 : len = 0
    · left; rw [h0]; rfl
    · obtain ⟨b, off, spot⟩ := a
      have hspot : spot = none := by simpa [Addr.add] using World.cell?_spot (hcell 0 (by omega))
      subst hspot
      refine Or.inr ⟨b, off, rfl, hb, fun i c hi => ?_⟩
      rw [List.getElem?_map] at hi
      obtain ⟨z, hz1, rfl⟩ := Option.map_eq_some_iff.1 hi
      have hlt : i < zs.length := by
        have := (List.getElem?_eq_some_iff.1 hz1).1
        rw [List.length_take] at this
        omega
      have hg : zs[i]? = some z := by
        rw [List.getElem?_take] at hz1
        split at hz1
        · exact hz1
        · cases hz1
      have hc := hcell i hlt
      rw [Addr.add_mid, List.getD_eq_getElem?_getD, hg, Option.getD_some] at hc
      rw [hc]
      have := u8_bounds (hwz z (List.mem_of_getElem? hg))
      congr 2
      omega

variable {H : Type} {enc : TypeId × Value → H}

set_option maxRecDepth 100000 in
/-- A slice of bytes, read. -/
theorem bytes_of {W : World} {base : Nat} {spare : Nat → Bool} {held : Bool} {n : Nat} {v : Value} {y : DataW H × List MemPlace} (h : DataW.trod enc Tryz.prog W base spare held n 61 [v] = some y) :
    ∃ a len cap l, v = .slice a len cap ∧ Row W (Was0 W) a l ∧ l.length = len ∧ (a = none → cap = 0) ∧ len ≤ cap ∧ cap ≤ maxLen ∧ ((∀ k ∈ y.1.weights Tryz.prog 61, k ≤ reachBytes) → len ≤ reachBytes) := by
  rcases open_ints Tryz.underlying61 Tryz.underlying5 (by kernel_rfl) h with ⟨hcs, _⟩ | ⟨x, len, cap, zs, hcs, _, hl, hm, hz, hy, hcell, hwz⟩
  · simp at hcs
    subst hcs
    exact ⟨none, 0, 0, [], rfl, ⟨(fun c hc => by cases hc), Or.inl rfl⟩, rfl, fun _ => rfl, Nat.le_refl _, Nat.zero_le _, fun _ => Nat.zero_le _⟩
  · simp at hcs
    subst hcs
    have hzl : len ≤ zs.length := by rw [hz]; split <;> omega
    by_cases h0 : len = 0
    · subst h0
      exact ⟨some x, 0, cap, [], rfl, ⟨(fun c hc => by cases hc), Or.inl rfl⟩, rfl, (fun e => by cases e), hl, hm, fun _ => Nat.zero_le _⟩
    · have hb : x.block < W.heap.size := by
        have hc := hcell 0 (by omega)
        obtain ⟨b, off, spot⟩ := x
        have hspot : spot = none := by simpa [Addr.add] using World.cell?_spot hc
        subst hspot
        rw [Addr.add_mid] at hc
        exact lt_of_cell hc
      obtain ⟨l, h1, h2⟩ := row_of (W := W) (a := x) (len := len) (zs := zs) hzl hb hcell hwz
      refine ⟨_, _, _, l, rfl, h1, h2, (fun e => by cases e), hl, hm, fun hw => ?_⟩
      rw [hy] at hw
      have := hw (((lits .u8 (zs.take len)).length + (lits .u8 (zs.drop len)).length) * Tryz.prog.bytesOf 5) (by simp only [DataW.weights, Tryz.underlying61]; exact List.mem_cons_self ..)
      have hb5 : Tryz.prog.bytesOf 5 = 1 := by kernel_rfl
      rw [hb5] at this
      simp only [lits, List.length_map, List.length_take, List.length_drop] at this
      omega
theorem fils_mk {w : World} {S : Nat → Prop} {b o : Nat} {L : List FilI} (hS : S b)
    (h : ∀ i f, L[i]? = some f → w.cell? ⟨b, o + i * 3, none⟩ = some (.string f.name) ∧ (∃ dv, w.cell? ⟨b, o + i * 3 + 1, none⟩ = some dv ∧ Byt w S dv f.data) ∧ w.cell? ⟨b, o + i * 3 + 2, none⟩ = some (.int .i64 f.safe)) :
    Fils w S (some ⟨b, o, none⟩) L := by
  have hall : ∀ j, j < L.length * 3 → ∃ v, w.cell? ⟨b, o + j, none⟩ = some v := by
    intro j hj
    have hi : j / 3 < L.length := by omega
    obtain ⟨h0, ⟨dv, h1, _⟩, h2⟩ := h (j / 3) L[j / 3] (List.getElem?_eq_getElem hi)
    rcases (show j = j / 3 * 3 ∨ j = j / 3 * 3 + 1 ∨ j = j / 3 * 3 + 2 by omega) with e | e | e
    · exact ⟨_, by rw [e]; exact h0⟩
    · exact ⟨_, by rw [e, ← Nat.add_assoc]; exact h1⟩
    · exact ⟨_, by rw [e, ← Nat.add_assoc]; exact h2⟩
  obtain ⟨cells, hl, hc⟩ := list_of (P := fun j v => w.cell? ⟨b, o + j, none⟩ = some v) (L.length * 3) hall
  have hget : ∀ j v, j < L.length * 3 → w.cell? ⟨b, o + j, none⟩ = some v → cells[j]? = some v := by
    intro j v hj hv
    have h1 : cells[j]? = some (cells[j]'(by omega)) := List.getElem?_eq_getElem _
    have h2 := hc j _ h1
    rw [h2] at hv
    rw [h1, Option.some.inj hv]
  refine ⟨cells, ⟨hl, fun i f hi => ?_⟩, .inr ⟨b, o, rfl, hS, hc⟩⟩
  have hlt := (List.getElem?_eq_some_iff.1 hi).1
  obtain ⟨h0, ⟨dv, h1, h1'⟩, h2⟩ := h i f hi
  exact ⟨hget _ _ (by omega) h0, ⟨dv, hget _ _ (by omega) (by rw [← Nat.add_assoc]; exact h1), h1'⟩, hget _ _ (by omega) (by rw [← Nat.add_assoc]; exact h2)⟩
set_option maxRecDepth 100000 in
theorem fils_of {W : World} {base b0 : Nat} {spare : Nat → Bool} {held : Bool} {v : Value} {d : DataW H} {p : List MemPlace} (hv : Value.okWide Tryz.prog W .any b0 22 v) (h0 : DataW.Trod enc Tryz.prog W base spare held 22 v d p) :
    ∃ a len cap L, v = .slice a len cap ∧ Fils W (Was0 W) a L ∧ L.length = len ∧ (a = none → cap = 0) ∧ len ≤ cap ∧ cap ≤ maxLen ∧ ((∀ k ∈ d.weights Tryz.prog 22, k ≤ reachBytes) → len ≤ reachBytes ∧ ∀ f ∈ L, f.data.length ≤ reachBytes) := by
  obtain ⟨a0, len0, cap0, rfl⟩ := okWide_slice Tryz.underlying22 hv
  obtain ⟨fuel, hf⟩ := h0
  rcases open_slice_fields Tryz.underlying22 Tryz.underlying63 (by kernel_rfl) (by kernel_rfl) hf with ⟨hcs, _⟩ | ⟨x, len, cap, m, D, Pl, hcs, _, hl, hm, hmm, hx, hi⟩
  · simp [Value.cells] at hcs
    obtain ⟨rfl, rfl, rfl⟩ := hcs
    exact ⟨none, 0, 0, [], rfl, ⟨[], FCells.nil _ _, .inl rfl⟩, rfl, fun _ => rfl, Nat.le_refl _, Nat.zero_le _, fun _ => ⟨Nat.zero_le _, fun f hf => by cases hf⟩⟩
  · simp [Value.cells] at hcs
    obtain ⟨rfl, rfl, rfl⟩ := hcs
    have hml : len0 ≤ m := by rw [hmm]; split <;> omega
    obtain ⟨rfl, rfl⟩ := Prod.mk.inj hx
    by_cases h00 : len0 = 0
    · subst h00
      exact ⟨some x, 0, cap0, [], rfl, ⟨[], FCells.nil _ _, .inl rfl⟩, rfl, (fun e => by cases e), hl, hm, fun _ => ⟨Nat.zero_le _, fun f hf => by cases hf⟩⟩
    · obtain ⟨b, off, spot⟩ := x
      have hspot : spot = none := by
        obtain ⟨ys, n, _, _, _, hfl⟩ := hi 0 (by omega)
        obtain ⟨v0, y0, c0, _⟩ := hfl 0 _ rfl
        simpa [Addr.add] using World.cell?_spot c0
      subst hspot
      obtain ⟨L, hL, hP⟩ := list_of (P := fun i (f : FilI) => (W.cell? ⟨b, off + i * 3, none⟩ = some (.string f.name) ∧ (∃ dv, W.cell? ⟨b, off + i * 3 + 1, none⟩ = some dv ∧ Byt W (Was0 W) dv f.data) ∧ W.cell? ⟨b, off + i * 3 + 2, none⟩ = some (.int .i64 f.safe)) ∧
          ((∀ k ∈ (D i).weights Tryz.prog 63, k ≤ reachBytes) → f.data.length ≤ reachBytes)) len0 (fun i hil => by
        obtain ⟨ys, n, hD, _, hyl, hfl⟩ := hi i (by omega)
        obtain ⟨u0, y0, c0, k0, t0⟩ := hfl 0 _ rfl
        obtain ⟨u1, y1, c1, k1, t1⟩ := hfl 1 _ rfl
        obtain ⟨u2, y2, c2, k2, t2⟩ := hfl 2 _ rfl
        obtain ⟨s, e0, _, _⟩ := DataW.trod_string Tryz.underlying9 t0
        obtain ⟨a, bl, bc, l, rfl, hr, hln, hn0, hbc, hbm, hwt⟩ := bytes_of t1
        obtain ⟨z, e2, _, _⟩ := DataW.trod_int Tryz.underlying3 t2
        simp at e0 e2
        subst e0 e2 hln
        rw [Addr.add_mid] at c0 c1 c2
        refine ⟨⟨s, l, z⟩, ⟨c0, ⟨_, by rw [Nat.add_assoc]; exact c1, ⟨a, bc, rfl, hr, hn0, hbc, hbm⟩⟩, by rw [Nat.add_assoc]; exact c2⟩, fun hw => hwt (fun k hk => hw k ?_)⟩
        rw [hD]
        simp only [DataW.weights, Tryz.underlying63]
        exact DataW.weights_mem_each (j := 1) (t := 61) rfl (by rw [List.getElem?_map, k1]; rfl) k hk)
      have hbS : Was0 W b := by
        obtain ⟨ys, n, _, _, _, hfl⟩ := hi 0 (by omega)
        obtain ⟨v0, y0, c0, _⟩ := hfl 0 _ rfl
        rw [Addr.add_mid] at c0
        exact lt_of_cell c0
      refine ⟨_, len0, cap0, L, rfl, fils_mk hbS (fun i f hif => (hP i f hif).1), hL, (fun e => by cases e), hl, hm, fun hw => ⟨?_, fun f hf => ?_⟩⟩
      · have := hw _ (by simp only [DataW.weights, Tryz.underlying22]; exact List.mem_cons_self ..)
        have hb52 : Tryz.prog.bytesOf 63 = 48 := by kernel_rfl
        rw [hb52] at this
        simp only [List.length_map, List.length_range] at this
        omega
      · obtain ⟨i, hif⟩ := List.mem_iff_getElem?.1 hf
        refine (hP i f hif).2 (fun k hk => hw k ?_)
        simp only [DataW.weights, Tryz.underlying22]
        refine List.mem_cons_of_mem _ (List.mem_append_left _ (weightsAll_mem (List.mem_map.2 ⟨i, List.mem_range.2 ?_, rfl⟩) k hk))
        have := (List.getElem?_eq_some_iff.1 hif).1
        omega

end Go.Proofs.YtacfcfbleogioaaGreatDoor
