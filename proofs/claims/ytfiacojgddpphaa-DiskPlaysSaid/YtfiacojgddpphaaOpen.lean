/-
  From the reading of an argument to what the walks ask of it: a slice of bytes, a slice of files. No condition.
-/
import Derived.Test.YtfiacojgddpphaaLawP
import Derived.Test.YtfiacojgddpphaaRows
import Derived.SizedLaws
import Derived.OpenShut
import Derived.Deep.Slices
import Derived.Deep.Fields
import Derived.ChangeSame
import Derived.Lib.SmallJoins
namespace Go.Proofs.Ytfiacojgddpphaa
open Go.ChangeShapes Go.WideShapes Go.ChangeAt Go.RowKit Go.Deep

theorem own : ownKnob Try.prog.godebug = none := by kernel_rfl
theorem laidOut : laidOutB Try.prog = true := by kernel_rfl

/-- Blocks that are there. -/
def Old (w : World) : Nat → Prop := fun k => k < w.heap.size

theorem list_of {α : Type} {P : Nat → α → Prop} : ∀ n, (∀ i, i < n → ∃ x, P i x) → ∃ l : List α, l.length = n ∧ ∀ i x, l[i]? = some x → P i x
  | 0, _ => ⟨[], rfl, fun i x h => by simp at h⟩
  | n + 1, h => by
    obtain ⟨l, hl, hp⟩ := list_of n (fun i hi => h i (by omega))
    obtain ⟨x, hx⟩ := h n (by omega)
    refine ⟨l ++ [x], by rw [List.length_append, hl]; rfl, fun i y hi => ?_⟩
    by_cases hlt : i < n
    · rw [List.getElem?_append_left (by omega)] at hi
      exact hp i y hi
    · rw [List.getElem?_append_right (by omega)] at hi
      have hi0 : i - l.length = 0 := by
        have := (List.getElem?_eq_some_iff.1 hi).1
        simp at this
        omega
      rw [hi0] at hi
      obtain rfl : x = y := by simpa using hi
      obtain rfl : i = n := by omega
      exact hx

theorem u8_bounds {z : Int} (h : (Lit.int .u8 z).wf = true) : 0 ≤ z ∧ z < 256 := by
  simp [Lit.wf, IntKind.min, IntKind.max, IntKind.signed, IntKind.bits] at h
  omega

theorem row_of {W : World} {a : Addr} {len : Nat} {zs : List Int} (hz : len ≤ zs.length) (hb : a.block < W.heap.size)
    (hcell : ∀ i, i < zs.length → W.cell? (a.add i) = some (.int .u8 (zs.getD i 0))) (hwz : ∀ n ∈ zs, (Lit.int .u8 n).wf = true) :
    ∃ l : List Nat, Row W (Old W) (some a) l ∧ l.length = len := by
  refine ⟨(zs.take len).map Int.toNat, ⟨?_, ?_⟩, by rw [List.length_map, List.length_take]; omega⟩
  · intro c hc
    obtain ⟨z, hz1, rfl⟩ := List.mem_map.1 hc
    have := u8_bounds (hwz z (List.mem_of_mem_take hz1))
    omega
  · by_cases h0 : len = 0
    · left; rw [h0]; rfl
    · obtain ⟨b, off, spot⟩ := a
      have hspot : spot = none := by simpa [Addr.add] using World.cell?_spot (hcell 0 (by omega))
      subst hspot
      refine Or.inr ⟨b, off, rfl, hb, fun i c hi => ?_⟩
      rw [List.getElem?_map] at hi
      obtain ⟨z, hz1, rfl⟩ := Option.map_eq_some_iff.1 hi
      have hlt : i < zs.length := by
        have := (List.getElem?_eq_some_iff.1 hz1).1
        rw [List.length_take] at this
        omega
      have hg : zs[i]? = some z := by
        rw [List.getElem?_take] at hz1
        split at hz1
        · exact hz1
        · cases hz1
      have hc := hcell i hlt
      rw [Addr.add_mid, List.getD_eq_getElem?_getD, hg, Option.getD_some] at hc
      rw [hc]
      have := u8_bounds (hwz z (List.mem_of_getElem? hg))
      congr 2
      omega

variable {H : Type} {enc : TypeId × Value → H}

theorem open_slice_fields {P : Program} {w : World} {base : Nat} {spare : Nat → Bool} {held : Bool} {t e : TypeId} {fs : Array Field} {fuel : Nat} {cs : List Value} {x : DataW H × List MemPlace} (ht : P.underlying t = some (.slice e)) (he : P.underlying e = some (.struct fs))
    (hone : oneCellFields P fs = true) (hC : P.cellsOf e = fs.size) (h : DataW.trod enc P w base spare held fuel t cs = some x) :
    (cs = [.slice none 0 0] ∧ x = (.nil, [])) ∨
    ∃ (a : Addr) (len cap m : Nat) (D : Nat → DataW H) (Pl : Nat → List MemPlace), cs = [.slice (some a) len cap] ∧ base ≤ a.block ∧ len ≤ cap ∧ cap ≤ maxLen ∧ m = (if spare a.block then cap else len) ∧
      x = (.slice ((List.range len).map D) ((List.range (m - len)).map fun j => D (len + j)), MemPlace.row a (m * fs.size) ++ (List.range m).flatMap Pl) ∧
      ∀ i, i < m → ∃ (ys : List (DataW H × List MemPlace)) (n : Nat), D i = .agg (ys.map (·.1)) ∧ Pl i = ys.flatMap (·.2) ∧ ys.length = fs.size ∧
        ∀ (j : Nat) (f : Field), fs[j]? = some f → ∃ (v : Value) (y : DataW H × List MemPlace), w.cell? (a.add (i * fs.size + j)) = some v ∧ ys[j]? = some y ∧ DataW.trod enc P w base spare held n f.type [v] = some y := by
  rcases open_slice ht h with h0 | ⟨a, len, cap, m, n, D, Pl, hcs, hb, hl, hm, hmm, hx, hi⟩
  · exact .inl h0
  · refine .inr ⟨a, len, cap, m, D, Pl, hcs, hb, hl, hm, hmm, by rw [hC] at hx; exact hx, fun i him => ?_⟩
    obtain ⟨cs', hc, ht'⟩ := hi i him
    rw [hC] at hc
    obtain ⟨ys, n', hn', hy, hlen, hyl, hf⟩ := DataW.trod_struct he ht'
    obtain ⟨_, hcl, hat⟩ := World.cells?_some hc
    simp only [Prod.mk.injEq] at hy
    refine ⟨ys, n', hy.1, hy.2, hyl, fun j f hj => ?_⟩
    obtain ⟨ho, hk⟩ := hone_of hone j f hj
    have hjl : j < fs.size := (Array.getElem?_eq_some_iff.1 hj).1
    have hcell := hat j hjl
    have hv : cs'[j]? = some (cs'[j]'(by omega)) := List.getElem?_eq_getElem (by omega)
    have h1 := hf j f hj
    rw [ho, hk] at h1
    have hone' : (cs'.drop j).take 1 = [cs'[j]'(by omega)] := by
      rw [List.drop_eq_getElem_cons (by omega)]
      rfl
    rw [hone'] at h1
    have hys : ys[j]? = some (ys[j]'(by omega)) := List.getElem?_eq_getElem (by omega)
    refine ⟨_, _, ?_, hys, h1.trans hys⟩
    rw [← Go.Deep.add_add, hcell, hv]

/-- A slice of bytes, read. -/
theorem bytes_of {W : World} {base : Nat} {spare : Nat → Bool} {held : Bool} {n : Nat} {v : Value} {y : DataW H × List MemPlace} (h : DataW.trod enc Try.prog W base spare held n 35 [v] = some y) :
    ∃ a len cap l, v = .slice a len cap ∧ Row W (Old W) a l ∧ l.length = len ∧ (a = none → cap = 0) ∧ len ≤ cap ∧ cap ≤ maxLen ∧ ((∀ k ∈ y.1.weights Try.prog 35, k ≤ reachBytes) → len ≤ reachBytes) := by
  rcases open_ints Try.underlying35 Try.underlying5 (by kernel_rfl) h with ⟨hcs, _⟩ | ⟨x, len, cap, zs, hcs, _, hl, hm, hz, hy, hcell, hwz⟩
  · simp at hcs
    subst hcs
    exact ⟨none, 0, 0, [], rfl, ⟨(fun c hc => by cases hc), Or.inl rfl⟩, rfl, fun _ => rfl, Nat.le_refl _, Nat.zero_le _, fun _ => Nat.zero_le _⟩
  · simp at hcs
    subst hcs
    have hzl : len ≤ zs.length := by rw [hz]; split <;> omega
    by_cases h0 : len = 0
    · subst h0
      exact ⟨some x, 0, cap, [], rfl, ⟨(fun c hc => by cases hc), Or.inl rfl⟩, rfl, (fun e => by cases e), hl, hm, fun _ => Nat.zero_le _⟩
    · have hb : x.block < W.heap.size := by
        have hc := hcell 0 (by omega)
        obtain ⟨b, off, spot⟩ := x
        have hspot : spot = none := by simpa [Addr.add] using World.cell?_spot hc
        subst hspot
        rw [Addr.add_mid] at hc
        exact lt_of_cell hc
      obtain ⟨l, h1, h2⟩ := row_of (W := W) (a := x) (len := len) (zs := zs) hzl hb hcell hwz
      refine ⟨_, _, _, l, rfl, h1, h2, (fun e => by cases e), hl, hm, fun hw => ?_⟩
      rw [hy] at hw
      have := hw (((lits .u8 (zs.take len)).length + (lits .u8 (zs.drop len)).length) * Try.prog.bytesOf 5) (by simp only [DataW.weights, Try.underlying35]; exact List.mem_cons_self ..)
      have hb5 : Try.prog.bytesOf 5 = 1 := by kernel_rfl
      rw [hb5] at this
      simp only [lits, List.length_map, List.length_take, List.length_drop] at this
      omega

theorem fils_mk {w : World} {S : Nat → Prop} {b o : Nat} {L : List FilI} (hS : S b)
    (h : ∀ i f, L[i]? = some f → w.cell? ⟨b, o + i * 3, none⟩ = some (.string f.name) ∧ (∃ dv, w.cell? ⟨b, o + i * 3 + 1, none⟩ = some dv ∧ Byt w S dv f.data) ∧ w.cell? ⟨b, o + i * 3 + 2, none⟩ = some (.int .i64 f.safe)) :
    Fils w S (some ⟨b, o, none⟩) L := by
  have hall : ∀ j, j < L.length * 3 → ∃ v, w.cell? ⟨b, o + j, none⟩ = some v := by
    intro j hj
    have hi : j / 3 < L.length := by omega
    obtain ⟨h0, ⟨dv, h1, _⟩, h2⟩ := h (j / 3) L[j / 3] (List.getElem?_eq_getElem hi)
    rcases (show j = j / 3 * 3 ∨ j = j / 3 * 3 + 1 ∨ j = j / 3 * 3 + 2 by omega) with e | e | e
    · exact ⟨_, by rw [e]; exact h0⟩
    · exact ⟨_, by rw [e, ← Nat.add_assoc]; exact h1⟩
    · exact ⟨_, by rw [e, ← Nat.add_assoc]; exact h2⟩
  obtain ⟨cells, hl, hc⟩ := list_of (P := fun j v => w.cell? ⟨b, o + j, none⟩ = some v) (L.length * 3) hall
  have hget : ∀ j v, j < L.length * 3 → w.cell? ⟨b, o + j, none⟩ = some v → cells[j]? = some v := by
    intro j v hj hv
    have h1 : cells[j]? = some (cells[j]'(by omega)) := List.getElem?_eq_getElem _
    have h2 := hc j _ h1
    rw [h2] at hv
    rw [h1, Option.some.inj hv]
  refine ⟨cells, ⟨hl, fun i f hi => ?_⟩, .inr ⟨b, o, rfl, hS, hc⟩⟩
  have hlt := (List.getElem?_eq_some_iff.1 hi).1
  obtain ⟨h0, ⟨dv, h1, h1'⟩, h2⟩ := h i f hi
  exact ⟨hget _ _ (by omega) h0, ⟨dv, hget _ _ (by omega) (by rw [← Nat.add_assoc]; exact h1), h1'⟩, hget _ _ (by omega) (by rw [← Nat.add_assoc]; exact h2)⟩

theorem weightsAll_mem {P : Program} {e : TypeId} : ∀ {l : List (DataW H)} {d : DataW H}, d ∈ l → ∀ n ∈ d.weights P e, n ∈ DataW.weightsAll P e l
  | x :: l, d, hd, n, hn => by
    unfold DataW.weightsAll
    rcases List.mem_cons.1 hd with rfl | hd
    · exact List.mem_append_left _ hn
    · exact List.mem_append_right _ (weightsAll_mem hd n hn)

set_option maxRecDepth 100000 in
/-- A slice of files, read. -/
theorem fils_of {W : World} {base b0 : Nat} {spare : Nat → Bool} {held : Bool} {v : Value} {d : DataW H} {p : List MemPlace} (hv : Value.okWide Try.prog W .any b0 22 v) (h0 : DataW.Trod enc Try.prog W base spare held 22 v d p) :
    ∃ a len cap L, v = .slice a len cap ∧ Fils W (Old W) a L ∧ L.length = len ∧ (a = none → cap = 0) ∧ len ≤ cap ∧ cap ≤ maxLen ∧ ((∀ k ∈ d.weights Try.prog 22, k ≤ reachBytes) → len ≤ reachBytes ∧ ∀ f ∈ L, f.data.length ≤ reachBytes) := by
  obtain ⟨a0, len0, cap0, rfl⟩ := okWide_slice Try.underlying22 hv
  obtain ⟨fuel, hf⟩ := h0
  rcases open_slice_fields Try.underlying22 Try.underlying52 (by kernel_rfl) (by kernel_rfl) hf with ⟨hcs, _⟩ | ⟨x, len, cap, m, D, Pl, hcs, _, hl, hm, hmm, hx, hi⟩
  · simp [Value.cells] at hcs
    obtain ⟨rfl, rfl, rfl⟩ := hcs
    exact ⟨none, 0, 0, [], rfl, ⟨[], FCells.nil _ _, .inl rfl⟩, rfl, fun _ => rfl, Nat.le_refl _, Nat.zero_le _, fun _ => ⟨Nat.zero_le _, fun f hf => by cases hf⟩⟩
  · simp [Value.cells] at hcs
    obtain ⟨rfl, rfl, rfl⟩ := hcs
    have hml : len0 ≤ m := by rw [hmm]; split <;> omega
    obtain ⟨rfl, rfl⟩ := Prod.mk.inj hx
    by_cases h00 : len0 = 0
    · subst h00
      exact ⟨some x, 0, cap0, [], rfl, ⟨[], FCells.nil _ _, .inl rfl⟩, rfl, (fun e => by cases e), hl, hm, fun _ => ⟨Nat.zero_le _, fun f hf => by cases hf⟩⟩
    · obtain ⟨b, off, spot⟩ := x
      have hspot : spot = none := by
        obtain ⟨ys, n, _, _, _, hfl⟩ := hi 0 (by omega)
        obtain ⟨v0, y0, c0, _⟩ := hfl 0 _ rfl
        simpa [Addr.add] using World.cell?_spot c0
      subst hspot
      obtain ⟨L, hL, hP⟩ := list_of (P := fun i (f : FilI) => (W.cell? ⟨b, off + i * 3, none⟩ = some (.string f.name) ∧ (∃ dv, W.cell? ⟨b, off + i * 3 + 1, none⟩ = some dv ∧ Byt W (Old W) dv f.data) ∧ W.cell? ⟨b, off + i * 3 + 2, none⟩ = some (.int .i64 f.safe)) ∧
          ((∀ k ∈ (D i).weights Try.prog 52, k ≤ reachBytes) → f.data.length ≤ reachBytes)) len0 (fun i hil => by
        obtain ⟨ys, n, hD, _, hyl, hfl⟩ := hi i (by omega)
        obtain ⟨u0, y0, c0, k0, t0⟩ := hfl 0 _ rfl
        obtain ⟨u1, y1, c1, k1, t1⟩ := hfl 1 _ rfl
        obtain ⟨u2, y2, c2, k2, t2⟩ := hfl 2 _ rfl
        obtain ⟨s, e0, _, _⟩ := DataW.trod_string Try.underlying9 t0
        obtain ⟨a, bl, bc, l, rfl, hr, hln, hn0, hbc, hbm, hwt⟩ := bytes_of t1
        obtain ⟨z, e2, _, _⟩ := DataW.trod_int Try.underlying3 t2
        simp at e0 e2
        subst e0 e2 hln
        rw [Addr.add_mid] at c0 c1 c2
        refine ⟨⟨s, l, z⟩, ⟨c0, ⟨_, by rw [Nat.add_assoc]; exact c1, ⟨a, bc, rfl, hr, hn0, hbc, hbm⟩⟩, by rw [Nat.add_assoc]; exact c2⟩, fun hw => hwt (fun k hk => hw k ?_)⟩
        rw [hD]
        simp only [DataW.weights, Try.underlying52]
        exact DataW.weights_mem_each (j := 1) (t := 35) rfl (by rw [List.getElem?_map, k1]; rfl) k hk)
      have hbS : Old W b := by
        obtain ⟨ys, n, _, _, _, hfl⟩ := hi 0 (by omega)
        obtain ⟨v0, y0, c0, _⟩ := hfl 0 _ rfl
        rw [Addr.add_mid] at c0
        exact lt_of_cell c0
      refine ⟨_, len0, cap0, L, rfl, fils_mk hbS (fun i f hif => (hP i f hif).1), hL, (fun e => by cases e), hl, hm, fun hw => ⟨?_, fun f hf => ?_⟩⟩
      · have := hw _ (by simp only [DataW.weights, Try.underlying22]; exact List.mem_cons_self ..)
        have hb52 : Try.prog.bytesOf 52 = 48 := by kernel_rfl
        rw [hb52] at this
        simp only [List.length_map, List.length_range] at this
        omega
      · obtain ⟨i, hif⟩ := List.mem_iff_getElem?.1 hf
        refine (hP i f hif).2 (fun k hk => hw k ?_)
        simp only [DataW.weights, Try.underlying22]
        refine List.mem_cons_of_mem _ (List.mem_append_left _ (weightsAll_mem (List.mem_map.2 ⟨i, List.mem_range.2 ?_, rfl⟩) k hk))
        have := (List.getElem?_eq_some_iff.1 hif).1
        omega

end Go.Proofs.Ytfiacojgddpphaa
