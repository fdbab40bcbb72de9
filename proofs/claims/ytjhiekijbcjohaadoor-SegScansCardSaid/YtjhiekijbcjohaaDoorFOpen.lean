/-
  From the reading of an argument to what the walks ask of it: a slice of bytes, a slice of such slices. No condition.
-/
import Derived.Test.YtjhiekijbcjohaaDoorSAwake
import Derived.Test.YtjhiekijbcjohaaDoorRows
import Derived.SizedLaws
import Derived.OpenShut
import Derived.Deep.Slices
import Derived.ChangeSame
import Derived.Lib.SmallJoins
namespace Go.Proofs.YtjhiekijbcjohaaDoor
open Go.ChangeShapes Go.WideShapes Go.ChangeAt Go.RowKit Go.Deep

theorem own : ownKnob Tryd.prog.godebug = none := by kernel_rfl
theorem laidOut : laidOutB Tryd.prog = true := by kernel_rfl

/-- Blocks that are there. -/
def Old (w : World) : Nat → Prop := fun k => k < w.heap.size

theorem list_of {α : Type} {P : Nat → α → Prop} : ∀ n, (∀ i, i < n → ∃ x, P i x) → ∃ l : List α, l.length = n ∧ ∀ i x, l[i]? = some x → P i x
  | 0, _ => ⟨[], rfl, fun i x h => by simp at h⟩
  | n + 1, h => by
    obtain ⟨l, hl, hp⟩ := list_of n (fun i hi => h i (by omega))
    obtain ⟨x, hx⟩ := h n (by omega)
    refine ⟨l ++ [x], by rw [List.length_append, hl]; rfl, fun i y hi => ?_⟩
    by_cases hlt : i < n
    · rw [List.getElem?_append_left (by omega)] at hi
      exact hp i y hi
    · rw [List.getElem?_append_right (by omega)] at hi
      have hi0 : i - l.length = 0 := by
        have := (List.getElem?_eq_some_iff.1 hi).1
        simp at this
        omega
      rw [hi0] at hi
      obtain rfl : x = y := by simpa using hi
      obtain rfl : i = n := by omega
      exact hx

theorem u8_bounds {z : Int} (h : (Lit.int .u8 z).wf = true) : 0 ≤ z ∧ z < 256 := by
  simp [Lit.wf, IntKind.min, IntKind.max, IntKind.signed, IntKind.bits] at h
  omega

theorem row_of {W : World} {a : Addr} {len : Nat} {zs : List Int} (hz : len ≤ zs.length) (hb : a.block < W.heap.size)
    (hcell : ∀ i, i < zs.length → W.cell? (a.add i) = some (.int .u8 (zs.getD i 0))) (hwz : ∀ n ∈ zs, (Lit.int .u8 n).wf = true) :
    ∃ l : List Nat, Row W (Old W) (some a) l ∧ l.length = len := by
  refine ⟨(zs.take len).map Int.toNat, ⟨?_, ?_⟩, by rw [List.length_map, List.length_take]; omega⟩
  · intro c hc
    obtain ⟨z, hz1, rfl⟩ := List.mem_map.1 hc
    have := u8_bounds (hwz z (List.mem_of_mem_take hz1))
    omega
  · by_cases h0 : len = 0
    · left; rw [h0]; rfl
    · obtain ⟨b, off, spot⟩ := a
      have hspot : spot = none := by simpa [Addr.add] using World.cell?_spot (hcell 0 (by omega))
      subst hspot
      refine Or.inr ⟨b, off, rfl, hb, fun i c hi => ?_⟩
      rw [List.getElem?_map] at hi
      obtain ⟨z, hz1, rfl⟩ := Option.map_eq_some_iff.1 hi
      have hlt : i < zs.length := by
        have := (List.getElem?_eq_some_iff.1 hz1).1
        rw [List.length_take] at this
        omega
      have hg : zs[i]? = some z := by
        rw [List.getElem?_take] at hz1
        split at hz1
        · exact hz1
        · cases hz1
      have hc := hcell i hlt
      rw [Addr.add_mid, List.getD_eq_getElem?_getD, hg, Option.getD_some] at hc
      rw [hc]
      have := u8_bounds (hwz z (List.mem_of_getElem? hg))
      congr 2
      omega

variable {H : Type} {enc : TypeId × Value → H}

theorem trod_below {W : World} {base : Nat} {spare : Nat → Bool} {held : Bool} {t : TypeId} {v : Value} {d : DataW H} {p : List MemPlace} (h : DataW.Trod enc Tryd.prog W base spare held t v d p) : ∀ x ∈ p, x.block < W.heap.size := by
  obtain ⟨m, hm⟩ := h
  exact DataW.trod_lt m _ _ _ hm

set_option maxRecDepth 100000 in
/-- A slice of bytes, read. -/
theorem bytes_of {W : World} {base : Nat} {spare : Nat → Bool} {held : Bool} {n : Nat} {v : Value} {y : DataW H × List MemPlace} (h : DataW.trod enc Tryd.prog W base spare held n 22 [v] = some y) :
    ∃ a len cap l, v = .slice a len cap ∧ Row W (Old W) a l ∧ l.length = len ∧ (a = none → cap = 0) ∧ len ≤ cap ∧ cap ≤ maxLen ∧ ((∀ k ∈ y.1.weights Tryd.prog 22, k ≤ reachBytes) → len ≤ reachBytes) := by
  rcases open_ints Tryd.underlying22 Tryd.underlying5 (by kernel_rfl) h with ⟨hcs, _⟩ | ⟨x, len, cap, zs, hcs, _, hl, hm, hz, hy, hcell, hwz⟩
  · simp at hcs
    subst hcs
    exact ⟨none, 0, 0, [], rfl, ⟨(fun c hc => by cases hc), Or.inl rfl⟩, rfl, fun _ => rfl, Nat.le_refl _, Nat.zero_le _, fun _ => Nat.zero_le _⟩
  · simp at hcs
    subst hcs
    have hzl : len ≤ zs.length := by rw [hz]; split <;> omega
    by_cases h0 : len = 0
    · subst h0
      exact ⟨some x, 0, cap, [], rfl, ⟨(fun c hc => by cases hc), Or.inl rfl⟩, rfl, (fun e => by cases e), hl, hm, fun _ => Nat.zero_le _⟩
    · have hb : x.block < W.heap.size := by
        have hc := hcell 0 (by omega)
        obtain ⟨b, off, spot⟩ := x
        have hspot : spot = none := by simpa [Addr.add] using World.cell?_spot hc
        subst hspot
        rw [Addr.add_mid] at hc
        exact lt_of_cell hc
      obtain ⟨l, h1, h2⟩ := row_of (W := W) (a := x) (len := len) (zs := zs) hzl hb hcell hwz
      refine ⟨_, _, _, l, rfl, h1, h2, (fun e => by cases e), hl, hm, fun hw => ?_⟩
      rw [hy] at hw
      have := hw (((lits .u8 (zs.take len)).length + (lits .u8 (zs.drop len)).length) * Tryd.prog.bytesOf 5) (by simp only [DataW.weights, Tryd.underlying22]; exact List.mem_cons_self ..)
      have hb5 : Tryd.prog.bytesOf 5 = 1 := by kernel_rfl
      rw [hb5] at this
      simp only [lits, List.length_map, List.length_take, List.length_drop] at this
      omega

theorem weightsAll_mem {P : Program} {e : TypeId} : ∀ {l : List (DataW H)} {d : DataW H}, d ∈ l → ∀ n ∈ d.weights P e, n ∈ DataW.weightsAll P e l
  | x :: l, d, hd, n, hn => by
    unfold DataW.weightsAll
    rcases List.mem_cons.1 hd with rfl | hd
    · exact List.mem_append_left _ hn
    · exact List.mem_append_right _ (weightsAll_mem hd n hn)

set_option maxRecDepth 100000 in
/-- A slice of bytes as an argument. -/
theorem bytes_arg {W : World} {base b0 : Nat} {spare : Nat → Bool} {held : Bool} {v : Value} {d : DataW H} {p : List MemPlace} (hv : Value.okWide Tryd.prog W .any b0 22 v) (h0 : DataW.Trod enc Tryd.prog W base spare held 22 v d p) :
    ∃ a len cap l, v = .slice a len cap ∧ Row W (Old W) a l ∧ l.length = len ∧ (a = none → cap = 0) ∧ len ≤ cap ∧ cap ≤ maxLen := by
  obtain ⟨a0, len0, cap0, rfl⟩ := okWide_slice Tryd.underlying22 hv
  obtain ⟨fuel, hf⟩ := h0
  obtain ⟨a, len, cap, l, h1, h2, h3, h4, h5, h6, _⟩ := bytes_of hf
  exact ⟨a, len, cap, l, h1, h2, h3, h4, h5, h6⟩

theorem recs_mk {w : World} {S : Nat → Prop} {b o : Nat} {L : List (List Nat)} (hS : S b)
    (h : ∀ i l, L[i]? = some l → ∃ v, w.cell? ⟨b, o + i, none⟩ = some v ∧ Byt w S v l) :
    Recs w S (some ⟨b, o, none⟩) L := by
  obtain ⟨cells, hl, hc⟩ := list_of (P := fun j v => w.cell? ⟨b, o + j, none⟩ = some v) L.length (fun i hi => by
    obtain ⟨v, h1, _⟩ := h i L[i] (List.getElem?_eq_getElem hi)
    exact ⟨v, h1⟩)
  refine ⟨cells, ⟨hl, fun i l hi => ?_⟩, .inr ⟨b, o, rfl, hS, hc⟩⟩
  have hlt := (List.getElem?_eq_some_iff.1 hi).1
  obtain ⟨v, h1, h2⟩ := h i l hi
  have h3 : cells[i]? = some (cells[i]'(by omega)) := List.getElem?_eq_getElem _
  have h4 := hc i _ h3
  rw [h4] at h1
  exact ⟨v, by rw [h3, Option.some.inj h1], h2⟩

set_option maxRecDepth 100000 in
set_option maxRecDepth 100000 in
/-- A slice of slices of bytes, read. -/
theorem recs_of {W : World} {base b0 : Nat} {spare : Nat → Bool} {held : Bool} {v : Value} {d : DataW H} {p : List MemPlace} (hv : Value.okWide Tryd.prog W .any b0 24 v) (h0 : DataW.Trod enc Tryd.prog W base spare held 24 v d p) :
    ∃ a len cap L, v = .slice a len cap ∧ Recs W (Old W) a L ∧ L.length = len ∧ (a = none → cap = 0) ∧ len ≤ cap ∧ cap ≤ maxLen ∧ ((∀ k ∈ d.weights Tryd.prog 24, k ≤ reachBytes) → len ≤ reachBytes ∧ ∀ f ∈ L, f.length ≤ reachBytes) := by
  obtain ⟨a0, len0, cap0, rfl⟩ := okWide_slice Tryd.underlying24 hv
  obtain ⟨fuel, hf⟩ := h0
  have hC : Tryd.prog.cellsOf 22 = 1 := by kernel_rfl
  rcases open_slice Tryd.underlying24 hf with ⟨hcs, _⟩ | ⟨x, len, cap, m, n, D, Pl, hcs, _, hl, hm, hmm, hx, hi⟩
  · simp [Value.cells] at hcs
    obtain ⟨rfl, rfl, rfl⟩ := hcs
    exact ⟨none, 0, 0, [], rfl, ⟨[], RCells.nil _ _, .inl rfl⟩, rfl, fun _ => rfl, Nat.le_refl _, Nat.zero_le _, fun _ => ⟨Nat.zero_le _, fun f hf => by cases hf⟩⟩
  · simp [Value.cells] at hcs
    obtain ⟨rfl, rfl, rfl⟩ := hcs
    have hml : len0 ≤ m := by rw [hmm]; split <;> omega
    obtain ⟨rfl, rfl⟩ := Prod.mk.inj hx
    have hcell : ∀ i, i < m → ∃ u, W.cell? (x.add i) = some u ∧ DataW.trod enc Tryd.prog W base spare held n 22 [u] = some (D i, Pl i) := fun i him => by
      obtain ⟨cs', hc, ht'⟩ := hi i him
      rw [hC, Nat.mul_one] at hc
      obtain ⟨_, hcl, hat⟩ := World.cells?_some hc
      have hc0 := hat 0 (by omega)
      have hv0 : cs' = [cs'[0]'(by omega)] := by
        match cs', hcl with
        | [z], _ => rfl
      refine ⟨cs'[0]'(by omega), ?_, by rw [← hv0]; exact ht'⟩
      rw [List.getElem?_eq_getElem (by omega)] at hc0
      simpa [Addr.add] using hc0
    by_cases h00 : len0 = 0
    · subst h00
      exact ⟨some x, 0, cap0, [], rfl, ⟨[], RCells.nil _ _, .inl rfl⟩, rfl, (fun e => by cases e), hl, hm, fun _ => ⟨Nat.zero_le _, fun f hf => by cases hf⟩⟩
    · obtain ⟨b, off, spot⟩ := x
      have hspot : spot = none := by
        obtain ⟨u0, c0, _⟩ := hcell 0 (by omega)
        simpa [Addr.add] using World.cell?_spot c0
      subst hspot
      obtain ⟨L, hL, hP⟩ := list_of (P := fun i (l : List Nat) => (∃ v, W.cell? ⟨b, off + i, none⟩ = some v ∧ Byt W (Old W) v l) ∧ ((∀ k ∈ (D i).weights Tryd.prog 22, k ≤ reachBytes) → l.length ≤ reachBytes)) len0 (fun i hil => by
        obtain ⟨u0, c0, t0⟩ := hcell i (by omega)
        obtain ⟨a, bl, bc, l, hu, hr, hln, hn0, hbc, hbm, hwt⟩ := bytes_of t0
        subst hu hln
        rw [Addr.add_mid] at c0
        exact ⟨l, ⟨_, c0, ⟨⟨a, bc, rfl, hr, hn0, hbc, hbm⟩⟩⟩, hwt⟩)
      have hbS : Old W b := by
        obtain ⟨u0, c0, _⟩ := hcell 0 (by omega)
        rw [Addr.add_mid] at c0
        exact lt_of_cell c0
      refine ⟨_, len0, cap0, L, rfl, recs_mk hbS (fun i f hif => (hP i f hif).1), hL, (fun e => by cases e), hl, hm, fun hw => ⟨?_, fun f hf => ?_⟩⟩
      · have := hw _ (by simp only [DataW.weights, Tryd.underlying24]; exact List.mem_cons_self ..)
        have hb24 : Tryd.prog.bytesOf 22 = 24 := by kernel_rfl
        rw [hb24] at this
        simp only [List.length_map, List.length_range] at this
        omega
      · obtain ⟨i, hif⟩ := List.mem_iff_getElem?.1 hf
        refine (hP i f hif).2 (fun k hk => hw k ?_)
        simp only [DataW.weights, Tryd.underlying24]
        refine List.mem_cons_of_mem _ (List.mem_append_left _ (weightsAll_mem (List.mem_map.2 ⟨i, List.mem_range.2 ?_, rfl⟩) k hk))
        have := (List.getElem?_eq_some_iff.1 hif).1
        omega

end Go.Proofs.YtjhiekijbcjohaaDoor
