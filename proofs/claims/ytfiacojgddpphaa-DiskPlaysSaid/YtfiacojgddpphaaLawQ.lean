/-
  What the laws need of many steps, of loading what a disk holds, of the power's loss. Of no program. No condition.
-/
import Derived.Test.YtfiacojgddpphaaDoSmall
namespace Go.Proofs.Ytfiacojgddpphaa
open Go.RowKit Go.Lib Go.Joins

theorem inv_actS {d : Dsk} (hi : Inv d) (x : DoI) (hb : ∀ c ∈ x.b, c < 256) : Inv (actS d x).2 := by
  unfold actS
  split
  · exact inv_step hi hb
  · split
    · exact inv_crash hi _
    · split
      · exact inv_arm hi _
      · exact hi
theorem step_room (d : Dsk) (o : Opn) : (step d o).2.room = d.room ∧ (step d o).2.tr = d.tr ∧ d.ops ≤ (step d o).2.ops ∧ (step d o).2.ops ≤ d.ops + 1 := by
  unfold step
  split
  · exact ⟨rfl, rfl, by show d.ops ≤ d.ops; omega, by show d.ops ≤ d.ops + 1; omega⟩
  · split
    · exact ⟨rfl, rfl, by show d.ops ≤ d.ops + 1; omega, by show d.ops + 1 ≤ d.ops + 1; omega⟩
    · split
      · exact ⟨rfl, rfl, by show d.ops ≤ d.ops + 1; omega, by show d.ops + 1 ≤ d.ops + 1; omega⟩
      · exact ⟨rfl, rfl, by show d.ops ≤ d.ops + 1; omega, by show d.ops + 1 ≤ d.ops + 1; omega⟩
/-- A disk that few steps were made with. -/
structure Few (d : Dsk) (R : Int) (i : Nat) : Prop where
  room : d.room = R
  ops0 : 0 ≤ d.ops
  ops1 : d.ops ≤ (i : Int)
theorem Few.act {d : Dsk} {R : Int} {i : Nat} (h : Few d R i) (x : DoI) : Few (actS d x).2 R (i + 1) := by
  have h0 := h.ops0
  have h1 := h.ops1
  unfold actS
  split
  · obtain ⟨r, _, a, b⟩ := step_room d (opn x)
    exact ⟨r.trans h.room, by omega, by omega⟩
  · split
    · exact ⟨h.room, h0, by show d.ops ≤ _; omega⟩
    · split
      · exact ⟨h.room, by show (0 : Int) ≤ 0; omega, by show (0 : Int) ≤ _; omega⟩
      · exact ⟨h.room, h0, by show d.ops ≤ _; omega⟩
theorem Few.skip {d : Dsk} {R : Int} {i : Nat} (h : Few d R i) : Few d R (i + 1) := ⟨h.room, h.ops0, by have := h.ops1; omega⟩
theorem Few.sml {d : Dsk} {R : Int} {i : Nat} (h : Few d R i) (hi : Inv d) (hR : R ≤ 1073741824) (hn : i ≤ 1000) : Sml d :=
  ⟨by have := hi.fit; rw [h.room] at this; omega, h.ops0, by have := h.ops1; omega⟩

/-! ### what a disk holds can be loaded -/
theorem ins_last {f : Fil} : ∀ {P : List Fil}, (∀ g ∈ P, nlt g.name f.name = true) → ins f P = P ++ [f]
  | [], _ => rfl
  | g :: P, h => by
    unfold ins
    rw [if_pos (h g (List.mem_cons_self ..)), ins_last (fun x hx => h x (List.mem_cons_of_mem _ hx))]
    rfl
theorem fil_toI (f : Fil) : fil (toI f) = f := by
  unfold fil toI
  simp
theorem loadS_back : ∀ (Q P : List Fil) (e : Dsk), Srt (P ++ Q) → (P ++ Q).length ≤ 64 → (∀ f ∈ Q, nmd f.name = true ∧ f.safe ≤ f.data.length) → (used (P ++ Q) : Int) ≤ e.room → e.L = P → loadS (Q.map toI) e = some { e with L := P ++ Q }
  | [], P, e, _, _, _, _, he => by
    rw [List.append_nil, ← he]
    rfl
  | f :: Q, P, e, hs, hl, hq, hu, he => by
    obtain ⟨hPs, hQs, hPQ⟩ := List.pairwise_append.1 hs
    have hlt : ∀ g ∈ P, nlt g.name f.name = true := fun g hg => hPQ g hg f (List.mem_cons_self ..)
    have hadd : addF (toI f) e = { e with L := P ++ [f] } := by
      unfold addF
      rw [fil_toI, he, ins_last hlt]
    have hused : used (P ++ f :: Q) = used P + f.data.length + used Q := by
      unfold used
      simp only [List.map_append, List.map_cons, List.sum_append, List.sum_cons]
      omega
    have ht : takesB e (toI f) = true := by
      obtain ⟨h1, h2⟩ := hq f (List.mem_cons_self ..)
      have hn : fnd f.name e.L = none := by
        rw [he]
        cases hg : fnd f.name P with
        | none => rfl
        | some g =>
          obtain ⟨h3, h4⟩ := fnd_some hg
          exact absurd h4 (nlt_ne (hlt g h3))
      unfold takesB toI
      rw [h1, hn, he]
      rw [List.length_append, List.length_cons] at hl
      simp only [Bool.and_eq_true, decide_eq_true_eq, Option.isSome_none, Bool.not_false, Bool.true_and]
      refine ⟨⟨⟨?_, ?_⟩, ?_⟩, ?_⟩ <;> omega
    rw [List.map_cons]
    unfold loadS
    rw [if_pos ht, hadd]
    have := loadS_back Q (P ++ [f]) { e with L := P ++ [f] } (by rw [List.append_assoc]; exact hs) (by rw [List.append_assoc]; exact hl) (fun g hg => hq g (List.mem_cons_of_mem _ hg)) (by rw [List.append_assoc]; exact hu) rfl
    rw [this, List.append_assoc]
    rfl
theorem loadS_own {d : Dsk} (hi : Inv d) {R : Int} (hR : d.room ≤ R) : ∃ d', loadS (d.L.map toI) (dsk0 R) = some d' ∧ d'.L = d.L :=
  ⟨_, loadS_back d.L [] (dsk0 R) hi.srt hi.most (fun f hf => ⟨hi.name f hf, hi.safe f hf⟩) (by show (used ([] ++ d.L) : Int) ≤ max R 0; rw [List.nil_append]; have := hi.fit; omega) rfl, List.nil_append _⟩
theorem total_toI (L : List Fil) : total (L.map toI) = used L := by
  unfold total used
  rw [List.map_map]
  rfl
theorem nmd_size {s : ByteArray} (h : nmd s = true) : s.size ≤ 40 := by
  unfold nmd at h
  simp only [Bool.and_eq_true, decide_eq_true_eq] at h
  exact h.2

/-! ### behind the power's loss -/
theorem crs_at (ts : List Int) : ∀ (k : Nat) (L : List Fil) {i : Nat} {f : Fil}, L[i]? = some f → ∃ n, (crs ts k L)[i]? = some ⟨f.name, f.data.take n, n⟩ ∧ f.safe ≤ n ∧ (f.safe ≤ f.data.length → n ≤ f.data.length)
  | k, g :: L, 0, f, h => by
    obtain rfl : g = f := by simpa using h
    refine ⟨_, rfl, ?_, fun hs => ?_⟩
    · show g.safe ≤ g.safe + _
      omega
    · show g.safe + (match ts[k]? with | some t => wth t (g.data.length - g.safe) | none => 0) ≤ _
      cases ts[k]? with
      | none => exact hs
      | some t =>
        have := wth_le t (g.data.length - g.safe)
        show g.safe + wth t (g.data.length - g.safe) ≤ _
        omega
  | k, g :: L, i + 1, f, h => crs_at ts (k + 1) L (by simpa using h)
  | k, [], i, f, h => by simp at h

end Go.Proofs.Ytfiacojgddpphaa
