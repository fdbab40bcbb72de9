/-
  How few bytes and operations a disk has behind Create, Append and Open of a segment; that it is a disk. Of no program. No condition.
-/
import Derived.Test.YtacfcfbleogioaaDoorSPure
namespace Go.Proofs.YtacfcfbleogioaaDoor

theorem used_cutT {n : ByteArray} {h : Fil → Fil} (hh : ∀ f, (h f).data.length ≤ f.data.length) : ∀ L : List Fil, used (upd n h L) ≤ used L
  | [] => Nat.le_refl _
  | f :: L => by
    have ih := used_cutT (n := n) hh L
    unfold upd at ih ⊢
    simp only [used, List.map_cons, List.sum_cons] at ih ⊢
    split
    · have := hh f; omega
    · omega
theorem used_addT {n : ByteArray} {l : List Nat} {L : List Fil} (hs : Srt L) : used (upd n (addB l) L) ≤ used L + l.length := by
  cases hf : fnd n L with
  | none => rw [upd_none _ hf]; omega
  | some f =>
    have := used_upd (h := addB l) hs hf
    simp only [addB, List.length_append] at this
    omega
theorem used_wholeT {d : Dsk} (hi : Inv d) (o : Opn) : used (whole o d.L) ≤ used d.L + o.b.length := by
  unfold whole
  split
  · rw [used_ins]; simp
  · split
    · exact used_addT hi.srt
    · split
      · have := used_cutT (n := o.name) (h := cutB o.n.toNat) (fun f => by simp only [cutB, List.length_take]; omega) d.L
        omega
      · split
        · have := used_cutT (n := o.name) (h := synB) (fun f => Nat.le_refl _) d.L
          omega
        · split
          · unfold ren
            cases hf : fnd o.name d.L with
            | none => dsimp only; omega
            | some f =>
              dsimp only
              rw [used_ins]
              have h1 := used_dro hi.srt hf
              have h2 := used_dro_le o.to (dro o.name d.L)
              show used (dro o.to (dro o.name d.L)) + f.data.length ≤ _
              omega
          · have := used_dro_le o.name d.L; omega
theorem used_partT {d : Dsk} (hi : Inv d) (o : Opn) (p : Int) : used (part o p d.L) ≤ used d.L + o.b.length := by
  unfold part
  split
  · refine Nat.le_trans (used_addT hi.srt) ?_
    rw [List.length_take]
    omega
  · omega
theorem step_room (d : Dsk) (o : Opn) : (step d o).2.room = d.room ∧ (step d o).2.tr = d.tr ∧ d.ops ≤ (step d o).2.ops ∧ (step d o).2.ops ≤ d.ops + 1 := by
  unfold step
  split
  · exact ⟨rfl, rfl, by show d.ops ≤ d.ops; omega, by show d.ops ≤ d.ops + 1; omega⟩
  · split
    · exact ⟨rfl, rfl, by show d.ops ≤ d.ops + 1; omega, by show d.ops + 1 ≤ d.ops + 1; omega⟩
    · split
      · exact ⟨rfl, rfl, by show d.ops ≤ d.ops + 1; omega, by show d.ops + 1 ≤ d.ops + 1; omega⟩
      · exact ⟨rfl, rfl, by show d.ops ≤ d.ops + 1; omega, by show d.ops + 1 ≤ d.ops + 1; omega⟩

/-- Few bytes, few operations. -/
structure Few (d : Dsk) (m k : Nat) : Prop where
  inv : Inv d
  used : used d.L ≤ m
  ops0 : 0 ≤ d.ops
  ops1 : d.ops ≤ (k : Int)
theorem Few.mono {d : Dsk} {m k m' k' : Nat} (h : Few d m k) (hm : m ≤ m') (hk : k ≤ k') : Few d m' k' := ⟨h.inv, Nat.le_trans h.used hm, h.ops0, by have := h.ops1; omega⟩
theorem used_stepT {d : Dsk} (hi : Inv d) (o : Opn) : used (step d o).2.L ≤ used d.L + o.b.length := by
  unfold step
  split
  · dsimp only; omega
  · split
    · dsimp only; omega
    · split
      · exact used_wholeT hi o
      · exact used_partT hi o _
theorem Few.step {d : Dsk} {m k : Nat} (h : Few d m k) (o : Opn) (hb : ∀ c ∈ o.b, c < 256) {M : Nat} (hM : m + o.b.length ≤ M) : Few (step d o).2 M (k + 1) := by
  obtain ⟨_, _, r2, r3⟩ := step_room d o
  have h1 := used_stepT h.inv o
  have h2 := h.used
  have h3 := h.ops0
  have h4 := h.ops1
  exact ⟨inv_step h.inv hb, by omega, by omega, by omega⟩
theorem byts_nil : ∀ c ∈ ([] : List Nat), c < 256 := fun c h => by cases h
theorem Few.undo {d : Dsk} {m k : Nat} (h : Few d m k) (n : Int) (z : Nat) : Few (undoB d n z).2 m (k + 1) := by
  unfold undoB
  split
  · exact h.step (opD n) byts_nil (Nat.le_refl _)
  · exact h.step (opK n z) byts_nil (Nat.le_refl _)
theorem Few.lays {d : Dsk} {m k : Nat} (h : Few d m k) (n : Int) {b : List Nat} (hb : Byts b) : Few (laysB d n b).2 (m + b.length) (k + 2) := by
  have h1 := h.step (opA n b) hb (Nat.le_refl _)
  unfold laysB
  split
  · exact h1.step (opS n) byts_nil (Nat.le_refl _)
  · exact h1.mono (Nat.le_refl _) (by omega)
theorem Few.write {d : Dsk} {m k : Nat} (h : Few d m k) (n : Int) (z : Nat) {b : List Nat} (hb : Byts b) : Few (writeB d n z b).2.2 (m + b.length) (k + 3) := by
  have h1 := h.lays n hb
  unfold writeB
  split
  · exact h1.mono (Nat.le_refl _) (by omega)
  · exact (h1.undo n z).mono (Nat.le_refl _) (by omega)
theorem Few.create {d : Dsk} {m k : Nat} (h : Few d m k) (n : Int) : Few (createB d n).2 (m + 12) (k + 4) := by
  unfold createB
  split
  · exact h.mono (by omega) (by omega)
  · next hm =>
    have h1 : Few (Go.Proofs.YtacfcfbleogioaaDoor.step d (opC n)).2 m (k + 1) := h.step (opC n) byts_nil (Nat.le_refl _)
    split
    · exact h1.mono (by omega) (by omega)
    · have h2 := h1.write n 0 (headB_byts n)
      rw [headB_len (by simpa using hm)] at h2
      exact h2.mono (by omega) (by omega)
theorem okL_rec {L : List (List Nat)} (h : okL L = true) : ∀ r ∈ L, 1 ≤ r.length ∧ r.length ≤ 1048576 := by
  unfold okL at h
  rw [Bool.and_eq_true, List.all_eq_true] at h
  intro r hr
  have := h.2 r hr
  simpa using this
theorem Few.append {d : Dsk} {m k : Nat} (h : Few d m k) (n : Int) (g : Sg) {L : List (List Nat)} (hL : ∀ r ∈ L, Byts r) : Few (appendB d n g L).2.2 (m + (frs L).length) (k + 3) := by
  unfold appendB
  split
  · exact h.mono (by omega) (by omega)
  · split
    · exact h.mono (by omega) (by omega)
    · exact h.write n g.size (frs_byts hL)
theorem Few.begin {d : Dsk} {m k : Nat} (h : Few d m k) (n : Int) (z s : Nat) : Few (beginB d n z s).2 m (k + 2) := by
  unfold beginB
  split
  · exact (h.step (opS n) byts_nil (Nat.le_refl _)).mono (Nat.le_refl _) (by omega)
  · split
    · have h1 : Few (Go.Proofs.YtacfcfbleogioaaDoor.step d (opK n z)).2 m (k + 1) := h.step (opK n z) byts_nil (Nat.le_refl _)
      split
      · exact (h1.step (opS n) byts_nil (Nat.le_refl _)).mono (Nat.le_refl _) (by omega)
      · exact h1.mono (Nat.le_refl _) (by omega)
    · exact h.mono (Nat.le_refl _) (by omega)
theorem Few.open_ {d : Dsk} {m k : Nat} (h : Few d m k) (n : Int) : Few (openB d n).2.2.2 m (k + 2) := by
  unfold openB
  cases fnd (nameB n) d.L with
  | none => exact h.mono (Nat.le_refl _) (by omega)
  | some f =>
    dsimp only
    have h1 := h.begin n (scanB n f.data).2.1 (scanB n f.data).2.2
    split
    · exact h1
    · exact h1
theorem Few.crash {d : Dsk} {m k : Nat} (h : Few d m k) (ts : List Int) : Few (crash ts d) m k :=
  ⟨inv_crash h.inv ts, Nat.le_trans (used_crs ts 0 d.L) h.used, h.ops0, h.ops1⟩
theorem Few.arm {d : Dsk} {m k : Nat} (h : Few d m k) (l : List Tro) : Few (arm l d) m k :=
  ⟨inv_arm h.inv l, h.used, Int.le_refl _, Int.natCast_nonneg _⟩

end Go.Proofs.YtacfcfbleogioaaDoor
