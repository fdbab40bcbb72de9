/-
  A file that is kept: what the law DiskSafe needs. Of no program. No condition.
-/
import Derived.Test.YtfiacojgddpphaaLawQ
namespace Go.Proofs.Ytfiacojgddpphaa
open Go.RowKit Go.Lib Go.Joins

abbrev nK : ByteArray := { data := #[107, 101, 112, 116] }

theorem fnd_ins_other {n : ByteArray} {g : Fil} (hg : g.name ≠ n) : ∀ L : List Fil, fnd n (ins g L) = fnd n L
  | [] => by
    unfold ins fnd
    rw [List.find?_cons, decide_eq_false hg]
  | x :: L => by
    have ih := fnd_ins_other hg L
    unfold ins
    split
    · unfold fnd at ih ⊢
      rw [List.find?_cons, List.find?_cons, ih]
    · unfold fnd
      rw [List.find?_cons, decide_eq_false hg]
theorem fnd_upd {n m : ByteArray} {h : Fil → Fil} (hh : ∀ f, (h f).name = f.name) (L : List Fil) : fnd n (upd m h L) = (fnd n L).map (fun f => if f.name = m then h f else f) := by
  unfold fnd upd
  rw [List.find?_map]
  congr 2
  funext f
  show decide ((if f.name = m then h f else f).name = n) = decide (f.name = n)
  split
  · rw [hh]
  · rfl
theorem fnd_ren_other {n s t : ByteArray} {L : List Fil} (hs : Srt L) (h1 : s ≠ n) (h2 : t ≠ n) : fnd n (ren s t L) = fnd n L := by
  unfold ren
  cases hf : fnd s L with
  | none => rfl
  | some f =>
    show fnd n (ins { f with name := t } (dro t (dro s L))) = _
    rw [fnd_ins_other (by exact h2), fnd_dro_other (srt_dro hs) h2, fnd_dro_other hs h1]

/-- The file is there with these bytes at its begin, and they are safe. -/
def Kept (b : List Nat) (L : List Fil) : Prop := ∃ f, fnd nK L = some f ∧ b <+: f.data ∧ b.length ≤ f.safe

theorem kept_whole {b : List Nat} {d : Dsk} (hi : Inv d) (hk : Kept b d.L) (o : Opn) (hr : ref d o = 0) (h1 : 1 ≤ o.kind) (h6 : o.kind ≤ 6) (hn : (o.kind = 3 ∨ o.kind = 5 ∨ o.kind = 6) → o.name ≠ nK) (ht : o.kind = 5 → o.to ≠ nK) : Kept b (whole o d.L) := by
  obtain ⟨f, hf, hp, hl⟩ := hk
  have hfn := (fnd_some hf).2
  obtain ⟨k, s, t, n, c⟩ := o
  dsimp only at h1 h6 hn ht
  rcases (show k = 1 ∨ k = 2 ∨ k = 3 ∨ k = 4 ∨ k = 5 ∨ k = 6 by omega) with rfl | rfl | rfl | rfl | rfl | rfl
  · refine ⟨f, ?_, hp, hl⟩
    show fnd nK (ins ⟨s, [], 0⟩ d.L) = _
    rw [fnd_ins_other ?_]
    · exact hf
    · intro e
      have e' : s = nK := e
      subst e'
      unfold ref at hr
      rw [if_pos rfl] at hr
      dsimp only at hr
      rw [hf] at hr
      split at hr
      · cases hr
      · cases hr
  · show Kept b (upd s (addB c) d.L)
    refine ⟨if f.name = s then addB c f else f, by rw [fnd_upd (h := addB c) (fun _ => rfl), hf]; rfl, ?_, ?_⟩
    · split
      · exact hp.trans (List.prefix_append _ _)
      · exact hp
    · split
      · exact hl
      · exact hl
  · show Kept b (upd s (cutB n.toNat) d.L)
    exact ⟨f, by rw [fnd_upd (h := cutB n.toNat) (fun _ => rfl), hf]; show some (if f.name = s then cutB n.toNat f else f) = _; rw [if_neg (by rw [hfn]; exact fun e => hn (.inl rfl) e.symm)], hp, hl⟩
  · show Kept b (upd s synB d.L)
    refine ⟨if f.name = s then synB f else f, by rw [fnd_upd (h := synB) (fun _ => rfl), hf]; rfl, ?_, ?_⟩
    · split
      · exact hp
      · exact hp
    · split
      · exact Nat.le_trans hl (hi.safe f (fnd_some hf).1)
      · exact hl
  · show Kept b (ren s t d.L)
    exact ⟨f, by rw [fnd_ren_other hi.srt (hn (.inr (.inl rfl))) (ht rfl)]; exact hf, hp, hl⟩
  · show Kept b (dro s d.L)
    exact ⟨f, by rw [fnd_dro_other hi.srt (hn (.inr (.inr rfl)))]; exact hf, hp, hl⟩
theorem kept_part {b : List Nat} {d : Dsk} (hk : Kept b d.L) (o : Opn) (p : Int) : Kept b (part o p d.L) := by
  unfold part
  split
  · obtain ⟨f, hf, hp, hl⟩ := hk
    refine ⟨if f.name = o.name then addB (o.b.take (wth p o.b.length)) f else f, by rw [fnd_upd (h := addB (o.b.take (wth p o.b.length))) (fun _ => rfl), hf]; rfl, ?_, ?_⟩
    · split
      · exact hp.trans (List.prefix_append _ _)
      · exact hp
    · split
      · exact hl
      · exact hl
  · exact hk
theorem kept_step {b : List Nat} {d : Dsk} (hi : Inv d) (hk : Kept b d.L) (o : Opn) (h1 : 1 ≤ o.kind) (h6 : o.kind ≤ 6) (hn : (o.kind = 3 ∨ o.kind = 5 ∨ o.kind = 6) → o.name ≠ nK) (ht : o.kind = 5 → o.to ≠ nK) : Kept b (step d o).2.L := by
  unfold step
  split
  · exact hk
  · split
    · exact hk
    · next hr =>
      have hr0 : ref d o = 0 := by simpa using hr
      split
      · exact kept_whole hi hk o hr0 h1 h6 hn ht
      · exact kept_part hk o _
theorem kept_crash {b : List Nat} {d : Dsk} (hi : Inv d) (hk : Kept b d.L) (ts : List Int) : Kept b (crash ts d).L := by
  obtain ⟨f, hf, hp, hl⟩ := hk
  obtain ⟨hm, hn⟩ := fnd_some hf
  obtain ⟨i, hi2⟩ := List.mem_iff_getElem?.1 hm
  obtain ⟨n, h1, h2, h3⟩ := crs_at ts 0 d.L hi2
  refine ⟨⟨f.name, f.data.take n, n⟩, ?_, ?_, Nat.le_trans hl h2⟩
  · have := fnd_mem (inv_crash hi ts).srt (List.mem_of_getElem? h1)
    rw [← hn]
    exact this
  · obtain ⟨q, hq⟩ := hp
    refine List.prefix_iff_eq_take.2 ?_
    show b = (f.data.take n).take b.length
    rw [List.take_take, ← hq, Nat.min_eq_left (by omega), List.take_left]
theorem kept_act {b : List Nat} {d : Dsk} (hi : Inv d) (hk : Kept b d.L) (x : DoI) (hn : (x.kind = 3 ∨ x.kind = 5 ∨ x.kind = 6) → x.name ≠ nK) (ht : x.kind = 5 → x.to ≠ nK) : Kept b (actS d x).2.L := by
  unfold actS
  split
  · next h =>
    refine kept_step hi hk (opn x) ?_ ?_ ?_ ?_
    · show 1 ≤ x.kind.toNat; omega
    · show x.kind.toNat ≤ 6; omega
    · show (x.kind.toNat = 3 ∨ x.kind.toNat = 5 ∨ x.kind.toNat = 6) → x.name ≠ nK
      intro h2
      exact hn (by omega)
    · show x.kind.toNat = 5 → x.to ≠ nK
      intro h2
      exact ht (by omega)
  · split
    · exact kept_crash hi hk _
    · split
      · exact hk
      · exact hk

def kd1 : Dsk := (step (dsk0 4000) ⟨1, nK, nK, 0, []⟩).2
theorem kdA1 : (step (dsk0 4000) ⟨1, nK, nK, 0, []⟩).1 = 0 := by decide +kernel
theorem kd1_is : kd1 = ⟨4000, [⟨nK, [], 0⟩], [], 1, false⟩ := by kernel_rfl
theorem kept_start {b : List Nat} (hb : b.length ≤ 1000) : ∃ d2 d3, step kd1 ⟨2, nK, nK, 0, b⟩ = (0, d2) ∧ step d2 ⟨4, nK, nK, 0, []⟩ = (0, d3) ∧ Few d2 4000 2 ∧ Few d3 4000 3 ∧ Kept b d3.L := by
  refine ⟨⟨4000, [⟨nK, b, 0⟩], [], 2, false⟩, ⟨4000, [⟨nK, b, b.length⟩], [], 3, false⟩, ?_, ?_, ⟨rfl, show (0 : Int) ≤ 2 by decide, show (2 : Int) ≤ 2 by decide⟩, ⟨rfl, show (0 : Int) ≤ 3 by decide, show (3 : Int) ≤ 3 by decide⟩, ⟨⟨nK, b, b.length⟩, by simp [fnd], List.prefix_refl _, Nat.le_refl _⟩⟩
  · rw [kd1_is, step_calm rfl rfl]
    have hr : ref ⟨4000, [⟨nK, [], 0⟩], [], 1, false⟩ ⟨2, nK, nK, 0, b⟩ = 0 := by
      refine (ref_some (f := ⟨nK, [], 0⟩) (show (2 : Nat) ≠ 1 by decide) (by simp [fnd])).trans ?_
      unfold refF
      rw [if_pos rfl, if_neg]
      show ¬ ((4000 : Int) - (used [⟨nK, [], 0⟩] : Int) < (b.length : Int))
      simp only [used, List.map_cons, List.map_nil, List.sum_cons, List.sum_nil, List.length_nil]
      omega
    rw [hr, if_pos rfl]
    simp [whole, upd, addB]
  · rw [step_calm rfl rfl]
    have hr : ref ⟨4000, [⟨nK, b, 0⟩], [], 2, false⟩ ⟨4, nK, nK, 0, []⟩ = 0 := by
      refine (ref_some (f := ⟨nK, b, 0⟩) (show (4 : Nat) ≠ 1 by decide) (by simp [fnd])).trans ?_
      rfl
    rw [hr, if_pos rfl]
    simp [whole, upd, synB]

end Go.Proofs.Ytfiacojgddpphaa
