/-
  What the walk of the law DiskPlays needs: two disks side by side, how few bytes there are, a region whose condition grows. No condition.
-/
import Derived.Test.YtfiacojgddpphaaRSame
import Derived.Test.YtfiacojgddpphaaRLoad
import Derived.Test.YtfiacojgddpphaaLawQ
import Derived.Test.YtfiacojgddpphaaDoSmall
namespace Go.Proofs.Ytfiacojgddpphaa
open Go.RowKit Go.Lib Go.Joins

/-- A stronger condition serves. -/
theorem wpAnyH_more {P : Program} {md : Region.Mode} {ops : Array Oper} {Q : Exit → Act → World → Prop} {S S2 : World → Prop} (h2 : ∀ w, S2 w → S w) : ∀ (fuel : Nat) (listed : Array Bool) (a : Act) (w : World), wpAnyH P md ops Q S2 fuel listed a w → wpAnyH P md ops Q S fuel listed a w
  | 0, _, _, _, h => h
  | fuel + 1, _, _, _, h => ⟨h.1, fun i hi => wpOp_mono (fun a' w' h' => ⟨h2 w' h'.1, wpAnyH_more h2 fuel _ a' w' h'.2⟩) (h.2 i hi)⟩

/-- The program's disk and the reference's, in blocks of their own. -/
structure Both (w0 w : World) (S1 : Nat → Prop) (B1 : Nat) (d : Dsk) (S2 : Nat → Prop) (B2 : Nat) (e : Dsk) : Prop where
  live : Live w0 w S1 B1 d
  ref : RefD w S2 B2 e
  own : ∀ k, S2 k → w0.heap.size ≤ k
  dis : ∀ k, S1 k → ¬ S2 k
theorem Both.turn1 {w0 w w' : World} {S1 S2 : Nat → Prop} {B1 B2 : Nat} {d d' e : Dsk} (h : Both w0 w S1 B1 d S2 B2 e) (ht : Turns w S1 B1 d' w') : ∃ S1', Both w0 w' S1' B1 d' S2 B2 e := by
  obtain ⟨S', h1, h2, h3⟩ := h.live.turns ht
  refine ⟨S', h1, h.ref.keep h3 (fun k e hk => h.dis k hk e), h.own, fun k e hk => ?_⟩
  rcases h2 k e with h4 | h4
  · exact h.dis k h4 hk
  · have := h.ref.2.1 k hk; omega
theorem Both.turn2 {w0 w w' : World} {S1 S2 : Nat → Prop} {B1 B2 : Nat} {d e e' : Dsk} (h : Both w0 w S1 B1 d S2 B2 e) (ht : RTurns w S2 B2 e' w') : ∃ S2', Both w0 w' S1 B1 d S2' B2 e' := by
  obtain ⟨S', h1, h2, h3⟩ := ht
  refine ⟨S', ⟨h.live.disk.keep h3 (fun k e => h.dis k e), h.live.own, h.live.bel.trans (h3.toBelow h.live.bel.size h.own)⟩, h1, fun k e => ?_, fun k e hk => ?_⟩
  · rcases h2 k e with h4 | h4
    · exact h.own k h4
    · exact Nat.le_trans h.live.bel.size h4
  · rcases h2 k hk with h4 | h4
    · exact h.dis k e h4
    · have := h.live.disk.2.1 k e; omega
theorem Both.quiet {w0 w w' : World} {S1 S2 : Nat → Prop} {B1 B2 : Nat} {d e : Dsk} (h : Both w0 w S1 B1 d S2 B2 e) (hb : Below w.heap.size w w') : Both w0 w' S1 B1 d S2 B2 e :=
  ⟨h.live.quiet hb, h.ref.below hb, h.own, h.dis⟩

/-! ### how many bytes there are -/
theorem used_cutT {n : ByteArray} {h : Fil → Fil} (hh : ∀ f, (h f).data.length ≤ f.data.length) : ∀ L : List Fil, used (upd n h L) ≤ used L
  | [] => Nat.le_refl _
  | f :: L => by
    have ih := used_cutT (n := n) hh L
    unfold upd at ih ⊢
    simp only [used, List.map_cons, List.sum_cons] at ih ⊢
    split
    · have := hh f; omega
    · omega
theorem used_addT {n : ByteArray} {l : List Nat} {L : List Fil} (hs : Srt L) : used (upd n (addB l) L) ≤ used L + l.length := by
  cases hf : fnd n L with
  | none => rw [upd_none _ hf]; omega
  | some f =>
    have := used_upd (h := addB l) hs hf
    simp only [addB, List.length_append] at this
    omega
theorem used_wholeT {d : Dsk} (hi : Inv d) (o : Opn) : used (whole o d.L) ≤ used d.L + o.b.length := by
  unfold whole
  split
  · rw [used_ins]; simp
  · split
    · exact used_addT hi.srt
    · split
      · have := used_cutT (n := o.name) (h := cutB o.n.toNat) (fun f => by simp only [cutB, List.length_take]; omega) d.L
        omega
      · split
        · have := used_cutT (n := o.name) (h := synB) (fun f => Nat.le_refl _) d.L
          omega
        · split
          · unfold ren
            cases hf : fnd o.name d.L with
            | none => dsimp only; omega
            | some f =>
              dsimp only
              rw [used_ins]
              have h1 := used_dro hi.srt hf
              have h2 := used_dro_le o.to (dro o.name d.L)
              show used (dro o.to (dro o.name d.L)) + f.data.length ≤ _
              omega
          · have := used_dro_le o.name d.L; omega
theorem used_partT {d : Dsk} (hi : Inv d) (o : Opn) (p : Int) : used (part o p d.L) ≤ used d.L + o.b.length := by
  unfold part
  split
  · refine Nat.le_trans (used_addT hi.srt) ?_
    rw [List.length_take]
    omega
  · omega
theorem used_actT {d : Dsk} (hi : Inv d) (x : DoI) : used (actS d x).2.L ≤ used d.L + x.b.length := by
  unfold actS
  split
  · unfold step
    split
    · dsimp only; omega
    · split
      · dsimp only; omega
      · split
        · exact used_wholeT hi (opn x)
        · exact used_partT hi (opn x) _
  · split
    · have := used_crs x.tails 0 d.L
      show used (crs x.tails 0 d.L) ≤ _
      omega
    · split
      · show used d.L ≤ _; omega
      · dsimp only; omega

/-- Few bytes, operations and troubles. -/
structure Sma (d : Dsk) (i : Nat) : Prop where
  used : used d.L ≤ 20000 + i * 2000
  ops0 : 0 ≤ d.ops
  ops1 : d.ops ≤ (i : Int)
  tr : d.tr.length ≤ 200
theorem Sma.sml {d : Dsk} {i : Nat} (h : Sma d i) (hi : i ≤ 100) : Sml d := ⟨by have := h.used; omega, h.ops0, by have := h.ops1; omega⟩
theorem Sma.act {d : Dsk} {i : Nat} (h : Sma d i) (hi : Inv d) {x : DoI} (hx : DoS x) : Sma (actS d x).2 (i + 1) := by
  have hu := used_actT hi x
  have h1 := h.used
  have h2 := h.ops0
  have h3 := h.ops1
  have h4 := h.tr
  have hb := hx.b
  refine ⟨by omega, ?_, ?_, ?_⟩
  all_goals
    unfold actS
    split
    · obtain ⟨_, r1, r2, r3⟩ := step_room d (opn x)
      first | omega | (rw [r1]; exact h4)
    · split
      · first | (show 0 ≤ d.ops; omega) | (show d.ops ≤ _; omega) | (exact Nat.zero_le _)
      · split
        · first | (show (0 : Int) ≤ 0; omega) | (show (0 : Int) ≤ ((i + 1 : Nat) : Int); omega) | (exact hx.list)
        · first | (show 0 ≤ d.ops; omega) | (show d.ops ≤ _; omega) | (exact h4)

end Go.Proofs.Ytfiacojgddpphaa
