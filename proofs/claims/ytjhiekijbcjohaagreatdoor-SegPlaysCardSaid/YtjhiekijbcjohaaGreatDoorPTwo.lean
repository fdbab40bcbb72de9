/-
  The program's disk and the reference's, each with its segment, side by side; how few bytes there are on the way. No condition.
-/
import Derived.Test.YtjhiekijbcjohaaGreatDoorSDo
import Derived.Test.YtjhiekijbcjohaaGreatDoorRSegA
import Derived.Test.YtjhiekijbcjohaaGreatDoorRCrashB
namespace Go.Proofs.YtjhiekijbcjohaaGreatDoor
open Go.RowKit Go.Lib Go.Joins

/-- Blocks that were there. -/
def Was0 (w0 : World) : Nat → Prop := fun k => k < w0.heap.size
/-- A segment's pointer: it lies at a block, or there is none. -/
def ptrV : Option (Nat × Sg) → Value
  | none => .pointer none
  | some (b, _) => .pointer (some ⟨b, 0, none⟩)

/-- The program's disk with its segment and the reference's with its own, and beside them a block. -/
structure PF (w0 w : World) (S1 : Nat → Prop) (B1 : Nat) (d : Dsk) (x : Option (Nat × Sg)) (S2 : Nat → Prop) (B2 : Nat) (e : Dsk) (y : Option (Nat × Sg)) (F : Nat) (C : Obj) : Prop where
  live : Live w0 w S1 B1 d
  ref : RefD w S2 B2 e
  own : ∀ k, S2 k → w0.heap.size ≤ k
  dis : ∀ k, S1 k → ¬ S2 k
  xs : ∀ b g, x = some (b, g) → SegAt w b B1 3 g ∧ w0.heap.size ≤ b ∧ ¬ S1 b ∧ ¬ S2 b
  ys : ∀ b g, y = some (b, g) → RSegAt w b B2 3 g ∧ w0.heap.size ≤ b ∧ ¬ S1 b ∧ ¬ S2 b
  ne : ∀ b g c h, x = some (b, g) → y = some (c, h) → b ≠ c
  blk : w.heap[F]? = some C
  fS1 : ¬ S1 F
  fS2 : ¬ S2 F
  fx : ∀ g, x ≠ some (F, g)
  fy : ∀ g, y ≠ some (F, g)

variable {w0 w w' : World} {S1 S2 : Nat → Prop} {B1 B2 F : Nat} {d e : Dsk} {x y : Option (Nat × Sg)} {C : Obj}

theorem PF.go1 (h : PF w0 w S1 B1 d x S2 B2 e y F C) {O S1' : Nat → Prop} {d' : Dsk} {x' : Option (Nat × Sg)} (hl : Live w0 w' S1' B1 d') (hf : Fresh S1 w.heap.size S1') (hk : Keeps O w w') (hO : ∀ k, O k → S1 k ∨ ∃ g, x = some (k, g))
    (hx : ∀ b g, x' = some (b, g) → SegAt w' b B1 3 g ∧ (w.heap.size ≤ b ∨ ∃ g', x = some (b, g')) ∧ ¬ S1' b) : PF w0 w' S1' B1 d' x' S2 B2 e y F C := by
  have hF := lt_of_block h.blk
  have hno : ∀ k, S2 k → ¬ O k := fun k e2 ho => by
    rcases hO k ho with h1 | ⟨g, h1⟩
    · exact h.dis k h1 e2
    · exact (h.xs k g h1).2.2.2 e2
  refine ⟨hl, h.ref.keep hk hno, h.own, fun k e1 e2 => ?_, fun b g hb => ?_, fun b g hb => ?_, fun b g c g2 hb hc => ?_, block_keep h.blk hk (fun ho => ?_), fun e1 => ?_, h.fS2, fun g hb => ?_, h.fy⟩
  · rcases hf k e1 with h1 | h1
    · exact h.dis k h1 e2
    · have := h.ref.2.1 k e2; omega
  · obtain ⟨k1, k2, k3⟩ := hx b g hb
    refine ⟨k1, ?_, k3, fun e2 => ?_⟩
    · rcases k2 with k2 | ⟨g', k2⟩
      · exact Nat.le_trans h.live.bel.size k2
      · exact (h.xs b g' k2).2.1
    · rcases k2 with k2 | ⟨g', k2⟩
      · have := h.ref.2.1 b e2; omega
      · exact (h.xs b g' k2).2.2.2 e2
  · obtain ⟨k1, k2, k3, k4⟩ := h.ys b g hb
    refine ⟨k1.keep hk (fun ho => ?_), k2, fun e1 => ?_, k4⟩
    · rcases hO b ho with h1 | ⟨g', h1⟩
      · exact k3 h1
      · exact h.ne b g' b g h1 hb rfl
    · rcases hf b e1 with h1 | h1
      · exact k3 h1
      · have := lt_of_block k1; omega
  · rintro rfl
    rcases (hx b g hb).2.1 with k2 | ⟨g', k2⟩
    · have := lt_of_block (h.ys b g2 hc).1; omega
    · exact h.ne b g' b g2 k2 hc rfl
  · rcases hO F ho with h1 | ⟨g', h1⟩
    · exact h.fS1 h1
    · exact h.fx g' h1
  · rcases hf F e1 with h1 | h1
    · exact h.fS1 h1
    · omega
  · rcases (hx F g hb).2.1 with k2 | ⟨g', k2⟩
    · omega
    · exact h.fx g' k2
theorem PF.go2 (h : PF w0 w S1 B1 d x S2 B2 e y F C) {O S2' : Nat → Prop} {e' : Dsk} {y' : Option (Nat × Sg)} (hr : RefD w' S2' B2 e') (hf : Fresh S2 w.heap.size S2') (hk : Keeps O w w') (hO : ∀ k, O k → S2 k ∨ ∃ g, y = some (k, g))
    (hy : ∀ b g, y' = some (b, g) → RSegAt w' b B2 3 g ∧ (w.heap.size ≤ b ∨ ∃ g', y = some (b, g')) ∧ ¬ S2' b) : PF w0 w' S1 B1 d x S2' B2 e' y' F C := by
  have hF := lt_of_block h.blk
  have hOo : ∀ k, O k → w0.heap.size ≤ k := fun k ho => by
    rcases hO k ho with h1 | ⟨g, h1⟩
    · exact h.own k h1
    · exact (h.ys k g h1).2.1
  refine ⟨⟨h.live.disk.keep hk (fun k e1 ho => ?_), h.live.own, h.live.bel.trans (hk.toBelow h.live.bel.size hOo)⟩, hr, fun k e2 => ?_, fun k e1 e2 => ?_, fun b g hb => ?_, fun b g hb => ?_, fun b g c g2 hb hc => ?_, block_keep h.blk hk (fun ho => ?_), h.fS1, fun e1 => ?_, h.fx, fun g hb => ?_⟩
  · rcases hO k ho with h1 | ⟨g, h1⟩
    · exact h.dis k e1 h1
    · exact (h.ys k g h1).2.2.1 e1
  · rcases hf k e2 with h1 | h1
    · exact h.own k h1
    · exact Nat.le_trans h.live.bel.size h1
  · rcases hf k e2 with h1 | h1
    · exact h.dis k e1 h1
    · have := h.live.disk.2.1 k e1; omega
  · obtain ⟨k1, k2, k3, k4⟩ := h.xs b g hb
    refine ⟨k1.keep hk (fun ho => ?_), k2, k3, fun e1 => ?_⟩
    · rcases hO b ho with h1 | ⟨g', h1⟩
      · exact k4 h1
      · exact h.ne b g b g' hb h1 rfl
    · rcases hf b e1 with h1 | h1
      · exact k4 h1
      · have := lt_of_block k1; omega
  · obtain ⟨k1, k2, k3⟩ := hy b g hb
    refine ⟨k1, ?_, fun e2 => ?_, k3⟩
    · rcases k2 with k2 | ⟨g', k2⟩
      · exact Nat.le_trans h.live.bel.size k2
      · exact (h.ys b g' k2).2.1
    · rcases k2 with k2 | ⟨g', k2⟩
      · have := h.live.disk.2.1 b e2; omega
      · exact (h.ys b g' k2).2.2.1 e2
  · rintro rfl
    rcases (hy b g2 hc).2.1 with k2 | ⟨g', k2⟩
    · have := lt_of_block (h.xs b g hb).1; omega
    · exact h.ne b g b g' hb k2 rfl
  · rcases hO F ho with h1 | ⟨g', h1⟩
    · exact h.fS2 h1
    · exact h.fy g' h1
  · rcases hf F e1 with h1 | h1
    · exact h.fS2 h1
    · omega
  · rcases (hy F g hb).2.1 with k2 | ⟨g', k2⟩
    · omega
    · exact h.fy g' k2
theorem PF.quiet (h : PF w0 w S1 B1 d x S2 B2 e y F C) (hb : Below w.heap.size w w') : PF w0 w' S1 B1 d x S2 B2 e y F C :=
  ⟨h.live.quiet hb, h.ref.below hb, h.own, h.dis, fun b g hx => by obtain ⟨h1, h2⟩ := h.xs b g hx; exact ⟨h1.below hb, h2⟩, fun b g hy => by obtain ⟨h1, h2⟩ := h.ys b g hy; exact ⟨h1.below hb, h2⟩, h.ne, block_below hb h.blk, h.fS1, h.fS2, h.fx, h.fy⟩
/-- Another block beside them. -/
theorem PF.beside (h : PF w0 w S1 B1 d x S2 B2 e y F C) (D : Obj) (_hs : w'.heap.size = w.heap.size + 1) (hb : Below w.heap.size w w') (hd : w'.heap[w.heap.size]? = some D) : PF w0 w' S1 B1 d x S2 B2 e y w.heap.size D := by
  have q := h.quiet hb
  exact ⟨q.live, q.ref, q.own, q.dis, q.xs, q.ys, q.ne, hd, fun e1 => by have := h.live.disk.2.1 _ e1; omega, fun e1 => by have := h.ref.2.1 _ e1; omega, fun g hx => by have := lt_of_block (h.xs _ g hx).1; omega, fun g hy => by have := lt_of_block (h.ys _ g hy).1; omega⟩
theorem PF.turn1 (h : PF w0 w S1 B1 d x S2 B2 e y F C) {d' : Dsk} (ht : Turns w S1 B1 d' w') : ∃ S1', PF w0 w' S1' B1 d' x S2 B2 e y F C := by
  obtain ⟨S', h1, h2, h3⟩ := h.live.turns ht
  refine ⟨S', h.go1 h1 h2 h3 (fun k e => .inl e) (fun b g hb => ?_)⟩
  obtain ⟨k1, k2, k3, k4⟩ := h.xs b g hb
  refine ⟨k1.keep h3 k3, .inr ⟨g, hb⟩, fun e1 => ?_⟩
  rcases h2 b e1 with h4 | h4
  · exact k3 h4
  · have := lt_of_block k1; omega
theorem PF.turn2 (h : PF w0 w S1 B1 d x S2 B2 e y F C) {e' : Dsk} (ht : RTurns w S2 B2 e' w') : ∃ S2', PF w0 w' S1 B1 d x S2' B2 e' y F C := by
  obtain ⟨S', h1, h2, h3⟩ := ht
  refine ⟨S', h.go2 h1 h2 h3 (fun k e => .inl e) (fun b g hb => ?_)⟩
  obtain ⟨k1, k2, k3, k4⟩ := h.ys b g hb
  refine ⟨k1.keep h3 k4, .inr ⟨g, hb⟩, fun e1 => ?_⟩
  rcases h2 b e1 with h4 | h4
  · exact k4 h4
  · have := lt_of_block k1; omega
theorem PF.app1 {b : Nat} {g g' : Sg} (h : PF w0 w S1 B1 d (some (b, g)) S2 B2 e y F C) {d' : Dsk} (hw : WSt w0 w w' S1 b B1 3 d' g') : ∃ S1', PF w0 w' S1' B1 d' (some (b, g')) S2 B2 e y F C := by
  obtain ⟨S', h1, h2, h3, h4, h5⟩ := hw
  refine ⟨S', h.go1 h1 h2 h5 (fun k e => ?_) (fun c gc hc => ?_)⟩
  · rcases e with e | e
    · exact .inl e
    · exact .inr ⟨g, by rw [e]⟩
  · cases hc
    exact ⟨h4, .inr ⟨g, rfl⟩, h3⟩
theorem PF.app2 {b : Nat} {g g' : Sg} (h : PF w0 w S1 B1 d x S2 B2 e (some (b, g)) F C) {e' : Dsk} (hw : RWSt w w' S2 b B2 3 e' g') : ∃ S2', PF w0 w' S1 B1 d x S2' B2 e' (some (b, g')) F C := by
  obtain ⟨S', h1, h2, h3, h4, h5⟩ := hw
  refine ⟨S', h.go2 h1 h2 h5 (fun k e => ?_) (fun c gc hc => ?_)⟩
  · rcases e with e | e
    · exact .inl e
    · exact .inr ⟨g, by rw [e]⟩
  · cases hc
    exact ⟨h4, .inr ⟨g, rfl⟩, h3⟩
theorem PF.open1 (h : PF w0 w S1 B1 d x S2 B2 e y F C) {d' : Dsk} {v : Value} {g : Option Sg} (hs : SSt w0 w w' S1 B1 3 d' v g) : ∃ S1' x', v = ptrV x' ∧ x'.map (·.2) = g ∧ PF w0 w' S1' B1 d' x' S2 B2 e y F C := by
  obtain ⟨S', h1, h2, h3, h4⟩ := hs
  cases g with
  | none => exact ⟨S', none, h4, rfl, h.go1 h1 h2 h3 (fun k e => .inl e) (fun b g hb => by cases hb)⟩
  | some g =>
    obtain ⟨b, h5, h6, h7, h8⟩ := h4
    exact ⟨S', some (b, g), h5, rfl, h.go1 h1 h2 h3 (fun k e => .inl e) (fun c gc hc => by cases hc; exact ⟨h8, .inl h6, h7⟩)⟩
theorem PF.open2 (h : PF w0 w S1 B1 d x S2 B2 e y F C) {e' : Dsk} {v : Value} {g : Option Sg} (hs : RSSt w w' S2 B2 3 e' v g) : ∃ S2' y', v = ptrV y' ∧ y'.map (·.2) = g ∧ PF w0 w' S1 B1 d x S2' B2 e' y' F C := by
  obtain ⟨S', h1, h2, h3, h4⟩ := hs
  cases g with
  | none => exact ⟨S', none, h4, rfl, h.go2 h1 h2 h3 (fun k e => .inl e) (fun b g hb => by cases hb)⟩
  | some g =>
    obtain ⟨b, h5, h6, h7, h8⟩ := h4
    exact ⟨S', some (b, g), h5, rfl, h.go2 h1 h2 h3 (fun k e => .inl e) (fun c gc hc => by cases hc; exact ⟨h8, .inl h6, h7⟩)⟩
/-- An error that was made behind what turns. -/
theorem ErrAt.keep {B : Nat} {c n : Int} {v : Value} {O : Nat → Prop} (h : ErrAt B w c n v) (hk : Keeps O w w') (hO : ∀ k, O k → k < B) : ErrAt B w' c n v := by
  rcases h with h | ⟨h0, b, h1, h2, h3, h4⟩
  · exact .inl h
  · have hn : ¬ O b := fun ho => by have := hO b ho; omega
    exact .inr ⟨h0, b, h1, (World.cell?_of_block (a := ⟨b, 0, none⟩) (hk.block b (lt_of_cell h2) hn)).trans h2, (World.cell?_of_block (a := ⟨b, 1, none⟩) (hk.block b (lt_of_cell h3) hn)).trans h3, h4⟩

/-! ### how few bytes there are -/
theorem tr_undo (d : Dsk) (n : Int) (z : Nat) : (undoB d n z).2.tr = d.tr := by
  unfold undoB
  split <;> exact tr_step _ _
theorem tr_lays (d : Dsk) (n : Int) (b : List Nat) : (laysB d n b).2.tr = d.tr := by
  unfold laysB
  split
  · exact (tr_step _ _).trans (tr_step _ _)
  · exact tr_step _ _
theorem tr_write (d : Dsk) (n : Int) (z : Nat) (b : List Nat) : (writeB d n z b).2.2.tr = d.tr := by
  unfold writeB
  split
  · exact tr_lays _ _ _
  · exact (tr_undo _ _ _).trans (tr_lays _ _ _)
theorem tr_create (d : Dsk) (n : Int) : (createB d n).2.tr = d.tr := by
  unfold createB
  split
  · rfl
  · split
    · exact tr_step _ _
    · exact (tr_write _ _ _ _).trans (tr_step _ _)
theorem tr_append (d : Dsk) (n : Int) (g : Sg) (L : List (List Nat)) : (appendB d n g L).2.2.tr = d.tr := by
  unfold appendB
  split
  · rfl
  · split
    · rfl
    · exact tr_write _ _ _ _
theorem tr_begin (d : Dsk) (n : Int) (a b : Nat) : (beginB d n a b).2.tr = d.tr := by
  unfold beginB
  split
  · exact tr_step _ _
  · split
    · split
      · exact (tr_step _ _).trans (tr_step _ _)
      · exact tr_step _ _
    · rfl
theorem tr_open (d : Dsk) (n : Int) : (openB d n).2.2.2.tr = d.tr := by
  unfold openB
  split
  · rfl
  · split <;> exact tr_begin _ _ _ _
/-- The good bytes of what was opened. -/
theorem open_size {d : Dsk} (n : Int) (h : (openB d n).1 = 0) : (openB d n).2.1 ≠ 0 ∧ (openB d n).2.1 ≤ used d.L := by
  unfold openB at h ⊢
  cases hf : fnd (nameB n) d.L with
  | none => rw [hf] at h; exact absurd h (show ¬ ((42 : Int) = 0) by decide)
  | some f =>
    rw [hf] at h
    dsimp only at h ⊢
    have hu := used_mem (fnd_some hf).1
    have hg := scanB_good n f.data
    by_cases h0 : (beginB d n (scanB n f.data).2.1 (scanB n f.data).2.2).1 = 0
    · rw [if_pos h0]
      refine ⟨fun hz => ?_, by dsimp only; omega⟩
      dsimp only at hz
      unfold beginB at h0
      have hs : (scanB n f.data).2.2 ≠ 2 := by
        intro h2
        unfold scanB at h2 hz
        split at h2
        · cases h2
        · split at h2
          · cases h2
          · next h3 h4 => rw [if_neg h3, if_neg h4] at hz; dsimp only at hz; omega
      rw [if_neg hs, if_neg (by omega)] at h0
      exact absurd h0 (show ¬ ((50 : Int) = 0) by decide)
    · rw [if_neg h0] at h; exact absurd h h0

structure PS (d : Dsk) (i : Nat) (g : Option Sg) : Prop where
  few : Few d (12 + 2400 * i) (4 + 3 * i)
  tr : d.tr.length ≤ 100
  siz : ∀ s, g = some s → s.size ≠ 0 ∧ s.size ≤ 12 + 2400 * i
theorem PS.create {room : Int} (h : room ≤ 9223372036854775807) : PS (createB (dsk0 room) 3).2 0 (if (createB (dsk0 room) 3).1 = 0 then some ⟨12, false⟩ else none) :=
  ⟨((few_dsk0 h).create 3).mono (by omega) (by omega), by rw [tr_create]; exact Nat.zero_le _, fun s hs => by
    split at hs
    · cases hs; exact ⟨by decide, by decide⟩
    · cases hs⟩
theorem PS.arm {i : Nat} {g : Option Sg} (h : PS d i g) {l : List Tro} (hl : l.length ≤ 100) : PS (arm l d) (i + 1) g :=
  ⟨(h.few.arm l).mono (by omega) (by omega), hl, fun s hs => by have := h.siz s hs; exact ⟨this.1, by omega⟩⟩
theorem PS.next {i : Nat} {g : Option Sg} (h : PS d i g) : PS d (i + 1) g :=
  ⟨h.few.mono (by omega) (by omega), h.tr, fun s hs => by have := h.siz s hs; exact ⟨this.1, by omega⟩⟩
theorem PS.crash {i : Nat} {g : Option Sg} (h : PS d i g) (ts : List Int) : PS (crash ts d) i g :=
  ⟨h.few.crash ts, Nat.zero_le _, h.siz⟩
theorem PS.open_ {i : Nat} {g : Option Sg} (h : PS d i g) : PS (openB d 3).2.2.2 (i + 1) (if (openB d 3).1 = 0 then some ⟨(openB d 3).2.1, false⟩ else none) :=
  ⟨(h.few.open_ 3).mono (by omega) (by omega), by rw [tr_open]; exact h.tr, fun s hs => by
    split at hs
    · next h0 =>
      cases hs
      obtain ⟨h1, h2⟩ := open_size 3 h0
      have := h.few.used
      exact ⟨h1, by show (openB d 3).2.1 ≤ _; omega⟩
    · cases hs⟩
theorem PS.append {i : Nat} {g : Sg} (h : PS d i (some g)) {L : List (List Nat)} (hb : ∀ r ∈ L, Byts r) (h1 : L.length ≤ 50) (h2 : tot L ≤ 2000) : PS (appendB d 3 g L).2.2 (i + 1) (some (appendB d 3 g L).2.1) := by
  have hl := frs_len L
  refine ⟨(h.few.append 3 g hb).mono (by omega) (by omega), by rw [tr_append]; exact h.tr, fun s hs => ?_⟩
  cases hs
  obtain ⟨k1, k2⟩ := h.siz g rfl
  unfold appendB
  split
  · exact ⟨k1, by show g.size ≤ _; omega⟩
  · split
    · exact ⟨k1, by show g.size ≤ _; omega⟩
    · dsimp only
      split
      · exact ⟨by omega, by omega⟩
      · exact ⟨k1, by omega⟩

end Go.Proofs.YtjhiekijbcjohaaGreatDoor
