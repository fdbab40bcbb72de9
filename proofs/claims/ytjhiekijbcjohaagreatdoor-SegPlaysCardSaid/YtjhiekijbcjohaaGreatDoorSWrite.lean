/-
  The program's write and begin of a segment. Conditions: the disk and the segment lie in blocks of the call's own; the disk is small; the bytes lie elsewhere; the library's table of powers of ten is laid.
-/
import Derived.Test.YtjhiekijbcjohaaGreatDoorSUndo
import Derived.Test.YtjhiekijbcjohaaGreatDoorPureS
namespace Go.Proofs.YtjhiekijbcjohaaGreatDoor
open Go.RowKit Go.Lib Go.Joins

theorem Few.sml {d : Dsk} {m k : Nat} (h : Few d m k) (hm : m ≤ 1073741824) (hk : k ≤ 1073741823) : Sml d := ⟨Nat.le_trans h.used hm, h.ops0, by have := h.ops1; omega⟩

/-- The disk and the segment, reached from w: nothing else has turned. -/
def WSt (w0 w w' : World) (S : Nat → Prop) (b B : Nat) (n : Int) (d : Dsk) (g : Sg) : Prop :=
  ∃ S', Live w0 w' S' B d ∧ Fresh S w.heap.size S' ∧ ¬ S' b ∧ SegAt w' b B n g ∧ Keeps (fun k => S k ∨ k = b) w w'
theorem WSt.start {w0 w : World} {S : Nat → Prop} {b B : Nat} {n : Int} {d : Dsk} {g : Sg} (h : Live w0 w S B d) (hb : ¬ S b) (hg : SegAt w b B n g) : WSt w0 w w S b B n d g := ⟨S, h, fresh_refl _ _, hb, hg, Keeps.refl _ _⟩
theorem WSt.quiet {w0 w w1 w2 : World} {S : Nat → Prop} {b B : Nat} {n : Int} {d : Dsk} {g : Sg} (h : WSt w0 w w1 S b B n d g) (hb : Below w1.heap.size w1 w2) : WSt w0 w w2 S b B n d g := by
  obtain ⟨S', h1, h2, h3, h4, h5⟩ := h
  exact ⟨S', h1.quiet hb, h2, h3, h4.below hb, h5.trans (keeps_below hb Non) (fresh_non _ _)⟩
theorem WSt.turned {w0 w w1 w2 : World} {S S1 : Nat → Prop} {b B : Nat} {n : Int} {d d' : Dsk} {g : Sg} (h1 : Live w0 w1 S1 B d) (h2 : Fresh S w.heap.size S1) (h3 : ¬ S1 b) (h4 : SegAt w1 b B n g) (h5 : Keeps (fun k => S k ∨ k = b) w w1) (ht : Turns w1 S1 B d' w2) : WSt w0 w w2 S b B n d' g := by
  obtain ⟨S2, k1, k2, k3⟩ := h1.turns ht
  have hlt := lt_of_block h4
  refine ⟨S2, k1, fresh_trans h2 k2 h5.size, fun e => ?_, h4.keep k3 h3, h5.trans k3 (fun i hi => ?_)⟩
  · rcases k2 b e with h | h
    · exact h3 h
    · omega
  · rcases h2 i hi with h | h
    · exact .inl (.inl h)
    · exact .inr h
theorem WSt.own {w0 w w' : World} {S : Nat → Prop} {b B : Nat} {n : Int} {d : Dsk} {g : Sg} (h : WSt w0 w w' S b B n d g) : ∃ S', Live w0 w' S' B d ∧ ¬ S' b ∧ SegAt w' b B n g ∧ ∀ w2 d', Turns w' S' B d' w2 → WSt w0 w w2 S b B n d' g := by
  obtain ⟨S', h1, h2, h3, h4, h5⟩ := h
  exact ⟨S', h1, h3, h4, fun w2 d' ht => WSt.turned h1 h2 h3 h4 h5 ht⟩
/-- One of the segment's own cells turns. -/
theorem WSt.store {w0 w w' : World} {S : Nat → Prop} {b B : Nat} {n : Int} {d : Dsk} {g g' : Sg} (h : WSt w0 w w' S b B n d g) (hw : w0.heap.size ≤ b) {i : Nat} {v : Value} (hg : SegAt (w'.setCell ⟨b, i, none⟩ v) b B n g') : WSt w0 w (w'.setCell ⟨b, i, none⟩ v) S b B n d g' := by
  obtain ⟨S', h1, h2, h3, h4, h5⟩ := h
  have hk : Keeps (One b) w' (w'.setCell ⟨b, i, none⟩ v) := (Keeps.refl (One b) w').setCell (p := ⟨b, i, none⟩) (.inl rfl) v
  refine ⟨S', ⟨h1.disk.keep hk (fun k e he => h3 (by rw [← show k = b from he]; exact e)), h1.own, h1.bel.trans (hk.toBelow h1.bel.size (fun k e => by rw [show k = b from e]; exact hw))⟩, h2, h3, hg, h5.trans hk (fun k e => .inl (.inr e))⟩
theorem SegAt.sick {w : World} {b B : Nat} {n : Int} {z : Nat} {s : Bool} (h : SegAt w b B n ⟨z, s⟩) (s' : Bool) : SegAt (w.setCell ⟨b, 3, none⟩ (.bool s')) b B n ⟨z, s'⟩ := block_setCell (i := 3) h (.bool s')
theorem SegAt.size {w : World} {b B : Nat} {n : Int} {z : Nat} {s : Bool} (h : SegAt w b B n ⟨z, s⟩) (z' : Nat) : SegAt (w.setCell ⟨b, 2, none⟩ (.int .i64 (z' : Int))) b B n ⟨z', s⟩ := block_setCell (i := 2) h (.int .i64 (z' : Int))

def WOut (w0 w : World) (S : Nat → Prop) (b B : Nat) (n c : Int) (d' : Dsk) (g' : Sg) (e : Ending) (w' : World) : Prop := e = .returned (.int .i64 c) ∧ WSt w0 w w' S b B n d' g'

set_option maxRecDepth 100000 in
set_option maxHeartbeats 8000000 in
theorem swrite_calls {w0 w : World} {S S0 : Nat → Prop} {b B : Nat} {n : Int} {d : Dsk} {z M K : Nat} (a : Option Addr) (l : List Nat) (cap m : Nat) (h : Live w0 w S B d) (ht : Tab w0) (hg : SegAt w b B n ⟨z, false⟩) (hb : ¬ S b) (hw0 : w0.heap.size ≤ b) (hfew : Few d M K) (hM : M + m ≤ 1073741824) (hK : K ≤ 1073741000)
    (hr : Row w S0 a l) (hS0 : ∀ k, S0 k → k < w.heap.size ∧ ¬ S k) (hac : a = none → cap = 0) (hlm : l.length = m) (hlc : m ≤ cap) (hcm : cap ≤ maxLen) (hz : z ≤ 1099511627776) :
    Calls Tryz.prog 45 #[.pointer (some ⟨b, 0, none⟩), .slice a m cap] w (WOut w0 w S b B n (writeB d n z l).1 (writeB d n z l).2.2 ⟨if (writeB d n z l).1 = 0 then z + l.length else z, (writeB d n z l).2.1⟩) := by
  subst hlm
  have HTAB := Lib.hid ht
  have HW0 := Lib.hid hw0
  have HSC : Hid (∀ W, Keeps S w W → W.cell? ⟨b, 0, none⟩ = some (.pointer (some ⟨B, 0, none⟩)) ∧ W.cell? ⟨b, 1, none⟩ = some (.int .i64 n)) := Lib.hid (fun W hk => by
    have h1 := hg.keep hk hb
    exact ⟨h1.c0, h1.c1⟩)
  have HB0 : Hid (Below w.heap.size w w.drew) := Lib.hid (below_drewN w 1)
  have HNM := Lib.hid (fun W (hbw : Below w.heap.size w W) => name_calls n W ((HTAB.out.below h.bel).below hbw))
  have HAPP := Lib.hid (fun W (hbw : Below w.heap.size w W) => Calls.after (append_calls (nameB n) a l cap W (h.disk.below hbw) (hfew.sml (by omega) (by omega)) (by have := nameB_size n; omega) (hr.below hbw) (fun k e => ⟨Nat.lt_of_lt_of_le (hS0 k e).1 hbw.size, (hS0 k e).2⟩) hac hlc hcm (by omega) noS 0) (keeps_below hbw S))
  have HWT := Lib.hid (fun W d' (hT : Turns w S B d' W) => WSt.turned h (fresh_refl _ _) hb hg (Keeps.refl _ _) hT)
  have HF1 := Lib.hid (hfew.step (opA n l) hr.1 (Nat.le_refl _))
  have hlen : l.length ≤ 1073741824 := by omega
  unfold writeB laysB
  obtain ⟨q1, hq1⟩ : ∃ q, step d (opA n l) = q := ⟨_, rfl⟩
  have hq1' : step d ⟨2, nameB n, noS, 0, l⟩ = q1 := hq1
  rw [hq1'] at HAPP
  rw [hq1] at HF1 ⊢
  have hM2 : M + (opA n l).b.length ≤ 1073741824 := hM
  have HLEN : Hid (∃ y, l.length = y ∧ y ≤ 1073741824) := Lib.hid ⟨_, rfl, hlen⟩
  clear h ht hg hb hw0 hfew hr hS0 hac hlc hcm hq1 hq1' hlen
  obtain ⟨e1, d1⟩ := q1
  dsimp only at HAPP HF1 ⊢
  by_cases he1 : e1 = 0
  · subst he1
    simp only [if_true]
    obtain ⟨q2, hq2⟩ : ∃ q, step d1 (opS n) = q := ⟨_, rfl⟩
    have hq2' : step d1 ⟨4, nameB n, noS, 0, []⟩ = q2 := hq2
    have HF2 := Lib.hid (HF1.out.step (opS n) byts_nil (Nat.le_refl _))
    have HSY0 := Lib.hid (fun W {S1 : Nat → Prop} (hd : Disk W S1 B d1) => sync_calls (nameB n) W hd (HF1.out.sml hM2 (by omega)) (by have := nameB_size n; omega) noS 0)
    rw [hq2'] at HSY0
    rw [hq2] at HF2 ⊢
    clear hq2 hq2'
    obtain ⟨e2, d2⟩ := q2
    dsimp only at HSY0 HF2 ⊢
    by_cases he2 : e2 = 0
    · subst he2
      simp only [if_true]
      obtain ⟨y, hy, hy2⟩ := HLEN.out
      rw [hy] at HAPP ⊢
      clear hM hM2 hy HLEN
      go_enter Tryz.func45, Tryz.ntmps45
      go_wp2
      refine wp_region_held_drew (S := fun W => W.cell? ⟨b, 0, none⟩ = some (.pointer (some ⟨B, 0, none⟩)) ∧ W.cell? ⟨b, 1, none⟩ = some (.int .i64 n)) (by kernel_rfl) (HSC.out _ (keeps_below HB0.out _)) (fun hHeld => ?_)
      refine wpAnyH_take (i := 0) (v := ?_) rfl (by kernel_rfl) (by kernel_rfl) (by kernel_rfl) (fun _ _ _ h => h) (Or.inl ⟨by rfl, ?_⟩) (by assumption) ?_
      rotate_left
      · intro W hS
        try dsimp only at hS
        go_simp
        try with_reducible rfl
      simp only [List.getElem_toArray, List.getElem_cons_zero, Act.put, List.setIfInBounds_toArray, List.set_cons_zero, List.set_cons_succ]
      refine wpAnyH_take (i := 1) (v := ?_) rfl (by kernel_rfl) (by kernel_rfl) (by kernel_rfl) (fun _ _ _ h => h) (Or.inl ⟨by rfl, ?_⟩) (by assumption) ?_
      rotate_left
      · intro W hS
        try dsimp only at hS
        go_simp
        try with_reducible rfl
      simp only [List.getElem_toArray, List.getElem_cons_succ, List.getElem_cons_zero, Act.put, List.setIfInBounds_toArray, List.set_cons_zero, List.set_cons_succ]
      refine wpAnyH_take (i := 2) (v := ?_) rfl (by kernel_rfl) (by kernel_rfl) (by kernel_rfl) (fun _ _ _ h => h) (Or.inl ⟨by rfl, ?_⟩) (by assumption) ?_
      rotate_left
      · intro W hS
        try dsimp only at hS
        go_simp
        try with_reducible rfl
      simp only [List.getElem_toArray, List.getElem_cons_succ, List.getElem_cons_zero, Act.put, List.setIfInBounds_toArray, List.set_cons_zero, List.set_cons_succ]
      refine wpAnyH_take (i := 3) (v := ?_) rfl (by kernel_rfl) (by kernel_rfl) (by kernel_rfl) (fun _ _ _ h => h) (Or.inl ⟨by rfl, ?_⟩) (by assumption) ?_
      rotate_left
      · intro W hS
        try dsimp only at hS
        go_simp
        try with_reducible rfl
      simp only [List.getElem_toArray, List.getElem_cons_succ, List.getElem_cons_zero, Act.put, List.setIfInBounds_toArray, List.set_cons_zero, List.set_cons_succ]
      refine wpAnyH_take (i := 4) (v := ?_) rfl (by kernel_rfl) (by kernel_rfl) (by kernel_rfl) (fun _ _ _ h => h) (Or.inl ⟨by rfl, ?_⟩) (by assumption) ?_
      rotate_left
      · intro W hS
        try dsimp only at hS
        go_simp
        try with_reducible rfl
      simp only [List.getElem_toArray, List.getElem_cons_succ, List.getElem_cons_zero, Act.put, List.setIfInBounds_toArray, List.set_cons_zero, List.set_cons_succ]
      refine wpAnyH_take (i := 5) (v := ?_) rfl (by kernel_rfl) (by kernel_rfl) (by kernel_rfl) (fun _ _ _ h => h) (Or.inl ⟨by rfl, ?_⟩) (by assumption) ?_
      rotate_left
      · intro W hS
        try dsimp only at hS
        go_simp
        try with_reducible rfl
      simp only [List.getElem_toArray, List.getElem_cons_succ, List.getElem_cons_zero, Act.put, List.setIfInBounds_toArray, List.set_cons_zero, List.set_cons_succ]
      refine wpAnyH_take (i := 6) (v := ?_) rfl (by kernel_rfl) (by kernel_rfl) (by kernel_rfl) (fun _ _ _ h => h) (Or.inl ⟨by rfl, ?_⟩) (by assumption) ?_
      rotate_left
      · intro W hS
        try dsimp only at hS
        go_simp
        try with_reducible rfl
      simp only [List.getElem_toArray, List.getElem_cons_succ, List.getElem_cons_zero, Act.put, List.setIfInBounds_toArray, List.set_cons_zero, List.set_cons_succ]
      refine wpAnyH_take (i := 7) (v := ?_) rfl (by kernel_rfl) (by kernel_rfl) (by kernel_rfl) (fun _ _ _ h => h) (Or.inl ⟨by rfl, ?_⟩) (by assumption) ?_
      rotate_left
      · intro W hS
        try dsimp only at hS
        go_simp
        try with_reducible rfl
      simp only [List.getElem_toArray, List.getElem_cons_succ, List.getElem_cons_zero, Act.put, List.setIfInBounds_toArray, List.set_cons_zero, List.set_cons_succ]
      refine wpAnyH_take (i := 9) (v := ?_) rfl (by kernel_rfl) (by kernel_rfl) (by kernel_rfl) (fun _ _ _ h => h) (Or.inl ⟨by rfl, ?_⟩) (by assumption) ?_
      rotate_left
      · intro W hS
        try dsimp only at hS
        go_simp
        try with_reducible rfl
      simp only [List.getElem_toArray, List.getElem_cons_succ, List.getElem_cons_zero, Act.put, List.setIfInBounds_toArray, List.set_cons_zero, List.set_cons_succ]
      refine wpAnyH_ready (rs := [8]) (by kernel_rfl) (by simp) ?_
      refine AllReadyH.cons rfl (fun K hK => ?_) AllReadyH.nil
      go_simp
      with_reducible refine (HNM.out _ HB0.out).mono ?_
      rintro e w2 ⟨rfl, hb2⟩
      have HB2 : Hid (Below w.heap.size w w2) := Lib.hid (below_then HB0.out hb2)
      clear hb2
      refine hK.out _ _ (HSC.out _ (keeps_below HB2.out _)) (fun hHeld => ?_)
      clear hK K
      try simp only [List.getElem_toArray, List.getElem_cons_succ, List.getElem_cons_zero, Act.put, List.setIfInBounds_toArray, List.set_cons_zero, List.set_cons_succ]
      refine wpAnyH_ready (rs := [10]) (by kernel_rfl) (by simp) ?_
      refine AllReadyH.cons rfl (fun K hK => ?_) AllReadyH.nil
      go_simp
      with_reducible refine (HAPP.out _ HB2.out).mono ?_
      rintro e w3 ⟨rfl, ht3⟩
      have HT := Lib.hid ht3
      clear ht3
      refine hK.out _ _ (HSC.out _ (turns_keeps HT.out)) (fun hHeld => ?_)
      clear hK K
      try simp only [List.getElem_toArray, List.getElem_cons_succ, List.getElem_cons_zero, Act.put, List.setIfInBounds_toArray, List.set_cons_zero, List.set_cons_succ]
      refine wpAnyH_take (i := 11) (v := ?_) rfl (by kernel_rfl) (by kernel_rfl) (by kernel_rfl) (fun _ _ _ h => h) (Or.inl ⟨by rfl, ?_⟩) (by assumption) ?_
      rotate_left
      · intro W hS
        try dsimp only at hS
        go_simp
        try with_reducible rfl
      simp only [List.getElem_toArray, List.getElem_cons_succ, List.getElem_cons_zero, Act.put, List.setIfInBounds_toArray, List.set_cons_zero, List.set_cons_succ]
      refine wpAnyH_done (by kernel_rfl) ?_ _
      obtain ⟨S3, h3, hb3, hg3, ht3⟩ := (HWT.out _ _ HT.out).own
      have HSCb : Hid (∀ W, Keeps S3 w3 W → W.cell? ⟨b, 0, none⟩ = some (.pointer (some ⟨B, 0, none⟩)) ∧ W.cell? ⟨b, 1, none⟩ = some (.int .i64 n)) := Lib.hid (fun W hk => by
        have h1 := hg3.keep hk hb3
        exact ⟨h1.c0, h1.c1⟩)
      have HB0b : Hid (Below w3.heap.size w3 w3.drew) := Lib.hid (below_drewN w3 1)
      have HNMb := Lib.hid (fun W (hbw : Below w3.heap.size w3 W) => name_calls n W ((HTAB.out.below h3.bel).below hbw))
      have HSYN := Lib.hid (fun W (hbw : Below w3.heap.size w3 W) => Calls.after (HSY0.out W (h3.disk.below hbw)) (keeps_below hbw S3))
      have HWT3 := Lib.hid ht3
      clear h3 hb3 hg3 ht3 hHeld HSC HNM HT HAPP HB0 HB2
      go_wp2
      refine wp_region_held_drew (S := fun W => W.cell? ⟨b, 0, none⟩ = some (.pointer (some ⟨B, 0, none⟩)) ∧ W.cell? ⟨b, 1, none⟩ = some (.int .i64 n)) (by kernel_rfl) (HSCb.out _ (keeps_below HB0b.out _)) (fun hHeld => ?_)
      refine wpAnyH_take (i := 0) (v := ?_) rfl (by kernel_rfl) (by kernel_rfl) (by kernel_rfl) (fun _ _ _ h => h) (Or.inl ⟨by rfl, ?_⟩) (by assumption) ?_
      rotate_left
      · intro W hS
        try dsimp only at hS
        go_simp
        try with_reducible rfl
      simp only [List.getElem_toArray, List.getElem_cons_zero, Act.put, List.setIfInBounds_toArray, List.set_cons_zero, List.set_cons_succ]
      refine wpAnyH_take (i := 1) (v := ?_) rfl (by kernel_rfl) (by kernel_rfl) (by kernel_rfl) (fun _ _ _ h => h) (Or.inl ⟨by rfl, ?_⟩) (by assumption) ?_
      rotate_left
      · intro W hS
        try dsimp only at hS
        go_simp
        try with_reducible rfl
      simp only [List.getElem_toArray, List.getElem_cons_succ, List.getElem_cons_zero, Act.put, List.setIfInBounds_toArray, List.set_cons_zero, List.set_cons_succ]
      refine wpAnyH_take (i := 2) (v := ?_) rfl (by kernel_rfl) (by kernel_rfl) (by kernel_rfl) (fun _ _ _ h => h) (Or.inl ⟨by rfl, ?_⟩) (by assumption) ?_
      rotate_left
      · intro W hS
        try dsimp only at hS
        go_simp
        try with_reducible rfl
      simp only [List.getElem_toArray, List.getElem_cons_succ, List.getElem_cons_zero, Act.put, List.setIfInBounds_toArray, List.set_cons_zero, List.set_cons_succ]
      refine wpAnyH_take (i := 3) (v := ?_) rfl (by kernel_rfl) (by kernel_rfl) (by kernel_rfl) (fun _ _ _ h => h) (Or.inl ⟨by rfl, ?_⟩) (by assumption) ?_
      rotate_left
      · intro W hS
        try dsimp only at hS
        go_simp
        try with_reducible rfl
      simp only [List.getElem_toArray, List.getElem_cons_succ, List.getElem_cons_zero, Act.put, List.setIfInBounds_toArray, List.set_cons_zero, List.set_cons_succ]
      refine wpAnyH_take (i := 4) (v := ?_) rfl (by kernel_rfl) (by kernel_rfl) (by kernel_rfl) (fun _ _ _ h => h) (Or.inl ⟨by rfl, ?_⟩) (by assumption) ?_
      rotate_left
      · intro W hS
        try dsimp only at hS
        go_simp
        try with_reducible rfl
      simp only [List.getElem_toArray, List.getElem_cons_succ, List.getElem_cons_zero, Act.put, List.setIfInBounds_toArray, List.set_cons_zero, List.set_cons_succ]
      refine wpAnyH_take (i := 5) (v := ?_) rfl (by kernel_rfl) (by kernel_rfl) (by kernel_rfl) (fun _ _ _ h => h) (Or.inl ⟨by rfl, ?_⟩) (by assumption) ?_
      rotate_left
      · intro W hS
        try dsimp only at hS
        go_simp
        try with_reducible rfl
      simp only [List.getElem_toArray, List.getElem_cons_succ, List.getElem_cons_zero, Act.put, List.setIfInBounds_toArray, List.set_cons_zero, List.set_cons_succ]
      refine wpAnyH_take (i := 6) (v := ?_) rfl (by kernel_rfl) (by kernel_rfl) (by kernel_rfl) (fun _ _ _ h => h) (Or.inl ⟨by rfl, ?_⟩) (by assumption) ?_
      rotate_left
      · intro W hS
        try dsimp only at hS
        go_simp
        try with_reducible rfl
      simp only [List.getElem_toArray, List.getElem_cons_succ, List.getElem_cons_zero, Act.put, List.setIfInBounds_toArray, List.set_cons_zero, List.set_cons_succ]
      refine wpAnyH_take (i := 7) (v := ?_) rfl (by kernel_rfl) (by kernel_rfl) (by kernel_rfl) (fun _ _ _ h => h) (Or.inl ⟨by rfl, ?_⟩) (by assumption) ?_
      rotate_left
      · intro W hS
        try dsimp only at hS
        go_simp
        try with_reducible rfl
      simp only [List.getElem_toArray, List.getElem_cons_succ, List.getElem_cons_zero, Act.put, List.setIfInBounds_toArray, List.set_cons_zero, List.set_cons_succ]
      refine wpAnyH_ready (rs := [8]) (by kernel_rfl) (by simp) ?_
      refine AllReadyH.cons rfl (fun K hK => ?_) AllReadyH.nil
      go_simp
      with_reducible refine (HNMb.out _ HB0b.out).mono ?_
      rintro e wb2 ⟨rfl, hb2⟩
      have HB2b : Hid (Below w3.heap.size w3 wb2) := Lib.hid (below_then HB0b.out hb2)
      clear hb2
      refine hK.out _ _ (HSCb.out _ (keeps_below HB2b.out _)) (fun hHeld => ?_)
      clear hK K
      try simp only [List.getElem_toArray, List.getElem_cons_succ, List.getElem_cons_zero, Act.put, List.setIfInBounds_toArray, List.set_cons_zero, List.set_cons_succ]
      refine wpAnyH_ready (rs := [9]) (by kernel_rfl) (by simp) ?_
      refine AllReadyH.cons rfl (fun K hK => ?_) AllReadyH.nil
      go_simp
      with_reducible refine (HSYN.out _ HB2b.out).mono ?_
      rintro e w5 ⟨rfl, ht3⟩
      have HTb := Lib.hid ht3
      clear ht3
      refine hK.out _ _ (HSCb.out _ (turns_keeps HTb.out)) (fun hHeld => ?_)
      clear hK K
      try simp only [List.getElem_toArray, List.getElem_cons_succ, List.getElem_cons_zero, Act.put, List.setIfInBounds_toArray, List.set_cons_zero, List.set_cons_succ]
      refine wpAnyH_take (i := 10) (v := ?_) rfl (by kernel_rfl) (by kernel_rfl) (by kernel_rfl) (fun _ _ _ h => h) (Or.inl ⟨by rfl, ?_⟩) (by assumption) ?_
      rotate_left
      · intro W hS
        try dsimp only at hS
        go_simp
        try with_reducible rfl
      simp only [List.getElem_toArray, List.getElem_cons_succ, List.getElem_cons_zero, Act.put, List.setIfInBounds_toArray, List.set_cons_zero, List.set_cons_succ]
      refine wpAnyH_done (by kernel_rfl) ?_ _
      obtain ⟨S5, h5, hb5, hg5, ht5⟩ := (HWT3.out _ _ HTb.out).own
      have k2 := unfrozen_of_block hg5 2
      have c2 := hg5.c2
      have hgv := (HWT3.out _ _ HTb.out).store HW0.out (hg5.size (z + y))
      rw [Int.natCast_add] at hgv
      have HGV := Lib.hid hgv
      have hzy : (z : Int) + (y : Int) ≤ 9223372036854775807 := by omega
      dsimp only at c2
      clear hgv
      clear h5 hb5 hg5 ht5 hHeld HSCb HNMb HTb HSYN HB0b HB2b
      go_wp2
      go_ret
      refine ⟨rfl, ?_⟩
      exact HGV.out
    · simp only [if_neg he2]
      have hne2 : (e2 == 0) = false := by simpa using he2
      have hnq2 : (e2 != 0) = true := by simpa using he2
      have HFIN : Hid (∀ W, WSt w0 w W S b B n (undoB d2 n z).2 ⟨z, decide ((undoB d2 n z).1 ≠ 0)⟩ → WOut w0 w S b B n e2 (undoB d2 n z).2 ⟨z, decide ((undoB d2 n z).1 ≠ 0)⟩ (.returned (.int .i64 e2)) W) := Lib.hid (fun W h => ⟨rfl, h⟩)
      generalize WOut w0 w S b B n e2 (undoB d2 n z).2 ⟨z, decide ((undoB d2 n z).1 ≠ 0)⟩ = PST at HFIN ⊢
      have FEWU : Hid (Sml d2) := Lib.hid (HF2.out.sml (by show M + (opA n l).b.length + 0 ≤ _; omega) (by omega))
      obtain ⟨dk, hdk⟩ : ∃ dk, d2 = dk := ⟨_, rfl⟩
      rw [hdk] at HSY0 HFIN FEWU
      obtain ⟨y, hy, hy2⟩ := HLEN.out
      rw [hy] at HAPP ⊢
      clear hM hM2 hy HLEN hdk HF2
      go_enter Tryz.func45, Tryz.ntmps45
      go_wp2
      refine wp_region_held_drew (S := fun W => W.cell? ⟨b, 0, none⟩ = some (.pointer (some ⟨B, 0, none⟩)) ∧ W.cell? ⟨b, 1, none⟩ = some (.int .i64 n)) (by kernel_rfl) (HSC.out _ (keeps_below HB0.out _)) (fun hHeld => ?_)
      refine wpAnyH_take (i := 0) (v := ?_) rfl (by kernel_rfl) (by kernel_rfl) (by kernel_rfl) (fun _ _ _ h => h) (Or.inl ⟨by rfl, ?_⟩) (by assumption) ?_
      rotate_left
      · intro W hS
        try dsimp only at hS
        go_simp
        try with_reducible rfl
      simp only [List.getElem_toArray, List.getElem_cons_zero, Act.put, List.setIfInBounds_toArray, List.set_cons_zero, List.set_cons_succ]
      refine wpAnyH_take (i := 1) (v := ?_) rfl (by kernel_rfl) (by kernel_rfl) (by kernel_rfl) (fun _ _ _ h => h) (Or.inl ⟨by rfl, ?_⟩) (by assumption) ?_
      rotate_left
      · intro W hS
        try dsimp only at hS
        go_simp
        try with_reducible rfl
      simp only [List.getElem_toArray, List.getElem_cons_succ, List.getElem_cons_zero, Act.put, List.setIfInBounds_toArray, List.set_cons_zero, List.set_cons_succ]
      refine wpAnyH_take (i := 2) (v := ?_) rfl (by kernel_rfl) (by kernel_rfl) (by kernel_rfl) (fun _ _ _ h => h) (Or.inl ⟨by rfl, ?_⟩) (by assumption) ?_
      rotate_left
      · intro W hS
        try dsimp only at hS
        go_simp
        try with_reducible rfl
      simp only [List.getElem_toArray, List.getElem_cons_succ, List.getElem_cons_zero, Act.put, List.setIfInBounds_toArray, List.set_cons_zero, List.set_cons_succ]
      refine wpAnyH_take (i := 3) (v := ?_) rfl (by kernel_rfl) (by kernel_rfl) (by kernel_rfl) (fun _ _ _ h => h) (Or.inl ⟨by rfl, ?_⟩) (by assumption) ?_
      rotate_left
      · intro W hS
        try dsimp only at hS
        go_simp
        try with_reducible rfl
      simp only [List.getElem_toArray, List.getElem_cons_succ, List.getElem_cons_zero, Act.put, List.setIfInBounds_toArray, List.set_cons_zero, List.set_cons_succ]
      refine wpAnyH_take (i := 4) (v := ?_) rfl (by kernel_rfl) (by kernel_rfl) (by kernel_rfl) (fun _ _ _ h => h) (Or.inl ⟨by rfl, ?_⟩) (by assumption) ?_
      rotate_left
      · intro W hS
        try dsimp only at hS
        go_simp
        try with_reducible rfl
      simp only [List.getElem_toArray, List.getElem_cons_succ, List.getElem_cons_zero, Act.put, List.setIfInBounds_toArray, List.set_cons_zero, List.set_cons_succ]
      refine wpAnyH_take (i := 5) (v := ?_) rfl (by kernel_rfl) (by kernel_rfl) (by kernel_rfl) (fun _ _ _ h => h) (Or.inl ⟨by rfl, ?_⟩) (by assumption) ?_
      rotate_left
      · intro W hS
        try dsimp only at hS
        go_simp
        try with_reducible rfl
      simp only [List.getElem_toArray, List.getElem_cons_succ, List.getElem_cons_zero, Act.put, List.setIfInBounds_toArray, List.set_cons_zero, List.set_cons_succ]
      refine wpAnyH_take (i := 6) (v := ?_) rfl (by kernel_rfl) (by kernel_rfl) (by kernel_rfl) (fun _ _ _ h => h) (Or.inl ⟨by rfl, ?_⟩) (by assumption) ?_
      rotate_left
      · intro W hS
        try dsimp only at hS
        go_simp
        try with_reducible rfl
      simp only [List.getElem_toArray, List.getElem_cons_succ, List.getElem_cons_zero, Act.put, List.setIfInBounds_toArray, List.set_cons_zero, List.set_cons_succ]
      refine wpAnyH_take (i := 7) (v := ?_) rfl (by kernel_rfl) (by kernel_rfl) (by kernel_rfl) (fun _ _ _ h => h) (Or.inl ⟨by rfl, ?_⟩) (by assumption) ?_
      rotate_left
      · intro W hS
        try dsimp only at hS
        go_simp
        try with_reducible rfl
      simp only [List.getElem_toArray, List.getElem_cons_succ, List.getElem_cons_zero, Act.put, List.setIfInBounds_toArray, List.set_cons_zero, List.set_cons_succ]
      refine wpAnyH_take (i := 9) (v := ?_) rfl (by kernel_rfl) (by kernel_rfl) (by kernel_rfl) (fun _ _ _ h => h) (Or.inl ⟨by rfl, ?_⟩) (by assumption) ?_
      rotate_left
      · intro W hS
        try dsimp only at hS
        go_simp
        try with_reducible rfl
      simp only [List.getElem_toArray, List.getElem_cons_succ, List.getElem_cons_zero, Act.put, List.setIfInBounds_toArray, List.set_cons_zero, List.set_cons_succ]
      refine wpAnyH_ready (rs := [8]) (by kernel_rfl) (by simp) ?_
      refine AllReadyH.cons rfl (fun K hK => ?_) AllReadyH.nil
      go_simp
      with_reducible refine (HNM.out _ HB0.out).mono ?_
      rintro e w2 ⟨rfl, hb2⟩
      have HB2 : Hid (Below w.heap.size w w2) := Lib.hid (below_then HB0.out hb2)
      clear hb2
      refine hK.out _ _ (HSC.out _ (keeps_below HB2.out _)) (fun hHeld => ?_)
      clear hK K
      try simp only [List.getElem_toArray, List.getElem_cons_succ, List.getElem_cons_zero, Act.put, List.setIfInBounds_toArray, List.set_cons_zero, List.set_cons_succ]
      refine wpAnyH_ready (rs := [10]) (by kernel_rfl) (by simp) ?_
      refine AllReadyH.cons rfl (fun K hK => ?_) AllReadyH.nil
      go_simp
      with_reducible refine (HAPP.out _ HB2.out).mono ?_
      rintro e w3 ⟨rfl, ht3⟩
      have HT := Lib.hid ht3
      clear ht3
      refine hK.out _ _ (HSC.out _ (turns_keeps HT.out)) (fun hHeld => ?_)
      clear hK K
      try simp only [List.getElem_toArray, List.getElem_cons_succ, List.getElem_cons_zero, Act.put, List.setIfInBounds_toArray, List.set_cons_zero, List.set_cons_succ]
      refine wpAnyH_take (i := 11) (v := ?_) rfl (by kernel_rfl) (by kernel_rfl) (by kernel_rfl) (fun _ _ _ h => h) (Or.inl ⟨by rfl, ?_⟩) (by assumption) ?_
      rotate_left
      · intro W hS
        try dsimp only at hS
        go_simp
        try with_reducible rfl
      simp only [List.getElem_toArray, List.getElem_cons_succ, List.getElem_cons_zero, Act.put, List.setIfInBounds_toArray, List.set_cons_zero, List.set_cons_succ]
      refine wpAnyH_done (by kernel_rfl) ?_ _
      obtain ⟨S3, h3, hb3, hg3, ht3⟩ := (HWT.out _ _ HT.out).own
      have HSCb : Hid (∀ W, Keeps S3 w3 W → W.cell? ⟨b, 0, none⟩ = some (.pointer (some ⟨B, 0, none⟩)) ∧ W.cell? ⟨b, 1, none⟩ = some (.int .i64 n)) := Lib.hid (fun W hk => by
        have h1 := hg3.keep hk hb3
        exact ⟨h1.c0, h1.c1⟩)
      have HB0b : Hid (Below w3.heap.size w3 w3.drew) := Lib.hid (below_drewN w3 1)
      have HNMb := Lib.hid (fun W (hbw : Below w3.heap.size w3 W) => name_calls n W ((HTAB.out.below h3.bel).below hbw))
      have HSYN := Lib.hid (fun W (hbw : Below w3.heap.size w3 W) => Calls.after (HSY0.out W (h3.disk.below hbw)) (keeps_below hbw S3))
      have HWT3 := Lib.hid ht3
      clear h3 hb3 hg3 ht3 hHeld HSC HNM HT HAPP HB0 HB2
      go_wp2
      refine wp_region_held_drew (S := fun W => W.cell? ⟨b, 0, none⟩ = some (.pointer (some ⟨B, 0, none⟩)) ∧ W.cell? ⟨b, 1, none⟩ = some (.int .i64 n)) (by kernel_rfl) (HSCb.out _ (keeps_below HB0b.out _)) (fun hHeld => ?_)
      refine wpAnyH_take (i := 0) (v := ?_) rfl (by kernel_rfl) (by kernel_rfl) (by kernel_rfl) (fun _ _ _ h => h) (Or.inl ⟨by rfl, ?_⟩) (by assumption) ?_
      rotate_left
      · intro W hS
        try dsimp only at hS
        go_simp
        try with_reducible rfl
      simp only [List.getElem_toArray, List.getElem_cons_zero, Act.put, List.setIfInBounds_toArray, List.set_cons_zero, List.set_cons_succ]
      refine wpAnyH_take (i := 1) (v := ?_) rfl (by kernel_rfl) (by kernel_rfl) (by kernel_rfl) (fun _ _ _ h => h) (Or.inl ⟨by rfl, ?_⟩) (by assumption) ?_
      rotate_left
      · intro W hS
        try dsimp only at hS
        go_simp
        try with_reducible rfl
      simp only [List.getElem_toArray, List.getElem_cons_succ, List.getElem_cons_zero, Act.put, List.setIfInBounds_toArray, List.set_cons_zero, List.set_cons_succ]
      refine wpAnyH_take (i := 2) (v := ?_) rfl (by kernel_rfl) (by kernel_rfl) (by kernel_rfl) (fun _ _ _ h => h) (Or.inl ⟨by rfl, ?_⟩) (by assumption) ?_
      rotate_left
      · intro W hS
        try dsimp only at hS
        go_simp
        try with_reducible rfl
      simp only [List.getElem_toArray, List.getElem_cons_succ, List.getElem_cons_zero, Act.put, List.setIfInBounds_toArray, List.set_cons_zero, List.set_cons_succ]
      refine wpAnyH_take (i := 3) (v := ?_) rfl (by kernel_rfl) (by kernel_rfl) (by kernel_rfl) (fun _ _ _ h => h) (Or.inl ⟨by rfl, ?_⟩) (by assumption) ?_
      rotate_left
      · intro W hS
        try dsimp only at hS
        go_simp
        try with_reducible rfl
      simp only [List.getElem_toArray, List.getElem_cons_succ, List.getElem_cons_zero, Act.put, List.setIfInBounds_toArray, List.set_cons_zero, List.set_cons_succ]
      refine wpAnyH_take (i := 4) (v := ?_) rfl (by kernel_rfl) (by kernel_rfl) (by kernel_rfl) (fun _ _ _ h => h) (Or.inl ⟨by rfl, ?_⟩) (by assumption) ?_
      rotate_left
      · intro W hS
        try dsimp only at hS
        go_simp
        try with_reducible rfl
      simp only [List.getElem_toArray, List.getElem_cons_succ, List.getElem_cons_zero, Act.put, List.setIfInBounds_toArray, List.set_cons_zero, List.set_cons_succ]
      refine wpAnyH_take (i := 5) (v := ?_) rfl (by kernel_rfl) (by kernel_rfl) (by kernel_rfl) (fun _ _ _ h => h) (Or.inl ⟨by rfl, ?_⟩) (by assumption) ?_
      rotate_left
      · intro W hS
        try dsimp only at hS
        go_simp
        try with_reducible rfl
      simp only [List.getElem_toArray, List.getElem_cons_succ, List.getElem_cons_zero, Act.put, List.setIfInBounds_toArray, List.set_cons_zero, List.set_cons_succ]
      refine wpAnyH_take (i := 6) (v := ?_) rfl (by kernel_rfl) (by kernel_rfl) (by kernel_rfl) (fun _ _ _ h => h) (Or.inl ⟨by rfl, ?_⟩) (by assumption) ?_
      rotate_left
      · intro W hS
        try dsimp only at hS
        go_simp
        try with_reducible rfl
      simp only [List.getElem_toArray, List.getElem_cons_succ, List.getElem_cons_zero, Act.put, List.setIfInBounds_toArray, List.set_cons_zero, List.set_cons_succ]
      refine wpAnyH_take (i := 7) (v := ?_) rfl (by kernel_rfl) (by kernel_rfl) (by kernel_rfl) (fun _ _ _ h => h) (Or.inl ⟨by rfl, ?_⟩) (by assumption) ?_
      rotate_left
      · intro W hS
        try dsimp only at hS
        go_simp
        try with_reducible rfl
      simp only [List.getElem_toArray, List.getElem_cons_succ, List.getElem_cons_zero, Act.put, List.setIfInBounds_toArray, List.set_cons_zero, List.set_cons_succ]
      refine wpAnyH_ready (rs := [8]) (by kernel_rfl) (by simp) ?_
      refine AllReadyH.cons rfl (fun K hK => ?_) AllReadyH.nil
      go_simp
      with_reducible refine (HNMb.out _ HB0b.out).mono ?_
      rintro e wb2 ⟨rfl, hb2⟩
      have HB2b : Hid (Below w3.heap.size w3 wb2) := Lib.hid (below_then HB0b.out hb2)
      clear hb2
      refine hK.out _ _ (HSCb.out _ (keeps_below HB2b.out _)) (fun hHeld => ?_)
      clear hK K
      try simp only [List.getElem_toArray, List.getElem_cons_succ, List.getElem_cons_zero, Act.put, List.setIfInBounds_toArray, List.set_cons_zero, List.set_cons_succ]
      refine wpAnyH_ready (rs := [9]) (by kernel_rfl) (by simp) ?_
      refine AllReadyH.cons rfl (fun K hK => ?_) AllReadyH.nil
      go_simp
      with_reducible refine (HSYN.out _ HB2b.out).mono ?_
      rintro e w5 ⟨rfl, ht3⟩
      have HTb := Lib.hid ht3
      clear ht3
      refine hK.out _ _ (HSCb.out _ (turns_keeps HTb.out)) (fun hHeld => ?_)
      clear hK K
      try simp only [List.getElem_toArray, List.getElem_cons_succ, List.getElem_cons_zero, Act.put, List.setIfInBounds_toArray, List.set_cons_zero, List.set_cons_succ]
      refine wpAnyH_take (i := 10) (v := ?_) rfl (by kernel_rfl) (by kernel_rfl) (by kernel_rfl) (fun _ _ _ h => h) (Or.inl ⟨by rfl, ?_⟩) (by assumption) ?_
      rotate_left
      · intro W hS
        try dsimp only at hS
        go_simp
        try with_reducible rfl
      simp only [List.getElem_toArray, List.getElem_cons_succ, List.getElem_cons_zero, Act.put, List.setIfInBounds_toArray, List.set_cons_zero, List.set_cons_succ]
      refine wpAnyH_done (by kernel_rfl) ?_ _
      have WST := Lib.hid (HWT3.out _ _ HTb.out)
      clear hHeld HSCb HNMb HTb HSYN HB0b HB2b HWT3
      go_wp2_with fail
      obtain ⟨Su, hlu, hbu, hgu, htu⟩ := WST.out.own
      have HU := Lib.hid (undo_calls hlu HTAB.out FEWU.out hgu hbu)
      have HTU := Lib.hid htu
      obtain ⟨qu, hqu⟩ : ∃ q, undoB dk n z = q := ⟨_, rfl⟩
      have hqu2 : undoB dk n (Sg.mk z false).size = qu := hqu
      rw [hqu2] at HU
      rw [hqu] at HFIN
      clear hlu hbu hgu htu hqu hqu2 FEWU WST
      go_wp2_with fail
      with_reducible refine HU.out.mono ?_
      rintro e wu ⟨rfl, hxu⟩
      obtain ⟨eu, du⟩ := qu
      dsimp only at hxu HFIN ⊢
      have WSU := Lib.hid (HTU.out _ _ hxu)
      clear hxu HU HTU
      obtain ⟨Sv, hlv, hbv, hgv, htv⟩ := WSU.out.own
      have k3 := unfrozen_of_block hgv 3
      have c3 := hgv.c3
      have hsk : (eu != 0) = decide (eu ≠ 0) := by
        by_cases h0 : eu = 0
        · subst h0; rfl
        · simp [h0]
      have HGV := Lib.hid (WSU.out.store HW0.out (hgv.sick (decide (eu ≠ 0))))
      obtain ⟨sk, hsk2⟩ : ∃ sk, decide (eu ≠ 0) = sk := ⟨_, rfl⟩
      rw [hsk2] at hsk HGV HFIN
      clear hlv hbv hgv htv hsk2 WSU
      go_wp2
      exact HFIN.out _ HGV.out
  · simp only [if_neg he1]
    have hne1 : (e1 == 0) = false := by simpa using he1
    have hnq1 : (e1 != 0) = true := by simpa using he1
    have HFIN : Hid (∀ W, WSt w0 w W S b B n (undoB d1 n z).2 ⟨z, decide ((undoB d1 n z).1 ≠ 0)⟩ → WOut w0 w S b B n e1 (undoB d1 n z).2 ⟨z, decide ((undoB d1 n z).1 ≠ 0)⟩ (.returned (.int .i64 e1)) W) := Lib.hid (fun W h => ⟨rfl, h⟩)
    generalize WOut w0 w S b B n e1 (undoB d1 n z).2 ⟨z, decide ((undoB d1 n z).1 ≠ 0)⟩ = PST at HFIN ⊢
    have FEWU : Hid (Sml d1) := Lib.hid (HF1.out.sml hM2 (by omega))
    obtain ⟨dk, hdk⟩ : ∃ dk, d1 = dk := ⟨_, rfl⟩
    rw [hdk] at HAPP HFIN FEWU
    obtain ⟨y, hy, hy2⟩ := HLEN.out
    rw [hy] at HAPP ⊢
    clear hM hM2 hy HLEN hdk HF1
    go_enter Tryz.func45, Tryz.ntmps45
    go_wp2
    refine wp_region_held_drew (S := fun W => W.cell? ⟨b, 0, none⟩ = some (.pointer (some ⟨B, 0, none⟩)) ∧ W.cell? ⟨b, 1, none⟩ = some (.int .i64 n)) (by kernel_rfl) (HSC.out _ (keeps_below HB0.out _)) (fun hHeld => ?_)
    refine wpAnyH_take (i := 0) (v := ?_) rfl (by kernel_rfl) (by kernel_rfl) (by kernel_rfl) (fun _ _ _ h => h) (Or.inl ⟨by rfl, ?_⟩) (by assumption) ?_
    rotate_left
    · intro W hS
      try dsimp only at hS
      go_simp
      try with_reducible rfl
    simp only [List.getElem_toArray, List.getElem_cons_zero, Act.put, List.setIfInBounds_toArray, List.set_cons_zero, List.set_cons_succ]
    refine wpAnyH_take (i := 1) (v := ?_) rfl (by kernel_rfl) (by kernel_rfl) (by kernel_rfl) (fun _ _ _ h => h) (Or.inl ⟨by rfl, ?_⟩) (by assumption) ?_
    rotate_left
    · intro W hS
      try dsimp only at hS
      go_simp
      try with_reducible rfl
    simp only [List.getElem_toArray, List.getElem_cons_succ, List.getElem_cons_zero, Act.put, List.setIfInBounds_toArray, List.set_cons_zero, List.set_cons_succ]
    refine wpAnyH_take (i := 2) (v := ?_) rfl (by kernel_rfl) (by kernel_rfl) (by kernel_rfl) (fun _ _ _ h => h) (Or.inl ⟨by rfl, ?_⟩) (by assumption) ?_
    rotate_left
    · intro W hS
      try dsimp only at hS
      go_simp
      try with_reducible rfl
    simp only [List.getElem_toArray, List.getElem_cons_succ, List.getElem_cons_zero, Act.put, List.setIfInBounds_toArray, List.set_cons_zero, List.set_cons_succ]
    refine wpAnyH_take (i := 3) (v := ?_) rfl (by kernel_rfl) (by kernel_rfl) (by kernel_rfl) (fun _ _ _ h => h) (Or.inl ⟨by rfl, ?_⟩) (by assumption) ?_
    rotate_left
    · intro W hS
      try dsimp only at hS
      go_simp
      try with_reducible rfl
    simp only [List.getElem_toArray, List.getElem_cons_succ, List.getElem_cons_zero, Act.put, List.setIfInBounds_toArray, List.set_cons_zero, List.set_cons_succ]
    refine wpAnyH_take (i := 4) (v := ?_) rfl (by kernel_rfl) (by kernel_rfl) (by kernel_rfl) (fun _ _ _ h => h) (Or.inl ⟨by rfl, ?_⟩) (by assumption) ?_
    rotate_left
    · intro W hS
      try dsimp only at hS
      go_simp
      try with_reducible rfl
    simp only [List.getElem_toArray, List.getElem_cons_succ, List.getElem_cons_zero, Act.put, List.setIfInBounds_toArray, List.set_cons_zero, List.set_cons_succ]
    refine wpAnyH_take (i := 5) (v := ?_) rfl (by kernel_rfl) (by kernel_rfl) (by kernel_rfl) (fun _ _ _ h => h) (Or.inl ⟨by rfl, ?_⟩) (by assumption) ?_
    rotate_left
    · intro W hS
      try dsimp only at hS
      go_simp
      try with_reducible rfl
    simp only [List.getElem_toArray, List.getElem_cons_succ, List.getElem_cons_zero, Act.put, List.setIfInBounds_toArray, List.set_cons_zero, List.set_cons_succ]
    refine wpAnyH_take (i := 6) (v := ?_) rfl (by kernel_rfl) (by kernel_rfl) (by kernel_rfl) (fun _ _ _ h => h) (Or.inl ⟨by rfl, ?_⟩) (by assumption) ?_
    rotate_left
    · intro W hS
      try dsimp only at hS
      go_simp
      try with_reducible rfl
    simp only [List.getElem_toArray, List.getElem_cons_succ, List.getElem_cons_zero, Act.put, List.setIfInBounds_toArray, List.set_cons_zero, List.set_cons_succ]
    refine wpAnyH_take (i := 7) (v := ?_) rfl (by kernel_rfl) (by kernel_rfl) (by kernel_rfl) (fun _ _ _ h => h) (Or.inl ⟨by rfl, ?_⟩) (by assumption) ?_
    rotate_left
    · intro W hS
      try dsimp only at hS
      go_simp
      try with_reducible rfl
    simp only [List.getElem_toArray, List.getElem_cons_succ, List.getElem_cons_zero, Act.put, List.setIfInBounds_toArray, List.set_cons_zero, List.set_cons_succ]
    refine wpAnyH_take (i := 9) (v := ?_) rfl (by kernel_rfl) (by kernel_rfl) (by kernel_rfl) (fun _ _ _ h => h) (Or.inl ⟨by rfl, ?_⟩) (by assumption) ?_
    rotate_left
    · intro W hS
      try dsimp only at hS
      go_simp
      try with_reducible rfl
    simp only [List.getElem_toArray, List.getElem_cons_succ, List.getElem_cons_zero, Act.put, List.setIfInBounds_toArray, List.set_cons_zero, List.set_cons_succ]
    refine wpAnyH_ready (rs := [8]) (by kernel_rfl) (by simp) ?_
    refine AllReadyH.cons rfl (fun K hK => ?_) AllReadyH.nil
    go_simp
    with_reducible refine (HNM.out _ HB0.out).mono ?_
    rintro e w2 ⟨rfl, hb2⟩
    have HB2 : Hid (Below w.heap.size w w2) := Lib.hid (below_then HB0.out hb2)
    clear hb2
    refine hK.out _ _ (HSC.out _ (keeps_below HB2.out _)) (fun hHeld => ?_)
    clear hK K
    try simp only [List.getElem_toArray, List.getElem_cons_succ, List.getElem_cons_zero, Act.put, List.setIfInBounds_toArray, List.set_cons_zero, List.set_cons_succ]
    refine wpAnyH_ready (rs := [10]) (by kernel_rfl) (by simp) ?_
    refine AllReadyH.cons rfl (fun K hK => ?_) AllReadyH.nil
    go_simp
    with_reducible refine (HAPP.out _ HB2.out).mono ?_
    rintro e w3 ⟨rfl, ht3⟩
    have HT := Lib.hid ht3
    clear ht3
    refine hK.out _ _ (HSC.out _ (turns_keeps HT.out)) (fun hHeld => ?_)
    clear hK K
    try simp only [List.getElem_toArray, List.getElem_cons_succ, List.getElem_cons_zero, Act.put, List.setIfInBounds_toArray, List.set_cons_zero, List.set_cons_succ]
    refine wpAnyH_take (i := 11) (v := ?_) rfl (by kernel_rfl) (by kernel_rfl) (by kernel_rfl) (fun _ _ _ h => h) (Or.inl ⟨by rfl, ?_⟩) (by assumption) ?_
    rotate_left
    · intro W hS
      try dsimp only at hS
      go_simp
      try with_reducible rfl
    simp only [List.getElem_toArray, List.getElem_cons_succ, List.getElem_cons_zero, Act.put, List.setIfInBounds_toArray, List.set_cons_zero, List.set_cons_succ]
    refine wpAnyH_done (by kernel_rfl) ?_ _
    have WST := Lib.hid (HWT.out _ _ HT.out)
    clear hHeld HSC HNM HT HAPP HB0 HB2 HWT
    obtain ⟨Su, hlu, hbu, hgu, htu⟩ := WST.out.own
    have HU := Lib.hid (undo_calls hlu HTAB.out FEWU.out hgu hbu)
    have HTU := Lib.hid htu
    obtain ⟨qu, hqu⟩ : ∃ q, undoB dk n z = q := ⟨_, rfl⟩
    have hqu2 : undoB dk n (Sg.mk z false).size = qu := hqu
    rw [hqu2] at HU
    rw [hqu] at HFIN
    clear hlu hbu hgu htu hqu hqu2 FEWU WST
    go_wp2_with fail
    with_reducible refine HU.out.mono ?_
    rintro e wu ⟨rfl, hxu⟩
    obtain ⟨eu, du⟩ := qu
    dsimp only at hxu HFIN ⊢
    have WSU := Lib.hid (HTU.out _ _ hxu)
    clear hxu HU HTU
    obtain ⟨Sv, hlv, hbv, hgv, htv⟩ := WSU.out.own
    have k3 := unfrozen_of_block hgv 3
    have c3 := hgv.c3
    have hsk : (eu != 0) = decide (eu ≠ 0) := by
      by_cases h0 : eu = 0
      · subst h0; rfl
      · simp [h0]
    have HGV := Lib.hid (WSU.out.store HW0.out (hgv.sick (decide (eu ≠ 0))))
    obtain ⟨sk, hsk2⟩ : ∃ sk, decide (eu ≠ 0) = sk := ⟨_, rfl⟩
    rw [hsk2] at hsk HGV HFIN
    clear hlv hbv hgv htv hsk2 WSU
    go_wp2
    exact HFIN.out _ HGV.out

end Go.Proofs.YtjhiekijbcjohaaGreatDoor
