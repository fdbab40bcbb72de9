/-
  A tree that grows, in memory: what lies innermost turned, an element opened, the innermost one closed. Condition: the slices lead to what they are said to. A tree that grows, in memory, as a whole: a node laid into the innermost element or its last text going on, an element opened, one closed. Condition: the slices lead to what they are said to. The program's small functions on a tree that grows: which element is the innermost, what was laid last, whether a node is an element, where the first one stands. Condition: the tree lies in memory. slices.IndexFunc and slices.ContainsFunc of nodes, asked for elements. Condition: the nodes lie in memory.
-/
import Derived.Test.YtfonflbpkbibbaaGreatDoorXTm
namespace Go.Proofs.YtfonflbpkbibbaaGreatDoor
open Go.RowKit Go.Lib Go.Joins

theorem ownsRow_block {w w' : World} {base e size n : Nat} {v : Value} {xs : List Value} (h : w.ownsRow base e size v n xs) (hb : ∀ k, v.ownBlock = some k → w'.heap[k]? = w.heap[k]?) : w'.ownsRow base e size v n xs := by
  refine ⟨h.1, ?_⟩
  rcases h.2 with hn | ⟨g, cap, cur, rfl, h1, h2, h3⟩
  · exact .inl hn
  · exact .inr ⟨g, cap, cur, rfl, h1, (hb g rfl).trans h2, h3⟩
theorem nrC_set (rows : List Nr) (r : Nr) (u : Value) : (nrC (rows ++ [r])).set (rows.length * 5 + 4) u = nrC (rows ++ [⟨r.kind, r.name, r.text, r.av, u⟩]) := by
  rw [nrC_app, nrC_app, ← nrC_len, List.set_append_right _ _ (by omega), Nat.add_sub_cancel_left]
  rfl
theorem nrC_text (rows : List Nr) (r : Nr) (u : List UInt8) : (nrC (rows ++ [r])).set (rows.length * 5 + 2) (.string (strB u)) = nrC (rows ++ [⟨r.kind, r.name, u, r.av, r.kv⟩]) := by
  rw [nrC_app, nrC_app, ← nrC_len, List.set_append_right _ _ (by omega), Nat.add_sub_cancel_left]
  rfl
theorem last_at (rows : List Nr) (r : Nr) : (rows ++ [r])[rows.length]? = some r := by simp
def lastF : Fr → List Fr → Fr
  | f, [] => f
  | _, f2 :: fs => lastF f2 fs
/-- What lies innermost may be turned. -/
theorem Spine.focus {w : World} {n0 : Nat} {S : Nat → Prop} : ∀ {fs : List Fr} {f : Fr} {p : Addr} {v : Value} {ks : List Tr} {ps : List Addr} {bs : List (Option Nat)}, Spine w n0 S p v ks (f :: fs) ps bs → Apart bs →
    ∃ front g off vl bf, ps = front ++ [⟨g, off, none⟩] ∧ bs = bf ++ [Value.ownBlock vl] ∧ some g ∈ bf ∧ n0 ≤ g ∧ (∃ rows, Lv w n0 vl rows ∧ NodesIn w S rows (lastF f fs).kids) ∧ w.cell? ⟨g, off + 4, none⟩ = some vl ∧ w.cell? ⟨g, off + 1, none⟩ = some (.string (strB (lastF f fs).name)) ∧ w.frozen? ⟨g, off + 4, none⟩ = false ∧
      ∀ (w' : World) (S' O : Nat → Prop) (vl' : Value) (fs2 : List Fr) (ks2 : List Tr) (ps2 : List Addr) (bs2 : List (Option Nat)), Keeps O w w' → (∀ k, S k → ¬ O k) → (∀ k, S k → S' k) → (∀ k, some k ∈ bs → O k → k = g ∨ vl.ownBlock = some k) → w'.heap[g]? = (w.setCell ⟨g, off + 4, none⟩ vl').heap[g]? → Spine w' n0 S' ⟨g, off, none⟩ vl' ks2 fs2 ps2 bs2 → Spine w' n0 S' p v ks (lastKids (f :: fs) ks2 ++ fs2) (front ++ ps2) (bf ++ bs2)
  | [], f, p, v, ks, ps, bs, h, ha => by
    obtain ⟨rows, r, g, c, ps', bs', rfl, rfl, rfl, h1, h2, h3, h4, h5, h6, rfl, rfl, rows2, h8, h9⟩ := h
    have hx := h1.cells (g := g) rfl (last_at rows r)
    refine ⟨[p], g, rows.length * 5, r.kv, [some g], rfl, rfl, List.mem_cons_self .., h1.new g rfl, ⟨rows2, h8, h9⟩, hx.2.2.2.2, (by show _ = some (Value.string (strB f.name)); rw [← h4]; exact hx.2.1), ?_, ?_⟩
    · have := h1.row
      rw [List.length_append, List.length_singleton] at this
      exact this.frozenAt _
    · intro w' S' O vl' fs2 ks2 ps2 bs2 hk hS hs hO hg hsp
      refine ⟨rows, ⟨r.kind, r.name, r.text, r.av, vl'⟩, g, c, ps2, bs2, rfl, rfl, rfl, ⟨?_, h1.new⟩, h2.keep hk hS hs, h3, h4, h5, h6.keep hk hS hs, hsp⟩
      have hst := h1.row
      rw [List.length_append, List.length_singleton] at hst ⊢
      have hst2 := (hst.stored (rows.length * 5 + 4) vl').1
      rw [nrC_set] at hst2
      exact ownsRow_block hst2 (fun k e => by cases e; exact hg)
  | f2 :: fs, f, p, v, ks, ps, bs, h, ha => by
    obtain ⟨rows, r, g, c, ps', bs', rfl, rfl, rfl, h1, h2, h3, h4, h5, h6, h7⟩ := h
    obtain ⟨front, g', off, vl, bf, e1, e2, e3, e4, e5, e6, e7, e8, e9⟩ := Spine.focus h7 ha.2
    refine ⟨p :: front, g', off, vl, some g :: bf, by rw [e1]; rfl, by rw [e2]; rfl, List.mem_cons_of_mem _ e3, e4, e5, e6, e7, e8, ?_⟩
    intro w' S' O vl' fs2 ks2 ps2 bs2 hk hS hs hO hg hsp
    have hgn : ¬ O g := fun hOg => by
      have h9 := ha.1 g rfl
      rcases hO g (List.mem_cons_self ..) hOg with h10 | h10
      · apply h9
        rw [e2, h10]
        exact List.mem_append_left _ e3
      · apply h9
        rw [e2, ← h10]
        simp
    exact ⟨rows, r, g, c, front ++ ps2, bf ++ bs2, rfl, rfl, rfl, h1.keep hk (fun k e => by cases e; exact hgn), h2.keep hk hS hs, h3, h4, h5, h6.keep hk hS hs, e9 w' S' O vl' fs2 ks2 ps2 bs2 hk hS hs (fun k e => hO k (List.mem_cons_of_mem _ e)) hg hsp⟩
def elemT (f : Fr) : Tr := .mk 1 f.name [] f.attrs f.kids
/-- The innermost element closed, the outermost one first. -/
def closeF : List Tr → Fr → List Fr → List Tr × List Fr
  | ks, f, [] => (ks ++ [elemT f], [])
  | ks, f, f2 :: fs => (ks, ⟨f.name, f.attrs, (closeF f.kids f2 fs).1⟩ :: (closeF f.kids f2 fs).2)
theorem NodeIn.elem {w : World} {S : Nat → Prop} {r : Nr} {f : Fr} {rows : List Nr} (h3 : r.kind = 1) (h4 : r.name = f.name) (h5 : r.text = []) (ha : AttIn w S r.av f.attrs) (hr : RowIn w S r.kv rows) (hn : NodesIn w S rows f.kids) : NodeIn w S r (elemT f) := by
  have := NodeIn.mk r f.attrs f.kids rows ha hr hn.1 hn.2
  rw [h3, h4, h5] at this
  exact this
theorem Spine.close {w : World} {n0 : Nat} {S S' : Nat → Prop} (hs : ∀ k, S k → S' k) : ∀ {fs : List Fr} {f : Fr} {p : Addr} {v : Value} {ks : List Tr} {ps : List Addr} {bs : List (Option Nat)}, Spine w n0 S p v ks (f :: fs) ps bs →
    ∃ front pl bf b, ps = front ++ [pl] ∧ bs = bf ++ [b] ∧ ((∀ k, b = some k → S' k) → Spine w n0 S' p v (closeF ks f fs).1 (closeF ks f fs).2 front bf)
  | [], f, p, v, ks, ps, bs, h => by
    obtain ⟨rows, r, g, c, ps', bs', rfl, rfl, rfl, h1, h2, h3, h4, h5, h6, rfl, rfl, rows2, h8, h9⟩ := h
    refine ⟨[p], _, [some g], _, rfl, rfl, fun hb => ⟨rfl, rfl, rows ++ [r], h1, ?_⟩⟩
    have hkp : Keeps Non w w := Keeps.refl _ _
    exact (h2.keep hkp (fun _ _ h => h) hs).snoc (NodeIn.elem h3 h4 h5 (h6.keep hkp (fun _ _ h => h) hs) (h8.rowIn S' hb) (h9.keep hkp (fun _ _ h => h) hs))
  | f2 :: fs, f, p, v, ks, ps, bs, h => by
    obtain ⟨rows, r, g, c, ps', bs', rfl, rfl, rfl, h1, h2, h3, h4, h5, h6, h7⟩ := h
    obtain ⟨front, pl, bf, b, e1, e2, e3⟩ := Spine.close hs h7
    have hkp : Keeps Non w w := Keeps.refl _ _
    refine ⟨p :: front, pl, some g :: bf, b, by rw [e1]; rfl, by rw [e2]; rfl, fun hb => ?_⟩
    exact ⟨rows, r, g, c, front, bf, rfl, rfl, rfl, h1, h2.keep hkp (fun _ _ h => h) hs, h3, h4, h5, h6.keep hkp (fun _ _ h => h) hs, e3 hb⟩

/-- The cells of pointers. -/
def ptrC (l : List Addr) : List Value := l.map fun p => .pointer (some p)
def growB (v ov : Value) (nodes : Nat) : Obj := .cells #[.int .i64 0, .string ⟨#[]⟩, .string ⟨#[]⟩, .slice none 0 0, v, ov, .int .i64 (nodes : Int)] 60 (0, 0)
/-- A tree that grows, in block gb; S has the blocks of what is closed, and all that were there ahead of n0. -/
structure GrW (w : World) (n0 gb : Nat) (S : Nat → Prop) (ks : List Tr) (fs : List Fr) (nodes : Nat) (v ov : Value) (ps : List Addr) (bs : List (Option Nat)) : Prop where
  blk : w.heap[gb]? = some (growB v ov nodes)
  opn : w.ownsRow 0 61 1 ov ps.length (ptrC ps)
  spi : Spine w n0 S ⟨gb, 0, none⟩ v ks fs ps bs
  dis : Apart bs
  off : ∀ k, some k ∈ bs → ¬ S k ∧ k ≠ gb ∧ ov.ownBlock ≠ some k
  sgb : ¬ S gb
  sov : ∀ k, ov.ownBlock = some k → ¬ S k ∧ k ≠ gb
  old : ∀ k, k < n0 → S k
/-- .. of whatever slices. -/
def GrAt (w : World) (n0 gb : Nat) (g : Gr) : Prop := ∃ S v ov ps bs, GrW w n0 gb S g.top g.opens.reverse g.nodes v ov ps bs
theorem GrW.keep {w w' : World} {n0 gb nodes : Nat} {S O : Nat → Prop} {ks : List Tr} {fs : List Fr} {v ov : Value} {ps : List Addr} {bs : List (Option Nat)} (h : GrW w n0 gb S ks fs nodes v ov ps bs) (hk : Keeps O w w') (hO : ∀ k, O k → w.heap.size ≤ k) : GrW w' n0 gb S ks fs nodes v ov ps bs where
  blk := block_keep h.blk hk (fun e => by have := hO gb e; have := lt_of_block h.blk; omega)
  opn := ownsRow_keep h.opn hk (fun k e e2 => by have := hO k e2; have := (h.opn.lt k e).2; omega)
  spi := by
    have hk2 : Keeps Non w w' := ⟨hk.os, hk.tape, hk.output, hk.size, fun k hkk _ => hk.block k hkk (fun e => by have := hO k e; omega)⟩
    exact h.spi.keep hk2 (fun _ _ e => e) (fun _ e => e) (fun _ _ e => e)
  dis := h.dis
  off := h.off
  sgb := h.sgb
  sov := h.sov
  old := h.old
theorem GrW.below {w w' : World} {n0 gb nodes : Nat} {S : Nat → Prop} {ks : List Tr} {fs : List Fr} {v ov : Value} {ps : List Addr} {bs : List (Option Nat)} (h : GrW w n0 gb S ks fs nodes v ov ps bs) (hb : Below w.heap.size w w') : GrW w' n0 gb S ks fs nodes v ov ps bs :=
  h.keep (keeps_below hb Non) (fun _ e => e.elim)
theorem GrW.cells {w : World} {n0 gb nodes : Nat} {S : Nat → Prop} {ks : List Tr} {fs : List Fr} {v ov : Value} {ps : List Addr} {bs : List (Option Nat)} (h : GrW w n0 gb S ks fs nodes v ov ps bs) : w.cell? ⟨gb, 4, none⟩ = some v ∧ w.cell? ⟨gb, 5, none⟩ = some ov ∧ w.cell? ⟨gb, 6, none⟩ = some (.int .i64 (nodes : Int)) ∧ w.frozen? ⟨gb, 4, none⟩ = false ∧ w.frozen? ⟨gb, 5, none⟩ = false ∧ w.frozen? ⟨gb, 6, none⟩ = false :=
  ⟨(cell_of_block h.blk 4).trans rfl, (cell_of_block h.blk 5).trans rfl, (cell_of_block h.blk 6).trans rfl, unfrozen_of_block h.blk 4, unfrozen_of_block h.blk 5, unfrozen_of_block h.blk 6⟩

end Go.Proofs.YtfonflbpkbibbaaGreatDoor
namespace Go.Proofs.YtfonflbpkbibbaaGreatDoor
open Go.RowKit Go.Lib Go.Joins

def innerK (ks : List Tr) : List Fr → List Tr
  | [] => ks
  | f :: fs => (lastF f fs).kids
theorem lastF_snoc (x : Fr) : ∀ (l : List Fr) (f : Fr), lastF f (l ++ [x]) = x
  | [], _ => rfl
  | f2 :: l, _ => lastF_snoc x l f2
theorem lastKids_snoc (x : Fr) (ks : List Tr) : ∀ l : List Fr, lastKids (l ++ [x]) ks = l ++ [⟨x.name, x.attrs, ks⟩]
  | [] => rfl
  | [f] => rfl
  | f :: f2 :: l => by
    show f :: lastKids (f2 :: l ++ [x]) ks = _
    rw [lastKids_snoc x ks (f2 :: l)]
    rfl
theorem lastKids_ne : ∀ {fs : List Fr} (ks : List Tr), fs ≠ [] → lastKids fs ks ≠ []
  | [], _, h => absurd rfl h
  | [_f], _, _ => List.cons_ne_nil _ _
  | _f :: _f2 :: _l, _, _ => List.cons_ne_nil _ _
theorem Apart.app : ∀ {a b : List (Option Nat)}, Apart (a ++ b) ↔ Apart a ∧ Apart b ∧ ∀ k, some k ∈ a → some k ∉ b
  | [], b => by simp [Apart]
  | x :: a, b => by
    rw [List.cons_append, Apart, Apart, Apart.app]
    constructor
    · rintro ⟨h1, h2, h3, h4⟩
      refine ⟨⟨fun k e hm => h1 k e (List.mem_append_left _ hm), h2⟩, h3, fun k hm hb => ?_⟩
      rcases List.mem_cons.1 hm with h5 | h5
      · exact h1 k h5.symm (List.mem_append_right _ hb)
      · exact h4 k h5 hb
    · rintro ⟨⟨h1, h2⟩, h3, h4⟩
      refine ⟨fun k e hm => ?_, h2, h3, fun k hm => h4 k (List.mem_cons_of_mem _ hm)⟩
      rcases List.mem_append.1 hm with h5 | h5
      · exact h1 k e h5
      · exact h4 k (by rw [e]; exact List.mem_cons_self ..) h5
theorem Apart.one (b : Option Nat) : Apart [b] := ⟨(fun _ _ h => by cases h), trivial⟩
/-- What is told of the innermost element. -/
structure Inn (w : World) (n0 gb : Nat) (S : Nat → Prop) (ks : List Tr) (fs : List Fr) (nodes : Nat) (ov : Value) (ps : List Addr) (front : List Addr) (b o : Nat) (vl : Value) (rows : List Nr) : Prop where
  pts : ps = front ++ [⟨b, o, none⟩]
  row : Lv w n0 vl rows
  nds : NodesIn w S rows (innerK ks fs)
  cel : w.cell? ⟨b, o + 4, none⟩ = some vl
  frz : w.frozen? ⟨b, o + 4, none⟩ = false
  nam : ∀ f fs', fs = f :: fs' → w.cell? ⟨b, o + 1, none⟩ = some (.string (strB (lastF f fs').name))
  nS : ¬ S b
  nv : vl.ownBlock ≠ some b
  no : ov.ownBlock ≠ some b
  nvS : ∀ k, vl.ownBlock = some k → ¬ S k ∧ k ≠ gb ∧ ov.ownBlock ≠ some k
  lo : n0 ≤ b
  put : ∀ (w' : World) (O : Nat → Prop) (vl' : Value) (rows' : List Nr) (ks2 : List Tr), Keeps O w w' → (∀ k, O k → k = b ∨ vl.ownBlock = some k ∨ w.heap.size ≤ k) → w'.heap[b]? = (w.setCell ⟨b, o + 4, none⟩ vl').heap[b]? → Lv w' n0 vl' rows' → (∀ k, vl'.ownBlock = some k → vl.ownBlock = some k ∨ w.heap.size ≤ k) → NodesIn w' S rows' ks2 → ∃ v' bs', GrW w' n0 gb S (match fs with | [] => ks2 | _ => ks) (lastKids fs ks2) nodes v' ov ps bs'
theorem GrW.inn {w : World} {n0 gb nodes : Nat} {S : Nat → Prop} {ks : List Tr} {fs : List Fr} {v ov : Value} {ps : List Addr} {bs : List (Option Nat)} (h : GrW w n0 gb S ks fs nodes v ov ps bs) (hS : ∀ k, S k → k < w.heap.size) (hn : n0 ≤ gb) : ∃ front b o vl rows, Inn w n0 gb S ks fs nodes ov ps front b o vl rows := by
  have hgl := lt_of_block h.blk
  have hov : ∀ k, ov.ownBlock = some k → k < w.heap.size := fun k e => (h.opn.lt k e).2
  cases fs with
  | nil =>
    obtain ⟨e1, e2, rows, h1, h2⟩ := h.spi
    have hnv : v.ownBlock ≠ some gb := fun e => (h.off gb (by rw [e2, e]; exact List.mem_cons_self ..)).2.1 rfl
    refine ⟨[], gb, 0, v, rows, e1, h1, h2, h.cells.1, h.cells.2.2.2.1, (fun _ _ e => by cases e), h.sgb, hnv, (fun e => (h.sov gb e).2 rfl), (fun k e => h.off k (by rw [e2, e]; exact List.mem_cons_self ..)), hn, ?_⟩
    intro w' O vl' rows' ks2 hk hO hb hlv hvl hnd
    have hblk : w'.heap[gb]? = some (growB vl' ov nodes) := by
      rw [hb]
      exact block_setCell (i := 4) h.blk vl'
    refine ⟨vl', [vl'.ownBlock], hblk, ownsRow_keep h.opn hk (fun k e hOk => ?_), ⟨e1, rfl, rows', hlv, hnd⟩, Apart.one _, fun k e => ?_, h.sgb, h.sov, h.old⟩
    · rcases hO k hOk with h3 | h3 | h3
      · exact (h.sov k e).2 h3
      · exact (h.off k (by rw [e2, h3]; exact List.mem_cons_self ..)).2.2 e
      · have := hov k e; omega
    · have e5 : vl'.ownBlock = some k := (List.mem_singleton.1 e).symm
      rcases hvl k e5 with h3 | h3
      · exact h.off k (by rw [e2, h3]; exact List.mem_cons_self ..)
      · refine ⟨fun hs => by have := hS k hs; omega, by omega, fun e6 => by have := hov k e6; omega⟩
  | cons f fs =>
    obtain ⟨front, g, off, vl, bf, e1, e2, e3, e4, ⟨rows, h1, h2⟩, e5, e6, e7, e8⟩ := Spine.focus h.spi h.dis
    have hgin : some g ∈ bs := by rw [e2]; exact List.mem_append_left _ e3
    have hog := h.off g hgin
    have hap := Apart.app.1 (e2 ▸ h.dis)
    have hvin : ∀ k, vl.ownBlock = some k → some k ∈ bs := fun k e => by rw [e2, e]; simp
    refine ⟨front, g, off, vl, rows, e1, h1, h2, e5, e7, (fun f' fs' e => by cases e; exact e6), hog.1, ?_, hog.2.2, (fun k e => h.off k (hvin k e)), e4, ?_⟩
    · intro e
      exact hap.2.2 g e3 (by rw [e]; exact List.mem_cons_self ..)
    intro w' O vl' rows' ks2 hk hO hb hlv hvl hnd
    have hSO : ∀ k, S k → ¬ O k := fun k hs hOk => by
      rcases hO k hOk with h3 | h3 | h3
      · exact hog.1 (h3 ▸ hs)
      · exact (h.off k (hvin k h3)).1 hs
      · have := hS k hs; omega
    have hlt : ∀ k, some k ∈ bs → k < w.heap.size := fun k e => by
      have : ∀ {fs : List Fr} {p : Addr} {v : Value} {ks : List Tr} {ps : List Addr} {bs : List (Option Nat)}, Spine w n0 S p v ks fs ps bs → ∀ k, some k ∈ bs → k < w.heap.size := by
        intro fs
        induction fs with
        | nil =>
          intro p v ks ps bs h k e
          obtain ⟨_, rfl, rows, h1, _⟩ := h
          exact h1.lt k (List.mem_singleton.1 e).symm
        | cons f fs ih =>
          intro p v ks ps bs h k e
          obtain ⟨rows, r, g, c, ps', bs', rfl, rfl, rfl, h1, _, _, _, _, _, h7⟩ := h
          rcases List.mem_cons.1 e with e | e
          · cases e; exact h1.lt k rfl
          · exact ih h7 k e
      exact this h.spi k e
    have hsp := e8 w' S O vl' [] ks2 [⟨g, off, none⟩] [vl'.ownBlock] hk hSO (fun _ e => e) (fun k hkb hOk => by
      rcases hO k hOk with h3 | h3 | h3
      · exact .inl h3
      · exact .inr h3
      · have := hlt k hkb; omega) hb ⟨rfl, rfl, rows', hlv, hnd⟩
    rw [List.append_nil, ← e1] at hsp
    have hgO : ¬ O gb := fun hOk => by
      rcases hO gb hOk with h3 | h3 | h3
      · exact hog.2.1 h3.symm
      · exact (h.off gb (hvin gb h3)).2.1 rfl
      · omega
    refine ⟨v, bf ++ [vl'.ownBlock], block_keep h.blk hk hgO, ownsRow_keep h.opn hk (fun k e hOk => ?_), hsp, Apart.app.2 ⟨hap.1, Apart.one _, fun k e e' => ?_⟩, fun k e => ?_, h.sgb, h.sov, h.old⟩
    · rcases hO k hOk with h3 | h3 | h3
      · exact hog.2.2 (h3 ▸ e)
      · exact (h.off k (hvin k h3)).2.2 e
      · have := hov k e; omega
    · have e9 : vl'.ownBlock = some k := (List.mem_singleton.1 e').symm
      rcases hvl k e9 with h3 | h3
      · exact hap.2.2 k e (by rw [h3]; exact List.mem_cons_self ..)
      · have := hlt k (by rw [e2]; exact List.mem_append_left _ e); omega
    · rcases List.mem_append.1 e with e | e
      · exact h.off k (by rw [e2]; exact List.mem_append_left _ e)
      · have e9 : vl'.ownBlock = some k := (List.mem_singleton.1 e).symm
        rcases hvl k e9 with h3 | h3
        · exact h.off k (hvin k h3)
        · exact ⟨fun hs => by have := hS k hs; omega, by omega, fun e6 => by have := hov k e6; omega⟩

end Go.Proofs.YtfonflbpkbibbaaGreatDoor
namespace Go.Proofs.YtfonflbpkbibbaaGreatDoor
open Go.RowKit Go.Lib Go.Joins

def nodeV (r : Nr) : Value := .agg #[.int .i64 (r.kind : Int), .string (strB r.name), .string (strB r.text), r.av, r.kv]
theorem natEq (a b : Nat) : ((a : Int) == (b : Int)) = (a == b) := by
  rw [Bool.eq_iff_iff, beq_iff_eq, beq_iff_eq]
  omega
set_option maxRecDepth 100000 in
set_option maxHeartbeats 1000000 in
theorem isElem_calls (r : Nr) (w : World) : Calls Tryz.prog 39 #[nodeV r] w (Leaves (.bool (r.kind == 1)) w) := by
  obtain ⟨k, n, t, av, kv⟩ := r
  obtain ⟨q, hq⟩ : ∃ q, (k == 1) = q := ⟨_, rfl⟩
  have hk : ((k : Int) == 1) = q := hq
  obtain ⟨sn, hsn⟩ : ∃ z, strB n = z := ⟨_, rfl⟩
  obtain ⟨st, hst⟩ : ∃ z, strB t = z := ⟨_, rfl⟩
  show Calls Tryz.prog 39 #[.agg #[.int .i64 (k : Int), .string (strB n), .string (strB t), av, kv]] w (Leaves (.bool (k == 1)) w)
  rw [hsn, hst, hq]
  clear hq hsn hst
  go_enter Tryz.func39, Tryz.ntmps39
  go_wp2_with fail
  go_ret
  exact ⟨rfl, (Below.refl _ _).alloc (Nat.le_refl _) _⟩
theorem GrW.open_form {w : World} {n0 gb nodes : Nat} {S : Nat → Prop} {ks : List Tr} {fs : List Fr} {v ov : Value} {ps : List Addr} {bs : List (Option Nat)} (h : GrW w n0 gb S ks fs nodes v ov ps bs) : ∃ ob oc, ov = .slice (some ⟨ob, 0, none⟩) ps.length oc ∧ ps.length = fs.length + 1 ∧ ps.length ≤ oc ∧ oc ≤ maxLen ∧ ∀ i p, ps[i]? = some p → w.cell? ⟨ob, i, none⟩ = some (.pointer (some p)) := by
  have hl := (Spine.lens h.spi).1
  rcases h.opn.2 with ⟨_, h0⟩ | ⟨g, cap, cur, h1, hg, hgb, hcap, hcm, hcur, htk⟩
  · omega
  · refine ⟨g, cap, h1, hl, hcap, hcm, fun i p hp => ?_⟩
    have := h.opn.cells (g := g) (by rw [h1]; rfl) i (.pointer (some p)) (by rw [ptrC, List.getElem?_map, hp]; rfl)
    rwa [Addr.add_mid, Nat.zero_add] at this
set_option maxRecDepth 100000 in
set_option maxHeartbeats 1000000 in
theorem outside_calls {w : World} {n0 gb nodes : Nat} {S : Nat → Prop} {ks : List Tr} {fs : List Fr} {v ov : Value} {ps : List Addr} {bs : List (Option Nat)} (h : GrW w n0 gb S ks fs nodes v ov ps bs) : Calls Tryz.prog 40 #[.pointer (some ⟨gb, 0, none⟩)] w (Leaves (.bool (decide (fs = []))) w) := by
  obtain ⟨ob, oc, rfl, hl, _, _, _⟩ := h.open_form
  have e5 := h.cells.2.1
  obtain ⟨q, hq⟩ : ∃ q, decide (fs = []) = q := ⟨_, rfl⟩
  have hz : (((ps.length : Nat) : Int) == 1) = q := by
    rw [← hq, hl]
    cases fs with
    | nil => rfl
    | cons f fs =>
      rw [decide_eq_false (List.cons_ne_nil _ _), beq_eq_false_iff_ne, List.length_cons]
      omega
  obtain ⟨n, hn⟩ : ∃ n, ps.length = n := ⟨_, rfl⟩
  rw [hq]
  rw [hn] at e5 hz
  clear h hl hq hn
  go_enter Tryz.func40, Tryz.ntmps40
  go_wp2_with fail
  go_ret
  exact ⟨rfl, Below.refl _ _⟩
set_option maxRecDepth 100000 in
set_option maxHeartbeats 1000000 in
theorem inner_calls {w : World} {n0 gb nodes : Nat} {S : Nat → Prop} {ks : List Tr} {fs : List Fr} {v ov : Value} {ps : List Addr} {bs : List (Option Nat)} (h : GrW w n0 gb S ks fs nodes v ov ps bs) {front : List Addr} {b o : Nat} (hp : ps = front ++ [⟨b, o, none⟩]) : Calls Tryz.prog 101 #[.pointer (some ⟨gb, 0, none⟩)] w (Leaves (.pointer (some ⟨b, o, none⟩)) w) := by
  obtain ⟨ob, oc, rfl, hl, hoc, hom, hcell⟩ := h.open_form
  have e5 := h.cells.2.1
  have hlen : ps.length = front.length + 1 := by rw [hp]; simp
  have c0 := hcell front.length ⟨b, o, none⟩ (by rw [hp]; simp)
  obtain ⟨m, hm⟩ : ∃ m, front.length = m := ⟨_, rfl⟩
  rw [hlen, hm] at e5 hoc
  rw [hm] at c0
  have hwm : IntKind.i64.wrap (m : Int) = (m : Int) := IntWalk.i64_in _ (by unfold maxLen at hom; omega)
  have h0 : (0 : Int) ≤ (m : Int) := by omega
  have h1 : (m : Int) < ((m + 1 : Nat) : Int) := by omega
  clear h hcell hlen hp hl hm
  go_enter Tryz.func101, Tryz.ntmps101
  go_wp2_with fail
  go_quiet (fail)
  go_wp2_with fail
  go_ret
  exact ⟨rfl, below_drewNv (Below.refl _ _) _⟩
set_option maxRecDepth 100000 in
set_option maxHeartbeats 1000000 in
theorem newest_calls {w : World} {n0 gb nodes : Nat} {S : Nat → Prop} {ks : List Tr} {fs : List Fr} {v ov : Value} {ps : List Addr} {bs : List (Option Nat)} (h : GrW w n0 gb S ks fs nodes v ov ps bs) {front : List Addr} {b o : Nat} {vl : Value} {rows : List Nr} (hi : Inn w n0 gb S ks fs nodes ov ps front b o vl rows) : Calls Tryz.prog 100 #[.pointer (some ⟨gb, 0, none⟩)] w (Leaves (match vl.ownBlock, rows.length with | some g, n + 1 => .pointer (some ⟨g, n * 5, none⟩) | _, _ => .pointer none) w) := by
  have HIN := Lib.hid (inner_calls h hi.pts)
  have hc := hi.cel
  obtain ⟨a, c, rfl, h1, h2, h3⟩ := hi.row.form
  obtain ⟨n, hn⟩ : ∃ n, rows.length = n := ⟨_, rfl⟩
  rw [hn] at hc h1 ⊢
  cases n with
  | zero =>
    have hr : (match (Value.slice a 0 c).ownBlock, 0 with | some g, n + 1 => Value.pointer (some ⟨g, n * 5, none⟩) | _, _ => .pointer none) = .pointer none := by
      cases (Value.slice a 0 c).ownBlock <;> rfl
    rw [hr]
    clear h hi h3 hn hr
    go_enter Tryz.func100, Tryz.ntmps100
    go_wp2_with fail
    with_reducible refine HIN.out.mono ?_
    rintro e w1 ⟨rfl, hb⟩
    have HB := Lib.hid hb
    replace hc := (hb.cell (lt_of_cell hc)).trans hc
    clear hb
    go_wp2_with fail
    go_ret
    exact ⟨rfl, HB.out⟩
  | succ n =>
    rcases h3 with ⟨_, h4, _⟩ | ⟨g, rfl⟩
    · rw [h4] at hn; cases hn
    have hwm : IntKind.i64.wrap (n : Int) = (n : Int) := IntWalk.i64_in _ (by unfold maxLen at h2; omega)
    have hz2 : ¬ (n : Int) + 1 = 0 := by omega
    have hz : (((n + 1 : Nat) : Int) == 0) = false := by rw [beq_eq_false_iff_ne]; omega
    have hi0 : (0 : Int) ≤ (n : Int) := by omega
    have hi1 : (n : Int) < ((n + 1 : Nat) : Int) := by omega
    show Calls Tryz.prog 100 #[.pointer (some ⟨gb, 0, none⟩)] w (Leaves (.pointer (some ⟨g, n * 5, none⟩)) w)
    clear h hi hn
    go_enter Tryz.func100, Tryz.ntmps100
    go_wp2_with fail
    with_reducible refine HIN.out.mono ?_
    rintro e w1 ⟨rfl, hb⟩
    have HB := Lib.hid hb
    replace hc := (hb.cell (lt_of_cell hc)).trans hc
    clear hb
    go_wp2_with fail
    go_ret
    exact ⟨rfl, HB.out⟩

end Go.Proofs.YtfonflbpkbibbaaGreatDoor
namespace Go.Proofs.YtfonflbpkbibbaaGreatDoor
open Go.RowKit Go.Lib Go.Joins

/-- Where the first element stands. -/
def elemAt : List Tr → Nat → Int
  | [], _ => -1
  | t :: l, i => if t.kind = 1 then (i : Int) else elemAt l (i + 1)
theorem elemAt_any : ∀ (l : List Tr) (i : Nat), decide ((0 : Int) ≤ elemAt l i) = l.any fun t => t.kind == 1
  | [], _ => rfl
  | t :: l, i => by
    rw [elemAt, List.any_cons]
    by_cases h : t.kind = 1
    · rw [if_pos h, h]
      simp
    · rw [if_neg h, beq_eq_false_iff_ne.2 h, Bool.false_or]
      exact elemAt_any l (i + 1)
theorem NodesIn.kinds {w : World} {S : Nat → Prop} {rows : List Nr} {ks : List Tr} (h : NodesIn w S rows ks) : rows.map (fun r => r.kind) = ks.map Tr.kind := by
  apply List.ext_getElem?
  intro i
  rw [List.getElem?_map, List.getElem?_map]
  by_cases hi : i < rows.length
  · have hi2 : i < ks.length := by rw [← h.1]; exact hi
    rw [List.getElem?_eq_getElem hi, List.getElem?_eq_getElem hi2]
    have := (h.2 i _ _ (List.getElem?_eq_getElem hi) (List.getElem?_eq_getElem hi2)).kids.1
    simpa using this
  · rw [List.getElem?_eq_none (by omega), List.getElem?_eq_none (by rw [← h.1]; omega)]
    rfl
def rowAt : List Nr → Nat → Int
  | [], _ => -1
  | r :: l, i => if r.kind = 1 then (i : Int) else rowAt l (i + 1)
theorem rowAt_eq : ∀ {rows : List Nr} {ks : List Tr}, rows.map (fun r => r.kind) = ks.map Tr.kind → ∀ i, rowAt rows i = elemAt ks i
  | [], [], _, _ => rfl
  | [], _ :: _, h, _ => by cases h
  | _ :: _, [], h, _ => by cases h
  | r :: rows, t :: ks, h, i => by
    rw [List.map_cons, List.map_cons] at h
    injection h with h1 h2
    rw [rowAt, elemAt, h1, rowAt_eq h2]
set_option maxRecDepth 100000 in
set_option maxHeartbeats 2000000 in
theorem index_calls {w : World} {S : Nat → Prop} {v : Value} {rows : List Nr} (h : RowIn w S v rows) : Calls Tryz.prog 38 #[v, .func (.func 39) #[] #[]] w (Leaves (.int .i64 (rowAt rows 0)) w) := by
  obtain ⟨a, c, rfl, hc, hm, hn, hr⟩ := h
  obtain ⟨n, hl⟩ : ∃ n, rows.length = n := ⟨_, rfl⟩
  obtain ⟨Q, hQ⟩ : ∃ Q, rowAt rows 0 = Q := ⟨_, rfl⟩
  rw [hl, hQ]
  have HQ : Hid (rowAt (rows.drop 0) 0 = Q) := Lib.hid (by rw [List.drop_zero]; exact hQ)
  have HR := Lib.hid hr
  have HL := Lib.hid hl
  have HMX : Hid (n ≤ maxLen) := Lib.hid (by omega)
  clear hQ hr hl hc hm hn
  go_enter Tryz.func38, Tryz.ntmps38
  go_wp2_with fail
  go_loopg [8] n (fun g s wr => ∃ i : Nat, s = .int .i64 (i : Int) ∧ g + i = n ∧ rowAt (rows.drop i) i = Q ∧ Below w.heap.size w wr)
  case atStart => exact ⟨0, rfl, rfl, HQ.out, Below.refl _ _⟩
  case round =>
    obtain ⟨i, rfl, hg, hq, hb⟩ := hrel
    have HQ2 := Lib.hid hq
    have HB := Lib.hid hb
    clear hq hb HQ
    cases gk with
    | zero =>
      obtain rfl : i = n := by omega
      have hge : ¬ ((i : Int) < (i : Int)) := by omega
      have HF : Hid (Q = -1) := Lib.hid (by rw [← HQ2.out, List.drop_eq_nil_of_le (by have := HL.out; omega)]; rfl)
      go_wp2_with fail
      go_ret
      exact ⟨by rw [HF.out]; rfl, HB.out⟩
    | succ g =>
      have hlt : (i : Int) < (n : Int) := by omega
      have hi0 : (0 : Int) ≤ (i : Int) := by omega
      have hadd : IntKind.i64.wrap ((i : Int) + 1) = ((i + 1 : Nat) : Int) := IntWalk.i64_in _ (by have := HMX.out; unfold maxLen at this; omega)
      obtain ⟨x, hx⟩ : ∃ x, rows[i]? = some x := ⟨_, List.getElem?_eq_getElem (by have := HL.out; omega)⟩
      have hd1 : rows.drop i = x :: rows.drop (i + 1) := by
        rw [List.drop_eq_getElem_cons (by have := HL.out; omega)]
        rw [List.getElem?_eq_getElem (by have := HL.out; omega)] at hx
        rw [Option.some.inj hx]
      rcases HR.out with h0 | ⟨b, o, rfl, _, hcell⟩
      · rw [h0] at hx; simp at hx
      obtain ⟨y0, y1, y2, y3, y4⟩ := (hcell i x hx).keep (keeps_below HB.out Non) (fun e => e)
      obtain ⟨xk, xn, xt, xa, xv⟩ := x
      dsimp only at y0 y1 y2 y3 y4
      have HE := Lib.hid (isElem_calls ⟨xk, xn, xt, xa, xv⟩ wr)
      unfold nodeV at HE
      dsimp only at HE
      obtain ⟨sn, hsn⟩ : ∃ s, strB xn = s := ⟨_, rfl⟩
      obtain ⟨st, hst⟩ : ∃ s, strB xt = s := ⟨_, rfl⟩
      rw [hsn] at y1 HE
      rw [hst] at y2 HE
      have HD1 := Lib.hid hd1
      clear hx hd1 hcell hsn hst
      by_cases h1 : xk = 1
      · have hb1 : (xk == 1) = true := by rw [h1]; rfl
        rw [hb1] at HE
        have HF : Hid (Q = (i : Int)) := Lib.hid (by rw [← HQ2.out, HD1.out, rowAt, if_pos h1])
        clear h1 hb1
        go_wp2_with fail
        with_reducible refine HE.out.mono ?_
        rintro e w2 ⟨rfl, hb⟩
        have HB2 := Lib.hid (below_then HB.out hb)
        clear hb HE
        go_wp2_with fail
        go_ret
        exact ⟨by rw [HF.out]; rfl, HB2.out⟩
      · have hb1 : (xk == 1) = false := beq_eq_false_iff_ne.2 h1
        rw [hb1] at HE
        have HF : Hid (rowAt (rows.drop (i + 1)) (i + 1) = Q) := Lib.hid (by rw [← HQ2.out, HD1.out, rowAt, if_neg h1])
        clear h1 hb1
        go_wp2_with fail
        with_reducible refine HE.out.mono ?_
        rintro e w2 ⟨rfl, hb⟩
        have HB2 := Lib.hid (below_then HB.out hb)
        clear hb HE
        go_wp2_with fail
        go_roundg g
        case measure => omega
        case rel => exact ⟨i + 1, rfl, by omega, HF.out, HB2.out⟩
set_option maxRecDepth 100000 in
set_option maxHeartbeats 2000000 in
theorem has_calls {w : World} {S : Nat → Prop} {v : Value} {rows : List Nr} (h : RowIn w S v rows) : Calls Tryz.prog 103 #[v, .func (.func 39) #[] #[]] w (Leaves (.bool (rows.any fun r => r.kind == 1)) w) := by
  have HI := Lib.hid (index_calls h)
  obtain ⟨Q, hQ⟩ : ∃ Q, rowAt rows 0 = Q := ⟨_, rfl⟩
  have hany : decide ((0 : Int) ≤ Q) = rows.any fun r => r.kind == 1 := by
    rw [← hQ]
    have hh : ∀ (l : List Nr) (i : Nat), decide ((0 : Int) ≤ rowAt l i) = l.any fun r => r.kind == 1 := by
      intro l
      induction l with
      | nil => intro i; rfl
      | cons t l ih =>
        intro i
        rw [rowAt, List.any_cons]
        by_cases h : t.kind = 1
        · rw [if_pos h, h]
          simp
        · rw [if_neg h, beq_eq_false_iff_ne.2 h, Bool.false_or]
          exact ih (i + 1)
    exact hh rows 0
  rw [hQ] at HI
  rw [← hany]
  clear hany hQ h
  go_enter Tryz.func103, Tryz.ntmps103
  go_wp2_with fail
  with_reducible refine HI.out.mono ?_
  rintro e w2 ⟨rfl, hb⟩
  have HB2 := Lib.hid hb
  clear hb
  go_wp2_with fail
  go_ret
  exact ⟨rfl, HB2.out⟩

end Go.Proofs.YtfonflbpkbibbaaGreatDoor
