/-
 The program's small functions on a tree that grows: which element is the innermost, what was laid last, whether a node is an element, where the first one stands. Condition: the tree lies in memory.
-/
import Derived.Test.YtocnedpclllbhaaGreatDoorXTr
import Derived.Test.YtocnedpclllbhaaGreatDoorXL
namespace Go.Proofs.YtocnedpclllbhaaGreatDoor
open Go.RowKit Go.Lib Go.Joins

/-- A slice of attributes in memory, in blocks that S has. -/
def AttIn (w : World) (S : Nat → Prop) (v : Value) (l : List (List UInt8 × List UInt8)) : Prop :=
  ∃ a c, v = .slice a l.length c ∧ l.length ≤ c ∧ c ≤ maxLen ∧ (a = none → c = 0) ∧ (l = [] ∨ ∃ b o, a = some ⟨b, o, none⟩ ∧ S b ∧ ∀ (i : Nat) (x : List UInt8 × List UInt8), l[i]? = some x → w.cell? ⟨b, o + i * 2, none⟩ = some (.string (strB x.1)) ∧ w.cell? ⟨b, o + i * 2 + 1, none⟩ = some (.string (strB x.2)))
theorem bytes_ne {a b : ByteArray} (h : a ≠ b) : (a.toList == b.toList) = false := by
  rw [beq_eq_false_iff_ne, ByteArray.toList_eq, ByteArray.toList_eq]
  exact fun e => h (ByteArray.ext (Array.toList_inj.1 e))

/-- A node's own cells. -/
structure Nr where
  kind : Int
  name : List UInt8
  text : List UInt8
  av : Value
  kv : Value
def nrC : List Nr → List Value
  | [] => []
  | x :: t => .int .i64 (x.kind : Int) :: .string (strB x.name) :: .string (strB x.text) :: x.av :: x.kv :: nrC t
theorem nrC_app : ∀ (l m : List Nr), nrC (l ++ m) = nrC l ++ nrC m
  | [], _ => rfl
  | x :: t, m => by rw [List.cons_append]; show _ :: _ :: _ :: _ :: _ :: nrC (t ++ m) = _; rw [nrC_app t m]; rfl
theorem nrC_len : ∀ l : List Nr, (nrC l).length = l.length * 5
  | [] => rfl
  | x :: t => by show (nrC t).length + 1 + 1 + 1 + 1 + 1 = _; rw [nrC_len t, List.length_cons]; omega
theorem nrC_at : ∀ {l : List Nr} {i : Nat} {x : Nr}, l[i]? = some x → (nrC l)[i * 5]? = some (.int .i64 (x.kind : Int)) ∧ (nrC l)[i * 5 + 1]? = some (.string (strB x.name)) ∧ (nrC l)[i * 5 + 2]? = some (.string (strB x.text)) ∧ (nrC l)[i * 5 + 3]? = some x.av ∧ (nrC l)[i * 5 + 4]? = some x.kv
  | [], _, _, h => by simp at h
  | y :: t, 0, x, h => by
    obtain rfl : y = x := by simpa using h
    exact ⟨rfl, rfl, rfl, rfl, rfl⟩
  | y :: t, i + 1, x, h => by
    rw [List.getElem?_cons_succ] at h
    obtain ⟨h1, h2, h3, h4, h5⟩ := nrC_at h
    rw [show (i + 1) * 5 = i * 5 + 1 + 1 + 1 + 1 + 1 by omega]
    exact ⟨h1, h2, h3, h4, h5⟩
/-- A node's cells at a place. -/
def NrIn (w : World) (b p : Nat) (x : Nr) : Prop :=
  w.cell? ⟨b, p, none⟩ = some (.int .i64 (x.kind : Int)) ∧ w.cell? ⟨b, p + 1, none⟩ = some (.string (strB x.name)) ∧ w.cell? ⟨b, p + 2, none⟩ = some (.string (strB x.text)) ∧ w.cell? ⟨b, p + 3, none⟩ = some x.av ∧ w.cell? ⟨b, p + 4, none⟩ = some x.kv
/-- A slice of nodes' cells. -/
def RowIn (w : World) (S : Nat → Prop) (v : Value) (l : List Nr) : Prop :=
  ∃ a c, v = .slice a l.length c ∧ l.length ≤ c ∧ c ≤ maxLen ∧ (a = none → c = 0) ∧ (l = [] ∨ ∃ b o, a = some ⟨b, o, none⟩ ∧ S b ∧ ∀ (i : Nat) (x : Nr), l[i]? = some x → NrIn w b (o + i * 5) x)
/-- A node with all that lies in it. -/
inductive NodeIn (w : World) (S : Nat → Prop) : Nr → Tr → Prop
  | mk (r : Nr) (attrs : List (List UInt8 × List UInt8)) (kids : List Tr) (rows : List Nr) (ha : AttIn w S r.av attrs) (hk : RowIn w S r.kv rows) (hl : rows.length = kids.length) (h : ∀ (i : Nat) (x : Nr) (t : Tr), rows[i]? = some x → kids[i]? = some t → NodeIn w S x t) : NodeIn w S r (.mk r.kind r.name r.text attrs kids)
/-- Nodes with all that lies in them. -/
def NodesIn (w : World) (S : Nat → Prop) (rows : List Nr) (ks : List Tr) : Prop :=
  rows.length = ks.length ∧ ∀ (i : Nat) (x : Nr) (t : Tr), rows[i]? = some x → ks[i]? = some t → NodeIn w S x t

theorem cell_keep {w w' : World} {O : Nat → Prop} {b p : Nat} {v : Value} (h : w.cell? ⟨b, p, none⟩ = some v) (hk : Keeps O w w') (hb : ¬ O b) : w'.cell? ⟨b, p, none⟩ = some v :=
  (World.cell?_of_block (hk.block b (lt_of_cell h) hb)).trans h
theorem NrIn.keep {w w' : World} {O : Nat → Prop} {b p : Nat} {x : Nr} (h : NrIn w b p x) (hk : Keeps O w w') (hb : ¬ O b) : NrIn w' b p x :=
  ⟨cell_keep h.1 hk hb, cell_keep h.2.1 hk hb, cell_keep h.2.2.1 hk hb, cell_keep h.2.2.2.1 hk hb, cell_keep h.2.2.2.2 hk hb⟩
theorem AttIn.keep {w w' : World} {S S' O : Nat → Prop} {v : Value} {l : List (List UInt8 × List UInt8)} (h : AttIn w S v l) (hk : Keeps O w w') (hS : ∀ k, S k → ¬ O k) (hs : ∀ k, S k → S' k) : AttIn w' S' v l := by
  obtain ⟨a, c, h1, h2, h3, h4, h5⟩ := h
  refine ⟨a, c, h1, h2, h3, h4, ?_⟩
  rcases h5 with h5 | ⟨b, o, h6, h7, h8⟩
  · exact .inl h5
  · exact .inr ⟨b, o, h6, hs b h7, fun i x hx => ⟨cell_keep (h8 i x hx).1 hk (hS b h7), cell_keep (h8 i x hx).2 hk (hS b h7)⟩⟩
theorem RowIn.keep {w w' : World} {S S' O : Nat → Prop} {v : Value} {l : List Nr} (h : RowIn w S v l) (hk : Keeps O w w') (hS : ∀ k, S k → ¬ O k) (hs : ∀ k, S k → S' k) : RowIn w' S' v l := by
  obtain ⟨a, c, h1, h2, h3, h4, h5⟩ := h
  refine ⟨a, c, h1, h2, h3, h4, ?_⟩
  rcases h5 with h5 | ⟨b, o, h6, h7, h8⟩
  · exact .inl h5
  · exact .inr ⟨b, o, h6, hs b h7, fun i x hx => (h8 i x hx).keep hk (hS b h7)⟩
theorem NodeIn.keep {w w' : World} {S S' O : Nat → Prop} {r : Nr} {t : Tr} (h : NodeIn w S r t) (hk : Keeps O w w') (hS : ∀ k, S k → ¬ O k) (hs : ∀ k, S k → S' k) : NodeIn w' S' r t := by
  induction h with
  | mk r attrs kids rows ha hr hl _ ih => exact .mk r attrs kids rows (ha.keep hk hS hs) (hr.keep hk hS hs) hl ih
theorem NodesIn.keep {w w' : World} {S S' O : Nat → Prop} {rows : List Nr} {ks : List Tr} (h : NodesIn w S rows ks) (hk : Keeps O w w') (hS : ∀ k, S k → ¬ O k) (hs : ∀ k, S k → S' k) : NodesIn w' S' rows ks :=
  ⟨h.1, fun i x t hx ht => (h.2 i x t hx ht).keep hk hS hs⟩
theorem NodesIn.nil (w : World) (S : Nat → Prop) : NodesIn w S [] [] := ⟨rfl, fun i _ _ h => by simp at h⟩
theorem NodesIn.snoc {w : World} {S : Nat → Prop} {rows : List Nr} {ks : List Tr} (h : NodesIn w S rows ks) {r : Nr} {t : Tr} (hn : NodeIn w S r t) : NodesIn w S (rows ++ [r]) (ks ++ [t]) := by
  refine ⟨by simp [h.1], fun i x y hx hy => ?_⟩
  by_cases hi : i < rows.length
  · rw [List.getElem?_append_left hi] at hx
    rw [List.getElem?_append_left (by rw [← h.1]; exact hi)] at hy
    exact h.2 i x y hx hy
  · rw [List.getElem?_append_right (by omega)] at hx
    rw [List.getElem?_append_right (by rw [← h.1]; omega), ← h.1] at hy
    cases hj : i - rows.length with
    | zero =>
      rw [hj] at hx hy
      cases hx
      cases hy
      exact hn
    | succ j => rw [hj] at hx; simp at hx
theorem NodeIn.kids {w : World} {S : Nat → Prop} {r : Nr} {t : Tr} (h : NodeIn w S r t) : r.kind = t.kind ∧ r.name = t.name ∧ r.text = t.text ∧ AttIn w S r.av t.attrs ∧ ∃ rows, RowIn w S r.kv rows ∧ NodesIn w S rows t.kids := by
  cases h with
  | mk r attrs kids rows ha hr hl h => exact ⟨rfl, rfl, rfl, ha, rows, hr, hl, h⟩
theorem RowIn.nil (w : World) (S : Nat → Prop) : RowIn w S (.slice none 0 0) [] := ⟨none, 0, rfl, Nat.le_refl _, Nat.zero_le _, fun _ => rfl, .inl rfl⟩
theorem AttIn.nil (w : World) (S : Nat → Prop) : AttIn w S (.slice none 0 0) [] := ⟨none, 0, rfl, Nat.le_refl _, Nat.zero_le _, fun _ => rfl, .inl rfl⟩
/-- A node without children. -/
theorem NodeIn.leaf {w : World} {S : Nat → Prop} {k : Int} {n t : List UInt8} {av : Value} {ats : List (List UInt8 × List UInt8)} (ha : AttIn w S av ats) : NodeIn w S ⟨k, n, t, av, .slice none 0 0⟩ (.mk k n t ats []) :=
  .mk ⟨k, n, t, av, .slice none 0 0⟩ ats [] [] ha (RowIn.nil w S) rfl (fun i _ _ h => by simp at h)
theorem infoN : (Tryz.prog.info? 25).map (fun i => (i.zero, i.size, i.bytes)) = some (some (.agg #[.int .i64 0, .string ⟨#[]⟩, .string ⟨#[]⟩, .slice none 0 0, .slice none 0 0]), 5, 88) := by kernel_rfl
theorem infoP : (Tryz.prog.info? 49).map (fun i => (i.zero, i.size, i.bytes)) = some (some (.pointer none), 1, 8) := by kernel_rfl

/-- A row of nodes of the call's own. -/
structure Lv (w : World) (n0 : Nat) (v : Value) (rows : List Nr) : Prop where
  row : w.ownsRow 0 25 5 v rows.length (nrC rows)
  new : ∀ k, v.ownBlock = some k → n0 ≤ k
theorem Lv.keep {w w' : World} {O : Nat → Prop} {n0 : Nat} {v : Value} {rows : List Nr} (h : Lv w n0 v rows) (hk : Keeps O w w') (hO : ∀ k, v.ownBlock = some k → ¬ O k) : Lv w' n0 v rows := ⟨ownsRow_keep h.row hk hO, h.new⟩
theorem Lv.nil (w : World) (n0 : Nat) : Lv w n0 (.slice none 0 0) [] := ⟨World.ownsRow_nil _ _ _ _, fun _ e => by cases e⟩
theorem Lv.form {w : World} {n0 : Nat} {v : Value} {rows : List Nr} (h : Lv w n0 v rows) : ∃ a c, v = .slice a rows.length c ∧ rows.length ≤ c ∧ c ≤ maxLen ∧ ((a = none ∧ rows = [] ∧ c = 0) ∨ ∃ g, a = some ⟨g, 0, none⟩) := by
  rcases h.row.2 with ⟨h1, h0⟩ | ⟨g, cap, cur, h1, hg, hgb, hcap, hcm, hcur, htk⟩
  · exact ⟨none, 0, by rw [h1, h0], by omega, Nat.zero_le _, .inl ⟨rfl, List.length_eq_zero_iff.1 h0, rfl⟩⟩
  · exact ⟨_, cap, h1, hcap, hcm, .inr ⟨g, rfl⟩⟩
theorem Lv.cells {w : World} {n0 : Nat} {v : Value} {rows : List Nr} (h : Lv w n0 v rows) {g : Nat} (hv : v.ownBlock = some g) {i : Nat} {x : Nr} (hx : rows[i]? = some x) : NrIn w g (i * 5) x := by
  have hc := h.row.cells (g := g) hv
  obtain ⟨x1, x2, x3, x4, x5⟩ := nrC_at hx
  have y1 := hc _ _ x1
  have y2 := hc _ _ x2
  have y3 := hc _ _ x3
  have y4 := hc _ _ x4
  have y5 := hc _ _ x5
  rw [Addr.add_mid, Nat.zero_add] at y1 y2 y3 y4 y5
  exact ⟨y1, y2, y3, y4, y5⟩
theorem Lv.lt {w : World} {n0 : Nat} {v : Value} {rows : List Nr} (h : Lv w n0 v rows) : ∀ k, v.ownBlock = some k → k < w.heap.size := fun k e => (h.row.lt k e).2
theorem Lv.rowIn {w : World} {n0 : Nat} {v : Value} {rows : List Nr} (h : Lv w n0 v rows) (S : Nat → Prop) (hS : ∀ k, v.ownBlock = some k → S k) : RowIn w S v rows := by
  obtain ⟨a, c, h1, h2, h3, h4⟩ := h.form
  rcases h4 with ⟨rfl, h5, rfl⟩ | ⟨g, rfl⟩
  · exact ⟨none, 0, h1, h2, h3, fun _ => rfl, .inl h5⟩
  · refine ⟨_, c, h1, h2, h3, fun e => (by cases e), .inr ⟨g, 0, rfl, hS g (by rw [h1]; rfl), fun i x hx => ?_⟩⟩
    rw [Nat.zero_add]
    exact h.cells (by rw [h1]; rfl) hx

def elemT (f : Fr) : Tr := .mk 1 f.name [] f.attrs f.kids
theorem NodeIn.elem {w : World} {S : Nat → Prop} {r : Nr} {f : Fr} {rows : List Nr} (h3 : r.kind = 1) (h4 : r.name = f.name) (h5 : r.text = []) (ha : AttIn w S r.av f.attrs) (hr : RowIn w S r.kv rows) (hn : NodesIn w S rows f.kids) : NodeIn w S r (elemT f) := by
  have := NodeIn.mk r f.attrs f.kids rows ha hr hn.1 hn.2
  rw [h3, h4, h5] at this
  exact this
/-- The cells of pointers. -/
def ptrC (l : List Addr) : List Value := l.map fun p => .pointer (some p)

def nodeV (r : Nr) : Value := .agg #[.int .i64 (r.kind : Int), .string (strB r.name), .string (strB r.text), r.av, r.kv]
set_option maxRecDepth 100000 in
set_option maxHeartbeats 1000000 in
theorem isElem_calls (r : Nr) (w : World) : Calls Tryz.prog 92 #[nodeV r] w (Leaves (.bool (r.kind == 1)) w) := by
  obtain ⟨k, n, t, av, kv⟩ := r
  obtain ⟨q, hq⟩ : ∃ q, (k == 1) = q := ⟨_, rfl⟩
  have hk : ((k : Int) == 1) = q := hq
  obtain ⟨sn, hsn⟩ : ∃ z, strB n = z := ⟨_, rfl⟩
  obtain ⟨st, hst⟩ : ∃ z, strB t = z := ⟨_, rfl⟩
  show Calls Tryz.prog 92 #[.agg #[.int .i64 (k : Int), .string (strB n), .string (strB t), av, kv]] w (Leaves (.bool (k == 1)) w)
  rw [hsn, hst, hq]
  clear hq hsn hst
  go_enter Tryz.func92, Tryz.ntmps92
  go_wp2_with fail
  go_ret
  exact ⟨rfl, (Below.refl _ _).alloc (Nat.le_refl _) _⟩
end Go.Proofs.YtocnedpclllbhaaGreatDoor
