/-
 A tree as an argument of a row, read back: it lies in memory, and has no more nodes and characters than its reading has values and letters. No condition.
-/
import Derived.Test.YtocnedpclllbhaaGreatDoorOpn
import Derived.Carry
import Derived.ChangeSlices
import Derived.Test.YtocnedpclllbhaaGreatDoorXSm
import Derived.Deep.Slices
import Derived.Deep.Fields
import Derived.Lib.SmallJoins
namespace Go.Proofs.YtocnedpclllbhaaGreatDoor
open Go.ChangeShapes Go.WideShapes Go.ChangeAt Go.RowKit

variable {H : Type} {enc : TypeId × Value → H}

theorem arg_below {W : World} {base : Nat} {spare : Nat → Bool} {held : Bool} {t : TypeId} {v : Value} {d : DataW H} {p : List MemPlace} (h : DataW.Trod enc Tryz.prog W base spare held t v d p) : ∀ x ∈ p, x.block < W.heap.size := by
  obtain ⟨m, hm⟩ := h
  exact DataW.trod_lt m _ _ _ hm
end Go.Proofs.YtocnedpclllbhaaGreatDoor
namespace Go.Proofs.YtocnedpclllbhaaGreatDoor
open Go.ChangeShapes Go.WideShapes Go.ChangeAt Go.RowKit Go.Deep Go.Joins
open Go.Proofs.YtocnedpclllbhaaGreatDoor.Rows (uptoBulk uptoBulkAll)

theorem list_of {α : Type} {P : Nat → α → Prop} : ∀ n, (∀ i, i < n → ∃ x, P i x) → ∃ l : List α, l.length = n ∧ ∀ i x, l[i]? = some x → P i x
  | 0, _ => ⟨[], rfl, fun i x h => by simp at h⟩
  | n + 1, h => by
    obtain ⟨l, hl, hp⟩ := list_of n (fun i hi => h i (by omega))
    obtain ⟨x, hx⟩ := h n (by omega)
    refine ⟨l ++ [x], by rw [List.length_append, hl]; rfl, fun i y hi => ?_⟩
    by_cases hlt : i < n
    · rw [List.getElem?_append_left (by omega)] at hi
      exact hp i y hi
    · rw [List.getElem?_append_right (by omega)] at hi
      have hi0 : i - l.length = 0 := by
        have := (List.getElem?_eq_some_iff.1 hi).1
        simp at this
        omega
      rw [hi0] at hi
      obtain rfl : x = y := by simpa using hi
      obtain rfl : i = n := by omega
      exact hx
variable {H : Type} {enc : TypeId × Value → H}

theorem open_slice_fields {P : Program} {w : World} {base : Nat} {spare : Nat → Bool} {held : Bool} {t e : TypeId} {fs : Array Field} {fuel : Nat} {cs : List Value} {x : DataW H × List MemPlace} (ht : P.underlying t = some (.slice e)) (he : P.underlying e = some (.struct fs))
    (hone : oneCellFields P fs = true) (hC : P.cellsOf e = fs.size) (h : DataW.trod enc P w base spare held fuel t cs = some x) :
    (cs = [.slice none 0 0] ∧ x = (.nil, [])) ∨
    ∃ (a : Addr) (len cap m : Nat) (D : Nat → DataW H) (Pl : Nat → List MemPlace), cs = [.slice (some a) len cap] ∧ base ≤ a.block ∧ len ≤ cap ∧ cap ≤ maxLen ∧ m = (if spare a.block then cap else len) ∧
      x = (.slice ((List.range len).map D) ((List.range (m - len)).map fun j => D (len + j)), MemPlace.row a (m * fs.size) ++ (List.range m).flatMap Pl) ∧
      ∀ i, i < m → ∃ (ys : List (DataW H × List MemPlace)) (n : Nat), D i = .agg (ys.map (·.1)) ∧ Pl i = ys.flatMap (·.2) ∧ ys.length = fs.size ∧
        ∀ (j : Nat) (f : Field), fs[j]? = some f → ∃ (v : Value) (y : DataW H × List MemPlace), w.cell? (a.add (i * fs.size + j)) = some v ∧ ys[j]? = some y ∧ DataW.trod enc P w base spare held n f.type [v] = some y := by
  rcases open_slice ht h with h0 | ⟨a, len, cap, m, n, D, Pl, hcs, hb, hl, hm, hmm, hx, hi⟩
  · exact .inl h0
  · refine .inr ⟨a, len, cap, m, D, Pl, hcs, hb, hl, hm, hmm, by rw [hC] at hx; exact hx, fun i him => ?_⟩
    obtain ⟨cs', hc, ht'⟩ := hi i him
    rw [hC] at hc
    obtain ⟨ys, n', hn', hy, hlen, hyl, hf⟩ := DataW.trod_struct he ht'
    obtain ⟨_, hcl, hat⟩ := World.cells?_some hc
    simp only [Prod.mk.injEq] at hy
    refine ⟨ys, n', hy.1, hy.2, hyl, fun j f hj => ?_⟩
    obtain ⟨ho, hk⟩ := hone_of hone j f hj
    have hjl : j < fs.size := (Array.getElem?_eq_some_iff.1 hj).1
    have hcell := hat j hjl
    have hv : cs'[j]? = some (cs'[j]'(by omega)) := List.getElem?_eq_getElem (by omega)
    have h1 := hf j f hj
    rw [ho, hk] at h1
    have hone' : (cs'.drop j).take 1 = [cs'[j]'(by omega)] := by
      rw [List.drop_eq_getElem_cons (by omega)]
      rfl
    rw [hone'] at h1
    have hys : ys[j]? = some (ys[j]'(by omega)) := List.getElem?_eq_getElem (by omega)
    refine ⟨_, _, ?_, hys, h1.trans hys⟩
    rw [← Go.Deep.add_add, hcell, hv]
theorem bulk_mem : ∀ {l : List (DataW H)} {d : DataW H}, d ∈ l → uptoBulk d ≤ uptoBulkAll l
  | x :: l, d, h => by
    rw [uptoBulkAll]
    rcases List.mem_cons.1 h with h | h
    · rw [h]; omega
    · have := bulk_mem h; omega
/-- How much a list read item by item holds. -/
theorem sum_bulk {α : Type} {f : α → Nat} {D : Nat → DataW H} : ∀ {l : List α} {o : Nat}, (∀ i x, l[i]? = some x → f x ≤ uptoBulk (D (o + i))) → (l.map f).sum ≤ uptoBulkAll ((List.range' o l.length).map D)
  | [], _, _ => Nat.zero_le _
  | x :: l, o, h => by
    have h1 := h 0 x rfl
    have h2 := sum_bulk (f := f) (D := D) (l := l) (o := o + 1) (fun i y hy => by
      have := h (i + 1) y hy
      rw [show o + 1 + i = o + (i + 1) by omega]
      exact this)
    rw [List.map_cons, List.sum_cons, List.length_cons, List.range'_succ, List.map_cons, uptoBulkAll]
    rw [Nat.add_zero] at h1
    omega
theorem atSz_sum : ∀ l : List (List UInt8 × List UInt8), atSz l = (l.map fun a => 1 + a.1.length + a.2.length).sum
  | [] => rfl
  | a :: l => by rw [atSz, List.map_cons, List.sum_cons, atSz_sum l]
theorem szL_sum : ∀ l : List Tr, szL l = (l.map Tr.sz).sum
  | [] => by rw [szL]; rfl
  | a :: l => by rw [szL, List.map_cons, List.sum_cons, szL_sum l]
set_option maxRecDepth 100000 in
/-- Attributes, read. -/
theorem atts_of {W : World} {base : Nat} {spare : Nat → Bool} {held : Bool} {n : Nat} {v : Value} {y : DataW H × List MemPlace} (h : DataW.trod enc Tryz.prog W base spare held n 23 [v] = some y) :
    ∃ l, AttIn W Any v l ∧ atSz l ≤ uptoBulk y.1 := by
  rcases open_slice_fields Tryz.underlying23 Tryz.underlying42 (by kernel_rfl) (by kernel_rfl) h with ⟨hcs, _⟩ | ⟨x, len, cap, m, D, Pl, hcs, _, hl, hm, hmm, hx, hi⟩
  · simp at hcs
    subst hcs
    exact ⟨[], AttIn.nil W Any, Nat.zero_le _⟩
  · simp at hcs
    subst hcs
    have hml : len ≤ m := by rw [hmm]; split <;> omega
    by_cases h00 : len = 0
    · subst h00
      exact ⟨[], ⟨_, cap, rfl, Nat.zero_le _, hm, fun e => (by cases e), .inl rfl⟩, Nat.zero_le _⟩
    · obtain ⟨b, off, spot⟩ := x
      have hspot : spot = none := by
        obtain ⟨ys, n, _, _, _, hfl⟩ := hi 0 (by omega)
        obtain ⟨v0, y0, c0, _⟩ := hfl 0 _ rfl
        simpa [Addr.add] using World.cell?_spot c0
      subst hspot
      obtain ⟨L, hL, hP⟩ := list_of (P := fun i (a : List UInt8 × List UInt8) => (W.cell? ⟨b, off + i * 2, none⟩ = some (.string (strB a.1)) ∧ W.cell? ⟨b, off + i * 2 + 1, none⟩ = some (.string (strB a.2))) ∧ 1 + a.1.length + a.2.length ≤ uptoBulk (D i)) len (fun i hil => by
        obtain ⟨ys, n, hD, _, hyl, hfl⟩ := hi i (by omega)
        obtain ⟨u0, y0, c0, k0, t0⟩ := hfl 0 _ rfl
        obtain ⟨u1, y1, c1, k1, t1⟩ := hfl 1 _ rfl
        obtain ⟨s0, e0, x0, _⟩ := DataW.trod_string Tryz.underlying9 t0
        obtain ⟨s1, e1, x1, _⟩ := DataW.trod_string Tryz.underlying9 t1
        simp at e0 e1
        subst e0 e1
        rw [Addr.add_mid] at c0 c1
        obtain ⟨ya, yb, rfl⟩ : ∃ ya yb, ys = [ya, yb] := by
          match ys, hyl with
          | [ya, yb], _ => exact ⟨ya, yb, rfl⟩
        obtain rfl : ya = y0 := Option.some.inj k0
        obtain rfl : yb = y1 := Option.some.inj k1
        refine ⟨(s0.data.toList, s1.data.toList), ⟨c0, by rw [Nat.add_assoc]; exact c1⟩, ?_⟩
        rw [hD, x0, x1]
        show 1 + s0.data.toList.length + s1.data.toList.length ≤ uptoBulk (.agg [.lit (.string s0.data.toList), .lit (.string s1.data.toList)])
        rw [uptoBulk, uptoBulkAll, uptoBulkAll, uptoBulkAll, uptoBulk, uptoBulk]
        omega)
      refine ⟨L, ⟨_, cap, by rw [hL], by rw [hL]; exact hl, hm, fun e => (by cases e), .inr ⟨b, off, rfl, trivial, fun i a ha => (hP i a ha).1⟩⟩, ?_⟩
      have hs := sum_bulk (f := fun a : List UInt8 × List UInt8 => 1 + a.1.length + a.2.length) (D := D) (l := L) (o := 0) (fun i a ha => by rw [Nat.zero_add]; exact (hP i a ha).2)
      rw [atSz_sum]
      subst hx
      show _ ≤ uptoBulk (.slice _ _)
      rw [uptoBulk]
      rw [hL, ← List.range_eq_range'] at hs
      omega

/-- A node's fields, read. -/
theorem node_of {W : World} {base : Nat} {spare : Nat → Bool} {held : Bool} {n0 n1 n2 n3 : Nat} {v0 v1 v2 v3 v4 : Value} {y0 y1 y2 y3 y4 : DataW H × List MemPlace}
    (hk : ∃ rows ks, RowIn W Any v4 rows ∧ NodesIn W Any rows ks ∧ szL ks ≤ uptoBulk y4.1)
    (t0 : DataW.trod enc Tryz.prog W base spare held n0 3 [v0] = some y0) (t1 : DataW.trod enc Tryz.prog W base spare held n1 9 [v1] = some y1) (t2 : DataW.trod enc Tryz.prog W base spare held n2 9 [v2] = some y2) (t3 : DataW.trod enc Tryz.prog W base spare held n3 23 [v3] = some y3) :
    ∃ (r : Nr) (t : Tr), v0 = .int .i64 r.kind ∧ v1 = .string (strB r.name) ∧ v2 = .string (strB r.text) ∧ v3 = r.av ∧ v4 = r.kv ∧ NodeIn W Any r t ∧ t.sz + 3 ≤ uptoBulk (.agg [y0.1, y1.1, y2.1, y3.1, y4.1]) := by
  obtain ⟨rows, ks, hr, hn, hs⟩ := hk
  obtain ⟨z, e0, x0, _⟩ := DataW.trod_int Tryz.underlying3 t0
  obtain ⟨s1, e1, x1, _⟩ := DataW.trod_string Tryz.underlying9 t1
  obtain ⟨s2, e2, x2, _⟩ := DataW.trod_string Tryz.underlying9 t2
  obtain ⟨l, hl, hls⟩ := atts_of t3
  simp at e0 e1 e2
  subst e0 e1 e2
  refine ⟨⟨z, s1.data.toList, s2.data.toList, v3, v4⟩, .mk z s1.data.toList s2.data.toList l ks, rfl, rfl, rfl, rfl, rfl, .mk ⟨z, s1.data.toList, s2.data.toList, v3, v4⟩ l ks rows hl hr hn.1 hn.2, ?_⟩
  rw [sz_mk, x0, x1, x2, uptoBulk, uptoBulkAll, uptoBulkAll, uptoBulkAll, uptoBulkAll, uptoBulkAll, uptoBulkAll]
  show _ ≤ uptoBulk (.lit (.int .i64 z)) + (uptoBulk (.lit (.string s1.data.toList)) + (uptoBulk (.lit (.string s2.data.toList)) + (uptoBulk y3.1 + (uptoBulk y4.1 + 0)))) + 1
  have h1 : uptoBulk (.lit (.int .i64 z) : DataW H) = 1 := by rw [uptoBulk]; intro b h; cases h
  have h2 : uptoBulk (.lit (.string s1.data.toList) : DataW H) = s1.data.toList.length + 1 := by rw [uptoBulk]
  have h3 : uptoBulk (.lit (.string s2.data.toList) : DataW H) = s2.data.toList.length + 1 := by rw [uptoBulk]
  rw [h1, h2, h3]
  omega
set_option maxRecDepth 100000 in
/-- Nodes, read. -/
theorem nodes_of {W : World} {base : Nat} {spare : Nat → Bool} {held : Bool} : ∀ (N : Nat) {n : Nat} {v : Value} {y : DataW H × List MemPlace}, DataW.trod enc Tryz.prog W base spare held n 22 [v] = some y → uptoBulk y.1 ≤ N →
    ∃ rows ks, RowIn W Any v rows ∧ NodesIn W Any rows ks ∧ szL ks ≤ uptoBulk y.1 := by
  intro N
  induction N with
  | zero =>
    intro n v y h hN
    exfalso
    rcases open_slice_fields Tryz.underlying22 Tryz.underlying25 (by kernel_rfl) (by kernel_rfl) h with ⟨_, hx⟩ | ⟨x, len, cap, m, D, Pl, _, _, _, _, _, hx, _⟩
    · rw [hx, uptoBulk] at hN
      omega
    · rw [hx, uptoBulk] at hN
      omega
  | succ N ih =>
  intro n v y h hN
  rcases open_slice_fields Tryz.underlying22 Tryz.underlying25 (by kernel_rfl) (by kernel_rfl) h with ⟨hcs, _⟩ | ⟨x, len, cap, m, D, Pl, hcs, _, hl, hm, hmm, hx, hi⟩
  · simp at hcs
    subst hcs
    exact ⟨[], [], RowIn.nil W Any, NodesIn.nil W Any, Nat.zero_le _⟩
  · simp at hcs
    subst hcs
    have hml : len ≤ m := by rw [hmm]; split <;> omega
    by_cases h00 : len = 0
    · subst h00
      exact ⟨[], [], ⟨_, cap, rfl, Nat.zero_le _, hm, fun e => (by cases e), .inl rfl⟩, NodesIn.nil W Any, Nat.zero_le _⟩
    · obtain ⟨b, off, spot⟩ := x
      have hspot : spot = none := by
        obtain ⟨ys, n, _, _, _, hfl⟩ := hi 0 (by omega)
        obtain ⟨v0, y0, c0, _⟩ := hfl 0 _ rfl
        simpa [Addr.add] using World.cell?_spot c0
      subst hspot
      rw [hx, uptoBulk] at hN
      obtain ⟨L, hL, hP⟩ := list_of (P := fun i (a : Nr × Tr) => NrIn W b (off + i * 5) a.1 ∧ NodeIn W Any a.1 a.2 ∧ a.2.sz ≤ uptoBulk (D i)) len (fun i hil => by
        obtain ⟨ys, n, hD, _, hyl, hfl⟩ := hi i (by omega)
        obtain ⟨u0, y0, c0, k0, t0⟩ := hfl 0 _ rfl
        obtain ⟨u1, y1, c1, k1, t1⟩ := hfl 1 _ rfl
        obtain ⟨u2, y2, c2, k2, t2⟩ := hfl 2 _ rfl
        obtain ⟨u3, y3, c3, k3, t3⟩ := hfl 3 _ rfl
        obtain ⟨u4, y4, c4, k4, t4⟩ := hfl 4 _ rfl
        rw [Addr.add_mid] at c0 c1 c2 c3 c4
        obtain ⟨ya, yb, yc, yd, ye, rfl⟩ : ∃ ya yb yc yd ye, ys = [ya, yb, yc, yd, ye] := by
          match ys, hyl with
          | [ya, yb, yc, yd, ye], _ => exact ⟨ya, yb, yc, yd, ye, rfl⟩
        obtain rfl : ya = y0 := Option.some.inj k0
        obtain rfl : yb = y1 := Option.some.inj k1
        obtain rfl : yc = y2 := Option.some.inj k2
        obtain rfl : yd = y3 := Option.some.inj k3
        obtain rfl : ye = y4 := Option.some.inj k4
        have hDi : D i = .agg [ya.1, yb.1, yc.1, yd.1, ye.1] := hD
        have hmem : uptoBulk (D i) ≤ uptoBulkAll ((List.range len).map D) := bulk_mem (List.mem_map.2 ⟨i, List.mem_range.2 hil, rfl⟩)
        have hye : uptoBulk ye.1 + 1 ≤ uptoBulk (D i) := by
          rw [hDi, uptoBulk, uptoBulkAll, uptoBulkAll, uptoBulkAll, uptoBulkAll, uptoBulkAll, uptoBulkAll]
          omega
        obtain ⟨r, t, q0, q1, q2, q3, q4, hnd, hsz⟩ := node_of (ih t4 (by omega)) t0 t1 t2 t3
        rw [← hDi] at hsz
        subst q0 q1 q2 q3 q4
        exact ⟨(r, t), ⟨c0, by rw [Nat.add_assoc]; exact c1, by rw [Nat.add_assoc]; exact c2, by rw [Nat.add_assoc]; exact c3, by rw [Nat.add_assoc]; exact c4⟩, hnd, by show t.sz ≤ _; omega⟩)
      refine ⟨L.map (·.1), L.map (·.2), ⟨_, cap, by rw [List.length_map, hL], by rw [List.length_map, hL]; exact hl, hm, fun e => (by cases e), .inr ⟨b, off, rfl, trivial, fun i a ha => ?_⟩⟩, ⟨by rw [List.length_map, List.length_map], fun i a u ha hu => ?_⟩, ?_⟩
      · rw [List.getElem?_map] at ha
        obtain ⟨q, hq, rfl⟩ := Option.map_eq_some_iff.1 ha
        exact (hP i q hq).1
      · rw [List.getElem?_map] at ha hu
        obtain ⟨q, hq, rfl⟩ := Option.map_eq_some_iff.1 ha
        obtain ⟨q2, hq2, rfl⟩ := Option.map_eq_some_iff.1 hu
        obtain rfl : q = q2 := Option.some.inj (hq.symm.trans hq2)
        exact (hP i q hq).2.1
      · have hs := sum_bulk (f := fun a : Nr × Tr => a.2.sz) (D := D) (l := L) (o := 0) (fun i a ha => by rw [Nat.zero_add]; exact (hP i a ha).2.2)
        rw [szL_sum, List.map_map]
        rw [hx]
        show _ ≤ uptoBulk (.slice _ _)
        rw [uptoBulk]
        rw [hL, ← List.range_eq_range'] at hs
        show (L.map fun a => a.2.sz).sum ≤ _
        omega
set_option maxRecDepth 100000 in
/-- A node as an argument. -/
theorem node_arg {W : World} {base b0 : Nat} {spare : Nat → Bool} {held : Bool} {v : Value} {d : DataW H} {p : List MemPlace} (hv : Value.okWide Tryz.prog W .any b0 25 v) (h0 : DataW.Trod enc Tryz.prog W base spare held 25 v d p) : ∃ r t, v = nodeV r ∧ NodeIn W Any r t ∧ t.sz ≤ uptoBulk d := by
  obtain ⟨cs, rfl, hsz⟩ := okWide_struct Tryz.underlying25 hv
  have h5 : cs.size = 5 := hsz.trans (by kernel_rfl)
  obtain ⟨c0, c1, c2, c3, c4, rfl⟩ : ∃ c0 c1 c2 c3 c4, cs = #[c0, c1, c2, c3, c4] := by
    obtain ⟨l⟩ := cs
    match l, h5 with
    | [c0, c1, c2, c3, c4], _ => exact ⟨c0, c1, c2, c3, c4, rfl⟩
  obtain ⟨fuel, hf⟩ := h0
  obtain ⟨ys, n, _, hy, _, hyl, hfl⟩ := DataW.trod_struct Tryz.underlying25 hf
  obtain ⟨ya, yb, yc, yd, ye, rfl⟩ : ∃ ya yb yc yd ye, ys = [ya, yb, yc, yd, ye] := by
    match ys, hyl with
    | [ya, yb, yc, yd, ye], _ => exact ⟨ya, yb, yc, yd, ye, rfl⟩
  obtain ⟨rfl, rfl⟩ := Prod.mk.inj hy
  have t0 := hfl 0 _ rfl
  have t1 := hfl 1 _ rfl
  have t2 := hfl 2 _ rfl
  have t3 := hfl 3 _ rfl
  have t4 := hfl 4 _ rfl
  have hc : ∀ (t : TypeId) (j : Nat) (c : Value), Tryz.prog.cellsOf t = 1 → #[c0, c1, c2, c3, c4].toList[j]? = some c → ((#[c0, c1, c2, c3, c4] : Array Value).toList.drop j).take (Tryz.prog.cellsOf t) = [c] := by
    intro t j c h1 h2
    rw [h1]
    have hlt := (List.getElem?_eq_some_iff.1 h2).1
    rw [List.drop_eq_getElem_cons hlt]
    rw [List.getElem?_eq_getElem hlt] at h2
    rw [Option.some.inj h2]
    rfl
  have e0 : DataW.trod enc Tryz.prog W base spare held n 3 [c0] = some ya := by
    have := hc 3 0 c0 (by kernel_rfl) rfl
    rw [← this]
    exact t0
  have e1 : DataW.trod enc Tryz.prog W base spare held n 9 [c1] = some yb := by
    have := hc 9 1 c1 (by kernel_rfl) rfl
    rw [← this]
    exact t1
  have e2 : DataW.trod enc Tryz.prog W base spare held n 9 [c2] = some yc := by
    have := hc 9 2 c2 (by kernel_rfl) rfl
    rw [← this]
    exact t2
  have e3 : DataW.trod enc Tryz.prog W base spare held n 23 [c3] = some yd := by
    have := hc 23 3 c3 (by kernel_rfl) rfl
    rw [← this]
    exact t3
  have e4 : DataW.trod enc Tryz.prog W base spare held n 22 [c4] = some ye := by
    have := hc 22 4 c4 (by kernel_rfl) rfl
    rw [← this]
    exact t4
  obtain ⟨r, t, q0, q1, q2, q3, q4, hnd, hsz2⟩ := node_of (nodes_of _ e4 (Nat.le_refl _)) e0 e1 e2 e3
  subst q0 q1 q2 q3 q4
  exact ⟨r, t, rfl, hnd, by show t.sz ≤ uptoBulk (.agg [ya.1, yb.1, yc.1, yd.1, ye.1]); omega⟩

end Go.Proofs.YtocnedpclllbhaaGreatDoor
