/-
 The program's small functions on a tree that grows: which element is the innermost, what was laid last, whether a node is an element, where the first one stands.
-/
import Derived.Test.YtjpkkflhcjjefaaGreatDoorXTa2
import Derived.Test.YtjpkkflhcjjefaaGreatDoorXL
namespace Go.Proofs.YtjpkkflhcjjefaaGreatDoor
open Go.RowKit Go.Lib Go.Joins
set_option maxHeartbeats 32000000
def AttIn (w : World) (S : Nat → Prop) (v : Value) (l : List (List UInt8 × List UInt8)) : Prop :=
 ∃ a c, v = .slice a l.length c ∧ l.length ≤ c ∧ c ≤ maxLen ∧ (a = none → c = 0) ∧ (l = [] ∨ ∃ b o, a = some ⟨b, o, none⟩ ∧ S b ∧ ∀ (i : Nat) (x : List UInt8 × List UInt8), l[i]? = some x → w.cell? ⟨b, o + i * 2, none⟩ = some (.string (strB x.1)) ∧ w.cell? ⟨b, o + i * 2 + 1, none⟩ = some (.string (strB x.2)))
theorem strB_inj {a b : List UInt8} (h : strB a = strB b) : a = b := by
 have := congrArg (fun z : ByteArray => z.data.toList) h
 simpa [strB] using this
theorem bytes_ne {a b : ByteArray} (h : a ≠ b) : (a.toList == b.toList) = false := by
 rw [beq_eq_false_iff_ne, ByteArray.toList_eq, ByteArray.toList_eq]
 exact fun e => h (ByteArray.ext (Array.toList_inj.1 e))
set_option maxRecDepth 100000 in
theorem attrs9_calls {w : World} {S1 S2 : Nat → Prop} {v1 v2 : Value} {l1 l2 : List (List UInt8 × List UInt8)} (h1 : AttIn w S1 v1 l1) (h2 : AttIn w S2 v2 l2) : Calls Tryz.prog 48 #[v1, v2] w (Leaves (.bool (decide (l1 = l2))) w) := by
 obtain ⟨a1, c1, rfl, hc1, hm1, hn1, hr1⟩ := h1
 obtain ⟨a2, c2, rfl, hc2, hm2, hn2, hr2⟩ := h2
 obtain ⟨Q, hQ⟩ : ∃ Q, decide (l1 = l2) = Q := ⟨_, rfl⟩
 rw [hQ]
 obtain ⟨n1, hl1⟩ : ∃ n, l1.length = n := ⟨_, rfl⟩
 obtain ⟨n2, hl2⟩ : ∃ n, l2.length = n := ⟨_, rfl⟩
 rw [hl1, hl2]
 by_cases hne : n1 = n2
 ·subst hne
  have HQ : Hid (Q = decide (l1.drop 0 = l2.drop 0)) := hid (by rw [List.drop_zero, List.drop_zero]; exact hQ.symm)
  have H1 := hid hr1
  have H2 := hid hr2
  have HL1 := hid hl1
  have HL2 := hid hl2
  have hne2 : ((n1 : Int) != (n1 : Int)) = false := by simp
  have HMX : Hid (n1 ≤ maxLen) := hid (by omega)
  clear hQ hr1 hr2 hl1 hl2 hc1 hc2 hm1 hm2 hn1 hn2
  go_enter Tryz.func48, Tryz.ntmps48
  go_wp2_with fail
  go_loopg [5] n1 (fun g s wr => ∃ i : Nat, s = .int .i64 (i : Int) ∧ g + i = n1 ∧ Q = decide (l1.drop i = l2.drop i) ∧ Below w.heap.size w wr)
  case atStart => exact ⟨0, rfl, rfl, HQ.out, Below.refl _ _⟩
  case round =>
   obtain ⟨i, rfl, hg, hq, hb⟩ := hrel
   have HQ2 := hid hq
   have HB := hid hb
   clear hq hb HQ
   cases gk with
   | zero =>
    obtain rfl : i = n1 := by omega
    have hge : ¬ ((i : Int) < (i : Int)) := by omega
    have HF : Hid (Q = true) := hid (by rw [HQ2.out, List.drop_eq_nil_of_le (by have := HL1.out; omega), List.drop_eq_nil_of_le (by have := HL2.out; omega)]; rfl)
    go_wp2_with fail
    go_ret
    exact ⟨by rw [HF.out]; rfl, HB.out⟩
   | succ g =>
    have hlt : (i : Int) < (n1 : Int) := by omega
    have hi0 : (0 : Int) ≤ (i : Int) := by omega
    obtain ⟨x1, hx1⟩ : ∃ x, l1[i]? = some x := ⟨_, List.getElem?_eq_getElem (by have := HL1.out; omega)⟩
    obtain ⟨x2, hx2⟩ : ∃ x, l2[i]? = some x := ⟨_, List.getElem?_eq_getElem (by have := HL2.out; omega)⟩
    have hd1 : l1.drop i = x1 :: l1.drop (i + 1) := by
     rw [List.drop_eq_getElem_cons (by have := HL1.out; omega)]
     rw [List.getElem?_eq_getElem (by have := HL1.out; omega)] at hx1
     rw [Option.some.inj hx1]
    have hd2 : l2.drop i = x2 :: l2.drop (i + 1) := by
     rw [List.drop_eq_getElem_cons (by have := HL2.out; omega)]
     rw [List.getElem?_eq_getElem (by have := HL2.out; omega)] at hx2
     rw [Option.some.inj hx2]
    rcases H1.out with h0 | ⟨b1, o1, rfl, _, hcell1⟩
    ·rw [h0] at hx1; simp at hx1
    rcases H2.out with h0 | ⟨b2, o2, rfl, _, hcell2⟩
    ·rw [h0] at hx2; simp at hx2
    obtain ⟨y1, y2⟩ := hcell1 i x1 hx1
    obtain ⟨z1, z2⟩ := hcell2 i x2 hx2
    replace y1 := (HB.out.cell (lt_of_cell y1)).trans y1
    replace y2 := (HB.out.cell (lt_of_cell y2)).trans y2
    replace z1 := (HB.out.cell (lt_of_cell z1)).trans z1
    replace z2 := (HB.out.cell (lt_of_cell z2)).trans z2
    obtain ⟨s1, hs1⟩ : ∃ s, strB x1.1 = s := ⟨_, rfl⟩
    obtain ⟨t1, ht1⟩ : ∃ s, strB x1.2 = s := ⟨_, rfl⟩
    obtain ⟨s2, hs2⟩ : ∃ s, strB x2.1 = s := ⟨_, rfl⟩
    obtain ⟨t2, ht2⟩ : ∃ s, strB x2.2 = s := ⟨_, rfl⟩
    rw [hs1] at y1
    rw [ht1] at y2
    rw [hs2] at z1
    rw [ht2] at z2
    clear hcell1 hcell2 hx1 hx2
    by_cases hs : s1 = s2
    ·by_cases ht : t1 = t2
     ·subst hs
      subst ht
      have hadd : IntKind.i64.wrap ((i : Int) + 1) = ((i + 1 : Nat) : Int) := IntWalk.i64_in _ (by have := HMX.out; unfold maxLen at this; omega)
      have HN : Hid (Q = decide (l1.drop (i + 1) = l2.drop (i + 1))) := hid (by
       have hx : x1 = x2 := Prod.ext (strB_inj (hs1.trans hs2.symm)) (strB_inj (ht1.trans ht2.symm))
       rw [HQ2.out, hd1, hd2, hx]
       simp only [List.cons.injEq, true_and])
      clear hs1 hs2 ht1 ht2 hd1 hd2 HQ2
      go_wp2_with fail
      go_quiet (fail)
      go_wp2_with fail
      go_roundg g
      case measure => omega
      case rel => exact ⟨i + 1, rfl, by omega, HN.out, below_drewNv HB.out _⟩
     ·have HF : Hid (Q = false) := hid (by
       rw [HQ2.out, hd1, hd2, decide_eq_false_iff_not]
       intro h
       injection h with h _
       exact ht (by rw [← ht1, ← ht2, h]))
      have hte : (t1.toList == t2.toList) = false := bytes_ne ht
      subst hs
      clear hs1 hs2 ht1 ht2 hd1 hd2 HQ2 ht
      go_wp2_with fail
      go_quiet (fail)
      go_wp2_with fail
      go_ret
      exact ⟨by rw [HF.out]; rfl, below_drewNv HB.out _⟩
    ·have HF : Hid (Q = false) := hid (by
      rw [HQ2.out, hd1, hd2, decide_eq_false_iff_not]
      intro h
      injection h with h _
      exact hs (by rw [← hs1, ← hs2, h]))
     have hse : (s1.toList == s2.toList) = false := bytes_ne hs
     clear hs1 hs2 ht1 ht2 hd1 hd2 HQ2 hs
     go_wp2_with fail
     go_quiet (fail)
     go_wp2_with fail
     go_ret
     exact ⟨by rw [HF.out]; rfl, below_drewNv HB.out _⟩
 ·have HF : Hid (Q = false) := hid (by
   rw [← hQ, decide_eq_false_iff_not]
   intro h
   exact hne (by rw [← hl1, ← hl2, h]))
  have hne2 : ((n1 : Int) != (n2 : Int)) = true := by rw [bne_iff_ne]; omega
  clear hQ hr1 hr2 hl1 hl2 hc1 hc2 hm1 hm2 hn1 hn2 hne
  go_enter Tryz.func48, Tryz.ntmps48
  go_wp2_with fail
  go_ret
  exact ⟨by rw [HF.out]; rfl, Below.refl _ _⟩
structure Nr where
 kind : Int
 name : List UInt8
 text : List UInt8
 av : Value
 kv : Value
def nrC : List Nr → List Value
 | [] => []
 | x :: t => .int .i64 (x.kind : Int) :: .string (strB x.name) :: .string (strB x.text) :: x.av :: x.kv :: nrC t
theorem nrC_app : ∀ (l m : List Nr), nrC (l ++ m) = nrC l ++ nrC m
 | [], _ => rfl
 | x :: t, m => by rw [List.cons_append]; show _ :: _ :: _ :: _ :: _ :: nrC (t ++ m) = _; rw [nrC_app t m]; rfl
theorem nrC_len : ∀ l : List Nr, (nrC l).length = l.length * 5
 | [] => rfl
 | x :: t => by show (nrC t).length + 1 + 1 + 1 + 1 + 1 = _; rw [nrC_len t, List.length_cons]; omega
theorem nrC_at : ∀ {l : List Nr} {i : Nat} {x : Nr}, l[i]? = some x → (nrC l)[i * 5]? = some (.int .i64 (x.kind : Int)) ∧ (nrC l)[i * 5 + 1]? = some (.string (strB x.name)) ∧ (nrC l)[i * 5 + 2]? = some (.string (strB x.text)) ∧ (nrC l)[i * 5 + 3]? = some x.av ∧ (nrC l)[i * 5 + 4]? = some x.kv
 | [], _, _, h => by simp at h
 | y :: t, 0, x, h => by
  obtain rfl : y = x := by simpa using h
  exact ⟨rfl, rfl, rfl, rfl, rfl⟩
 | y :: t, i + 1, x, h => by
  rw [List.getElem?_cons_succ] at h
  obtain ⟨h1, h2, h3, h4, h5⟩ := nrC_at h
  rw [show (i + 1) * 5 = i * 5 + 1 + 1 + 1 + 1 + 1 by omega]
  exact ⟨h1, h2, h3, h4, h5⟩
def NrIn (w : World) (b p : Nat) (x : Nr) : Prop :=
 w.cell? ⟨b, p, none⟩ = some (.int .i64 (x.kind : Int)) ∧ w.cell? ⟨b, p + 1, none⟩ = some (.string (strB x.name)) ∧ w.cell? ⟨b, p + 2, none⟩ = some (.string (strB x.text)) ∧ w.cell? ⟨b, p + 3, none⟩ = some x.av ∧ w.cell? ⟨b, p + 4, none⟩ = some x.kv
def RowIn (w : World) (S : Nat → Prop) (v : Value) (l : List Nr) : Prop :=
 ∃ a c, v = .slice a l.length c ∧ l.length ≤ c ∧ c ≤ maxLen ∧ (a = none → c = 0) ∧ (l = [] ∨ ∃ b o, a = some ⟨b, o, none⟩ ∧ S b ∧ ∀ (i : Nat) (x : Nr), l[i]? = some x → NrIn w b (o + i * 5) x)
inductive NodeIn (w : World) (S : Nat → Prop) : Nr → Tr → Prop
 | mk (r : Nr) (attrs : List (List UInt8 × List UInt8)) (kids : List Tr) (rows : List Nr) (ha : AttIn w S r.av attrs) (hk : RowIn w S r.kv rows) (hl : rows.length = kids.length) (h : ∀ (i : Nat) (x : Nr) (t : Tr), rows[i]? = some x → kids[i]? = some t → NodeIn w S x t) : NodeIn w S r (.mk r.kind r.name r.text attrs kids)
def NodesIn (w : World) (S : Nat → Prop) (rows : List Nr) (ks : List Tr) : Prop :=
 rows.length = ks.length ∧ ∀ (i : Nat) (x : Nr) (t : Tr), rows[i]? = some x → ks[i]? = some t → NodeIn w S x t
theorem cell_keep {w w' : World} {O : Nat → Prop} {b p : Nat} {v : Value} (h : w.cell? ⟨b, p, none⟩ = some v) (hk : Keeps O w w') (hb : ¬ O b) : w'.cell? ⟨b, p, none⟩ = some v :=
 (World.cell?_of_block (hk.block b (lt_of_cell h) hb)).trans h
theorem NrIn.keep {w w' : World} {O : Nat → Prop} {b p : Nat} {x : Nr} (h : NrIn w b p x) (hk : Keeps O w w') (hb : ¬ O b) : NrIn w' b p x :=
 ⟨cell_keep h.1 hk hb, cell_keep h.2.1 hk hb, cell_keep h.2.2.1 hk hb, cell_keep h.2.2.2.1 hk hb, cell_keep h.2.2.2.2 hk hb⟩
theorem AttIn.keep {w w' : World} {S S' O : Nat → Prop} {v : Value} {l : List (List UInt8 × List UInt8)} (h : AttIn w S v l) (hk : Keeps O w w') (hS : ∀ k, S k → ¬ O k) (hs : ∀ k, S k → S' k) : AttIn w' S' v l := by
 obtain ⟨a, c, h1, h2, h3, h4, h5⟩ := h
 refine ⟨a, c, h1, h2, h3, h4, ?_⟩
 rcases h5 with h5 | ⟨b, o, h6, h7, h8⟩
 ·exact .inl h5
 ·exact .inr ⟨b, o, h6, hs b h7, fun i x hx => ⟨cell_keep (h8 i x hx).1 hk (hS b h7), cell_keep (h8 i x hx).2 hk (hS b h7)⟩⟩
theorem RowIn.keep {w w' : World} {S S' O : Nat → Prop} {v : Value} {l : List Nr} (h : RowIn w S v l) (hk : Keeps O w w') (hS : ∀ k, S k → ¬ O k) (hs : ∀ k, S k → S' k) : RowIn w' S' v l := by
 obtain ⟨a, c, h1, h2, h3, h4, h5⟩ := h
 refine ⟨a, c, h1, h2, h3, h4, ?_⟩
 rcases h5 with h5 | ⟨b, o, h6, h7, h8⟩
 ·exact .inl h5
 ·exact .inr ⟨b, o, h6, hs b h7, fun i x hx => (h8 i x hx).keep hk (hS b h7)⟩
theorem NodeIn.keep {w w' : World} {S S' O : Nat → Prop} {r : Nr} {t : Tr} (h : NodeIn w S r t) (hk : Keeps O w w') (hS : ∀ k, S k → ¬ O k) (hs : ∀ k, S k → S' k) : NodeIn w' S' r t := by
 induction h with
 | mk r attrs kids rows ha hr hl _ ih => exact .mk r attrs kids rows (ha.keep hk hS hs) (hr.keep hk hS hs) hl ih
theorem NodesIn.keep {w w' : World} {S S' O : Nat → Prop} {rows : List Nr} {ks : List Tr} (h : NodesIn w S rows ks) (hk : Keeps O w w') (hS : ∀ k, S k → ¬ O k) (hs : ∀ k, S k → S' k) : NodesIn w' S' rows ks :=
 ⟨h.1, fun i x t hx ht => (h.2 i x t hx ht).keep hk hS hs⟩
theorem NodesIn.nil (w : World) (S : Nat → Prop) : NodesIn w S [] [] := ⟨rfl, fun i _ _ h => by simp at h⟩
theorem NodesIn.snoc {w : World} {S : Nat → Prop} {rows : List Nr} {ks : List Tr} (h : NodesIn w S rows ks) {r : Nr} {t : Tr} (hn : NodeIn w S r t) : NodesIn w S (rows ++ [r]) (ks ++ [t]) := by
 refine ⟨by simp [h.1], fun i x y hx hy => ?_⟩
 by_cases hi : i < rows.length
 ·rw [List.getElem?_append_left hi] at hx
  rw [List.getElem?_append_left (by rw [← h.1]; exact hi)] at hy
  exact h.2 i x y hx hy
 ·rw [List.getElem?_append_right (by omega)] at hx
  rw [List.getElem?_append_right (by rw [← h.1]; omega), ← h.1] at hy
  cases hj : i - rows.length with
  | zero =>
   rw [hj] at hx hy
   cases hx
   cases hy
   exact hn
  | succ j => rw [hj] at hx; simp at hx
theorem NodeIn.kids {w : World} {S : Nat → Prop} {r : Nr} {t : Tr} (h : NodeIn w S r t) : r.kind = t.kind ∧ r.name = t.name ∧ r.text = t.text ∧ AttIn w S r.av t.attrs ∧ ∃ rows, RowIn w S r.kv rows ∧ NodesIn w S rows t.kids := by
 cases h with
 | mk r attrs kids rows ha hr hl h => exact ⟨rfl, rfl, rfl, ha, rows, hr, hl, h⟩
theorem RowIn.nil (w : World) (S : Nat → Prop) : RowIn w S (.slice none 0 0) [] := ⟨none, 0, rfl, Nat.le_refl _, Nat.zero_le _, fun _ => rfl, .inl rfl⟩
theorem AttIn.nil (w : World) (S : Nat → Prop) : AttIn w S (.slice none 0 0) [] := ⟨none, 0, rfl, Nat.le_refl _, Nat.zero_le _, fun _ => rfl, .inl rfl⟩
theorem NodeIn.leaf {w : World} {S : Nat → Prop} {k : Int} {n t : List UInt8} {av : Value} {ats : List (List UInt8 × List UInt8)} (ha : AttIn w S av ats) : NodeIn w S ⟨k, n, t, av, .slice none 0 0⟩ (.mk k n t ats []) :=
 .mk ⟨k, n, t, av, .slice none 0 0⟩ ats [] [] ha (RowIn.nil w S) rfl (fun i _ _ h => by simp at h)
theorem infoN : (Tryz.prog.info? 25).map (fun i => (i.zero, i.size, i.bytes)) = some (some (.agg #[.int .i64 0, .string ⟨#[]⟩, .string ⟨#[]⟩, .slice none 0 0, .slice none 0 0]), 5, 88) := by kernel_rfl
theorem infoP : (Tryz.prog.info? 56).map (fun i => (i.zero, i.size, i.bytes)) = some (some (.pointer none), 1, 8) := by kernel_rfl
structure Lv (w : World) (n0 : Nat) (v : Value) (rows : List Nr) : Prop where
 row : w.ownsRow 0 25 5 v rows.length (nrC rows)
 new : ∀ k, v.ownBlock = some k → n0 ≤ k
theorem Lv.keep {w w' : World} {O : Nat → Prop} {n0 : Nat} {v : Value} {rows : List Nr} (h : Lv w n0 v rows) (hk : Keeps O w w') (hO : ∀ k, v.ownBlock = some k → ¬ O k) : Lv w' n0 v rows := ⟨ownsRow_keep h.row hk hO, h.new⟩
theorem Lv.nil (w : World) (n0 : Nat) : Lv w n0 (.slice none 0 0) [] := ⟨World.ownsRow_nil _ _ _ _, fun _ e => by cases e⟩
theorem Lv.form {w : World} {n0 : Nat} {v : Value} {rows : List Nr} (h : Lv w n0 v rows) : ∃ a c, v = .slice a rows.length c ∧ rows.length ≤ c ∧ c ≤ maxLen ∧ ((a = none ∧ rows = [] ∧ c = 0) ∨ ∃ g, a = some ⟨g, 0, none⟩) := by
 rcases h.row.2 with ⟨h1, h0⟩ | ⟨g, cap, cur, h1, hg, hgb, hcap, hcm, hcur, htk⟩
 ·exact ⟨none, 0, by rw [h1, h0], by omega, Nat.zero_le _, .inl ⟨rfl, List.length_eq_zero_iff.1 h0, rfl⟩⟩
 ·exact ⟨_, cap, h1, hcap, hcm, .inr ⟨g, rfl⟩⟩
theorem Lv.cells {w : World} {n0 : Nat} {v : Value} {rows : List Nr} (h : Lv w n0 v rows) {g : Nat} (hv : v.ownBlock = some g) {i : Nat} {x : Nr} (hx : rows[i]? = some x) : NrIn w g (i * 5) x := by
 have hc := h.row.cells (g := g) hv
 obtain ⟨x1, x2, x3, x4, x5⟩ := nrC_at hx
 have y1 := hc _ _ x1
 have y2 := hc _ _ x2
 have y3 := hc _ _ x3
 have y4 := hc _ _ x4
 have y5 := hc _ _ x5
 rw [Addr.add_mid, Nat.zero_add] at y1 y2 y3 y4 y5
 exact ⟨y1, y2, y3, y4, y5⟩
theorem Lv.lt {w : World} {n0 : Nat} {v : Value} {rows : List Nr} (h : Lv w n0 v rows) : ∀ k, v.ownBlock = some k → k < w.heap.size := fun k e => (h.row.lt k e).2
theorem Lv.rowIn {w : World} {n0 : Nat} {v : Value} {rows : List Nr} (h : Lv w n0 v rows) (S : Nat → Prop) (hS : ∀ k, v.ownBlock = some k → S k) : RowIn w S v rows := by
 obtain ⟨a, c, h1, h2, h3, h4⟩ := h.form
 rcases h4 with ⟨rfl, h5, rfl⟩ | ⟨g, rfl⟩
 ·exact ⟨none, 0, h1, h2, h3, fun _ => rfl, .inl h5⟩
 ·refine ⟨_, c, h1, h2, h3, fun e => (by cases e), .inr ⟨g, 0, rfl, hS g (by rw [h1]; rfl), fun i x hx => ?_⟩⟩
  rw [Nat.zero_add]
  exact h.cells (by rw [h1]; rfl) hx
def sl5 (g n c : Nat) : Value := .slice (some ⟨g, 0, none⟩) n c
def Spine (w : World) (n0 : Nat) (S : Nat → Prop) : Addr → Value → List Tr → List Fr → List Addr → List (Option Nat) → Prop
 | p, v, ks, [], ps, bs => ps = [p] ∧ bs = [v.ownBlock] ∧ ∃ rows, Lv w n0 v rows ∧ NodesIn w S rows ks
 | p, v, ks, f :: fs, ps, bs => ∃ rows r g c ps' bs', ps = p :: ps' ∧ bs = some g :: bs' ∧ v = sl5 g (rows.length + 1) c ∧ Lv w n0 v (rows ++ [r]) ∧ NodesIn w S rows ks ∧ r.kind = 1 ∧ r.name = f.name ∧ r.text = [] ∧ AttIn w S r.av f.attrs ∧ Spine w n0 S ⟨g, rows.length * 5, none⟩ r.kv f.kids fs ps' bs'
def lastKids : List Fr → List Tr → List Fr
 | [], _ => []
 | [f], ks => [⟨f.name, f.attrs, ks⟩]
 | f :: f2 :: fs, ks => f :: lastKids (f2 :: fs) ks
def Apart : List (Option Nat) → Prop
 | [] => True
 | b :: bs => (∀ k, b = some k → some k ∉ bs) ∧ Apart bs
theorem Spine.lens {w : World} {n0 : Nat} {S : Nat → Prop} : ∀ {fs : List Fr} {p : Addr} {v : Value} {ks : List Tr} {ps : List Addr} {bs : List (Option Nat)}, Spine w n0 S p v ks fs ps bs → ps.length = fs.length + 1 ∧ bs.length = fs.length + 1
 | [], _, _, _, _, _, h => by obtain ⟨rfl, rfl, _⟩ := h; exact ⟨rfl, rfl⟩
 | f :: fs, _, _, _, _, _, h => by
  obtain ⟨rows, r, g, c, ps', bs', rfl, rfl, _, _, _, _, _, _, _, h2⟩ := h
  obtain ⟨h3, h4⟩ := Spine.lens h2
  exact ⟨by rw [List.length_cons, List.length_cons, h3], by rw [List.length_cons, List.length_cons, h4]⟩
theorem Spine.keep {w w' : World} {n0 : Nat} {S S' O : Nat → Prop} : ∀ {fs : List Fr} {p : Addr} {v : Value} {ks : List Tr} {ps : List Addr} {bs : List (Option Nat)}, Spine w n0 S p v ks fs ps bs → Keeps O w w' → (∀ k, S k → ¬ O k) → (∀ k, S k → S' k) → (∀ k, some k ∈ bs → ¬ O k) → Spine w' n0 S' p v ks fs ps bs
 | [], p, v, ks, ps, bs, h, hk, hS, hs, hb => by
  obtain ⟨rfl, rfl, rows, h1, h2⟩ := h
  exact ⟨rfl, rfl, rows, h1.keep hk (fun k e => hb k (by rw [e]; exact List.mem_cons_self ..)), h2.keep hk hS hs⟩
 | f :: fs, p, v, ks, ps, bs, h, hk, hS, hs, hb => by
  obtain ⟨rows, r, g, c, ps', bs', rfl, rfl, rfl, h1, h2, h3, h4, h5, h6, h7⟩ := h
  exact ⟨rows, r, g, c, ps', bs', rfl, rfl, rfl, h1.keep hk (fun k e => hb k (by cases e; exact List.mem_cons_self ..)), h2.keep hk hS hs, h3, h4, h5, h6.keep hk hS hs, Spine.keep h7 hk hS hs (fun k e => hb k (List.mem_cons_of_mem _ e))⟩
theorem ownsRow_block {w w' : World} {base e size n : Nat} {v : Value} {xs : List Value} (h : w.ownsRow base e size v n xs) (hb : ∀ k, v.ownBlock = some k → w'.heap[k]? = w.heap[k]?) : w'.ownsRow base e size v n xs := by
 refine ⟨h.1, ?_⟩
 rcases h.2 with hn | ⟨g, cap, cur, rfl, h1, h2, h3⟩
 ·exact .inl hn
 ·exact .inr ⟨g, cap, cur, rfl, h1, (hb g rfl).trans h2, h3⟩
theorem nrC_set (rows : List Nr) (r : Nr) (u : Value) : (nrC (rows ++ [r])).set (rows.length * 5 + 4) u = nrC (rows ++ [⟨r.kind, r.name, r.text, r.av, u⟩]) := by
 rw [nrC_app, nrC_app, ← nrC_len, List.set_append_right _ _ (by omega), Nat.add_sub_cancel_left]
 rfl
theorem nrC_text (rows : List Nr) (r : Nr) (u : List UInt8) : (nrC (rows ++ [r])).set (rows.length * 5 + 2) (.string (strB u)) = nrC (rows ++ [⟨r.kind, r.name, u, r.av, r.kv⟩]) := by
 rw [nrC_app, nrC_app, ← nrC_len, List.set_append_right _ _ (by omega), Nat.add_sub_cancel_left]
 rfl
theorem last_at (rows : List Nr) (r : Nr) : (rows ++ [r])[rows.length]? = some r := by simp
def lastF : Fr → List Fr → Fr
 | f, [] => f
 | _, f2 :: fs => lastF f2 fs
theorem Spine.focus {w : World} {n0 : Nat} {S : Nat → Prop} : ∀ {fs : List Fr} {f : Fr} {p : Addr} {v : Value} {ks : List Tr} {ps : List Addr} {bs : List (Option Nat)}, Spine w n0 S p v ks (f :: fs) ps bs → Apart bs →
  ∃ front g off vl bf, ps = front ++ [⟨g, off, none⟩] ∧ bs = bf ++ [Value.ownBlock vl] ∧ some g ∈ bf ∧ n0 ≤ g ∧ (∃ rows, Lv w n0 vl rows ∧ NodesIn w S rows (lastF f fs).kids) ∧ w.cell? ⟨g, off + 4, none⟩ = some vl ∧ w.cell? ⟨g, off + 1, none⟩ = some (.string (strB (lastF f fs).name)) ∧ w.frozen? ⟨g, off + 4, none⟩ = false ∧
   ∀ (w' : World) (S' O : Nat → Prop) (vl' : Value) (fs2 : List Fr) (ks2 : List Tr) (ps2 : List Addr) (bs2 : List (Option Nat)), Keeps O w w' → (∀ k, S k → ¬ O k) → (∀ k, S k → S' k) → (∀ k, some k ∈ bs → O k → k = g ∨ vl.ownBlock = some k) → w'.heap[g]? = (w.setCell ⟨g, off + 4, none⟩ vl').heap[g]? → Spine w' n0 S' ⟨g, off, none⟩ vl' ks2 fs2 ps2 bs2 → Spine w' n0 S' p v ks (lastKids (f :: fs) ks2 ++ fs2) (front ++ ps2) (bf ++ bs2)
 | [], f, p, v, ks, ps, bs, h, ha => by
  obtain ⟨rows, r, g, c, ps', bs', rfl, rfl, rfl, h1, h2, h3, h4, h5, h6, rfl, rfl, rows2, h8, h9⟩ := h
  have hx := h1.cells (g := g) rfl (last_at rows r)
  refine ⟨[p], g, rows.length * 5, r.kv, [some g], rfl, rfl, List.mem_cons_self .., h1.new g rfl, ⟨rows2, h8, h9⟩, hx.2.2.2.2, (by show _ = some (Value.string (strB f.name)); rw [← h4]; exact hx.2.1), ?_, ?_⟩
  ·have := h1.row
   rw [List.length_append, List.length_singleton] at this
   exact this.frozenAt _
  ·intro w' S' O vl' fs2 ks2 ps2 bs2 hk hS hs hO hg hsp
   refine ⟨rows, ⟨r.kind, r.name, r.text, r.av, vl'⟩, g, c, ps2, bs2, rfl, rfl, rfl, ⟨?_, h1.new⟩, h2.keep hk hS hs, h3, h4, h5, h6.keep hk hS hs, hsp⟩
   have hst := h1.row
   rw [List.length_append, List.length_singleton] at hst ⊢
   have hst2 := (hst.stored (rows.length * 5 + 4) vl').1
   rw [nrC_set] at hst2
   exact ownsRow_block hst2 (fun k e => by cases e; exact hg)
 | f2 :: fs, f, p, v, ks, ps, bs, h, ha => by
  obtain ⟨rows, r, g, c, ps', bs', rfl, rfl, rfl, h1, h2, h3, h4, h5, h6, h7⟩ := h
  obtain ⟨front, g', off, vl, bf, e1, e2, e3, e4, e5, e6, e7, e8, e9⟩ := Spine.focus h7 ha.2
  refine ⟨p :: front, g', off, vl, some g :: bf, by rw [e1]; rfl, by rw [e2]; rfl, List.mem_cons_of_mem _ e3, e4, e5, e6, e7, e8, ?_⟩
  intro w' S' O vl' fs2 ks2 ps2 bs2 hk hS hs hO hg hsp
  have hgn : ¬ O g := fun hOg => by
   have h9 := ha.1 g rfl
   rcases hO g (List.mem_cons_self ..) hOg with h10 | h10
   ·apply h9
    rw [e2, h10]
    exact List.mem_append_left _ e3
   ·apply h9
    rw [e2, ← h10]
    simp
  exact ⟨rows, r, g, c, front ++ ps2, bf ++ bs2, rfl, rfl, rfl, h1.keep hk (fun k e => by cases e; exact hgn), h2.keep hk hS hs, h3, h4, h5, h6.keep hk hS hs, e9 w' S' O vl' fs2 ks2 ps2 bs2 hk hS hs (fun k e => hO k (List.mem_cons_of_mem _ e)) hg hsp⟩
def elemT (f : Fr) : Tr := .mk 1 f.name [] f.attrs f.kids
def closeF : List Tr → Fr → List Fr → List Tr × List Fr
 | ks, f, [] => (ks ++ [elemT f], [])
 | ks, f, f2 :: fs => (ks, ⟨f.name, f.attrs, (closeF f.kids f2 fs).1⟩ :: (closeF f.kids f2 fs).2)
theorem NodeIn.elem {w : World} {S : Nat → Prop} {r : Nr} {f : Fr} {rows : List Nr} (h3 : r.kind = 1) (h4 : r.name = f.name) (h5 : r.text = []) (ha : AttIn w S r.av f.attrs) (hr : RowIn w S r.kv rows) (hn : NodesIn w S rows f.kids) : NodeIn w S r (elemT f) := by
 have := NodeIn.mk r f.attrs f.kids rows ha hr hn.1 hn.2
 rw [h3, h4, h5] at this
 exact this
theorem Spine.close {w : World} {n0 : Nat} {S S' : Nat → Prop} (hs : ∀ k, S k → S' k) : ∀ {fs : List Fr} {f : Fr} {p : Addr} {v : Value} {ks : List Tr} {ps : List Addr} {bs : List (Option Nat)}, Spine w n0 S p v ks (f :: fs) ps bs →
  ∃ front pl bf b, ps = front ++ [pl] ∧ bs = bf ++ [b] ∧ ((∀ k, b = some k → S' k) → Spine w n0 S' p v (closeF ks f fs).1 (closeF ks f fs).2 front bf)
 | [], f, p, v, ks, ps, bs, h => by
  obtain ⟨rows, r, g, c, ps', bs', rfl, rfl, rfl, h1, h2, h3, h4, h5, h6, rfl, rfl, rows2, h8, h9⟩ := h
  refine ⟨[p], _, [some g], _, rfl, rfl, fun hb => ⟨rfl, rfl, rows ++ [r], h1, ?_⟩⟩
  have hkp : Keeps Non w w := Keeps.refl _ _
  exact (h2.keep hkp (fun _ _ h => h) hs).snoc (NodeIn.elem h3 h4 h5 (h6.keep hkp (fun _ _ h => h) hs) (h8.rowIn S' hb) (h9.keep hkp (fun _ _ h => h) hs))
 | f2 :: fs, f, p, v, ks, ps, bs, h => by
  obtain ⟨rows, r, g, c, ps', bs', rfl, rfl, rfl, h1, h2, h3, h4, h5, h6, h7⟩ := h
  obtain ⟨front, pl, bf, b, e1, e2, e3⟩ := Spine.close hs h7
  have hkp : Keeps Non w w := Keeps.refl _ _
  refine ⟨p :: front, pl, some g :: bf, b, by rw [e1]; rfl, by rw [e2]; rfl, fun hb => ?_⟩
  exact ⟨rows, r, g, c, front, bf, rfl, rfl, rfl, h1, h2.keep hkp (fun _ _ h => h) hs, h3, h4, h5, h6.keep hkp (fun _ _ h => h) hs, e3 hb⟩
def ptrC (l : List Addr) : List Value := l.map fun p => .pointer (some p)
def growB (v ov : Value) (nodes : Nat) : Obj := .cells #[.int .i64 0, .string ⟨#[]⟩, .string ⟨#[]⟩, .slice none 0 0, v, ov, .int .i64 (nodes : Int)] 85 (0, 0)
structure GrW (w : World) (n0 gb : Nat) (S : Nat → Prop) (ks : List Tr) (fs : List Fr) (nodes : Nat) (v ov : Value) (ps : List Addr) (bs : List (Option Nat)) : Prop where
 blk : w.heap[gb]? = some (growB v ov nodes)
 opn : w.ownsRow 0 56 1 ov ps.length (ptrC ps)
 spi : Spine w n0 S ⟨gb, 0, none⟩ v ks fs ps bs
 dis : Apart bs
 off : ∀ k, some k ∈ bs → ¬ S k ∧ k ≠ gb ∧ ov.ownBlock ≠ some k
 sgb : ¬ S gb
 sov : ∀ k, ov.ownBlock = some k → ¬ S k ∧ k ≠ gb
 old : ∀ k, k < n0 → S k
theorem GrW.keep {w w' : World} {n0 gb nodes : Nat} {S O : Nat → Prop} {ks : List Tr} {fs : List Fr} {v ov : Value} {ps : List Addr} {bs : List (Option Nat)} (h : GrW w n0 gb S ks fs nodes v ov ps bs) (hk : Keeps O w w') (hO : ∀ k, O k → w.heap.size ≤ k) : GrW w' n0 gb S ks fs nodes v ov ps bs where
 blk := block_keep h.blk hk (fun e => by have := hO gb e; have := lt_of_block h.blk; omega)
 opn := ownsRow_keep h.opn hk (fun k e e2 => by have := hO k e2; have := (h.opn.lt k e).2; omega)
 spi := by
  have hk2 : Keeps Non w w' := ⟨hk.os, hk.tape, hk.output, hk.size, fun k hkk _ => hk.block k hkk (fun e => by have := hO k e; omega)⟩
  exact h.spi.keep hk2 (fun _ _ e => e) (fun _ e => e) (fun _ _ e => e)
 dis := h.dis
 off := h.off
 sgb := h.sgb
 sov := h.sov
 old := h.old
theorem GrW.below {w w' : World} {n0 gb nodes : Nat} {S : Nat → Prop} {ks : List Tr} {fs : List Fr} {v ov : Value} {ps : List Addr} {bs : List (Option Nat)} (h : GrW w n0 gb S ks fs nodes v ov ps bs) (hb : Below w.heap.size w w') : GrW w' n0 gb S ks fs nodes v ov ps bs :=
 h.keep (keeps_below hb Non) (fun _ e => e.elim)
theorem GrW.cells {w : World} {n0 gb nodes : Nat} {S : Nat → Prop} {ks : List Tr} {fs : List Fr} {v ov : Value} {ps : List Addr} {bs : List (Option Nat)} (h : GrW w n0 gb S ks fs nodes v ov ps bs) : w.cell? ⟨gb, 4, none⟩ = some v ∧ w.cell? ⟨gb, 5, none⟩ = some ov ∧ w.cell? ⟨gb, 6, none⟩ = some (.int .i64 (nodes : Int)) ∧ w.frozen? ⟨gb, 4, none⟩ = false ∧ w.frozen? ⟨gb, 5, none⟩ = false ∧ w.frozen? ⟨gb, 6, none⟩ = false :=
 ⟨(cell_of_block h.blk 4).trans rfl, (cell_of_block h.blk 5).trans rfl, (cell_of_block h.blk 6).trans rfl, unfrozen_of_block h.blk 4, unfrozen_of_block h.blk 5, unfrozen_of_block h.blk 6⟩
def innerK (ks : List Tr) : List Fr → List Tr
 | [] => ks
 | f :: fs => (lastF f fs).kids
theorem lastF_snoc (x : Fr) : ∀ (l : List Fr) (f : Fr), lastF f (l ++ [x]) = x
 | [], _ => rfl
 | f2 :: l, _ => lastF_snoc x l f2
theorem lastKids_snoc (x : Fr) (ks : List Tr) : ∀ l : List Fr, lastKids (l ++ [x]) ks = l ++ [⟨x.name, x.attrs, ks⟩]
 | [] => rfl
 | [f] => rfl
 | f :: f2 :: l => by
  show f :: lastKids (f2 :: l ++ [x]) ks = _
  rw [lastKids_snoc x ks (f2 :: l)]
  rfl
theorem Apart.app : ∀ {a b : List (Option Nat)}, Apart (a ++ b) ↔ Apart a ∧ Apart b ∧ ∀ k, some k ∈ a → some k ∉ b
 | [], b => by simp [Apart]
 | x :: a, b => by
  rw [List.cons_append, Apart, Apart, Apart.app]
  constructor
  ·rintro ⟨h1, h2, h3, h4⟩
   refine ⟨⟨fun k e hm => h1 k e (List.mem_append_left _ hm), h2⟩, h3, fun k hm hb => ?_⟩
   rcases List.mem_cons.1 hm with h5 | h5
   ·exact h1 k h5.symm (List.mem_append_right _ hb)
   ·exact h4 k h5 hb
  ·rintro ⟨⟨h1, h2⟩, h3, h4⟩
   refine ⟨fun k e hm => ?_, h2, h3, fun k hm => h4 k (List.mem_cons_of_mem _ hm)⟩
   rcases List.mem_append.1 hm with h5 | h5
   ·exact h1 k e h5
   ·exact h4 k (by rw [e]; exact List.mem_cons_self ..) h5
theorem Apart.one (b : Option Nat) : Apart [b] := ⟨(fun _ _ h => by cases h), trivial⟩
structure Inn (w : World) (n0 gb : Nat) (S : Nat → Prop) (ks : List Tr) (fs : List Fr) (nodes : Nat) (ov : Value) (ps : List Addr) (front : List Addr) (b o : Nat) (vl : Value) (rows : List Nr) : Prop where
 pts : ps = front ++ [⟨b, o, none⟩]
 row : Lv w n0 vl rows
 nds : NodesIn w S rows (innerK ks fs)
 cel : w.cell? ⟨b, o + 4, none⟩ = some vl
 frz : w.frozen? ⟨b, o + 4, none⟩ = false
 nam : ∀ f fs', fs = f :: fs' → w.cell? ⟨b, o + 1, none⟩ = some (.string (strB (lastF f fs').name))
 nS : ¬ S b
 nv : vl.ownBlock ≠ some b
 no : ov.ownBlock ≠ some b
 nvS : ∀ k, vl.ownBlock = some k → ¬ S k ∧ k ≠ gb ∧ ov.ownBlock ≠ some k
 lo : n0 ≤ b
 put : ∀ (w' : World) (O : Nat → Prop) (vl' : Value) (rows' : List Nr) (ks2 : List Tr), Keeps O w w' → (∀ k, O k → k = b ∨ vl.ownBlock = some k ∨ w.heap.size ≤ k) → w'.heap[b]? = (w.setCell ⟨b, o + 4, none⟩ vl').heap[b]? → Lv w' n0 vl' rows' → (∀ k, vl'.ownBlock = some k → vl.ownBlock = some k ∨ w.heap.size ≤ k) → NodesIn w' S rows' ks2 → ∃ v' bs', GrW w' n0 gb S (match fs with | [] => ks2 | _ => ks) (lastKids fs ks2) nodes v' ov ps bs'
theorem GrW.inn {w : World} {n0 gb nodes : Nat} {S : Nat → Prop} {ks : List Tr} {fs : List Fr} {v ov : Value} {ps : List Addr} {bs : List (Option Nat)} (h : GrW w n0 gb S ks fs nodes v ov ps bs) (hS : ∀ k, S k → k < w.heap.size) (hn : n0 ≤ gb) : ∃ front b o vl rows, Inn w n0 gb S ks fs nodes ov ps front b o vl rows := by
 have hgl := lt_of_block h.blk
 have hov : ∀ k, ov.ownBlock = some k → k < w.heap.size := fun k e => (h.opn.lt k e).2
 cases fs with
 | nil =>
  obtain ⟨e1, e2, rows, h1, h2⟩ := h.spi
  have hnv : v.ownBlock ≠ some gb := fun e => (h.off gb (by rw [e2, e]; exact List.mem_cons_self ..)).2.1 rfl
  refine ⟨[], gb, 0, v, rows, e1, h1, h2, h.cells.1, h.cells.2.2.2.1, (fun _ _ e => by cases e), h.sgb, hnv, (fun e => (h.sov gb e).2 rfl), (fun k e => h.off k (by rw [e2, e]; exact List.mem_cons_self ..)), hn, ?_⟩
  intro w' O vl' rows' ks2 hk hO hb hlv hvl hnd
  have hblk : w'.heap[gb]? = some (growB vl' ov nodes) := by
   rw [hb]
   exact block_setCell (i := 4) h.blk vl'
  refine ⟨vl', [vl'.ownBlock], hblk, ownsRow_keep h.opn hk (fun k e hOk => ?_), ⟨e1, rfl, rows', hlv, hnd⟩, Apart.one _, fun k e => ?_, h.sgb, h.sov, h.old⟩
  ·rcases hO k hOk with h3 | h3 | h3
   ·exact (h.sov k e).2 h3
   ·exact (h.off k (by rw [e2, h3]; exact List.mem_cons_self ..)).2.2 e
   ·have := hov k e; omega
  ·have e5 : vl'.ownBlock = some k := (List.mem_singleton.1 e).symm
   rcases hvl k e5 with h3 | h3
   ·exact h.off k (by rw [e2, h3]; exact List.mem_cons_self ..)
   ·refine ⟨fun hs => by have := hS k hs; omega, by omega, fun e6 => by have := hov k e6; omega⟩
 | cons f fs =>
  obtain ⟨front, g, off, vl, bf, e1, e2, e3, e4, ⟨rows, h1, h2⟩, e5, e6, e7, e8⟩ := Spine.focus h.spi h.dis
  have hgin : some g ∈ bs := by rw [e2]; exact List.mem_append_left _ e3
  have hog := h.off g hgin
  have hap := Apart.app.1 (e2 ▸ h.dis)
  have hvin : ∀ k, vl.ownBlock = some k → some k ∈ bs := fun k e => by rw [e2, e]; simp
  refine ⟨front, g, off, vl, rows, e1, h1, h2, e5, e7, (fun f' fs' e => by cases e; exact e6), hog.1, ?_, hog.2.2, (fun k e => h.off k (hvin k e)), e4, ?_⟩
  ·intro e
   exact hap.2.2 g e3 (by rw [e]; exact List.mem_cons_self ..)
  intro w' O vl' rows' ks2 hk hO hb hlv hvl hnd
  have hSO : ∀ k, S k → ¬ O k := fun k hs hOk => by
   rcases hO k hOk with h3 | h3 | h3
   ·exact hog.1 (h3 ▸ hs)
   ·exact (h.off k (hvin k h3)).1 hs
   ·have := hS k hs; omega
  have hlt : ∀ k, some k ∈ bs → k < w.heap.size := fun k e => by
   have : ∀ {fs : List Fr} {p : Addr} {v : Value} {ks : List Tr} {ps : List Addr} {bs : List (Option Nat)}, Spine w n0 S p v ks fs ps bs → ∀ k, some k ∈ bs → k < w.heap.size := by
    intro fs
    induction fs with
    | nil =>
     intro p v ks ps bs h k e
     obtain ⟨_, rfl, rows, h1, _⟩ := h
     exact h1.lt k (List.mem_singleton.1 e).symm
    | cons f fs ih =>
     intro p v ks ps bs h k e
     obtain ⟨rows, r, g, c, ps', bs', rfl, rfl, rfl, h1, _, _, _, _, _, h7⟩ := h
     rcases List.mem_cons.1 e with e | e
     ·cases e; exact h1.lt k rfl
     ·exact ih h7 k e
   exact this h.spi k e
  have hsp := e8 w' S O vl' [] ks2 [⟨g, off, none⟩] [vl'.ownBlock] hk hSO (fun _ e => e) (fun k hkb hOk => by
   rcases hO k hOk with h3 | h3 | h3
   ·exact .inl h3
   ·exact .inr h3
   ·have := hlt k hkb; omega) hb ⟨rfl, rfl, rows', hlv, hnd⟩
  rw [List.append_nil, ← e1] at hsp
  have hgO : ¬ O gb := fun hOk => by
   rcases hO gb hOk with h3 | h3 | h3
   ·exact hog.2.1 h3.symm
   ·exact (h.off gb (hvin gb h3)).2.1 rfl
   ·omega
  refine ⟨v, bf ++ [vl'.ownBlock], block_keep h.blk hk hgO, ownsRow_keep h.opn hk (fun k e hOk => ?_), hsp, Apart.app.2 ⟨hap.1, Apart.one _, fun k e e' => ?_⟩, fun k e => ?_, h.sgb, h.sov, h.old⟩
  ·rcases hO k hOk with h3 | h3 | h3
   ·exact hog.2.2 (h3 ▸ e)
   ·exact (h.off k (hvin k h3)).2.2 e
   ·have := hov k e; omega
  ·have e9 : vl'.ownBlock = some k := (List.mem_singleton.1 e').symm
   rcases hvl k e9 with h3 | h3
   ·exact hap.2.2 k e (by rw [h3]; exact List.mem_cons_self ..)
   ·have := hlt k (by rw [e2]; exact List.mem_append_left _ e); omega
  ·rcases List.mem_append.1 e with e | e
   ·exact h.off k (by rw [e2]; exact List.mem_append_left _ e)
   ·have e9 : vl'.ownBlock = some k := (List.mem_singleton.1 e).symm
    rcases hvl k e9 with h3 | h3
    ·exact h.off k (hvin k h3)
    ·exact ⟨fun hs => by have := hS k hs; omega, by omega, fun e6 => by have := hov k e6; omega⟩
def nodeV (r : Nr) : Value := .agg #[.int .i64 (r.kind : Int), .string (strB r.name), .string (strB r.text), r.av, r.kv]
set_option maxRecDepth 100000 in
theorem isElem_calls (r : Nr) (w : World) : Calls Tryz.prog 44 #[nodeV r] w (Leaves (.bool (r.kind == 1)) w) := by
 obtain ⟨k, n, t, av, kv⟩ := r
 obtain ⟨q, hq⟩ : ∃ q, (k == 1) = q := ⟨_, rfl⟩
 have hk : ((k : Int) == 1) = q := hq
 obtain ⟨sn, hsn⟩ : ∃ z, strB n = z := ⟨_, rfl⟩
 obtain ⟨st, hst⟩ : ∃ z, strB t = z := ⟨_, rfl⟩
 show Calls Tryz.prog 44 #[.agg #[.int .i64 (k : Int), .string (strB n), .string (strB t), av, kv]] w (Leaves (.bool (k == 1)) w)
 rw [hsn, hst, hq]
 clear hq hsn hst
 go_enter Tryz.func44, Tryz.ntmps44
 go_wp2_with fail
 go_ret
 exact ⟨rfl, (Below.refl _ _).alloc (Nat.le_refl _) _⟩
theorem GrW.open_form {w : World} {n0 gb nodes : Nat} {S : Nat → Prop} {ks : List Tr} {fs : List Fr} {v ov : Value} {ps : List Addr} {bs : List (Option Nat)} (h : GrW w n0 gb S ks fs nodes v ov ps bs) : ∃ ob oc, ov = .slice (some ⟨ob, 0, none⟩) ps.length oc ∧ ps.length = fs.length + 1 ∧ ps.length ≤ oc ∧ oc ≤ maxLen ∧ ∀ i p, ps[i]? = some p → w.cell? ⟨ob, i, none⟩ = some (.pointer (some p)) := by
 have hl := (Spine.lens h.spi).1
 rcases h.opn.2 with ⟨_, h0⟩ | ⟨g, cap, cur, h1, hg, hgb, hcap, hcm, hcur, htk⟩
 ·omega
 ·refine ⟨g, cap, h1, hl, hcap, hcm, fun i p hp => ?_⟩
  have := h.opn.cells (g := g) (by rw [h1]; rfl) i (.pointer (some p)) (by rw [ptrC, List.getElem?_map, hp]; rfl)
  rwa [Addr.add_mid, Nat.zero_add] at this
set_option maxRecDepth 100000 in
theorem outside_calls {w : World} {n0 gb nodes : Nat} {S : Nat → Prop} {ks : List Tr} {fs : List Fr} {v ov : Value} {ps : List Addr} {bs : List (Option Nat)} (h : GrW w n0 gb S ks fs nodes v ov ps bs) : Calls Tryz.prog 45 #[.pointer (some ⟨gb, 0, none⟩)] w (Leaves (.bool (decide (fs = []))) w) := by
 obtain ⟨ob, oc, rfl, hl, _, _, _⟩ := h.open_form
 have e5 := h.cells.2.1
 obtain ⟨q, hq⟩ : ∃ q, decide (fs = []) = q := ⟨_, rfl⟩
 have hz : (((ps.length : Nat) : Int) == 1) = q := by
  rw [← hq, hl]
  cases fs with
  | nil => rfl
  | cons f fs =>
   rw [decide_eq_false (List.cons_ne_nil _ _), beq_eq_false_iff_ne, List.length_cons]
   omega
 obtain ⟨n, hn⟩ : ∃ n, ps.length = n := ⟨_, rfl⟩
 rw [hq]
 rw [hn] at e5 hz
 clear h hl hq hn
 go_enter Tryz.func45, Tryz.ntmps45
 go_wp2_with fail
 go_ret
 exact ⟨rfl, Below.refl _ _⟩
set_option maxRecDepth 100000 in
theorem inner_calls {w : World} {n0 gb nodes : Nat} {S : Nat → Prop} {ks : List Tr} {fs : List Fr} {v ov : Value} {ps : List Addr} {bs : List (Option Nat)} (h : GrW w n0 gb S ks fs nodes v ov ps bs) {front : List Addr} {b o : Nat} (hp : ps = front ++ [⟨b, o, none⟩]) : Calls Tryz.prog 109 #[.pointer (some ⟨gb, 0, none⟩)] w (Leaves (.pointer (some ⟨b, o, none⟩)) w) := by
 obtain ⟨ob, oc, rfl, hl, hoc, hom, hcell⟩ := h.open_form
 have e5 := h.cells.2.1
 have hlen : ps.length = front.length + 1 := by rw [hp]; simp
 have c0 := hcell front.length ⟨b, o, none⟩ (by rw [hp]; simp)
 obtain ⟨m, hm⟩ : ∃ m, front.length = m := ⟨_, rfl⟩
 rw [hlen, hm] at e5 hoc
 rw [hm] at c0
 have hwm : IntKind.i64.wrap (m : Int) = (m : Int) := IntWalk.i64_in _ (by unfold maxLen at hom; omega)
 have h0 : (0 : Int) ≤ (m : Int) := by omega
 have h1 : (m : Int) < ((m + 1 : Nat) : Int) := by omega
 clear h hcell hlen hp hl hm
 go_enter Tryz.func109, Tryz.ntmps109
 go_wp2_with fail
 go_quiet (fail)
 go_wp2_with fail
 go_ret
 exact ⟨rfl, below_drewNv (Below.refl _ _) _⟩
set_option maxRecDepth 100000 in
theorem newest_calls {w : World} {n0 gb nodes : Nat} {S : Nat → Prop} {ks : List Tr} {fs : List Fr} {v ov : Value} {ps : List Addr} {bs : List (Option Nat)} (h : GrW w n0 gb S ks fs nodes v ov ps bs) {front : List Addr} {b o : Nat} {vl : Value} {rows : List Nr} (hi : Inn w n0 gb S ks fs nodes ov ps front b o vl rows) : Calls Tryz.prog 108 #[.pointer (some ⟨gb, 0, none⟩)] w (Leaves (match vl.ownBlock, rows.length with | some g, n + 1 => .pointer (some ⟨g, n * 5, none⟩) | _, _ => .pointer none) w) := by
 have HIN := hid (inner_calls h hi.pts)
 have hc := hi.cel
 obtain ⟨a, c, rfl, h1, h2, h3⟩ := hi.row.form
 obtain ⟨n, hn⟩ : ∃ n, rows.length = n := ⟨_, rfl⟩
 rw [hn] at hc h1 ⊢
 cases n with
 | zero =>
  have hr : (match (Value.slice a 0 c).ownBlock, 0 with | some g, n + 1 => Value.pointer (some ⟨g, n * 5, none⟩) | _, _ => .pointer none) = .pointer none := by
   cases (Value.slice a 0 c).ownBlock <;> rfl
  rw [hr]
  clear h hi h3 hn hr
  go_enter Tryz.func108, Tryz.ntmps108
  go_wp2_with fail
  with_reducible refine HIN.out.mono ?_
  rintro e w1 ⟨rfl, hb⟩
  have HB := hid hb
  replace hc := (hb.cell (lt_of_cell hc)).trans hc
  clear hb
  go_wp2_with fail
  go_ret
  exact ⟨rfl, HB.out⟩
 | succ n =>
  rcases h3 with ⟨_, h4, _⟩ | ⟨g, rfl⟩
  ·rw [h4] at hn; cases hn
  have hwm : IntKind.i64.wrap (n : Int) = (n : Int) := IntWalk.i64_in _ (by unfold maxLen at h2; omega)
  have hz2 : ¬ (n : Int) + 1 = 0 := by omega
  have hz : (((n + 1 : Nat) : Int) == 0) = false := by rw [beq_eq_false_iff_ne]; omega
  have hi0 : (0 : Int) ≤ (n : Int) := by omega
  have hi1 : (n : Int) < ((n + 1 : Nat) : Int) := by omega
  show Calls Tryz.prog 108 #[.pointer (some ⟨gb, 0, none⟩)] w (Leaves (.pointer (some ⟨g, n * 5, none⟩)) w)
  clear h hi hn
  go_enter Tryz.func108, Tryz.ntmps108
  go_wp2_with fail
  with_reducible refine HIN.out.mono ?_
  rintro e w1 ⟨rfl, hb⟩
  have HB := hid hb
  replace hc := (hb.cell (lt_of_cell hc)).trans hc
  clear hb
  go_wp2_with fail
  go_ret
  exact ⟨rfl, HB.out⟩
end Go.Proofs.YtjpkkflhcjjefaaGreatDoor
