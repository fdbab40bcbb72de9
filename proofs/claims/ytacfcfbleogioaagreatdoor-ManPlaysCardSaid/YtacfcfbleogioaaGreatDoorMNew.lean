/-
  The newest manifest of a disk, told by the program. Conditions: the disk lies in memory; it is small; the library's table of powers of ten and its two errors are laid.
-/
import Derived.Test.YtacfcfbleogioaaGreatDoorMBack
import Derived.Test.YtacfcfbleogioaaGreatDoorMDec
import Derived.Test.YtacfcfbleogioaaGreatDoorMWrite
namespace Go.Proofs.YtacfcfbleogioaaGreatDoor
open Go.RowKit Go.Lib Go.Joins Go.Shelf
attribute [local go_sem] Oper.semAt_some

theorem below_then0 {n₀ : Nat} {A B C : World} (h : Below n₀ A B) (k : Below B.heap.size B C) (hn : n₀ ≤ B.heap.size) : Below n₀ A C := h.trans (k.mono hn)
theorem cells_put {W : World} {k l : Nat} {o' o : Obj} (h : W.heap[k]? = some o') (hne : ¬ k = l) : (W.putObj l o).heap[k]? = some o' := (World.putObj_heap_other hne).trans h
theorem irow_put {W : World} {S : Nat → Prop} {a : Option Addr} {l : List Int} {E : Nat} (h : IRow W S a l) {o : Obj} (hE : W.heap[E]? = some (.deferred (some []))) : IRow (W.putObj E o) S a l := by
  rcases h with h0 | ⟨b, off, ha, hs, hc⟩
  · exact .inl h0
  · exact .inr ⟨b, off, ha, hs, fun i x hi => cell_kept (hc i x hi) (grownBy_putObj' _ E o) (fun r e => by cases e; exact ⟨_, hE, rfl⟩)⟩

/-- What Newest answers. -/
def NewOut (L : List Fil) (w : World) (e : Ending) (w' : World) : Prop :=
  ∃ v, e = .returned (.tuple #[v, .bool (newB L).isSome]) ∧ ManV w w' v ((newB L).getD noM) ∧ Below w.heap.size w w'
theorem cells_kept {A B : World} {row : Option Nat} (hg : A.grownBy B row) (hr : ∀ r, row = some r → ∃ o : Obj, A.heap[r]? = some o ∧ o.isCells = false) {k : Nat} {cs : Array Value} {t : TypeId} {fr : Nat × Nat} (h : A.heap[k]? = some (.cells cs t fr)) : B.heap[k]? = some (.cells cs t fr) :=
  (hg.block k (lt_of_block h) (fun e => by obtain ⟨o, ho, hc⟩ := hr k e.symm; rw [h] at ho; cases ho; cases hc)).trans h
theorem irow_kept {A B : World} {row : Option Nat} (hg : A.grownBy B row) (hr : ∀ r, row = some r → ∃ o : Obj, A.heap[r]? = some o ∧ o.isCells = false) {S : Nat → Prop} {a : Option Addr} {l : List Int} (h : IRow A S a l) : IRow B S a l := by
  rcases h with h0 | ⟨b, o, ha, hs, hc⟩
  · exact .inl h0
  · exact .inr ⟨b, o, ha, hs, fun i x hi => cell_kept (hc i x hi) hg hr⟩
theorem keepsFrom_of {B : Nat} {W W' : World} (hb : Below W.heap.size W W') : KeepsFrom B W W' := ⟨hb.size, fun k _o _ hk _ => (hb.block k (lt_of_block hk)).trans hk⟩
/-- What is left where a manifest was found: the answer lies in its two boxes. -/
def Found (w : World) (r : Nat) (m : Mfs) (W : World) : Prop :=
  ∃ a c S, W.heap[r]? = some (.cells #[.int .i64 m.gen, .int .i64 m.last, .slice a m.segs.length c] 25 (0, 0)) ∧ W.heap[r + 1]? = some (.cells #[.bool true] 4 (0, 0)) ∧ IRow W S a m.segs ∧ (∀ k, S k → w.heap.size ≤ k ∧ k < W.heap.size) ∧ (a = none → c = 0) ∧ m.segs.length ≤ c ∧ c ≤ maxLen
theorem Found.kept {w : World} {r : Nat} {m : Mfs} {A B : World} {row : Option Nat} (h : Found w r m A) (hg : A.grownBy B row) (hr : ∀ r, row = some r → ∃ o : Obj, A.heap[r]? = some o ∧ o.isCells = false) : Found w r m B := by
  obtain ⟨a, c, S, h1, h2, h3, h4, h5⟩ := h
  exact ⟨a, c, S, cells_kept hg hr h1, cells_kept hg hr h2, irow_kept hg hr h3, fun k e => ⟨(h4 k e).1, Nat.lt_of_lt_of_le (h4 k e).2 hg.size⟩, h5⟩
/-- Two boxes, written. -/
theorem boxes_set {w W : World} {r : Nat} {x y z u x' y' z' u' : Value} {t t' : TypeId} (h : W.heap[r]? = some (.cells #[x, y, z] t (0, 0))) (h' : W.heap[r + 1]? = some (.cells #[u] t' (0, 0))) (hw : w.heap.size ≤ r) (hB : Below w.heap.size w W) :
    ∃ W', ((((W.setCell ⟨r, 0, none⟩ x').setCell ⟨r, 1, none⟩ y').setCell ⟨r, 2, none⟩ z').setCell ⟨r + 1, 0, none⟩ u') = W' ∧ W'.heap[r]? = some (.cells #[x', y', z'] t (0, 0)) ∧ W'.heap[r + 1]? = some (.cells #[u'] t' (0, 0)) ∧ Below w.heap.size w W' ∧ Keeps (fun k => k = r ∨ k = r + 1) W W' := by
  obtain ⟨q1, q2, q3⟩ := box3_set h hw hB x' y' z'
  have h2 := (q3.block (r + 1) (lt_of_block h') (by intro e; have e' : r + 1 = r := e; omega)).trans h'
  have h3 := block_setCell (i := 0) h2 u'
  have hk : Keeps (fun k => k = r ∨ k = r + 1) W (((((W.setCell ⟨r, 0, none⟩ x').setCell ⟨r, 1, none⟩ y').setCell ⟨r, 2, none⟩ z').setCell ⟨r + 1, 0, none⟩ u')) := (q3.mono (fun k _ e => .inl e)).setCell (p := ⟨r + 1, 0, none⟩) (.inl (.inr rfl)) _
  refine ⟨_, rfl, (hk2 q1 (r + 1) u' (by omega)), h3, q2.setCell (p := ⟨r + 1, 0, none⟩) (by show w.heap.size ≤ r + 1; omega) _, hk⟩
where
  hk2 {V : World} {b : Nat} {o : Obj} (h : V.heap[b]? = some o) (c : Nat) (v : Value) (hne : b ≠ c) : (V.setCell ⟨c, 0, none⟩ v).heap[b]? = some o :=
    (((Keeps.refl (One c) V).setCell (p := ⟨c, 0, none⟩) (.inl rfl) v).block b (lt_of_block h) (fun e => hne e)).trans h

set_option maxRecDepth 100000 in
set_option maxHeartbeats 8000000 in
theorem newest_calls (w : World) {S : Nat → Prop} {B : Nat} {d : Dsk} (hd : Disk w S B d) (hu : used d.L ≤ 1073741824) (ht : Tab w) (he : Errs w) :
    Calls Tryz.prog 11 #[.pointer (some ⟨B, 0, none⟩)] w (NewOut d.L w) := by
  obtain ⟨W3, hW3⟩ : ∃ W3, ((w.alloc (.cells #[.pointer (some ⟨B, 0, none⟩)] 29)).alloc (.cells #[.int .i64 0, .int .i64 0, .slice none 0 0] 25)).alloc (.cells #[.bool false] 4) = W3 := ⟨_, rfl⟩
  have hb3 : Below w.heap.size w W3 := by rw [← hW3]; exact (((Below.refl _ _).alloc (Nat.le_refl _) _).alloc (by simp) _).alloc (by simp; omega) _
  have hs3 : W3.heap.size = w.heap.size + 1 + 1 + 1 := by rw [← hW3]; simp
  have hbd : W3.heap[w.heap.size]? = some (.cells #[.pointer (some ⟨B, 0, none⟩)] 29 (0, 0)) := by
    rw [← hW3]
    exact block_below ((Below.refl _ _).alloc (Nat.le_refl _) _) (block_below ((Below.refl _ _).alloc (Nat.le_refl _) _) (heap_alloc_new w _))
  have hr0 : W3.heap[w.heap.size + 1]? = some (.cells #[.int .i64 0, .int .i64 0, .slice none 0 0] 25 (0, 0)) := by
    have e : (w.alloc (.cells #[.pointer (some ⟨B, 0, none⟩)] 29)).heap.size = w.heap.size + 1 := by simp
    rw [← hW3, ← e]
    exact block_below ((Below.refl _ _).alloc (Nat.le_refl _) _) (heap_alloc_new _ _)
  have hr1 : W3.heap[w.heap.size + 1 + 1]? = some (.cells #[.bool false] 4 (0, 0)) := by
    have e : ((w.alloc (.cells #[.pointer (some ⟨B, 0, none⟩)] 29)).alloc (.cells #[.int .i64 0, .int .i64 0, .slice none 0 0] 25)).heap.size = w.heap.size + 1 + 1 := by simp
    rw [← hW3, ← e]
    exact heap_alloc_new _ _
  have HNAMES : Hid (Calls Tryz.prog 41 #[.pointer (some ⟨B, 0, none⟩)] W3 (NamesOut (d.L.map Fil.name) W3)) := Lib.hid (by
    obtain ⟨hi, _, F, T, cs, h⟩ := hd.below hb3
    exact names_calls W3 h hi)
  have HD3 := Lib.hid (hd.below hb3)
  have HT3 := Lib.hid (ht.below hb3)
  have HE3 := Lib.hid (he.below hb3)
  have HB3 := Lib.hid hb3
  have HBD := Lib.hid hbd
  have HR0 := Lib.hid hr0
  have HR1 := Lib.hid hr1
  have HS3 := Lib.hid hs3
  have HU := Lib.hid hu
  have hmost : d.L.length ≤ 64 := hd.1.most
  have HNMD := Lib.hid hd.1.name
  have k3 : W3.cell? ⟨w.heap.size, 0, none⟩ = some (.pointer (some ⟨B, 0, none⟩)) := (cell_of_block hbd 0).trans rfl
  have HW3 := Lib.hid hW3
  have HBY := Lib.hid hd.1.byte
  have HSRT := Lib.hid hd.1.srt
  clear hW3 hb3 hs3 hbd hr0 hr1 hd hu ht he
  refine (callsIn_wide (n := 8)).1 ?_
  refine callsIn_of_wp_marks Tryz.func11 rfl trivial ?_ rfl
  simp only [Tryz.ntmps11, List.size_toArray, List.length_cons, List.length_nil, Nat.reduceAdd, Nat.reduceSub, Array.replicate_succ, Array.replicate_zero, List.push_toArray, List.append_toArray, List.nil_append, List.cons_append]
  gi_wp2_with fail
  rw [HW3.out]
  refine ⟨trivial, (callsIn_wide.2 HNAMES.out).mono ?_⟩
  rintro e W4 ⟨v4, rfl, hown4, hb4⟩
  rw [List.length_map] at hown4
  obtain ⟨a4, c4, rfl, hvr4, hlc4, hcm4⟩ := vrow_of_own (l := (d.L.map Fil.name).map Value.string) hown4 (by rw [List.length_map, List.length_map])
  obtain ⟨len, hlen⟩ : ∃ len, d.L.length = len := ⟨_, rfl⟩
  rw [hlen] at hlc4 hown4 hmost ⊢
  obtain ⟨nm, hnm⟩ : ∃ nm : Nat → ByteArray, nm = fun k => ((d.L.map Fil.name)[k]?).getD ⟨#[]⟩ := ⟨_, rfl⟩
  have HNM : Hid (∀ k (h : k < d.L.length), nm k = (d.L[k]'h).name) := Lib.hid (fun k h => by rw [hnm]; dsimp only; rw [List.getElem?_map, List.getElem?_eq_getElem h]; rfl)
  obtain ⟨b, off, hba⟩ : ∃ b off, 0 < len → a4 = some ⟨b, off, none⟩ ∧ b < W4.heap.size ∧ ∀ j, j < len → W4.cell? ⟨b, off + j, none⟩ = some (.string (nm j)) := by
    rcases hvr4 with h0 | ⟨b, o, ha, hs, hc⟩
    · refine ⟨0, 0, fun h => ?_⟩
      have := congrArg List.length h0
      rw [List.length_map, List.length_map, hlen] at this
      simp at this
      omega
    · refine ⟨b, o, fun h => ⟨ha, (hown4.lt b (by rw [← hlen]; exact hs)).2, fun j hj => hc j _ ?_⟩⟩
      rw [List.getElem?_map, List.getElem?_map, List.getElem?_eq_getElem (by rw [hlen]; exact hj), HNM.out j (by rw [hlen]; exact hj)]
      rfl
  have HBA := Lib.hid hba
  have HB4 := Lib.hid hb4
  have HLEN := Lib.hid hlen
  clear hown4 hvr4 hba hb4 hnm HNAMES hlen
  gi_wp2_with (refine ⟨trivial, ?_⟩; gi_at_call 40; refine (back_in _ _ _ _ _).mono ?_; rintro e w' ⟨rfl, rfl⟩)
  obtain ⟨W0, hW0⟩ : ∃ W0, W4.alloc (.cells #[.slice a4 len c4] 41) = W0 := ⟨_, rfl⟩
  have hb40 : Below W4.heap.size W4 W0 := by rw [← hW0]; exact (Below.refl _ _).alloc (Nat.le_refl _) _
  have hs0 : W0.heap.size = W4.heap.size + 1 := by rw [← hW0]; simp
  have cBs : W0.cell? ⟨W4.heap.size, 0, none⟩ = some (.slice a4 len c4) := by rw [← hW0]; exact (cell_of_block (heap_alloc_new W4 _) 0).trans rfl
  rw [hW0]
  have HS0 := Lib.hid hs0
  have HB30 := Lib.hid (below_then HB4.out hb40)
  have hB0 : Below w.heap.size w W0 := below_then HB3.out HB30.out
  have HB0 := Lib.hid hB0
  have hcells : ∀ j, j < len → W0.cell? ⟨b, off + j, none⟩ = some (.string (nm j)) := fun j hj => by
    have h1 := (HBA.out (by omega)).2.2 j hj
    exact (hb40.cell (p := ⟨b, off + j, none⟩) (lt_of_cell h1)).trans h1
  have hsz0 : w.heap.size + 1 + 1 + 1 ≤ W4.heap.size := by have := HB4.out.size; have := HS3.out; omega
  clear hW0
  refine wpIn_rangeFunc_ownG rfl (by decide) (gf := 84) (lb := #[.pointer (some ⟨W4.heap.size, 0, none⟩)]) rfl trivial (enters_of Tryz.func84 (by kernel_rfl) rfl)
    (back_stops _ (by decide) W4.heap.size W0.heap.size a4 len c4 nm (by omega) hlc4 W0 (by omega) (Nat.le_refl _) b off (fun h => ⟨(HBA.out h).1, by have := (HBA.out h).2.1; omega⟩) cBs hcells) belowK_t (belowK_b (Nat.le_refl _)) (Below.refl _ _) (fun _ => rfl)
    (fun pre W => (∀ x ∈ pre, ∀ f, d.L[x.1]? = some f → ofFile f = none) ∧ Below W0.heap.size W0 W)
    (fun c pre W => (c = .ret ∧ ∃ ini x f m, pre = ini ++ [x] ∧ (∀ y ∈ ini, ∀ f, d.L[y.1]? = some f → ofFile f = none) ∧ d.L[x.1]? = some f ∧ ofFile f = some m ∧ Found w (w.heap.size + 1) m W) ∧ Below w.heap.size w W)
    (OwnFrom.and (Go.Own.from (fun _ _ _ _ hs _ _ => hs) _) (ownFrom_below (Nat.le_refl _) (Nat.le_refl _)))
    (fun c => OwnFrom.and (Go.Own.from (fun s A B row hs hg hr => by
      obtain ⟨h1, ini, x, f, m, h2, h3, h4, h5, h6⟩ := hs
      exact ⟨h1, ini, x, f, m, h2, h3, h4, h5, h6.kept hg hr⟩) _) (ownFrom_below (Nat.le_refl _) hB0.size))
    ⟨fun x hx => (by cases hx), Below.refl _ _⟩
    (fun x => { tmps := #[.pointer (some ⟨B, 0, none⟩), .pointer (some ⟨w.heap.size, 0, none⟩), .pointer (some ⟨w.heap.size + 1, 0, none⟩), .pointer (some ⟨w.heap.size + 1 + 1, 0, none⟩), undef, .string (nm x.1), undef, undef, undef, undef, undef, .pointer (some ⟨B, 0, none⟩), .slice a4 len c4, .func (.func 84) #[] #[.pointer (some ⟨W4.heap.size, 0, none⟩)], .int .i64 (x.1 : Int), .string (nm x.1), undef, undef, undef, undef, undef, undef, undef, undef, undef, undef, undef, undef, undef, undef, undef, undef, undef, undef, undef, undef, undef, undef, undef, undef, undef, undef, undef], defers := [] }) ?assign ?body ?done ?stop
  case assign =>
    intro l x W K hK
    gi_wp2
    exact hK
  case body =>
    rintro lb pre ⟨p, hp⟩ W ⟨hpre, hB⟩ _
    obtain ⟨f, hf⟩ : ∃ f, d.L[p]? = some f := ⟨d.L[p]'(by rw [HLEN.out]; exact hp), List.getElem?_eq_getElem _⟩
    obtain ⟨hpl, hfe⟩ := List.getElem?_eq_some_iff.1 hf
    have hmem : f ∈ d.L := List.mem_of_getElem? hf
    have hnmp : nm p = f.name := by rw [HNM.out p hpl, hfe]
    dsimp only
    rw [hnmp]
    obtain ⟨s, hs⟩ : ∃ s, f.name = s := ⟨_, rfl⟩
    have hs40 : s.size ≤ 40 := by
      have h1 := HNMD.out f hmem
      unfold nmd at h1
      simp only [Bool.and_eq_true, decide_eq_true_eq] at h1
      rw [← hs]
      exact h1.2
    have hfs : fnd s d.L = some f := by rw [← hs]; exact fnd_mem HSRT.out hmem
    rw [hs]
    have hb3W := below_then HB30.out hB
    have HGEN := Lib.hid (generation_calls s W (by omega) (HT3.out.below hb3W) (HE3.out.below hb3W))
    have HREAD : Hid (∀ X, Below W.heap.size W X → Calls Tryz.prog 43 #[.pointer (some ⟨B, 0, none⟩), .string s] X (fun e w' => Below X.heap.size X w' ∧ ∃ v, e = .returned (.tuple #[v, .int .i64 0]) ∧ w'.ownsRow X.heap.size 5 1 v f.data.length (cellsN f.data))) := Lib.hid (fun X hbx => by
      have := read_calls s X ((HD3.out.below hb3W).below hbx) HU.out (by omega)
      rw [hfs] at this
      exact this)
    unfold GenOut at HGEN
    have HBYF := Lib.hid (HBY.out f hmem)
    obtain ⟨dl, hdl⟩ : ∃ dl, f.data.length = dl := ⟨_, rfl⟩
    have hdl30 : dl ≤ 1073741824 := by rw [← hdl]; exact Nat.le_trans (used_mem hmem) HU.out
    have HDL := Lib.hid hdl
    have kd : W.cell? ⟨w.heap.size, 0, none⟩ = some (.pointer (some ⟨B, 0, none⟩)) := (hb3W.cell (p := ⟨w.heap.size, 0, none⟩) (lt_of_cell k3)).trans k3
    have HKD : Hid (∀ X, Below W.heap.size W X → X.cell? ⟨w.heap.size, 0, none⟩ = some (.pointer (some ⟨B, 0, none⟩))) := Lib.hid (fun X hb => (hb.cell (p := ⟨w.heap.size, 0, none⟩) (lt_of_cell kd)).trans kd)
    have HBW := Lib.hid hB
    have HR0W := Lib.hid (block_below hb3W HR0.out)
    have HR1W := Lib.hid (block_below hb3W HR1.out)
    have HNEXT : Hid (ofFile f = none → ∀ x ∈ pre ++ [(⟨p, hp⟩ : Plc len)], ∀ g, d.L[x.1]? = some g → ofFile g = none) := Lib.hid (fun hno x hx g hg => by
      rcases List.mem_append.1 hx with hx | hx
      · exact hpre x hx g hg
      · obtain rfl := List.mem_singleton.1 hx
        rw [hf] at hg
        obtain rfl := Option.some.inj hg
        exact hno)
    have HPRE := Lib.hid hpre
    have HF := Lib.hid hf
    have hofd : ofFile f = match decM f.data with | none => none | some m => if (genB s : Int) = m.gen then some m else none := by unfold ofFile; rw [hs]; cases decM f.data <;> rfl
    clear hpl hfe hmem hnmp hs hfs hb3W hdl hB hpre hf cBs hcells
    obtain ⟨g, hg⟩ : ∃ g, genB s = g := ⟨_, rfl⟩
    rw [hg] at HGEN hofd
    clear hg
    by_cases hg0 : 0 < g
    · rw [decide_eq_true hg0] at HGEN
      cases hdm : decM f.data with
      | none =>
        have hno : ofFile f = none := by rw [hofd, hdm]
        clear hofd
        gi_wp2_with fail
        refine ⟨trivial, (CallsIn.inRound lb (callsIn_wide.2 HGEN.out)).mono ?_⟩
        rintro e W1 ⟨rfl, hb1⟩
        have k1 := HKD.out _ hb1
        have HB1 := Lib.hid hb1
        clear hb1
        gi_wp2_with fail
        refine ⟨trivial, (CallsIn.inRound lb (callsIn_wide.2 (HREAD.out _ HB1.out))).mono ?_⟩
        rintro e W2 ⟨hb2, v2, rfl, hrow2⟩
        have HB2 := Lib.hid (below_then HB1.out hb2)
        obtain ⟨a2, c2, hv2, hr2, _, hl2, hm2⟩ := (row_of_own (HBYF.out) rfl hrow2).is
        have hv2' : v2 = .slice a2 dl c2 := by rw [hv2, HDL.out]
        subst hv2'
        rw [HDL.out] at hl2
        have HDEC := Lib.hid (mdecode_calls a2 f.data dl c2 W2 hr2 HDL.out hdl30 hl2 hm2)
        clear hb2 hrow2 hv2 hr2 hl2 hm2
        unfold DecOut at HDEC
        rw [hdm] at HDEC
        gi_wp2_with fail
        refine ⟨trivial, (CallsIn.inRound lb (callsIn_wide.2 HDEC.out)).mono ?_⟩
        rintro e W5 ⟨v5, rfl, hmv5, hb5⟩
        obtain ⟨am, cm, Sm, rfl, _, _, _, _, _⟩ := hmv5
        have HB5 := Lib.hid (below_then HB2.out hb5)
        clear hb5
        unfold manV
        gi_wp2
        exact ⟨keepsFrom_of (HB5.out.alloc HB5.out.size _), (HB5.out.alloc HB5.out.size _).mono HBW.out.size, ⟨HNEXT.out hno, below_then0 HBW.out (HB5.out.alloc HB5.out.size _) HBW.out.size⟩⟩
      | some m =>
        by_cases hgm : (g : Int) = m.gen
        · have hyes : ofFile f = some m := by rw [hofd, hdm]; exact if_pos hgm
          clear hofd
          gi_wp2_with fail
          refine ⟨trivial, (CallsIn.inRound lb (callsIn_wide.2 HGEN.out)).mono ?_⟩
          rintro e W1 ⟨rfl, hb1⟩
          have k1 := HKD.out _ hb1
          have HB1 := Lib.hid hb1
          clear hb1
          gi_wp2_with fail
          refine ⟨trivial, (CallsIn.inRound lb (callsIn_wide.2 (HREAD.out _ HB1.out))).mono ?_⟩
          rintro e W2 ⟨hb2, v2, rfl, hrow2⟩
          have HB2 := Lib.hid (below_then HB1.out hb2)
          obtain ⟨a2, c2, hv2, hr2, _, hl2, hm2⟩ := (row_of_own (HBYF.out) rfl hrow2).is
          have hv2' : v2 = .slice a2 dl c2 := by rw [hv2, HDL.out]
          subst hv2'
          rw [HDL.out] at hl2
          have HDEC := Lib.hid (mdecode_calls a2 f.data dl c2 W2 hr2 HDL.out hdl30 hl2 hm2)
          clear hb2 hrow2 hv2 hr2 hl2 hm2
          unfold DecOut at HDEC
          rw [hdm] at HDEC
          gi_wp2_with fail
          refine ⟨trivial, (CallsIn.inRound lb (callsIn_wide.2 HDEC.out)).mono ?_⟩
          rintro e W5 ⟨v5, rfl, hmv5, hb5⟩
          obtain ⟨am, cm, Sm, rfl, hir, hSm, h0m, hlm, hcm⟩ := hmv5
          have HB5 := Lib.hid (below_then HB2.out hb5)
          have hbW2 := HB2.out.size
          clear hb5
          unfold manV
          have hgq : (m.gen == (g : Int)) = true := by simpa using hgm.symm
          obtain ⟨W6, hW6⟩ : ∃ W6, W5.alloc (.cells #[.int .i64 m.gen, .int .i64 m.last, .slice am m.segs.length cm] 25) = W6 := ⟨_, rfl⟩
          have hb56 : Below W5.heap.size W5 W6 := by rw [← hW6]; exact (Below.refl _ _).alloc (Nat.le_refl _) _
          have hbW6 := below_then HB5.out hb56
          have q0 := block_below hbW6 HR0W.out
          have q1 := block_below hbW6 HR1W.out
          have x0 : (W5.alloc (.cells #[.int .i64 m.gen, .int .i64 m.last, .slice am m.segs.length cm] 25)).cell? ⟨w.heap.size + 1, 0, none⟩ = some (.int .i64 0) := by rw [hW6]; exact (cell_of_block q0 0).trans rfl
          have x1 : (W5.alloc (.cells #[.int .i64 m.gen, .int .i64 m.last, .slice am m.segs.length cm] 25)).cell? ⟨w.heap.size + 1, 1, none⟩ = some (.int .i64 0) := by rw [hW6]; exact (cell_of_block q0 1).trans rfl
          have x2 : (W5.alloc (.cells #[.int .i64 m.gen, .int .i64 m.last, .slice am m.segs.length cm] 25)).cell? ⟨w.heap.size + 1, 2, none⟩ = some (.slice none 0 0) := by rw [hW6]; exact (cell_of_block q0 2).trans rfl
          have x3 : (W5.alloc (.cells #[.int .i64 m.gen, .int .i64 m.last, .slice am m.segs.length cm] 25)).cell? ⟨w.heap.size + 1 + 1, 0, none⟩ = some (.bool false) := by rw [hW6]; exact (cell_of_block q1 0).trans rfl
          have y0 : (W5.alloc (.cells #[.int .i64 m.gen, .int .i64 m.last, .slice am m.segs.length cm] 25)).frozen? ⟨w.heap.size + 1, 0, none⟩ = false := by rw [hW6]; exact unfrozen_of_block q0 0
          have y1 : (W5.alloc (.cells #[.int .i64 m.gen, .int .i64 m.last, .slice am m.segs.length cm] 25)).frozen? ⟨w.heap.size + 1, 1, none⟩ = false := by rw [hW6]; exact unfrozen_of_block q0 1
          have y2 : (W5.alloc (.cells #[.int .i64 m.gen, .int .i64 m.last, .slice am m.segs.length cm] 25)).frozen? ⟨w.heap.size + 1, 2, none⟩ = false := by rw [hW6]; exact unfrozen_of_block q0 2
          have y3 : (W5.alloc (.cells #[.int .i64 m.gen, .int .i64 m.last, .slice am m.segs.length cm] 25)).frozen? ⟨w.heap.size + 1 + 1, 0, none⟩ = false := by rw [hW6]; exact unfrozen_of_block q1 0
          have hb06 : Below w.heap.size w W6 := below_then HB0.out (below_then HBW.out hbW6)
          obtain ⟨W7, hW7, r0, r1, hb07, hk7⟩ := boxes_set (w := w) (x' := .int .i64 m.gen) (y' := .int .i64 m.last) (z' := .slice am m.segs.length cm) (u' := .bool true) q0 q1 (by omega) hb06
          have HW7 := Lib.hid hW7
          have HW6 := Lib.hid hW6
          have hszW : w.heap.size + 1 + 1 + 1 ≤ W.heap.size := by have := HBW.out.size; have := HS0.out; omega
          have HFND : Hid (Found w (w.heap.size + 1) m W7) := Lib.hid ⟨am, cm, Sm, r0, r1, (hir.below hb56).keep hk7 (fun k hk e => by have := (hSm k hk).1; omega), fun k hk => ⟨by have := (hSm k hk).1; omega, by have := (hSm k hk).2; have := hb56.size; have := hk7.size; omega⟩, h0m, hlm, hcm⟩
          have HB07 := Lib.hid hb07
          have HKF : Hid (KeepsFrom W0.heap.size W W7) := Lib.hid ⟨Nat.le_trans hbW6.size hk7.size, fun k o hB hk _ => by
            have h1 := (hbW6.block k (lt_of_block hk)).trans hk
            exact (hk7.block k (lt_of_block h1) (by have := HS0.out; omega)).trans h1⟩
          clear hir hSm h0m hlm hcm hW6 hb56 hbW6 q0 q1 hb06 hW7 r0 r1 hb07 hk7
          gi_wp2
          rw [HW6.out, HW7.out]
          exact ⟨HKF.out, ⟨rfl, pre, ⟨p, hp⟩, f, m, rfl, HPRE.out, HF.out, hyes, HFND.out⟩, HB07.out⟩
        · have hno : ofFile f = none := by rw [hofd, hdm]; exact if_neg hgm
          clear hofd
          gi_wp2_with fail
          refine ⟨trivial, (CallsIn.inRound lb (callsIn_wide.2 HGEN.out)).mono ?_⟩
          rintro e W1 ⟨rfl, hb1⟩
          have k1 := HKD.out _ hb1
          have HB1 := Lib.hid hb1
          clear hb1
          gi_wp2_with fail
          refine ⟨trivial, (CallsIn.inRound lb (callsIn_wide.2 (HREAD.out _ HB1.out))).mono ?_⟩
          rintro e W2 ⟨hb2, v2, rfl, hrow2⟩
          have HB2 := Lib.hid (below_then HB1.out hb2)
          obtain ⟨a2, c2, hv2, hr2, _, hl2, hm2⟩ := (row_of_own (HBYF.out) rfl hrow2).is
          have hv2' : v2 = .slice a2 dl c2 := by rw [hv2, HDL.out]
          subst hv2'
          rw [HDL.out] at hl2
          have HDEC := Lib.hid (mdecode_calls a2 f.data dl c2 W2 hr2 HDL.out hdl30 hl2 hm2)
          clear hb2 hrow2 hv2 hr2 hl2 hm2
          unfold DecOut at HDEC
          rw [hdm] at HDEC
          gi_wp2_with fail
          refine ⟨trivial, (CallsIn.inRound lb (callsIn_wide.2 HDEC.out)).mono ?_⟩
          rintro e W5 ⟨v5, rfl, hmv5, hb5⟩
          obtain ⟨am, cm, Sm, rfl, _, _, _, _, _⟩ := hmv5
          have HB5 := Lib.hid (below_then HB2.out hb5)
          clear hb5
          unfold manV
          have hgq : (m.gen == (g : Int)) = false := by simpa using fun e : m.gen = (g : Int) => hgm e.symm
          gi_wp2
          exact ⟨keepsFrom_of (HB5.out.alloc HB5.out.size _), (HB5.out.alloc HB5.out.size _).mono HBW.out.size, ⟨HNEXT.out hno, below_then0 HBW.out (HB5.out.alloc HB5.out.size _) HBW.out.size⟩⟩
    · rw [decide_eq_false hg0] at HGEN
      have hno : ofFile f = none := by
        rw [hofd]
        cases hdm : decM f.data with
        | none => rfl
        | some m =>
          have := mayN_is.1 (mayM_is.1 (decM_inv hdm).1).gen
          exact if_neg (by omega)
      clear hofd
      gi_wp2_with fail
      refine ⟨trivial, (CallsIn.inRound lb (callsIn_wide.2 HGEN.out)).mono ?_⟩
      rintro e W1 ⟨rfl, hb1⟩
      have k1 := HKD.out _ hb1
      gi_wp2
      exact ⟨keepsFrom_of (hb1), (hb1).mono HBW.out.size, ⟨HNEXT.out hno, below_then0 HBW.out (hb1) HBW.out.size⟩⟩
  case done =>
    rintro E ys W hE hys ⟨hall, hB⟩ hK
    have hno : newB d.L = none := newB_all (fun f hf => by
      obtain ⟨i, hi⟩ := List.getElem?_of_mem hf
      obtain ⟨hil, _⟩ := List.getElem?_eq_some_iff.1 hi
      have hmem : i ∈ ys.map (fun x : Plc len => x.1) := by rw [hys]; exact mem_downs (by rw [← HLEN.out]; exact hil) (by omega)
      obtain ⟨x, hx, rfl⟩ := List.mem_map.1 hmem
      exact hall x hx f hi)
    have hb3W := below_then HB30.out hB
    have q0 := block_below hb3W HR0.out
    have q1 := block_below hb3W HR1.out
    have x0 : W.cell? ⟨w.heap.size + 1, 0, none⟩ = some (.int .i64 0) := (cell_of_block q0 0).trans rfl
    have x1 : W.cell? ⟨w.heap.size + 1, 1, none⟩ = some (.int .i64 0) := (cell_of_block q0 1).trans rfl
    have x2 : W.cell? ⟨w.heap.size + 1, 2, none⟩ = some (.slice none 0 0) := (cell_of_block q0 2).trans rfl
    have x3 : W.cell? ⟨w.heap.size + 1 + 1, 0, none⟩ = some (.bool false) := (cell_of_block q1 0).trans rfl
    have y0 := unfrozen_of_block q0 0
    have y1 := unfrozen_of_block q0 1
    have y2 := unfrozen_of_block q0 2
    have y3 := unfrozen_of_block q1 0
    obtain ⟨W7, hW7, r0, r1, hb07, hk7⟩ := boxes_set (w := w) (x' := .int .i64 0) (y' := .int .i64 0) (z' := .slice none 0 0) (u' := .bool false) q0 q1 (by omega) (below_then HB0.out hB)
    have hK7 : W7.heap[E]? = some (.deferred (some [])) := (hk7.block E (lt_of_block hK) (by have := HS0.out; omega)).trans hK
    have HW7 := Lib.hid hW7
    have HRR : Hid (W7.heap[w.heap.size + 1]? = some (.cells #[.int .i64 0, .int .i64 0, .slice none 0 0] 25 (0, 0)) ∧ W7.heap[w.heap.size + 1 + 1]? = some (.cells #[.bool false] 4 (0, 0))) := Lib.hid ⟨r0, r1⟩
    have HNO := Lib.hid hno
    have HK7 := Lib.hid hK7
    have hbE := belowK_b (w := W0) (n₀ := W0.heap.size) (Nat.le_refl _) W7 E _ (.deferred none) hE hK7 rfl rfl
    have HBE := Lib.hid (hb07.trans (hbE.mono HB0.out.size))
    have hw0 := HB0.out.size
    clear q0 q1 hno hb3W hW7 r0 r1 hb07 hk7 hK7 hbE
    gi_wp2
    rw [HW7.out]
    refine ⟨by simp, .inl ⟨_, _, rfl, run_takeDeferred HK7.out, ?_⟩⟩
    have hne0 : ¬ w.heap.size + 1 = E := by omega
    have hne1 : ¬ w.heap.size + 1 + 1 = E := by omega
    have g0 := cells_put (l := E) (o := .deferred none) HRR.out.1 hne0
    have g1 := cells_put (l := E) (o := .deferred none) HRR.out.2 hne1
    have q0 := (cell_of_block g0 0).trans rfl
    have q1 := (cell_of_block g0 1).trans rfl
    have q2 := (cell_of_block g0 2).trans rfl
    have q3 := (cell_of_block g1 0).trans rfl
    refine ⟨.tuple #[.agg #[.int .i64 0, .int .i64 0, .slice none 0 0], .bool false], by simp [results, Tryz.results11, go_sem, q0, q1, q2, q3], ?_⟩
    unfold NewOut
    rw [HNO.out]
    exact ⟨_, rfl, ManV.none _ _, HBE.out⟩
  case stop =>
    rintro E c pre W hE ⟨k, hpk, hkl⟩ ⟨⟨rfl, ini, x, f, m, hpe, hini, hf, hfm, hfnd⟩, hB⟩ hK
    have hyes : newB d.L = some m := by
      refine newB_place hf hfm (fun j g hj hg => ?_)
      rw [hpe, List.map_append] at hpk
      cases k with
      | zero => have := congrArg List.length hpk; rw [downs_len] at this; simp at this
      | succ k =>
        rw [downs_succ] at hpk
        obtain ⟨h1, h2⟩ := List.append_inj' hpk rfl
        have hx : x.1 = len - 1 - k := by simpa using h2
        obtain ⟨hjl, _⟩ := List.getElem?_eq_some_iff.1 hg
        rw [HLEN.out] at hjl
        have hmem : j ∈ ini.map (fun x : Plc len => x.1) := by rw [h1]; exact mem_downs hjl (by omega)
        obtain ⟨y, hy, rfl⟩ := List.mem_map.1 hmem
        exact hini y hy g hg
    have hbE := belowK_b (w := W0) (n₀ := W0.heap.size) (Nat.le_refl _) W E _ (.deferred none) hE hK rfl rfl
    have HBE := Lib.hid (hB.trans (hbE.mono HB0.out.size))
    have hK2 := hK
    obtain ⟨a, cc, Sm, r0, r1, hir, hSm, h0m, hlm, hcm⟩ := hfnd
    have hw0 := HB0.out.size
    have hne0 : ¬ w.heap.size + 1 = E := by have := HS0.out; omega
    have hne1 : ¬ w.heap.size + 1 + 1 = E := by have := HS0.out; omega
    have g0 := cells_put (l := E) (o := .deferred none) r0 hne0
    have g1 := cells_put (l := E) (o := .deferred none) r1 hne1
    have q0 := (cell_of_block g0 0).trans rfl
    have q1 := (cell_of_block g0 1).trans rfl
    have q2 := (cell_of_block g0 2).trans rfl
    have q3 := (cell_of_block g1 0).trans rfl
    have HYES := Lib.hid hyes
    have HMV : Hid (ManV w (W.putObj E (.deferred none)) (manV m.gen m.last a m.segs.length cc) m) := Lib.hid ⟨a, cc, Sm, rfl, irow_put hir hK, fun k hk => ⟨(hSm k hk).1, by have := (hSm k hk).2; simpa [World.putObj] using this⟩, h0m, hlm, hcm⟩
    clear hyes hbE r0 r1 hir hSm h0m hlm hcm hpe hini hf hfm hpk
    gi_wp2
    refine ⟨by simp, .inl ⟨_, _, rfl, run_takeDeferred hK2, ?_⟩⟩
    refine ⟨.tuple #[.agg #[.int .i64 m.gen, .int .i64 m.last, .slice a m.segs.length cc], .bool true], by simp [results, Tryz.results11, go_sem, q0, q1, q2, q3], ?_⟩
    unfold NewOut
    rw [HYES.out]
    exact ⟨_, rfl, HMV.out, HBE.out⟩

end Go.Proofs.YtacfcfbleogioaaGreatDoor
