/-
  The innermost element closed. Condition: the tree lies in memory. The innermost element closed by its end tag. Condition: the tree lies in memory. The element that was laid last, opened. Condition: the tree lies in memory.
-/
import Derived.Test.YtfonflbpkbibbaaGreatDoorXTn
import Derived.Lib.QuietBelow
import Derived.BigQuiet
namespace Go.Proofs.YtfonflbpkbibbaaGreatDoor
open Go.RowKit Go.Lib Go.Joins

theorem closeF_snoc (f : Fr) : ∀ (l : List Fr) (ks : List Tr) (a : Fr), closeF ks a (l ++ [f]) = (ks, lastKids (a :: l) ((lastF a l).kids ++ [elemT f]))
  | [], ks, a => rfl
  | a2 :: l, ks, a => by
    show (ks, Fr.mk a.name a.attrs (closeF a.kids a2 (l ++ [f])).1 :: (closeF a.kids a2 (l ++ [f])).2) = _
    rw [closeF_snoc f l a.kids a2]
    rfl
/-- What is closed, said of the innermost one first. -/
theorem close_eq (g : Gr) {f : Fr} {fs : List Fr} (ho : g.opens = f :: fs) {a : Fr} {l : List Fr} (hr : g.opens.reverse = a :: l) : (closeF g.top a l).1 = (g.closeS f fs).top ∧ (closeF g.top a l).2 = (g.closeS f fs).opens.reverse := by
  obtain ⟨opens, top, nodes⟩ := g
  dsimp only at ho hr ⊢
  subst ho
  rw [List.reverse_cons] at hr
  cases fs with
  | nil =>
    obtain ⟨rfl, rfl⟩ : f = a ∧ l = [] := by
      simp only [List.reverse_nil, List.nil_append, List.cons.injEq] at hr
      exact ⟨hr.1, hr.2.symm⟩
    exact ⟨rfl, rfl⟩
  | cons x fs2 =>
    rw [List.reverse_cons] at hr
    obtain ⟨l2, hl2⟩ : ∃ l2, l = l2 ++ [f] ∧ a :: l2 = fs2.reverse ++ [x] := by
      cases hq : fs2.reverse with
      | nil =>
        rw [hq] at hr
        simp only [List.nil_append, List.cons_append, List.cons.injEq] at hr
        exact ⟨[], hr.2.symm, by rw [hr.1]; rfl⟩
      | cons y l3 =>
        rw [hq] at hr
        simp only [List.cons_append, List.cons.injEq] at hr
        exact ⟨l3 ++ [x], hr.2.symm, by rw [hr.1]; rfl⟩
    obtain ⟨rfl, hal⟩ := hl2
    rw [closeF_snoc]
    have hlf : lastF a l2 = x := by
      cases hq : fs2.reverse with
      | nil =>
        rw [hq] at hal
        simp only [List.nil_append, List.cons.injEq] at hal
        rw [hal.1, hal.2]
        rfl
      | cons y l3 =>
        rw [hq] at hal
        simp only [List.cons_append, List.cons.injEq] at hal
        rw [hal.1, hal.2]
        exact lastF_snoc x l3 y
    rw [hlf, hal, lastKids_snoc]
    refine ⟨rfl, ?_⟩
    show _ = (⟨x.name, x.attrs, x.kids ++ [elemT f]⟩ :: fs2).reverse
    rw [List.reverse_cons]
/-- A row of pointers, one shorter. -/
theorem ptr_drop {w : World} {ob oc : Nat} {front : List Addr} {pl : Addr} (h : w.ownsRow 0 61 1 (.slice (some ⟨ob, 0, none⟩) (front.length + 1) oc) (front.length + 1) (ptrC (front ++ [pl]))) : w.ownsRow 0 61 1 (.slice (some ⟨ob, 0, none⟩) front.length oc) front.length (ptrC front) := by
  refine ⟨by rw [ptrC, List.length_map, Nat.mul_one], ?_⟩
  rcases h.2 with ⟨h1, _⟩ | ⟨g, cap, cur, h1, h2, h3, h4, h5, h6, h7⟩
  · cases h1
  · injection h1 with e1 _ e3
    injection e1 with e1
    injection e1 with e1
    subst e1 e3
    refine .inr ⟨ob, oc, cur, rfl, h2, h3, by omega, h5, h6, ?_⟩
    have h8 := congrArg (List.take (front.length * 1)) h7
    rw [List.take_take, Nat.min_eq_left (by omega)] at h8
    rw [h8, ptrC, List.map_append, List.take_append_of_le_length (by rw [List.length_map]; omega), List.take_of_length_le (by rw [List.length_map]; omega)]
    rfl
theorem GrW.close {w : World} {n0 gb nodes : Nat} {S : Nat → Prop} {ks : List Tr} {a : Fr} {l : List Fr} {v : Value} {ob oc : Nat} {ps : List Addr} {bs : List (Option Nat)} (h : GrW w n0 gb S ks (a :: l) nodes v (.slice (some ⟨ob, 0, none⟩) ps.length oc) ps bs) :
    ∃ front pl, ps = front ++ [pl] ∧ ∀ w', Keeps (fun q => q = gb) w w' → w'.heap[gb]? = some (growB v (.slice (some ⟨ob, 0, none⟩) front.length oc) nodes) → ∃ bf, GrW w' n0 gb (fun k => S k ∨ bs.getLast? = some (some k)) (closeF ks a l).1 (closeF ks a l).2 nodes v (.slice (some ⟨ob, 0, none⟩) front.length oc) front bf := by
  obtain ⟨front, pl, bf, b, e1, e2, e3⟩ := Spine.close (S' := fun k => S k ∨ bs.getLast? = some (some k)) (fun k hk => .inl hk) h.spi
  have hlb : bs.getLast? = some b := by rw [e2]; simp
  have hap := Apart.app.1 (e2 ▸ h.dis)
  refine ⟨front, pl, e1, fun w' hk hb => ⟨bf, hb, ?_, ?_, hap.1, fun k hkb => ?_, ?_, fun k e => ?_, fun k hk => .inl (h.old k hk)⟩⟩
  · have ho := h.opn
    rw [e1, List.length_append, List.length_singleton] at ho
    exact ownsRow_keep (ptr_drop ho) hk (fun k e hkg => by
      have h1 := h.sov k (by rw [← e]; rfl)
      exact h1.2 hkg)
  · refine (e3 (fun k e => .inr (by rw [hlb, e]))).keep hk (fun k hs e => ?_) (fun _ e => e) (fun k hkb e => ?_)
    · rcases hs with h1 | h1
      · exact h.sgb (e ▸ h1)
      · rw [hlb] at h1
        exact (h.off k (by rw [e2, Option.some.inj h1]; simp)).2.1 e
    · exact (h.off k (by rw [e2]; exact List.mem_append_left _ hkb)).2.1 e
  · have h1 := h.off k (by rw [e2]; exact List.mem_append_left _ hkb)
    refine ⟨fun hs => ?_, h1.2.1, fun e => h1.2.2 (by rw [← e]; rfl)⟩
    rcases hs with h2 | h2
    · exact h1.1 h2
    · rw [hlb] at h2
      exact hap.2.2 k hkb (by rw [Option.some.inj h2]; exact List.mem_cons_self ..)
  · intro hs
    rcases hs with h2 | h2
    · exact h.sgb h2
    · rw [hlb] at h2
      exact (h.off gb (by rw [e2, Option.some.inj h2]; simp)).2.1 rfl
  · have h1 := h.sov k (by rw [← e]; rfl)
    refine ⟨fun hs => ?_, h1.2⟩
    rcases hs with h2 | h2
    · exact h1.1 h2
    · rw [hlb] at h2
      exact (h.off k (by rw [e2, Option.some.inj h2]; simp)).2.2 (by rw [← e]; rfl)

end Go.Proofs.YtfonflbpkbibbaaGreatDoor
namespace Go.Proofs.YtfonflbpkbibbaaGreatDoor
open Go.RowKit Go.Lib Go.Joins

theorem Spine.blocks {w : World} {n0 : Nat} {S : Nat → Prop} : ∀ {fs : List Fr} {p : Addr} {v : Value} {ks : List Tr} {ps : List Addr} {bs : List (Option Nat)}, Spine w n0 S p v ks fs ps bs → ∀ k, some k ∈ bs → k < w.heap.size
  | [], _, _, _, _, _, h, k, e => by
    obtain ⟨_, rfl, rows, h1, _⟩ := h
    exact h1.lt k (List.mem_singleton.1 e).symm
  | f :: fs, _, _, _, _, _, h, k, e => by
    obtain ⟨rows, r, g, c, ps', bs', rfl, rfl, rfl, h1, _, _, _, _, _, h7⟩ := h
    rcases List.mem_cons.1 e with e | e
    · cases e; exact h1.lt k rfl
    · exact Spine.blocks h7 k e
/-- What a token leaves. -/
def TakeOut (w0 : World) (S0 : Nat → Prop) (n0 gb : Nat) (r : Except Nat Gr) (e : Ending) (w' : World) : Prop :=
  Keeps (fun q => ¬ S0 q) w0 w' ∧ match r with
  | .error c => e = .returned (.int .i64 (c : Int))
  | .ok g' => e = .returned (.int .i64 0) ∧ ∃ S v ov ps bs, GrW w' n0 gb S g'.top g'.opens.reverse g'.nodes v ov ps bs ∧ (∀ k, S k → k < w'.heap.size) ∧ ∀ k, S0 k → S k
set_option maxRecDepth 100000 in
set_option maxHeartbeats 8000000 in
theorem end_calls {w : World} {n0 gb : Nat} {g : Gr} {S : Nat → Prop} {v ov : Value} {ps : List Addr} {bs : List (Option Nat)} (h : GrW w n0 gb S g.top g.opens.reverse g.nodes v ov ps bs) (hS : ∀ k, S k → k < w.heap.size) (hn : n0 ≤ gb) (kd at_ : Nat) (nm tx : List UInt8) (av : Value) (hav : ∃ a n c, av = .slice a n c) : Calls Tryz.prog 66 #[.pointer (some ⟨gb, 0, none⟩), .agg #[.int .i64 (kd : Int), .int .i64 (at_ : Int), .string (strB nm), .string (strB tx), av]] w (TakeOut w S n0 gb (match g.opens with | [] => .error 3 | f :: fs => if f.name = nm then .ok (g.closeS f fs) else .error 3)) := by
  obtain ⟨xa, xn, xc, rfl⟩ := hav
  obtain ⟨sn, hsn⟩ : ∃ s, strB nm = s := ⟨_, rfl⟩
  obtain ⟨st, hst⟩ : ∃ s, strB tx = s := ⟨_, rfl⟩
  have HSN := Lib.hid hsn
  rw [hsn, hst]
  have hgl := lt_of_block h.blk
  obtain ⟨r, hr⟩ : ∃ r, (match g.opens with | [] => Except.error 3 | f :: fs => if f.name = nm then .ok (g.closeS f fs) else .error 3 : Except Nat Gr) = r := ⟨_, rfl⟩
  rw [hr]
  have HR := Lib.hid hr
  have HN := Lib.hid hn
  have HN0 := Lib.hid (show n0 ≤ w.heap.size by omega)
  have HGR := Lib.hid h
  have HSS := Lib.hid hS
  clear h hS hr hsn hst hn
  go_enter Tryz.func66, Tryz.ntmps66
  go_upto_region 1 with (fail)
  obtain ⟨wb, hwb⟩ : ∃ W, w.alloc (.cells #[.int .i64 (kd : Int), .int .i64 (at_ : Int), .string sn, .string st, .slice xa xn xc] 63) = W := ⟨_, rfl⟩
  rw [hwb]
  have hbb : Below w.heap.size w wb := by rw [← hwb]; exact (Below.refl _ _).alloc (Nat.le_refl _) _
  have hbox : wb.heap[w.heap.size]? = some (.cells #[.int .i64 (kd : Int), .int .i64 (at_ : Int), .string sn, .string st, .slice xa xn xc] 63 (0, 0)) := by rw [← hwb]; exact heap_alloc_new w _
  have z2 : wb.cell? ⟨w.heap.size, 2, none⟩ = some (.string sn) := (cell_of_block hbox 2).trans rfl
  have HGB := Lib.hid (HGR.out.below hbb)
  have HBB := Lib.hid hbb
  have HSB : Hid (∀ k, S k → k < wb.heap.size) := Lib.hid (fun k hk => Nat.lt_of_lt_of_le (HSS.out k hk) hbb.size)
  have HOC := Lib.hid (fun dq os => Calls.regrown_of (outside_calls (HGB.out.below (below_regrown wb dq os))))
  clear hwb hbb hbox HGR HSS
  by_cases ho : g.opens = []
  · have hob : decide (g.opens.reverse = []) = true := by rw [ho]; rfl
    have HF : Hid (r = .error 3) := Lib.hid (by rw [← HR.out, ho])
    rw [hob] at HOC
    have cO := fun dq os => HOC.out dq os
    clear ho hob HR
    refine wp_region_quiet_below (by kernel_rfl) (by kernel_rfl) ?_
    repeat (go_big_quiet_step (with_reducible exact cO _ _))
    refine wpQuiet_nil ?_
    intro _ hw'
    obtain ⟨⟨dq, osq⟩, hw''⟩ := hw'
    subst hw''
    go_wp2_with fail
    go_ret
    rw [HF.out]
    exact ⟨(keeps_below HBB.out _).below (below_regrown wb dq osq) HBB.out.size, rfl⟩
  · obtain ⟨f, fs, hfs⟩ : ∃ f fs, g.opens = f :: fs := by
      cases hq : g.opens with
      | nil => exact absurd hq ho
      | cons f fs => exact ⟨f, fs, rfl⟩
    obtain ⟨a, l, hal⟩ : ∃ a l, g.opens.reverse = a :: l := by
      cases hq : g.opens.reverse with
      | nil => exact absurd (List.reverse_eq_nil_iff.1 hq) ho
      | cons a l => exact ⟨a, l, rfl⟩
    have hob : decide (g.opens.reverse = []) = false := by rw [hal]; rfl
    have hlast : lastF a l = f := by
      have h1 : (a :: l) = fs.reverse ++ [f] := by rw [← hal, hfs, List.reverse_cons]
      cases hq : fs.reverse with
      | nil => rw [hq] at h1; simp only [List.nil_append, List.cons.injEq] at h1; rw [h1.1, h1.2]; rfl
      | cons y l3 => rw [hq] at h1; simp only [List.cons_append, List.cons.injEq] at h1; rw [h1.1, h1.2]; exact lastF_snoc f l3 y
    obtain ⟨front, b, o, vl, rows, hinn⟩ := HGB.out.inn HSB.out HN.out
    have z1 := hinn.nam a l hal
    rw [hlast] at z1
    have HIC := Lib.hid (fun dq os => Calls.regrown_of (inner_calls (HGB.out.below (below_regrown wb dq os)) hinn.pts))
    obtain ⟨sf, hsf⟩ : ∃ s, strB f.name = s := ⟨_, rfl⟩
    rw [hsf] at z1
    rw [hob] at HOC
    have cO := fun dq os => HOC.out dq os
    have cI := fun dq os => HIC.out dq os
    have c1 := fun dq os => cell_regrown z1 dq os
    have c2 := fun dq os => cell_regrown z2 dq os
    have HSF := Lib.hid hsf
    clear hinn hlast hob z1 z2 ho hsf
    by_cases hne : f.name = nm
    · have hss : sf = sn := by rw [← HSF.out, hne, HSN.out]
      have HF : Hid (r = .ok (g.closeS f fs)) := Lib.hid (by rw [← HR.out, hfs]; exact if_pos hne)
      subst hss
      clear hne HR
      refine wp_region_quiet_below (by kernel_rfl) (by kernel_rfl) ?_
      repeat (go_big_quiet_step (first | with_reducible exact cO _ _ | with_reducible exact cI _ _))
      refine wpQuiet_nil ?_
      intro y1 hw'
      obtain ⟨⟨dq, osq⟩, hw''⟩ := hw'
      have hb1 : Below wb.heap.size wb y1 := by rw [hw'']; exact below_regrown wb dq osq
      clear hw''
      have hg1 := HGB.out.below hb1
      obtain ⟨ob, oc, rfl, hl, hoc, hom, _⟩ := hg1.open_form
      have hblk := hg1.blk
      rw [hal] at hg1
      obtain ⟨front, pl, hps, hcl⟩ := hg1.close
      obtain ⟨np, hnp⟩ : ∃ z, ps.length = z := ⟨_, rfl⟩
      obtain ⟨mf, hmf⟩ : ∃ z, front.length = z := ⟨_, rfl⟩
      have hnm : np = mf + 1 := by rw [← hnp, hps, List.length_append, List.length_singleton, hmf]
      rw [hmf] at hcl
      rw [hnp] at hblk hoc
      have hsub : IntKind.i64.wrap ((np : Int) - 1) = (mf : Int) := by
        rw [show (np : Int) - 1 = (mf : Int) by omega]
        exact IntWalk.i64_in _ (by unfold maxLen at hom; omega)
      have hle : (mf : Int) ≤ (oc : Int) := by omega
      have h0m : (0 : Int) ≤ (mf : Int) := by omega
      have HCL := Lib.hid hcl
      have HBY : Hid (Keeps (fun q => ¬ S q) w y1) := Lib.hid ((keeps_below HBB.out _).below hb1 HBB.out.size)
      have HSG : Hid (¬ S gb) := Lib.hid HGB.out.sgb
      have HSY : Hid (∀ k, S k → k < y1.heap.size) := Lib.hid (fun k hk => Nat.lt_of_lt_of_le (HSB.out k hk) hb1.size)
      have HLT : Hid (∀ k, some k ∈ bs → k < y1.heap.size) := Lib.hid (fun k hk => hg1.spi.blocks k hk)
      clear hg1 hcl hl hps hnp hmf hnm hoc hom cO cI c1 c2 HOC HIC HGB HSB HBB hb1
      go_upto_region 3 with (fail)
      obtain ⟨y0, hy0⟩ : ∃ W, y1.drew = W := ⟨_, rfl⟩
      have hk01 : Keeps (fun q => q = gb) y1 y0 := by rw [← hy0]; exact (Keeps.refl _ y1).drew
      have hbl0 : y0.heap[gb]? = some (growB v (.slice (some ⟨ob, 0, none⟩) np oc) g.nodes) := by rw [← hy0]; exact hblk
      have hc5 : y0.cell? ⟨gb, 5, none⟩ = some (.slice (some ⟨ob, 0, none⟩) np oc) := (cell_of_block hbl0 5).trans rfl
      have hf5 := unfrozen_of_block hbl0 5
      have HBL0 := Lib.hid hbl0
      have HK01 := Lib.hid hk01
      clear hblk hk01 hbl0
      refine wp_region_z (S := fun W => W.cell? ⟨gb, 5, none⟩ = some (.slice (some ⟨ob, 0, none⟩) np oc)) 14 (by kernel_rfl) (by rw [hy0]; exact hc5) (fun hHeld => ?_)
      rw [hy0] at hHeld ⊢
      refine wpAnyZ_take (i := 0) (f := 15) (v := ?_) rfl (by kernel_rfl) (by kernel_rfl) (by kernel_rfl) (by kernel_rfl) (by kernel_rfl) (fun _ _ _ h => h) (Or.inl ⟨by rfl, ?_⟩) (by assumption) ?_
      rotate_left
      · intro W hS
        try dsimp only at hS
        try obtain ⟨hs0, hs1⟩ := hS
        go_simp
        try with_reducible rfl
      simp only [Act.put, List.setIfInBounds_toArray]
      refine wpAnyZ_take (i := 1) (f := 15) (v := ?_) rfl (by kernel_rfl) (by kernel_rfl) (by kernel_rfl) (by kernel_rfl) (by kernel_rfl) (fun _ _ _ h => h) (Or.inl ⟨by rfl, ?_⟩) (by assumption) ?_
      rotate_left
      · intro W hS
        try dsimp only at hS
        try obtain ⟨hs0, hs1⟩ := hS
        go_simp
        try with_reducible rfl
      simp only [Act.put]
      refine wpAnyZ_take (i := 2) (f := 15) (v := ?_) rfl (by kernel_rfl) (by kernel_rfl) (by kernel_rfl) (by kernel_rfl) (by kernel_rfl) (fun _ _ _ h => h) (Or.inl ⟨by rfl, ?_⟩) (by assumption) ?_
      rotate_left
      · intro W hS
        try dsimp only at hS
        try obtain ⟨hs0, hs1⟩ := hS
        go_simp
        try with_reducible rfl
      simp only [Act.put]
      refine wpAnyZ_take (i := 3) (f := 15) (v := ?_) rfl (by kernel_rfl) (by kernel_rfl) (by kernel_rfl) (by kernel_rfl) (by kernel_rfl) (fun _ _ _ h => h) (Or.inl ⟨by rfl, ?_⟩) (by assumption) ?_
      rotate_left
      · intro W hS
        try dsimp only at hS
        try obtain ⟨hs0, hs1⟩ := hS
        go_simp
        try with_reducible rfl
      simp only [Act.put]
      refine wpAnyZ_take (i := 4) (f := 15) (v := ?_) rfl (by kernel_rfl) (by kernel_rfl) (by kernel_rfl) (by kernel_rfl) (by kernel_rfl) (fun _ _ _ h => h) (Or.inl ⟨by rfl, ?_⟩) (by assumption) ?_
      rotate_left
      · intro W hS
        try dsimp only at hS
        try obtain ⟨hs0, hs1⟩ := hS
        go_simp
        try with_reducible rfl
      simp only [Act.put]
      refine wpAnyZ_take (i := 5) (f := 15) (v := ?_) rfl (by kernel_rfl) (by kernel_rfl) (by kernel_rfl) (by kernel_rfl) (by kernel_rfl) (fun _ _ _ h => h) (Or.inl ⟨by rfl, ?_⟩) (by assumption) ?_
      rotate_left
      · intro W hS
        try dsimp only at hS
        try obtain ⟨hs0, hs1⟩ := hS
        go_simp
        try with_reducible rfl
      simp only [Act.put]
      refine wpAnyZ_take (i := 6) (f := 15) (v := ?_) rfl (by kernel_rfl) (by kernel_rfl) (by kernel_rfl) (by kernel_rfl) (by kernel_rfl) (fun _ _ _ h => h) (Or.inl ⟨by rfl, ?_⟩) (by assumption) ?_
      rotate_left
      · intro W hS
        try dsimp only at hS
        try obtain ⟨hs0, hs1⟩ := hS
        go_simp
        try with_reducible rfl
      simp only [Act.put]
      refine wpAnyZ_take (i := 7) (f := 15) (v := ?_) rfl (by kernel_rfl) (by kernel_rfl) (by kernel_rfl) (by kernel_rfl) (by kernel_rfl) (fun _ _ _ h => h) (Or.inl ⟨by rfl, ?_⟩) (by assumption) ?_
      rotate_left
      · intro W hS
        try dsimp only at hS
        try obtain ⟨hs0, hs1⟩ := hS
        go_simp
        try with_reducible rfl
      simp only [Act.put]
      refine wpAnyZ_take (i := 8) (f := 15) (v := ?_) rfl (by kernel_rfl) (by kernel_rfl) (by kernel_rfl) (by kernel_rfl) (by kernel_rfl) (fun _ _ _ h => h) (Or.inl ⟨by rfl, ?_⟩) (by assumption) ?_
      rotate_left
      · intro W hS
        try dsimp only at hS
        try obtain ⟨hs0, hs1⟩ := hS
        go_simp
        try with_reducible rfl
      simp only [Act.put]
      refine wpAnyZ_take (i := 9) (f := 15) (v := ?_) rfl (by kernel_rfl) (by kernel_rfl) (by kernel_rfl) (by kernel_rfl) (by kernel_rfl) (fun _ _ _ h => h) (Or.inl ⟨by rfl, ?_⟩) (by assumption) ?_
      rotate_left
      · intro W hS
        try dsimp only at hS
        try obtain ⟨hs0, hs1⟩ := hS
        go_simp
        try with_reducible rfl
      simp only [Act.put]
      refine wpAnyZ_take (i := 10) (f := 15) (v := ?_) rfl (by kernel_rfl) (by kernel_rfl) (by kernel_rfl) (by kernel_rfl) (by kernel_rfl) (fun _ _ _ h => h) (Or.inl ⟨by rfl, ?_⟩) (by assumption) ?_
      rotate_left
      · intro W hS
        try dsimp only at hS
        try obtain ⟨hs0, hs1⟩ := hS
        go_simp
        try with_reducible rfl
      simp only [Act.put]
      refine wpAnyZ_take (i := 11) (f := 15) (v := ?_) rfl (by kernel_rfl) (by kernel_rfl) (by kernel_rfl) (by kernel_rfl) (by kernel_rfl) (fun _ _ _ h => h) (Or.inl ⟨by rfl, ?_⟩) (by assumption) ?_
      rotate_left
      · intro W hS
        try dsimp only at hS
        try obtain ⟨hs0, hs1⟩ := hS
        go_simp
        try with_reducible rfl
      simp only [Act.put]
      refine wpAnyZ_take (i := 12) (f := 15) (v := ?_) rfl (by kernel_rfl) (by kernel_rfl) (by kernel_rfl) (by kernel_rfl) (by kernel_rfl) (fun _ _ _ h => h) (Or.inl ⟨by rfl, ?_⟩) (by assumption) ?_
      rotate_left
      · intro W hS
        try dsimp only at hS
        try obtain ⟨hs0, hs1⟩ := hS
        go_simp
        try with_reducible rfl
      simp only [Act.put]
      refine wpAnyZ_take (i := 13) (f := 15) (v := ?_) rfl (by kernel_rfl) (by kernel_rfl) (by kernel_rfl) (by kernel_rfl) (by kernel_rfl) (fun _ _ _ h => h) (Or.inl ⟨by rfl, ?_⟩) (by assumption) ?_
      rotate_left
      · intro W hS
        try dsimp only at hS
        try obtain ⟨hs0, hs1⟩ := hS
        go_simp
        try with_reducible rfl
      simp only [Act.put]
      refine wpAnyZ_last (by kernel_rfl) rfl (by kernel_rfl) (fun K hK => ?_)
      go_simp
      refine hK.out _ _ ?_
      clear hK K
      try simp only [Act.put, List.setIfInBounds_toArray, List.set_cons_zero, List.set_cons_succ]
      go_wp2_with fail
      go_ret
      rw [HF.out]
      have hk2 : Keeps (fun q => q = gb) y1 (y0.setCell ⟨gb, 5, none⟩ (.slice (some ⟨ob, 0, none⟩) mf oc)) := HK01.out.setCell (p := ⟨gb, 5, none⟩) (.inl rfl) _
      obtain ⟨bf, hfin⟩ := HCL.out _ hk2 (block_setCell (i := 5) HBL0.out _)
      obtain ⟨e1, e2⟩ := close_eq g hfs hal
      have hnd : (g.closeS f fs).nodes = g.nodes := by
        unfold Gr.closeS Gr.setInner
        cases fs <;> rfl
      rw [e1, e2, ← hnd] at hfin
      refine ⟨HBY.out.trans hk2 (fun q hq => .inl (by rw [hq]; exact HSG.out)), rfl, _, v, _, front, bf, hfin, fun k hk => ?_, fun k hk => .inl hk⟩
      refine Nat.lt_of_lt_of_le ?_ hk2.size
      rcases hk with h1 | h1
      · exact HSY.out k h1
      · exact HLT.out k (List.mem_of_getLast? h1)
    · have hss : (sf.toList == sn.toList) = false := bytes_ne (fun e => hne (strB_inj (HSF.out.trans (e.trans HSN.out.symm))))
      have HF : Hid (r = .error 3) := Lib.hid (by rw [← HR.out, hfs]; exact if_neg hne)
      clear hne HR
      refine wp_region_quiet_below (by kernel_rfl) (by kernel_rfl) ?_
      repeat (go_big_quiet_step (first | with_reducible exact cO _ _ | with_reducible exact cI _ _))
      refine wpQuiet_nil ?_
      intro _ hw'
      obtain ⟨⟨dq, osq⟩, hw''⟩ := hw'
      subst hw''
      go_wp2_with fail
      go_ret
      rw [HF.out]
      exact ⟨(keeps_below HBB.out _).below (below_regrown wb dq osq) HBB.out.size, rfl⟩

end Go.Proofs.YtfonflbpkbibbaaGreatDoor
namespace Go.Proofs.YtfonflbpkbibbaaGreatDoor
open Go.RowKit Go.Lib Go.Joins

theorem setCell_id {w : World} {b p : Nat} {v : Value} (h : w.cell? ⟨b, p, none⟩ = some v) (k : Nat) : (w.setCell ⟨b, p, none⟩ v).heap[k]? = w.heap[k]? := by
  by_cases hk : b = k
  · subst hk
    simp only [World.setCell, Array.getElem?_modify, if_true]
    unfold World.cell? at h
    split at h
    · rename_i c e f hb
      have hb' : w.heap[b]? = some (.cells c e f) := hb
      rw [hb']
      simp only [Option.map_some]
      have hc : c[p]? = some v := by simpa using h
      have hs : c.setIfInBounds p v = c := by
        apply Array.ext_getElem?
        intro i
        rw [Array.getElem?_setIfInBounds]
        by_cases hi : p = i
        · subst hi
          have hlt : p < c.size := (Array.getElem?_eq_some_iff.1 hc).1
          have hcp := (Array.getElem?_eq_some_iff.1 hc).2
          simp [hlt, hcp]
        · simp [hi]
      simp [hs]
    · cases h
  · exact setCell_heap_far w ⟨b, p, none⟩ v k hk
theorem list_snoc {α : Type} {l : List α} {n : Nat} (h : l.length = n + 1) : ∃ rs r, l = rs ++ [r] ∧ rs.length = n := by
  have hne : l ≠ [] := fun e => by rw [e] at h; cases h
  exact ⟨l.dropLast, l.getLast hne, (List.dropLast_concat_getLast hne).symm, by rw [List.length_dropLast, h]; rfl⟩
theorem NodesIn.split {w : World} {S : Nat → Prop} {rs : List Nr} {r : Nr} {K : List Tr} {t : Tr} (h : NodesIn w S (rs ++ [r]) (K ++ [t])) : NodesIn w S rs K ∧ NodeIn w S r t := by
  have hl : rs.length = K.length := by have := h.1; simpa using this
  refine ⟨⟨hl, fun i x y hx hy => h.2 i x y (by rw [List.getElem?_append_left (List.getElem?_eq_some_iff.1 hx).1]; exact hx) (by rw [List.getElem?_append_left (List.getElem?_eq_some_iff.1 hy).1]; exact hy)⟩, ?_⟩
  exact h.2 rs.length r t (by simp) (by rw [hl]; simp)
/-- A row's last element, opened. -/
theorem Spine.leaf {w : World} {n0 : Nat} {S : Nat → Prop} {g c n : Nat} {rows : List Nr} {K : List Tr} {nm : List UInt8} {ats : List (List UInt8 × List UInt8)} (p : Addr) (hl : Lv w n0 (sl5 g (n + 1) c) rows) (hr : rows.length = n + 1) (hn : NodesIn w S rows (K ++ [.mk 1 nm [] ats []])) (hk : w.cell? ⟨g, n * 5 + 4, none⟩ = some (.slice none 0 0)) : Spine w n0 S p (sl5 g (n + 1) c) K [⟨nm, ats, []⟩] [p, ⟨g, n * 5, none⟩] [some g, none] := by
  obtain ⟨rs, r, rfl, hrl⟩ := list_snoc hr
  obtain ⟨h1, h2⟩ := hn.split
  obtain ⟨k1, k2, k3, k4, _⟩ := h2.kids
  have hkv := (hl.cells (g := g) rfl (last_at rs r)).2.2.2.2
  rw [hrl, hk] at hkv
  have hkv2 : r.kv = .slice none 0 0 := (Option.some.inj hkv).symm
  refine ⟨rs, r, g, c, [⟨g, n * 5, none⟩], [none], rfl, rfl, by rw [hrl], hl, h1, k1, k2, k3, k4, ?_, ?_, [], ?_, NodesIn.nil w S⟩
  · rw [hrl]
  · rw [hkv2]; rfl
  · rw [hkv2]; exact Lv.nil w n0
theorem Spine.openL {w : World} {n0 : Nat} {S : Nat → Prop} {g c n : Nat} {K : List Tr} {nm : List UInt8} {ats : List (List UInt8 × List UInt8)} {fs : List Fr} {p : Addr} {v : Value} {ks : List Tr} {ps : List Addr} {bs : List (Option Nat)} (h : Spine w n0 S p v ks fs ps bs) (ha : Apart bs) (hc : ∀ front b o, ps = front ++ [⟨b, o, none⟩] → w.cell? ⟨b, o + 4, none⟩ = some (sl5 g (n + 1) c)) (hb : fs = [] → v = sl5 g (n + 1) c) (hk : w.cell? ⟨g, n * 5 + 4, none⟩ = some (.slice none 0 0)) (hin : innerK ks fs = K ++ [.mk 1 nm [] ats []]) (hK : K.length = n) :
    Spine w n0 S p v (Inn.match_1 (fun _ => List Tr) fs (fun _ => K) (fun _ => ks)) (lastKids fs K ++ [⟨nm, ats, []⟩]) (ps ++ [⟨g, n * 5, none⟩]) (bs ++ [none]) := by
  cases fs with
  | nil =>
    obtain ⟨rfl, rfl, rows, h1, h2⟩ := h
    have hv := hb rfl
    subst hv
    have hin2 : ks = K ++ [.mk 1 nm [] ats []] := hin
    rw [hin2] at h2
    exact Spine.leaf p h1 (by rw [h2.1, List.length_append, hK]; rfl) h2 hk
  | cons f fs =>
    obtain ⟨front, b, o, vl, bf, e1, e2, e3, e4, ⟨rows, h1, h2⟩, e5, e6, e7, e8⟩ := Spine.focus h ha
    have hvl : vl = sl5 g (n + 1) c := Option.some.inj (e5.symm.trans (hc front b o e1))
    subst hvl
    have hin2 : (lastF f fs).kids = K ++ [.mk 1 nm [] ats []] := hin
    rw [hin2] at h2
    have h9 := e8 w S Non (sl5 g (n + 1) c) [⟨nm, ats, []⟩] K [⟨b, o, none⟩, ⟨g, n * 5, none⟩] [some g, none] (Keeps.refl _ _) (fun _ _ h => h) (fun _ h => h) (fun _ _ h => h.elim) (setCell_id e5 b).symm (Spine.leaf ⟨b, o, none⟩ h1 (by rw [h2.1, List.length_append, hK]; rfl) h2 hk)
    rw [e1, e2, List.append_assoc, List.append_assoc]
    exact h9

end Go.Proofs.YtfonflbpkbibbaaGreatDoor
