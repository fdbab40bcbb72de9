/-
 A start tag or an empty one taken.
-/
import Derived.Test.YtjpkkflhcjjefaaGreatDoorXTe
import Derived.Lib.QuietBelow
import Derived.BigQuiet
namespace Go.Proofs.YtjpkkflhcjjefaaGreatDoor
open Go.RowKit Go.Lib Go.Joins
set_option maxHeartbeats 32000000
theorem Spine.blocks {w : World} {n0 : Nat} {S : Nat → Prop} : ∀ {fs : List Fr} {p : Addr} {v : Value} {ks : List Tr} {ps : List Addr} {bs : List (Option Nat)}, Spine w n0 S p v ks fs ps bs → ∀ k, some k ∈ bs → k < w.heap.size
 | [], _, _, _, _, _, h, k, e => by
  obtain ⟨_, rfl, rows, h1, _⟩ := h
  exact h1.lt k (List.mem_singleton.1 e).symm
 | f :: fs, _, _, _, _, _, h, k, e => by
  obtain ⟨rows, r, g, c, ps', bs', rfl, rfl, rfl, h1, _, _, _, _, _, h7⟩ := h
  rcases List.mem_cons.1 e with e | e
  ·cases e; exact h1.lt k rfl
  ·exact Spine.blocks h7 k e
def TakeOut (w0 : World) (S0 : Nat → Prop) (n0 gb : Nat) (r : Except Nat Gr) (e : Ending) (w' : World) : Prop :=
 Keeps (fun q => ¬ S0 q) w0 w' ∧ match r with
 | .error c => e = .returned (.int .i64 (c : Int))
 | .ok g' => e = .returned (.int .i64 0) ∧ ∃ S v ov ps bs, GrW w' n0 gb S g'.top g'.opens.reverse g'.nodes v ov ps bs ∧ (∀ k, S k → k < w'.heap.size) ∧ ∀ k, S0 k → S k
set_option maxRecDepth 100000 in
theorem end_calls {w : World} {n0 gb : Nat} {g : Gr} {S : Nat → Prop} {v ov : Value} {ps : List Addr} {bs : List (Option Nat)} (h : GrW w n0 gb S g.top g.opens.reverse g.nodes v ov ps bs) (hS : ∀ k, S k → k < w.heap.size) (hn : n0 ≤ gb) (kd at_ : Nat) (nm tx : List UInt8) (av : Value) (hav : ∃ a n c, av = .slice a n c) : Calls Tryz.prog 75 #[.pointer (some ⟨gb, 0, none⟩), .agg #[.int .i64 (kd : Int), .int .i64 (at_ : Int), .string (strB nm), .string (strB tx), av]] w (TakeOut w S n0 gb (match g.opens with | [] => .error 3 | f :: fs => if f.name = nm then .ok (g.closeS f fs) else .error 3)) := by
 obtain ⟨xa, xn, xc, rfl⟩ := hav
 obtain ⟨sn, hsn⟩ : ∃ s, strB nm = s := ⟨_, rfl⟩
 obtain ⟨st, hst⟩ : ∃ s, strB tx = s := ⟨_, rfl⟩
 have HSN := hid hsn
 rw [hsn, hst]
 have hgl := lt_of_block h.blk
 obtain ⟨r, hr⟩ : ∃ r, (match g.opens with | [] => Except.error 3 | f :: fs => if f.name = nm then .ok (g.closeS f fs) else .error 3 : Except Nat Gr) = r := ⟨_, rfl⟩
 rw [hr]
 have HR := hid hr
 have HN := hid hn
 have HN0 := hid (show n0 ≤ w.heap.size by omega)
 have HGR := hid h
 have HSS := hid hS
 clear h hS hr hsn hst hn
 go_enter Tryz.func75, Tryz.ntmps75
 go_upto_region 1 with (fail)
 obtain ⟨wb, hwb⟩ : ∃ W, w.alloc (.cells #[.int .i64 (kd : Int), .int .i64 (at_ : Int), .string sn, .string st, .slice xa xn xc] 87) = W := ⟨_, rfl⟩
 rw [hwb]
 have hbb : Below w.heap.size w wb := by rw [← hwb]; exact (Below.refl _ _).alloc (Nat.le_refl _) _
 have hbox : wb.heap[w.heap.size]? = some (.cells #[.int .i64 (kd : Int), .int .i64 (at_ : Int), .string sn, .string st, .slice xa xn xc] 87 (0, 0)) := by rw [← hwb]; exact heap_alloc_new w _
 have z2 : wb.cell? ⟨w.heap.size, 2, none⟩ = some (.string sn) := (cell_of_block hbox 2).trans rfl
 have HGB := hid (HGR.out.below hbb)
 have HBB := hid hbb
 have HSB : Hid (∀ k, S k → k < wb.heap.size) := hid (fun k hk => Nat.lt_of_lt_of_le (HSS.out k hk) hbb.size)
 have HOC := hid (fun dq os => Calls.regrown_of (outside_calls (HGB.out.below (below_regrown wb dq os))))
 clear hwb hbb hbox HGR HSS
 by_cases ho : g.opens = []
 ·have hob : decide (g.opens.reverse = []) = true := by rw [ho]; rfl
  have HF : Hid (r = .error 3) := hid (by rw [← HR.out, ho])
  rw [hob] at HOC
  have cO := fun dq os => HOC.out dq os
  clear ho hob HR
  refine wp_region_quiet_below (by kernel_rfl) (by kernel_rfl) ?_
  repeat (go_big_quiet_step (with_reducible exact cO _ _))
  refine wpQuiet_nil ?_
  intro _ hw'
  obtain ⟨⟨dq, osq⟩, hw''⟩ := hw'
  subst hw''
  go_wp2_with fail
  go_ret
  rw [HF.out]
  exact ⟨(keeps_below HBB.out _).below (below_regrown wb dq osq) HBB.out.size, rfl⟩
 ·obtain ⟨f, fs, hfs⟩ : ∃ f fs, g.opens = f :: fs := by
   cases hq : g.opens with
   | nil => exact absurd hq ho
   | cons f fs => exact ⟨f, fs, rfl⟩
  obtain ⟨a, l, hal⟩ : ∃ a l, g.opens.reverse = a :: l := by
   cases hq : g.opens.reverse with
   | nil => exact absurd (List.reverse_eq_nil_iff.1 hq) ho
   | cons a l => exact ⟨a, l, rfl⟩
  have hob : decide (g.opens.reverse = []) = false := by rw [hal]; rfl
  have hlast : lastF a l = f := by
   have h1 : (a :: l) = fs.reverse ++ [f] := by rw [← hal, hfs, List.reverse_cons]
   cases hq : fs.reverse with
   | nil => rw [hq] at h1; simp only [List.nil_append, List.cons.injEq] at h1; rw [h1.1, h1.2]; rfl
   | cons y l3 => rw [hq] at h1; simp only [List.cons_append, List.cons.injEq] at h1; rw [h1.1, h1.2]; exact lastF_snoc f l3 y
  obtain ⟨front, b, o, vl, rows, hinn⟩ := HGB.out.inn HSB.out HN.out
  have z1 := hinn.nam a l hal
  rw [hlast] at z1
  have HIC := hid (fun dq os => Calls.regrown_of (inner_calls (HGB.out.below (below_regrown wb dq os)) hinn.pts))
  obtain ⟨sf, hsf⟩ : ∃ s, strB f.name = s := ⟨_, rfl⟩
  rw [hsf] at z1
  rw [hob] at HOC
  have cO := fun dq os => HOC.out dq os
  have cI := fun dq os => HIC.out dq os
  have c1 := fun dq os => cell_regrown z1 dq os
  have c2 := fun dq os => cell_regrown z2 dq os
  have HSF := hid hsf
  clear hinn hlast hob z1 z2 ho hsf
  by_cases hne : f.name = nm
  ·have hss : sf = sn := by rw [← HSF.out, hne, HSN.out]
   have HF : Hid (r = .ok (g.closeS f fs)) := hid (by rw [← HR.out, hfs]; exact if_pos hne)
   subst hss
   clear hne HR
   refine wp_region_quiet_below (by kernel_rfl) (by kernel_rfl) ?_
   repeat (go_big_quiet_step (first | with_reducible exact cO _ _ | with_reducible exact cI _ _))
   refine wpQuiet_nil ?_
   intro y1 hw'
   obtain ⟨⟨dq, osq⟩, hw''⟩ := hw'
   have hb1 : Below wb.heap.size wb y1 := by rw [hw'']; exact below_regrown wb dq osq
   clear hw''
   have hg1 := HGB.out.below hb1
   obtain ⟨ob, oc, rfl, hl, hoc, hom, _⟩ := hg1.open_form
   have hblk := hg1.blk
   rw [hal] at hg1
   obtain ⟨front, pl, hps, hcl⟩ := hg1.close
   obtain ⟨np, hnp⟩ : ∃ z, ps.length = z := ⟨_, rfl⟩
   obtain ⟨mf, hmf⟩ : ∃ z, front.length = z := ⟨_, rfl⟩
   have hnm : np = mf + 1 := by rw [← hnp, hps, List.length_append, List.length_singleton, hmf]
   rw [hmf] at hcl
   rw [hnp] at hblk hoc
   have hsub : IntKind.i64.wrap ((np : Int) - 1) = (mf : Int) := by
    rw [show (np : Int) - 1 = (mf : Int) by omega]
    exact IntWalk.i64_in _ (by unfold maxLen at hom; omega)
   have hle : (mf : Int) ≤ (oc : Int) := by omega
   have h0m : (0 : Int) ≤ (mf : Int) := by omega
   have HCL := hid hcl
   have HBY : Hid (Keeps (fun q => ¬ S q) w y1) := hid ((keeps_below HBB.out _).below hb1 HBB.out.size)
   have HSG : Hid (¬ S gb) := hid HGB.out.sgb
   have HSY : Hid (∀ k, S k → k < y1.heap.size) := hid (fun k hk => Nat.lt_of_lt_of_le (HSB.out k hk) hb1.size)
   have HLT : Hid (∀ k, some k ∈ bs → k < y1.heap.size) := hid (fun k hk => hg1.spi.blocks k hk)
   clear hg1 hcl hl hps hnp hmf hnm hoc hom cO cI c1 c2 HOC HIC HGB HSB HBB hb1
   go_upto_region 3 with (fail)
   obtain ⟨y0, hy0⟩ : ∃ W, y1.drew = W := ⟨_, rfl⟩
   have hk01 : Keeps (fun q => q = gb) y1 y0 := by rw [← hy0]; exact (Keeps.refl _ y1).drew
   have hbl0 : y0.heap[gb]? = some (growB v (.slice (some ⟨ob, 0, none⟩) np oc) g.nodes) := by rw [← hy0]; exact hblk
   have hc5 : y0.cell? ⟨gb, 5, none⟩ = some (.slice (some ⟨ob, 0, none⟩) np oc) := (cell_of_block hbl0 5).trans rfl
   have hf5 := unfrozen_of_block hbl0 5
   have HBL0 := hid hbl0
   have HK01 := hid hk01
   clear hblk hk01 hbl0
   refine wp_region_z (S := fun W => W.cell? ⟨gb, 5, none⟩ = some (.slice (some ⟨ob, 0, none⟩) np oc)) 14 (by kernel_rfl) (by rw [hy0]; exact hc5) (fun hHeld => ?_)
   rw [hy0] at hHeld ⊢
   refine tkZ 0 15 (hy := by intro W hS; (try dsimp only at hS); (try obtain ⟨hs0, hs1⟩ := hS); go_simp; try with_reducible rfl) ?_
   simp only [Act.put, List.setIfInBounds_toArray]
   refine tkZ 1 15 (hy := by intro W hS; (try dsimp only at hS); (try obtain ⟨hs0, hs1⟩ := hS); go_simp; try with_reducible rfl) ?_
   simp only [Act.put]
   refine tkZ 2 15 (hy := by intro W hS; (try dsimp only at hS); (try obtain ⟨hs0, hs1⟩ := hS); go_simp; try with_reducible rfl) ?_
   simp only [Act.put]
   refine tkZ 3 15 (hy := by intro W hS; (try dsimp only at hS); (try obtain ⟨hs0, hs1⟩ := hS); go_simp; try with_reducible rfl) ?_
   simp only [Act.put]
   refine tkZ 4 15 (hy := by intro W hS; (try dsimp only at hS); (try obtain ⟨hs0, hs1⟩ := hS); go_simp; try with_reducible rfl) ?_
   simp only [Act.put]
   refine tkZ 5 15 (hy := by intro W hS; (try dsimp only at hS); (try obtain ⟨hs0, hs1⟩ := hS); go_simp; try with_reducible rfl) ?_
   simp only [Act.put]
   refine tkZ 6 15 (hy := by intro W hS; (try dsimp only at hS); (try obtain ⟨hs0, hs1⟩ := hS); go_simp; try with_reducible rfl) ?_
   simp only [Act.put]
   refine tkZ 7 15 (hy := by intro W hS; (try dsimp only at hS); (try obtain ⟨hs0, hs1⟩ := hS); go_simp; try with_reducible rfl) ?_
   simp only [Act.put]
   refine tkZ 8 15 (hy := by intro W hS; (try dsimp only at hS); (try obtain ⟨hs0, hs1⟩ := hS); go_simp; try with_reducible rfl) ?_
   simp only [Act.put]
   refine tkZ 9 15 (hy := by intro W hS; (try dsimp only at hS); (try obtain ⟨hs0, hs1⟩ := hS); go_simp; try with_reducible rfl) ?_
   simp only [Act.put]
   refine tkZ 10 15 (hy := by intro W hS; (try dsimp only at hS); (try obtain ⟨hs0, hs1⟩ := hS); go_simp; try with_reducible rfl) ?_
   simp only [Act.put]
   refine tkZ 11 15 (hy := by intro W hS; (try dsimp only at hS); (try obtain ⟨hs0, hs1⟩ := hS); go_simp; try with_reducible rfl) ?_
   simp only [Act.put]
   refine tkZ 12 15 (hy := by intro W hS; (try dsimp only at hS); (try obtain ⟨hs0, hs1⟩ := hS); go_simp; try with_reducible rfl) ?_
   simp only [Act.put]
   refine tkZ 13 15 (hy := by intro W hS; (try dsimp only at hS); (try obtain ⟨hs0, hs1⟩ := hS); go_simp; try with_reducible rfl) ?_
   simp only [Act.put]
   refine wpAnyZ_last (by kernel_rfl) rfl (by kernel_rfl) (fun K hK => ?_)
   go_simp
   refine hK.out _ _ ?_
   clear hK K
   try simp only [Act.put, List.setIfInBounds_toArray, List.set_cons_zero, List.set_cons_succ]
   go_wp2_with fail
   go_ret
   rw [HF.out]
   have hk2 : Keeps (fun q => q = gb) y1 (y0.setCell ⟨gb, 5, none⟩ (.slice (some ⟨ob, 0, none⟩) mf oc)) := HK01.out.setCell (p := ⟨gb, 5, none⟩) (.inl rfl) _
   obtain ⟨bf, hfin⟩ := HCL.out _ hk2 (block_setCell (i := 5) HBL0.out _)
   obtain ⟨e1, e2⟩ := close_eq g hfs hal
   have hnd : (g.closeS f fs).nodes = g.nodes := by
    unfold Gr.closeS Gr.setInner
    cases fs <;> rfl
   rw [e1, e2, ← hnd] at hfin
   refine ⟨HBY.out.trans hk2 (fun q hq => .inl (by rw [hq]; exact HSG.out)), rfl, _, v, _, front, bf, hfin, fun k hk => ?_, fun k hk => .inl hk⟩
   refine Nat.lt_of_lt_of_le ?_ hk2.size
   rcases hk with h1 | h1
   ·exact HSY.out k h1
   ·exact HLT.out k (List.mem_of_getLast? h1)
  ·have hss : (sf.toList == sn.toList) = false := bytes_ne (fun e => hne (strB_inj (HSF.out.trans (e.trans HSN.out.symm))))
   have HF : Hid (r = .error 3) := hid (by rw [← HR.out, hfs]; exact if_neg hne)
   clear hne HR
   refine wp_region_quiet_below (by kernel_rfl) (by kernel_rfl) ?_
   repeat (go_big_quiet_step (first | with_reducible exact cO _ _ | with_reducible exact cI _ _))
   refine wpQuiet_nil ?_
   intro _ hw'
   obtain ⟨⟨dq, osq⟩, hw''⟩ := hw'
   subst hw''
   go_wp2_with fail
   go_ret
   rw [HF.out]
   exact ⟨(keeps_below HBB.out _).below (below_regrown wb dq osq) HBB.out.size, rfl⟩
theorem setCell_id {w : World} {b p : Nat} {v : Value} (h : w.cell? ⟨b, p, none⟩ = some v) (k : Nat) : (w.setCell ⟨b, p, none⟩ v).heap[k]? = w.heap[k]? := by
 by_cases hk : b = k
 ·subst hk
  simp only [World.setCell, Array.getElem?_modify, if_true]
  unfold World.cell? at h
  split at h
  ·rename_i c e f hb
   have hb' : w.heap[b]? = some (.cells c e f) := hb
   rw [hb']
   simp only [Option.map_some]
   have hc : c[p]? = some v := by simpa using h
   have hs : c.setIfInBounds p v = c := by
    apply Array.ext_getElem?
    intro i
    rw [Array.getElem?_setIfInBounds]
    by_cases hi : p = i
    ·subst hi
     have hlt : p < c.size := (Array.getElem?_eq_some_iff.1 hc).1
     have hcp := (Array.getElem?_eq_some_iff.1 hc).2
     simp [hlt, hcp]
    ·simp [hi]
   simp [hs]
  ·cases h
 ·exact setCell_heap_far w ⟨b, p, none⟩ v k hk
theorem list_snoc {α : Type} {l : List α} {n : Nat} (h : l.length = n + 1) : ∃ rs r, l = rs ++ [r] ∧ rs.length = n := by
 have hne : l ≠ [] := fun e => by rw [e] at h; cases h
 exact ⟨l.dropLast, l.getLast hne, (List.dropLast_concat_getLast hne).symm, by rw [List.length_dropLast, h]; rfl⟩
theorem NodesIn.split {w : World} {S : Nat → Prop} {rs : List Nr} {r : Nr} {K : List Tr} {t : Tr} (h : NodesIn w S (rs ++ [r]) (K ++ [t])) : NodesIn w S rs K ∧ NodeIn w S r t := by
 have hl : rs.length = K.length := by have := h.1; simpa using this
 refine ⟨⟨hl, fun i x y hx hy => h.2 i x y (by rw [List.getElem?_append_left (List.getElem?_eq_some_iff.1 hx).1]; exact hx) (by rw [List.getElem?_append_left (List.getElem?_eq_some_iff.1 hy).1]; exact hy)⟩, ?_⟩
 exact h.2 rs.length r t (by simp) (by rw [hl]; simp)
theorem Spine.leaf {w : World} {n0 : Nat} {S : Nat → Prop} {g c n : Nat} {rows : List Nr} {K : List Tr} {nm : List UInt8} {ats : List (List UInt8 × List UInt8)} (p : Addr) (hl : Lv w n0 (sl5 g (n + 1) c) rows) (hr : rows.length = n + 1) (hn : NodesIn w S rows (K ++ [.mk 1 nm [] ats []])) (hk : w.cell? ⟨g, n * 5 + 4, none⟩ = some (.slice none 0 0)) : Spine w n0 S p (sl5 g (n + 1) c) K [⟨nm, ats, []⟩] [p, ⟨g, n * 5, none⟩] [some g, none] := by
 obtain ⟨rs, r, rfl, hrl⟩ := list_snoc hr
 obtain ⟨h1, h2⟩ := hn.split
 obtain ⟨k1, k2, k3, k4, _⟩ := h2.kids
 have hkv := (hl.cells (g := g) rfl (last_at rs r)).2.2.2.2
 rw [hrl, hk] at hkv
 have hkv2 : r.kv = .slice none 0 0 := (Option.some.inj hkv).symm
 refine ⟨rs, r, g, c, [⟨g, n * 5, none⟩], [none], rfl, rfl, by rw [hrl], hl, h1, k1, k2, k3, k4, ?_, ?_, [], ?_, NodesIn.nil w S⟩
 ·rw [hrl]
 ·rw [hkv2]; rfl
 ·rw [hkv2]; exact Lv.nil w n0
theorem Spine.openL {w : World} {n0 : Nat} {S : Nat → Prop} {g c n : Nat} {K : List Tr} {nm : List UInt8} {ats : List (List UInt8 × List UInt8)} {fs : List Fr} {p : Addr} {v : Value} {ks : List Tr} {ps : List Addr} {bs : List (Option Nat)} (h : Spine w n0 S p v ks fs ps bs) (ha : Apart bs) (hc : ∀ front b o, ps = front ++ [⟨b, o, none⟩] → w.cell? ⟨b, o + 4, none⟩ = some (sl5 g (n + 1) c)) (hb : fs = [] → v = sl5 g (n + 1) c) (hk : w.cell? ⟨g, n * 5 + 4, none⟩ = some (.slice none 0 0)) (hin : innerK ks fs = K ++ [.mk 1 nm [] ats []]) (hK : K.length = n) :
  Spine w n0 S p v (Inn.match_1 (fun _ => List Tr) fs (fun _ => K) (fun _ => ks)) (lastKids fs K ++ [⟨nm, ats, []⟩]) (ps ++ [⟨g, n * 5, none⟩]) (bs ++ [none]) := by
 cases fs with
 | nil =>
  obtain ⟨rfl, rfl, rows, h1, h2⟩ := h
  have hv := hb rfl
  subst hv
  have hin2 : ks = K ++ [.mk 1 nm [] ats []] := hin
  rw [hin2] at h2
  exact Spine.leaf p h1 (by rw [h2.1, List.length_append, hK]; rfl) h2 hk
 | cons f fs =>
  obtain ⟨front, b, o, vl, bf, e1, e2, e3, e4, ⟨rows, h1, h2⟩, e5, e6, e7, e8⟩ := Spine.focus h ha
  have hvl : vl = sl5 g (n + 1) c := Option.some.inj (e5.symm.trans (hc front b o e1))
  subst hvl
  have hin2 : (lastF f fs).kids = K ++ [.mk 1 nm [] ats []] := hin
  rw [hin2] at h2
  have h9 := e8 w S Non (sl5 g (n + 1) c) [⟨nm, ats, []⟩] K [⟨b, o, none⟩, ⟨g, n * 5, none⟩] [some g, none] (Keeps.refl _ _) (fun _ _ h => h) (fun _ h => h) (fun _ _ h => h.elim) (setCell_id e5 b).symm (Spine.leaf ⟨b, o, none⟩ h1 (by rw [h2.1, List.length_append, hK]; rfl) h2 hk)
  rw [e1, e2, List.append_assoc, List.append_assoc]
  exact h9
def tagS (g : Gr) (kd : Nat) (nm : List UInt8) (ats : List (List UInt8 × List UInt8)) : Except Nat Gr :=
 if 32 ≤ g.opens.length then .error 7
 else match g.mayS 1 ats.length with
  | some c => .error c
  | none => if kd = 1 then .ok (g.openS nm ats) else .ok (g.putS (.mk 1 nm [] ats []))
theorem open_eq (g : Gr) (nm : List UInt8) (ats : List (List UInt8 × List UInt8)) : innerK (g.putS (.mk 1 nm [] ats [])).top (g.putS (.mk 1 nm [] ats [])).opens.reverse = innerK g.top g.opens.reverse ++ [.mk 1 nm [] ats []] ∧
  Inn.match_1 (fun _ => List Tr) (g.putS (.mk 1 nm [] ats [])).opens.reverse (fun _ => innerK g.top g.opens.reverse) (fun _ => (g.putS (.mk 1 nm [] ats [])).top) = (g.openS nm ats).top ∧
  lastKids (g.putS (.mk 1 nm [] ats [])).opens.reverse (innerK g.top g.opens.reverse) ++ [⟨nm, ats, []⟩] = (g.openS nm ats).opens.reverse ∧ (g.putS (.mk 1 nm [] ats [])).nodes = (g.openS nm ats).nodes := by
 obtain ⟨opens, top, nodes⟩ := g
 cases opens with
 | nil => exact ⟨rfl, rfl, rfl, rfl⟩
 | cons f fs =>
  have e1 : (Gr.putS ⟨f :: fs, top, nodes⟩ (.mk 1 nm [] ats [])).opens.reverse = fs.reverse ++ [⟨f.name, f.attrs, f.kids ++ [.mk 1 nm [] ats []]⟩] := List.reverse_cons ..
  have e2 : (Gr.openS ⟨f :: fs, top, nodes⟩ nm ats).opens.reverse = (fs.reverse ++ [f]) ++ [⟨nm, ats, []⟩] := by
   show (⟨nm, ats, []⟩ :: f :: fs).reverse = _
   rw [List.reverse_cons, List.reverse_cons]
  rw [e1, e2]
  show innerK top _ = innerK top (f :: fs).reverse ++ _ ∧ _
  rw [List.reverse_cons, innerK_snoc, innerK_snoc, lastKids_snoc]
  refine ⟨rfl, ?_, rfl, rfl⟩
  cases fs.reverse <;> rfl
theorem ptrC_snoc (l : List Addr) (p : Addr) : ptrC (l ++ [p]) = ptrC l ++ [.pointer (some p)] := by
 unfold ptrC
 rw [List.map_append]
 rfl
theorem mayS_cases (g : Gr) (k : Int) (na : Nat) : g.mayS k na = some 8 ∨ g.mayS k na = some 2 ∨ g.mayS k na = none := by
 unfold Gr.mayS
 split
 ·exact .inl rfl
 ·split
  ·exact .inr (.inl rfl)
  ·exact .inr (.inr rfl)
set_option maxRecDepth 100000 in
theorem tag_calls {w : World} {n0 gb : Nat} {g : Gr} {S : Nat → Prop} {v ov : Value} {ps : List Addr} {bs : List (Option Nat)} (h : GrW w n0 gb S g.top g.opens.reverse g.nodes v ov ps bs) (hS : ∀ k, S k → k < w.heap.size) (hn : n0 ≤ gb) (hc : g.nodes ≤ 1000000) (hin : (innerK g.top g.opens.reverse).length ≤ 1000000) (kd at_ : Nat) (nm tx : List UInt8) {aa : Option Addr} {ac : Nat} {ats : List (List UInt8 × List UInt8)} (hat : AttIn w S (.slice aa ats.length ac) ats) (hna : ats.length ≤ 1000000) : Calls Tryz.prog 74 #[.pointer (some ⟨gb, 0, none⟩), .agg #[.int .i64 (kd : Int), .int .i64 (at_ : Int), .string (strB nm), .string (strB tx), .slice aa ats.length ac]] w (TakeOut w S n0 gb (tagS g kd nm ats)) := by
 obtain ⟨sn, hsn⟩ : ∃ s, strB nm = s := ⟨_, rfl⟩
 obtain ⟨st, hst⟩ : ∃ s, strB tx = s := ⟨_, rfl⟩
 obtain ⟨na, hnl⟩ : ∃ z, ats.length = z := ⟨_, rfl⟩
 obtain ⟨ob, oc, rfl, hl, hoc, hom, _⟩ := h.open_form
 have hgl := lt_of_block h.blk
 obtain ⟨np, hnp⟩ : ∃ z, ps.length = z := ⟨_, rfl⟩
 have hdp : np = g.opens.length + 1 := by rw [← hnp, hl, List.length_reverse]
 have HSN := hid hsn
 have HNL := hid hnl
 have HNP := hid hnp
 have HDP := hid hdp
 have HOC := hid (And.intro hoc hom)
 have HN := hid hn
 have HN0 := hid (show n0 ≤ w.heap.size by omega)
 have HGR := hid h
 have HSS := hid hS
 have HIN := hid hin
 have HNC := hid hc
 have HAT := hid hat
 have HNA := hid hna
 rw [hsn, hst, hnl]
 obtain ⟨r, hr⟩ : ∃ r, tagS g kd nm ats = r := ⟨_, rfl⟩
 rw [hr]
 have HR := hid hr
 clear h hS hin hc hat hsn hst hnl hn hr hl hoc hom hna hdp
 go_enter Tryz.func74, Tryz.ntmps74
 go_upto_region 1 with (fail)
 obtain ⟨wb, hwb⟩ : ∃ W, w.alloc (.cells #[.int .i64 (kd : Int), .int .i64 (at_ : Int), .string sn, .string st, .slice aa na ac] 87) = W := ⟨_, rfl⟩
 rw [hwb]
 have hbb : Below w.heap.size w wb := by rw [← hwb]; exact (Below.refl _ _).alloc (Nat.le_refl _) _
 have hbox : wb.heap[w.heap.size]? = some (.cells #[.int .i64 (kd : Int), .int .i64 (at_ : Int), .string sn, .string st, .slice aa na ac] 87 (0, 0)) := by rw [← hwb]; exact heap_alloc_new w _
 have HGB := hid (HGR.out.below hbb)
 have HBB := hid hbb
 have HBOX := hid hbox
 have HSB : Hid (∀ k, S k → k < wb.heap.size) := hid (fun k hk => Nat.lt_of_lt_of_le (HSS.out k hk) hbb.size)
 have hc5 := HGB.out.cells.2.1
 rw [hnp] at hc5
 have HPUT : Hid (Calls Tryz.prog 77 #[.pointer (some ⟨gb, 0, none⟩), .agg #[.int .i64 1, .string sn, .string ⟨#[]⟩, .slice aa na ac, .slice none 0 0]] wb (PutOut wb (fun q => q = gb ∨ some q ∈ bs ∨ (Value.slice (some ⟨ob, 0, none⟩) ps.length oc).ownBlock = some q) S n0 gb (innerK g.top g.opens.reverse).length (g.mayS 1 na) (g.putS (.mk 1 nm [] ats [])))) := hid (by
  have h := put_calls HGB.out HSB.out HN.out HNC.out (k := 1) (nm := nm) (tx := []) (att_keep2 HAT.out (keeps_below hbb Non) (fun _ _ h => h)) HNA.out HIN.out
  rw [HSN.out, HNL.out] at h
  exact h)
 have HNO : Hid (¬ (w.heap.size = gb ∨ some w.heap.size ∈ bs ∨ (Value.slice (some ⟨ob, 0, none⟩) ps.length oc).ownBlock = some w.heap.size)) := hid (fun hq => by
  rcases hq with h1 | h1 | h1
  ·omega
  ·exact Nat.lt_irrefl _ (HGR.out.spi.blocks _ h1)
  ·exact Nat.lt_irrefl _ (HGR.out.opn.lt _ h1).2)
 have hz2 := (cell_of_block hbox 2).trans rfl
 have hz4 := (cell_of_block hbox 4).trans rfl
 have HBW := hid (show w.heap.size < wb.heap.size from lt_of_block hbox)
 clear hwb hbb hbox HGR hnp
 by_cases hdeep : 32 ≤ g.opens.length
 ·have hz : (32 : Int) < (np : Int) := by have := HDP.out; omega
  have HF : Hid (r = .error 7) := hid (by rw [← HR.out]; exact if_pos hdeep)
  clear hdeep
  go_wp2_with fail
  go_ret
  rw [HF.out]
  exact ⟨keeps_below HBB.out _, rfl⟩
 have hz : ¬ (32 : Int) < (np : Int) := by have := HDP.out; omega
 have HF1 : Hid ((match g.mayS 1 na with | some c => Except.error c | none => if kd = 1 then .ok (g.openS nm ats) else .ok (g.putS (.mk 1 nm [] ats []))) = r) := hid (by
  rw [← HR.out, tagS, if_neg hdeep, HNL.out])
 have HDEEP := hid hdeep
 clear hdeep
 go_wp2_with fail
 refine HPUT.out.mono ?_
 rintro e w2 ⟨hkp, hm⟩
 have HKP := hid hkp
 have HB2 : Hid (Keeps (fun q => ¬ S q) w w2) := hid ((keeps_below HBB.out _).trans hkp (fun q hq => .inl (HGB.out.own_out q hq)))
 have HBOX2 := hid (block_keep HBOX.out hkp HNO.out)
 clear hkp HPUT
 rcases mayS_cases g 1 na with hq | hq | hq
 ·rw [hq] at hm
  have HF : Hid (r = .error 8) := hid (by rw [← HF1.out, hq])
  obtain rfl : e = .returned (.int .i64 8) := hm
  clear hq
  go_wp2_with fail
  go_ret
  rw [HF.out]
  exact ⟨HB2.out, rfl⟩
 ·rw [hq] at hm
  have HF : Hid (r = .error 2) := hid (by rw [← HF1.out, hq])
  obtain rfl : e = .returned (.int .i64 2) := hm
  clear hq
  go_wp2_with fail
  go_ret
  rw [HF.out]
  exact ⟨HB2.out, rfl⟩
 rw [hq] at hm
 have HF2 : Hid ((if kd = 1 then Except.ok (g.openS nm ats) else .ok (g.putS (.mk 1 nm [] ats []))) = r) := hid (by rw [← HF1.out, hq])
 obtain ⟨rfl, S2, v2, ov2, ps2, bs2, hg2, hS2, hSS2, gn, cn, hcell, hkv⟩ := hm
 have HSS2 := hid hSS2
 have HG2 := hid hg2
 have HS2 := hid hS2
 have HCE := hid hcell
 have HKV := hid hkv
 have hk0 := (cell_of_block HBOX2.out 0).trans rfl
 clear hq hg2 hS2 hSS2 hcell hkv HF1 hc5 hz hz2 hz4
 by_cases hkd : kd = 1
 ·have hkb : ((kd : Int) == 1) = true := by rw [hkd]; rfl
  have HF : Hid (r = .ok (g.openS nm ats)) := hid (by rw [← HF2.out, if_pos hkd])
  clear hkd
  go_upto_region 5 with (fail)
  obtain ⟨ob2, oc2, hov2, hl2, hoc2, hom2, _⟩ := HG2.out.open_form
  obtain ⟨np2, hnp2⟩ : ∃ z, ps2.length = z := ⟨_, rfl⟩
  rw [hnp2] at hov2 hoc2
  obtain ⟨y0, hy0⟩ : ∃ W, w2.drew = W := ⟨_, rfl⟩
  have hb20 : Below w2.heap.size w2 y0 := by rw [← hy0]; exact ⟨rfl, rfl, rfl, Nat.le_refl _, fun _ _ => rfl⟩
  have hg0 := HG2.out.below hb20
  have hS0 : ∀ k, S2 k → k < y0.heap.size := fun k hk => Nat.lt_of_lt_of_le (HS2.out k hk) hb20.size
  have hc5 := hg0.cells.2.1
  rw [hov2] at hc5
  obtain ⟨N, hNN⟩ : ∃ z, (innerK g.top g.opens.reverse).length = z := ⟨_, rfl⟩
  have HNN := hid hNN
  have HNW : Hid (Calls Tryz.prog 108 #[.pointer (some ⟨gb, 0, none⟩)] y0 (Leaves (.pointer (some ⟨gn, N * 5, none⟩)) y0)) := hid (by
   obtain ⟨front, b, o, vl, rows, hinn⟩ := hg0.inn hS0 HN.out
   have h := newest_calls hg0 hinn
   have h1 := HCE.out front b o hinn.pts
   have h2 : vl = .slice (some ⟨gn, 0, none⟩) (N + 1) cn := Option.some.inj (hinn.cel.symm.trans ((hb20.cell (lt_of_cell h1)).trans (by rw [h1, hNN])))
   obtain ⟨_, _, h3, _⟩ := hinn.row.form
   rw [h2] at h3
   injection h3 with _ h4 _
   rw [h2, ← h4] at h
   exact h)
  have HB20 := hid hb20
  have HOV2 := hid hov2
  have HNP2 := hid hnp2
  have HOC2 := hid (And.intro hoc2 hom2)
  clear hg0 hS0 hb20 hov2 hnp2 hl2 hoc2 hom2 hNN
  refine wp_region_z (S := fun W => W.cell? ⟨gb, 5, none⟩ = some (.slice (some ⟨ob2, 0, none⟩) np2 oc2)) 11 (by kernel_rfl) (by rw [hy0]; exact hc5) (fun hHeld => ?_)
  rw [hy0] at hHeld ⊢
  refine tkZ 0 12 (hy := by intro W hS; (try dsimp only at hS); (try obtain ⟨hs0, hs1⟩ := hS); go_simp; try with_reducible rfl) ?_
  simp only [LT, Act.put]
  refine tkZ 1 12 (hy := by intro W hS; (try dsimp only at hS); (try obtain ⟨hs0, hs1⟩ := hS); go_simp; try with_reducible rfl) ?_
  simp only [LT, Act.put]
  refine tkZ 2 12 (hy := by intro W hS; (try dsimp only at hS); (try obtain ⟨hs0, hs1⟩ := hS); go_simp; try with_reducible rfl) ?_
  simp only [LT, Act.put]
  refine tkZ 3 12 (hy := by intro W hS; (try dsimp only at hS); (try obtain ⟨hs0, hs1⟩ := hS); go_simp; try with_reducible rfl) ?_
  simp only [LT, Act.put]
  refine tkZ 4 12 (hy := by intro W hS; (try dsimp only at hS); (try obtain ⟨hs0, hs1⟩ := hS); go_simp; try with_reducible rfl) ?_
  simp only [LT, Act.put]
  refine tkZ 5 12 (hy := by intro W hS; (try dsimp only at hS); (try obtain ⟨hs0, hs1⟩ := hS); go_simp; try with_reducible rfl) ?_
  simp only [LT, Act.put]
  refine wpAnyZ_one (i := 6) (by kernel_rfl) rfl (fun K hK => ?_)
  go_simp
  with_reducible refine HNW.out.mono ?_
  rintro e x1 ⟨rfl, hb01⟩
  have HB21 := hid (below_then HB20.out hb01)
  have hx1c := (hb01.cell (lt_of_cell hc5)).trans hc5
  have HX1C := hid hx1c
  clear hb01
  refine hK.out _ _ HX1C.out (fun hHeld => ?_)
  clear hK K
  try simp only [LT, Act.put]
  obtain ⟨x2, hx2⟩ : ∃ W, x1.alloc (.cells #[.pointer (some ⟨gn, N * 5, none⟩)] 56) = W := ⟨_, rfl⟩
  have hb12 : Below x1.heap.size x1 x2 := by rw [← hx2]; exact (Below.refl _ _).alloc (Nat.le_refl _) _
  have hp2 : x2.heap[x1.heap.size]? = some (.cells #[.pointer (some ⟨gn, N * 5, none⟩)] 56 (0, 0)) := by rw [← hx2]; exact heap_alloc_new x1 _
  have hb22 := below_then HB21.out hb12
  have hg22 := HG2.out.below hb22
  have hx2c : x2.cell? ⟨gb, 5, none⟩ = some (.slice (some ⟨ob2, 0, none⟩) np2 oc2) := (hb12.cell (lt_of_cell hx1c)).trans hx1c
  have hnp3 : np2 ≤ maxLen := Nat.le_trans HOC2.out.1 HOC2.out.2
  have hlo : np2 ≤ 1000 := by
   have h1 := hg22.open_form
   obtain ⟨_, _, _, h2, _⟩ := h1
   have h3 : ps2.length = (g.putS (.mk 1 nm [] ats [])).opens.reverse.length + 1 := h2
   have h4 : (g.putS (.mk 1 nm [] ats [])).opens.reverse.length = g.opens.length := by
    rw [List.length_reverse]
    obtain ⟨opens, top, nodes⟩ := g
    cases opens <;> rfl
   rw [HNP2.out, h4] at h3
   have h5 := HDEEP.out
   omega
  obtain ⟨ov3, x3, hrun, hrow3, hgrown, hown⟩ := append_any (w := x2) Tryz.underlying57 infoP rfl (by decide) hg22.opn (b := ⟨x1.heap.size, 0, none⟩) (m := 1) (c := 1) (news := [.pointer (some ⟨gn, N * 5, none⟩)]) rfl (fun j u hj => by
   rw [Addr.add_mid, Nat.zero_add, cell_of_block hp2 j, ← hj]
   simp) (by intro u hu; rw [List.mem_singleton.1 hu]; rfl) (by rw [HNP2.out]; unfold maxLen; omega) (by rw [HNP2.out]; omega)
  obtain ⟨g3, n3, cap3, rfl⟩ : ∃ g3 n3 cap3, ov3 = .slice (some ⟨g3, 0, none⟩) n3 cap3 := by
   rcases hrow3.2 with ⟨_, h0⟩ | ⟨g3, cap3, cur3, h1, _⟩
   ·omega
   ·exact ⟨g3, _, cap3, h1⟩
  rw [HOV2.out] at hrun hgrown hown
  have hk23 : Keeps (fun q => (Value.slice (some ⟨ob2, 0, none⟩) np2 oc2).ownBlock = some q) x2 x3 := (Keeps.refl _ x2).grown hgrown (fun q e => .inl e)
  have hngb : ¬ (Value.slice (some ⟨ob2, 0, none⟩) np2 oc2).ownBlock = some gb := fun e => (HG2.out.sov gb (by rw [HOV2.out]; exact e)).2 rfl
  have hx3c := cell_keep hx2c hk23 hngb
  have hbk3 := block_keep hg22.blk hk23 hngb
  have hf5 := unfrozen_of_block hbk3 5
  have HRUN := hid hrun
  have HX2C := hid hx2c
  have HX3C := hid hx3c
  have HB22 := hid hb22
  have HROW3 := hid hrow3
  have HOWN := hid hown
  have HK23 := hid hk23
  have HBK3 := hid hbk3
  clear hb12 hp2 hb22 hg22 hx2c hnp3 hlo hrun hrow3 hgrown hown hk23 hngb hbk3 hx1c hc5
  refine wpAnyZ_one (i := 7) (by kernel_rfl) rfl (fun K hK => ?_)
  go_simp
  refine hK.out _ _ HX2C.out (fun hHeld => ?_)
  clear hK K
  try simp only [LT, Act.put]
  refine wpAnyZ_one (i := 8) (by kernel_rfl) rfl (fun K hK => ?_)
  refine step_append rfl (.tmp 30) (.tmp 33) _ _ rfl _ _ _ rfl rfl HRUN.out ?_
  refine hK.out _ _ HX3C.out (fun hHeld => ?_)
  clear hK K
  try simp only [LT, Act.put]
  refine tkZ 9 12 (hy := by intro W hS; (try dsimp only at hS); (try obtain ⟨hs0, hs1⟩ := hS); go_simp; try with_reducible rfl) ?_
  simp only [LT, Act.put]
  refine tkZ 10 12 (hy := by intro W hS; (try dsimp only at hS); (try obtain ⟨hs0, hs1⟩ := hS); go_simp; try with_reducible rfl) ?_
  simp only [LT, Act.put]
  refine wpAnyZ_last (by kernel_rfl) rfl (by kernel_rfl) (fun K hK => ?_)
  go_simp
  refine hK.out _ _ ?_
  clear hK K
  try simp only [Act.put, List.setIfInBounds_toArray, List.set_cons_zero, List.set_cons_succ]
  have HFIN : Hid (TakeOut w S n0 gb r (.returned (.int .i64 0)) (x3.setCell ⟨gb, 5, none⟩ (Value.slice (some ⟨g3, 0, none⟩) n3 cap3))) := hid (by
   have hg2 := HG2.out
   have hgb2 := lt_of_block hg2.blk
   have hsz2 := HB22.out.size
   have hov : ∀ q, (Value.slice (some ⟨g3, 0, none⟩) n3 cap3).ownBlock = some q → ov2.ownBlock = some q ∨ w2.heap.size ≤ q := fun q e => by
    rcases HOWN.out q e with h1 | h1
    ·exact .inl (by rw [HOV2.out]; exact h1)
    ·exact .inr (Nat.le_trans hsz2 h1)
   have k02 : Keeps (fun q => q = gb ∨ ov2.ownBlock = some q) w2 x2 := keeps_below HB22.out _
   have k03 := k02.trans HK23.out (fun q hq => .inl (.inr (by rw [HOV2.out]; exact hq)))
   have k04 := k03.setCell (p := ⟨gb, 5, none⟩) (.inl (.inl rfl)) (Value.slice (some ⟨g3, 0, none⟩) n3 cap3)
   obtain ⟨e1, e2, e3, e4⟩ := open_eq g nm ats
   have hop := Spine.openL hg2.spi hg2.dis (g := gn) (c := cn) (n := N) (K := innerK g.top g.opens.reverse) (nm := nm) (ats := ats) (fun front b o h => by rw [HCE.out front b o h, HNN.out]; rfl) (fun h0 => by
    obtain ⟨h1, _⟩ : ps2 = [⟨gb, 0, none⟩] ∧ True := ⟨by have h2 := hg2.spi; rw [h0] at h2; exact h2.1, trivial⟩
    have h3 := HCE.out [] gb 0 h1
    rw [HNN.out] at h3
    exact Option.some.inj (hg2.cells.1.symm.trans h3)) (by rw [← HNN.out]; exact HKV.out) e1 HNN.out
   rw [e2, e3] at hop
   have hbl : (x3.setCell ⟨gb, 5, none⟩ (Value.slice (some ⟨g3, 0, none⟩) n3 cap3)).heap[gb]? = some (growB v2 (Value.slice (some ⟨g3, 0, none⟩) n3 cap3) (g.openS nm ats).nodes) := by
    rw [← e4]
    exact block_setCell (i := 5) HBK3.out _
   have hne : ∀ q, (Value.slice (some ⟨g3, 0, none⟩) n3 cap3).ownBlock = some q → gb ≠ q := fun q e => by
    rcases hov q e with h1 | h1
    ·exact fun h2 => (hg2.sov q h1).2 h2.symm
    ·omega
   rw [HF.out]
   refine ⟨HB2.out.trans k04 (fun q hq => .inl (fun hs => by
    have h2 := HSS2.out q hs
    rcases hq with h1 | h1
    ·exact hg2.sgb (h1 ▸ h2)
    ·exact (hg2.sov q h1).1 h2)), rfl, S2, v2, (Value.slice (some ⟨g3, 0, none⟩) n3 cap3), ps2 ++ [⟨gn, N * 5, none⟩], bs2 ++ [none], ⟨hbl, ?_, ?_, ?_, ?_, hg2.sgb, ?_, hg2.old⟩, fun k hk => Nat.lt_of_lt_of_le (HS2.out k hk) k04.size, HSS2.out⟩
   ·rw [List.length_append, List.length_singleton, ptrC_snoc]
    exact ownsRow_block HROW3.out (fun q e => setCell_heap_far x3 ⟨gb, 5, none⟩ (Value.slice (some ⟨g3, 0, none⟩) n3 cap3) q (hne q e))
   ·exact hop.keep k04 (fun k hk h1 => by
     rcases h1 with h2 | h2
     ·exact hg2.sgb (h2 ▸ hk)
     ·exact (hg2.sov k h2).1 hk) (fun _ h => h) (fun k hk h1 => by
     have hk2 : some k ∈ bs2 := by
      rcases List.mem_append.1 hk with h3 | h3
      ·exact h3
      ·simp at h3
     rcases h1 with h2 | h2
     ·exact (hg2.off k hk2).2.1 h2
     ·exact (hg2.off k hk2).2.2 h2)
   ·exact Apart.app.2 ⟨hg2.dis, Apart.one _, fun k _ h3 => by simp at h3⟩
   ·intro k hk
    have hk2 : some k ∈ bs2 := by
     rcases List.mem_append.1 hk with h3 | h3
     ·exact h3
     ·simp at h3
    refine ⟨(hg2.off k hk2).1, (hg2.off k hk2).2.1, fun e => ?_⟩
    rcases hov k e with h1 | h1
    ·exact (hg2.off k hk2).2.2 h1
    ·have := hg2.spi.blocks k hk2; omega
   ·intro k e
    refine ⟨fun hs => ?_, (hne k e).symm⟩
    rcases hov k e with h1 | h1
    ·exact (hg2.sov k h1).1 hs
    ·have := HS2.out k hs; omega)
  go_wp2_with fail
  go_ret
  exact HFIN.out
 ·have hkb : ((kd : Int) == 1) = false := by rw [beq_eq_false_iff_ne]; omega
  have HF : Hid (r = .ok (g.putS (.mk 1 nm [] ats []))) := hid (by rw [← HF2.out, if_neg hkd])
  clear hkd
  go_wp2_with fail
  go_ret
  rw [HF.out]
  exact ⟨HB2.out, rfl, S2, v2, ov2, ps2, bs2, HG2.out, HS2.out, HSS2.out⟩
end Go.Proofs.YtjpkkflhcjjefaaGreatDoor
