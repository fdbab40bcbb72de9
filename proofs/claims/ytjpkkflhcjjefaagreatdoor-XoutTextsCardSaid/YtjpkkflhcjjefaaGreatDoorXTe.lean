/-
 The innermost element closed.
-/
import Derived.Test.YtjpkkflhcjjefaaGreatDoorXTl
namespace Go.Proofs.YtjpkkflhcjjefaaGreatDoor
open Go.RowKit Go.Lib Go.Joins
set_option maxHeartbeats 32000000
theorem GrW.setNodes {w w' : World} {n0 gb nodes : Nat} {S : Nat → Prop} {ks : List Tr} {fs : List Fr} {v ov : Value} {ps : List Addr} {bs : List (Option Nat)} (h : GrW w n0 gb S ks fs nodes v ov ps bs) (m : Nat) (hk : Keeps (fun q => q = gb) w w') (hb : w'.heap[gb]? = some (growB v ov m)) : GrW w' n0 gb S ks fs m v ov ps bs where
 blk := hb
 opn := ownsRow_keep h.opn hk (fun k e e2 => (h.sov k e).2 e2)
 spi := h.spi.keep hk (fun _k hs e => h.sgb (e ▸ hs)) (fun _ e => e) (fun k e e2 => (h.off k e).2.1 e2)
 dis := h.dis
 off := h.off
 sgb := h.sgb
 sov := h.sov
 old := h.old
theorem att_keep2 {w w' : World} {S O : Nat → Prop} {v : Value} {l : List (List UInt8 × List UInt8)} (h : AttIn w S v l) (hk : Keeps O w w') (hS : ∀ k, S k → ¬ O k) : AttIn w' S v l := h.keep hk hS (fun _ h => h)
theorem Inn.below {w w' : World} {n0 gb nodes : Nat} {S : Nat → Prop} {ks : List Tr} {fs : List Fr} {ov : Value} {ps front : List Addr} {b o : Nat} {vl : Value} {rows : List Nr} (h : Inn w n0 gb S ks fs nodes ov ps front b o vl rows) (hb : Below w.heap.size w w') : Inn w' n0 gb S ks fs nodes ov ps front b o vl rows where
 pts := h.pts
 row := h.row.keep (keeps_below hb Non) (fun _ _ h => h)
 nds := h.nds.keep (keeps_below hb Non) (fun _ _ h => h) (fun _ h => h)
 cel := (hb.cell (lt_of_cell h.cel)).trans h.cel
 frz := (hb.frozen (p := ⟨b, o + 4, none⟩) (lt_of_cell h.cel)).trans h.frz
 nam := fun f fs' e => (hb.cell (lt_of_cell (h.nam f fs' e))).trans (h.nam f fs' e)
 nS := h.nS
 nv := h.nv
 no := h.no
 nvS := h.nvS
 lo := h.lo
 put := fun w'' O vl' rows' ks2 hk hO hbk hl hv hnd => h.put w'' O vl' rows' ks2 ((keeps_below hb O).trans hk (fun _ hq => .inl hq)) (fun k hOk => by
  rcases hO k hOk with h1 | h1 | h1
  ·exact .inl h1
  ·exact .inr (.inl h1)
  ·exact .inr (.inr (Nat.le_trans hb.size h1))) (by
  rw [hbk]
  simp [World.setCell, Array.getElem?_modify, hb.block b (lt_of_cell h.cel)]) hl (fun k e => by
  rcases hv k e with h1 | h1
  ·exact .inl h1
  ·exact .inr (Nat.le_trans hb.size h1)) hnd
theorem innerK_snoc (ks : List Tr) (f : Fr) : ∀ l : List Fr, innerK ks (l ++ [f]) = f.kids
 | [] => rfl
 | g :: l => by
  show (lastF g (l ++ [f])).kids = f.kids
  rw [lastF_snoc]
theorem grow_put {W : World} {n0 gb m : Nat} {S : Nat → Prop} {g : Gr} {t : Tr} {v ov : Value} {ps : List Addr} {bs : List (Option Nat)} (h4 : GrW W n0 gb S (Inn.match_1 (fun _ => List Tr) g.opens.reverse (fun _ => innerK g.top g.opens.reverse ++ [t]) (fun _ => g.top)) (lastKids g.opens.reverse (innerK g.top g.opens.reverse ++ [t])) m v ov ps bs) : GrW W n0 gb S (g.putS t).top (g.putS t).opens.reverse m v ov ps bs := by
 obtain ⟨opens, top, nodes⟩ := g
 cases opens with
 | nil => exact h4
 | cons f fs =>
  show GrW W n0 gb S top (⟨f.name, f.attrs, f.kids ++ [t]⟩ :: fs).reverse m v ov ps bs
  rw [List.reverse_cons]
  dsimp only at h4
  rw [List.reverse_cons, innerK_snoc, lastKids_snoc] at h4
  cases hfr : fs.reverse with
  | nil => rw [hfr] at h4; exact h4
  | cons a l => rw [hfr] at h4; exact h4
theorem nrC_fill (rows : List Nr) (r : Nr) (z0 z1 z2 z3 z4 : Value) : (((((nrC rows ++ [z0, z1, z2, z3, z4]).set (rows.length * 5) (.int .i64 (r.kind : Int))).set (rows.length * 5 + 1) (.string (strB r.name))).set (rows.length * 5 + 2) (.string (strB r.text))).set (rows.length * 5 + 3) r.av).set (rows.length * 5 + 4) r.kv = nrC (rows ++ [r]) := by
 rw [nrC_app, ← nrC_len]
 rw [List.set_append_right _ _ (Nat.le_refl _), List.set_append_right _ _ (by omega), List.set_append_right _ _ (by omega), List.set_append_right _ _ (by omega), List.set_append_right _ _ (by omega)]
 simp only [Nat.sub_self, Nat.add_sub_cancel_left]
 rfl
theorem row_fill {w : World} {g n c : Nat} {rows : List Nr} {z0 z1 z2 z3 z4 : Value} (h : w.ownsRow 0 25 5 (.slice (some ⟨g, 0, none⟩) (n + 1) c) (n + 1) (nrC rows ++ [z0, z1, z2, z3, z4])) (hl : rows.length = n) (r : Nr) : (((((w.setCell ⟨g, n * 5, none⟩ (.int .i64 (r.kind : Int))).setCell ⟨g, n * 5 + 1, none⟩ (.string (strB r.name))).setCell ⟨g, n * 5 + 2, none⟩ (.string (strB r.text))).setCell ⟨g, n * 5 + 3, none⟩ r.av).setCell ⟨g, n * 5 + 4, none⟩ r.kv).ownsRow 0 25 5 (.slice (some ⟨g, 0, none⟩) (n + 1) c) (n + 1) (nrC (rows ++ [r])) := by
 have h1 := (((((h.stored (n * 5) (.int .i64 (r.kind : Int))).1.stored (n * 5 + 1) (.string (strB r.name))).1.stored (n * 5 + 2) (.string (strB r.text))).1.stored (n * 5 + 3) r.av).1.stored (n * 5 + 4) r.kv).1
 rw [← hl, nrC_fill] at h1
 rw [← hl]
 exact h1
theorem setCell_heap_far (w : World) (p : Addr) (u : Value) (k : Nat) (h : p.block ≠ k) : (w.setCell p u).heap[k]? = w.heap[k]? := Below.heap_setCell w p u k (fun e => h e.symm)
theorem setCell_heap_same {w w' : World} (p : Addr) (u : Value) (h : w.heap[p.block]? = w'.heap[p.block]?) : (w.setCell p u).heap[p.block]? = (w'.setCell p u).heap[p.block]? := by
 simp [World.setCell, Array.getElem?_modify, h]
theorem frozen_keep {w w' : World} {O : Nat → Prop} {b p : Nat} {v : Value} (h : w.cell? ⟨b, p, none⟩ = some v) (hf : w.frozen? ⟨b, p, none⟩ = false) (hk : Keeps O w w') (hb : ¬ O b) : w'.frozen? ⟨b, p, none⟩ = false := by
 have e := hk.block b (lt_of_cell h) hb
 unfold World.frozen? at hf ⊢
 rw [e]
 exact hf
theorem GrW.inn_mem {w : World} {n0 gb nodes : Nat} {S : Nat → Prop} {ks : List Tr} {fs : List Fr} {v ov : Value} {ps : List Addr} {bs : List (Option Nat)} (h : GrW w n0 gb S ks fs nodes v ov ps bs) {front : List Addr} {b o : Nat} {vl : Value} {rows : List Nr} (hi : Inn w n0 gb S ks fs nodes ov ps front b o vl rows) : (b = gb ∨ some b ∈ bs) ∧ ∀ k, vl.ownBlock = some k → some k ∈ bs := by
 have hp := hi.pts
 have hc := hi.cel
 cases fs with
 | nil =>
  obtain ⟨e1, e2, rows2, h1, h2⟩ := h.spi
  rw [e1] at hp
  obtain ⟨_, he2⟩ := List.append_inj' (show [] ++ [(⟨gb, 0, none⟩ : Addr)] = front ++ [⟨b, o, none⟩] from hp) rfl
  injection he2 with he3 _
  injection he3 with h3 h4 _
  subst h3 h4
  have h5 := h.cells.1
  have h6 : v = vl := Option.some.inj (h5.symm.trans hc)
  exact ⟨.inl rfl, fun k e => by rw [e2, h6, e]; exact List.mem_cons_self ..⟩
 | cons f fs =>
  obtain ⟨front', g, off, vl', bf, e1, e2, e3, e4, _, e5, _⟩ := Spine.focus h.spi h.dis
  obtain ⟨_, he2⟩ := List.append_inj' (e1.symm.trans hp) rfl
  injection he2 with he3 _
  injection he3 with h3 h4 _
  subst h3 h4
  have h6 : vl' = vl := Option.some.inj (e5.symm.trans hc)
  exact ⟨.inr (by rw [e2]; exact List.mem_append_left _ e3), fun k e => by rw [e2, h6, e]; simp⟩
theorem GrW.own_out {w : World} {n0 gb nodes : Nat} {S : Nat → Prop} {ks : List Tr} {fs : List Fr} {v ov : Value} {ps : List Addr} {bs : List (Option Nat)} (h : GrW w n0 gb S ks fs nodes v ov ps bs) : ∀ q, (q = gb ∨ some q ∈ bs ∨ ov.ownBlock = some q) → ¬ S q := fun q hq h2 => by
 rcases hq with h3 | h3 | h3
 ·exact h.sgb (h3 ▸ h2)
 ·exact (h.off q h3).1 h2
 ·exact (h.sov q h3).1 h2
def PutOut (w0 : World) (OO S0 : Nat → Prop) (n0 gb n : Nat) (r : Option Nat) (g' : Gr) (e : Ending) (w' : World) : Prop :=
 Keeps OO w0 w' ∧ match r with
 | some c => e = .returned (.int .i64 (c : Int))
 | none => e = .returned (.int .i64 0) ∧ ∃ S v ov ps bs, GrW w' n0 gb S g'.top g'.opens.reverse g'.nodes v ov ps bs ∧ (∀ k, S k → k < w'.heap.size) ∧ (∀ k, S0 k → S k) ∧ ∃ gn cn, (∀ front b o, ps = front ++ [⟨b, o, none⟩] → w'.cell? ⟨b, o + 4, none⟩ = some (.slice (some ⟨gn, 0, none⟩) (n + 1) cn)) ∧ w'.cell? ⟨gn, n * 5 + 4, none⟩ = some (.slice none 0 0)
set_option maxRecDepth 100000 in
theorem put_calls {w : World} {n0 gb : Nat} {g : Gr} {S : Nat → Prop} {v ov : Value} {ps : List Addr} {bs : List (Option Nat)} (h : GrW w n0 gb S g.top g.opens.reverse g.nodes v ov ps bs) (hS : ∀ k, S k → k < w.heap.size) (hn : n0 ≤ gb) (hc : g.nodes ≤ 1000000) {k : Int} {nm tx : List UInt8} {aa : Option Addr} {ac : Nat} {ats : List (List UInt8 × List UInt8)} (hat : AttIn w S (.slice aa ats.length ac) ats) (hna : ats.length ≤ 1000000) (hin : (innerK g.top g.opens.reverse).length ≤ 1000000) : Calls Tryz.prog 77 #[.pointer (some ⟨gb, 0, none⟩), .agg #[.int .i64 (k : Int), .string (strB nm), .string (strB tx), .slice aa ats.length ac, .slice none 0 0]] w (PutOut w (fun q => q = gb ∨ some q ∈ bs ∨ ov.ownBlock = some q) S n0 gb (innerK g.top g.opens.reverse).length (g.mayS k ats.length) (g.putS (.mk k nm tx ats []))) := by
 obtain ⟨g4, g5, g6, f4, f5, f6⟩ := h.cells
 obtain ⟨nodes, hnd⟩ : ∃ z, g.nodes = z := ⟨_, rfl⟩
 obtain ⟨na, hnl⟩ : ∃ z, ats.length = z := ⟨_, rfl⟩
 rw [hnd] at h g6 hc
 rw [hnl] at hat hna ⊢
 have HND := hid hnd
 have HIN := hid hin
 have HNL := hid hnl
 have HAT := hid hat
 clear hnd hnl hat
 obtain ⟨m, hm⟩ : ∃ m, nodes + (1 + na) = m := ⟨_, rfl⟩
 obtain ⟨q, hq⟩ : ∃ m, 1 + na = m := ⟨_, rfl⟩
 have hadd1 : IntKind.i64.wrap (1 + (na : Int)) = (q : Int) := by
  rw [show 1 + (na : Int) = (q : Int) by omega]
  exact IntWalk.i64_in _ (by omega)
 have hadd2 : IntKind.i64.wrap ((nodes : Int) + (q : Int)) = (m : Int) := by
  rw [show (nodes : Int) + (q : Int) = (m : Int) by omega]
  exact IntWalk.i64_in _ (by omega)
 obtain ⟨sn, hsn⟩ : ∃ s, strB nm = s := ⟨_, rfl⟩
 obtain ⟨st, hst⟩ : ∃ s, strB tx = s := ⟨_, rfl⟩
 rw [hsn, hst]
 have hgl := lt_of_cell g6
 have HN0 := hid (show n0 ≤ w.heap.size by omega)
 have HSN := hid hsn
 have HST := hid hst
 have HK0 : Hid (k = k) := hid rfl
 have HM := hid hm
 have HQ := hid hq
 have HGR := hid h
 have HSS := hid hS
 have HN := hid hn
 clear h hS hn hm hq g4 g5 f4 f5
 go_enter Tryz.func77, Tryz.ntmps77
 go_upto_region 1 with (fail)
 obtain ⟨wb, hwb⟩ : ∃ W, w.alloc (.cells #[.int .i64 (k : Int), .string sn, .string st, .slice aa na ac, .slice none 0 0] 25) = W := ⟨_, rfl⟩
 rw [hwb]
 have hbb : Below w.heap.size w wb := by rw [← hwb]; exact (Below.refl _ _).alloc (Nat.le_refl _) _
 have hbox : wb.heap[w.heap.size]? = some (.cells #[.int .i64 (k : Int), .string sn, .string st, .slice aa na ac, .slice none 0 0] 25 (0, 0)) := by rw [← hwb]; exact heap_alloc_new w _
 obtain ⟨x0, hx0⟩ : ∃ W, wb.drew = W := ⟨_, rfl⟩
 have hbx : Below w.heap.size w x0 := by rw [← hx0]; exact ⟨hbb.os, hbb.tape, hbb.output, hbb.size, hbb.block⟩
 have hbox0 : x0.heap[w.heap.size]? = some (.cells #[.int .i64 (k : Int), .string sn, .string st, .slice aa na ac, .slice none 0 0] 25 (0, 0)) := by rw [← hx0]; exact hbox
 have hx6 := (hbx.cell hgl).trans g6
 have hx3 : x0.cell? ⟨w.heap.size, 3, none⟩ = some (.slice aa na ac) := (cell_of_block hbox0 3).trans rfl
 have hf6 := (hbx.frozen (p := ⟨gb, 6, none⟩) hgl).trans f6
 have HBX := hid hbx
 have HBOX := hid hbox0
 clear hwb hbb hbox hbx hbox0 g6 f6
 refine wp_region_z (S := fun W => W.cell? ⟨gb, 6, none⟩ = some (.int .i64 (nodes : Int)) ∧ W.cell? ⟨w.heap.size, 3, none⟩ = some (.slice aa na ac)) 11 (by kernel_rfl) (by rw [hx0]; exact ⟨hx6, hx3⟩) (fun hHeld => ?_)
 rw [hx0] at hHeld ⊢
 refine tkZ 0 12 (hy := by intro W hS; (try dsimp only at hS); (try obtain ⟨hs0, hs1⟩ := hS); go_simp; try with_reducible rfl) ?_
 simp only [Act.put, List.setIfInBounds_toArray]
 refine tkZ 1 12 (hy := by intro W hS; (try dsimp only at hS); (try obtain ⟨hs0, hs1⟩ := hS); go_simp; try with_reducible rfl) ?_
 simp only [Act.put]
 refine tkZ 2 12 (hy := by intro W hS; (try dsimp only at hS); (try obtain ⟨hs0, hs1⟩ := hS); go_simp; try with_reducible rfl) ?_
 simp only [Act.put]
 refine tkZ 3 12 (hy := by intro W hS; (try dsimp only at hS); (try obtain ⟨hs0, hs1⟩ := hS); go_simp; try with_reducible rfl) ?_
 simp only [Act.put]
 refine tkZ 4 12 (hy := by intro W hS; (try dsimp only at hS); (try obtain ⟨hs0, hs1⟩ := hS); go_simp; try with_reducible rfl) ?_
 simp only [Act.put]
 refine tkZ 5 12 (hy := by intro W hS; (try dsimp only at hS); (try obtain ⟨hs0, hs1⟩ := hS); go_simp; try with_reducible rfl) ?_
 simp only [Act.put]
 refine tkZ 6 12 (hy := by intro W hS; (try dsimp only at hS); (try obtain ⟨hs0, hs1⟩ := hS); go_simp; try with_reducible rfl) ?_
 simp only [Act.put]
 refine tkZ 7 12 (hy := by intro W hS; (try dsimp only at hS); (try obtain ⟨hs0, hs1⟩ := hS); go_simp; try with_reducible rfl) ?_
 simp only [Act.put]
 refine tkZ 8 12 (hy := by intro W hS; (try dsimp only at hS); (try obtain ⟨hs0, hs1⟩ := hS); go_simp; try with_reducible rfl) ?_
 simp only [Act.put]
 refine tkZ 9 12 (hy := by intro W hS; (try dsimp only at hS); (try obtain ⟨hs0, hs1⟩ := hS); go_simp; try with_reducible rfl) ?_
 simp only [Act.put]
 refine tkZ 10 12 (hy := by intro W hS; (try dsimp only at hS); (try obtain ⟨hs0, hs1⟩ := hS); go_simp; try with_reducible rfl) ?_
 simp only [Act.put]
 refine wpAnyZ_last (by kernel_rfl) rfl (by kernel_rfl) (fun K hK => ?_)
 go_simp
 refine hK.out _ _ ?_
 clear hK K
 try simp only [Act.put, List.setIfInBounds_toArray, List.set_cons_zero, List.set_cons_succ]
 obtain ⟨X1, hX1⟩ : ∃ W, x0.setCell ⟨gb, 6, none⟩ (.int .i64 (m : Int)) = W := ⟨_, rfl⟩
 rw [hX1]
 have hgb2 : gb ≠ w.heap.size := by omega
 have hk1 : Keeps (fun q => q = gb) x0 X1 := by rw [← hX1]; exact (Keeps.refl (fun q => q = gb) x0).setCell (p := ⟨gb, 6, none⟩) (.inl rfl) _
 have hgr0 := HGR.out.below HBX.out
 have hblk1 : X1.heap[gb]? = some (growB v ov m) := by
  rw [← hX1]
  exact block_setCell (i := 6) hgr0.blk _
 have hgr1 := hgr0.setNodes m hk1 hblk1
 have hS1 : ∀ k, S k → k < X1.heap.size := fun k hk => Nat.lt_of_lt_of_le (HSS.out k hk) (Nat.le_trans HBX.out.size hk1.size)
 have hb1 : Keeps (fun q => q = gb ∨ some q ∈ bs ∨ ov.ownBlock = some q) w X1 := (keeps_below HBX.out _).trans hk1 (fun q hq => .inl (.inl hq))
 have hbox1 := block_keep HBOX.out hk1 (fun e => hgb2 e.symm)
 have hat1 := att_keep2 HAT.out (keeps_below HBX.out Non) (fun _ _ h => h)
 have hat2 := att_keep2 hat1 hk1 (fun q hq e => HGR.out.sgb (e ▸ hq))
 obtain ⟨front, b, o, vl, rows, hinn⟩ := hgr1.inn hS1 HN.out
 have hlow : (∀ kk, vl.ownBlock = some kk → kk < w.heap.size) ∧ b < w.heap.size := by
  obtain ⟨front', b', o', vl', rows', hiw⟩ := HGR.out.inn HSS.out HN.out
  have he := hiw.pts.symm.trans hinn.pts
  obtain ⟨_, he2⟩ := List.append_inj' he rfl
  injection he2 with he3 _
  injection he3 with h1 h2 _
  subst h1 h2
  have hc' := (HBX.out.cell (lt_of_cell hiw.cel)).trans hiw.cel
  have hc1 := hinn.cel
  have hvv : vl = vl' := by
   by_cases hsame : (⟨gb, 6, none⟩ : Addr) = ⟨b', o' + 4, none⟩
   ·exfalso
    rw [← hX1, ← hsame, World.cell?_setCell_same (w := x0) (a := ⟨gb, 6, none⟩) _ hx6] at hc1
    obtain ⟨_, _, hf, _⟩ := hinn.row.form
    rw [hf] at hc1
    cases hc1
   ·rw [← hX1, World.cell?_setCell_other (w := x0) (a := ⟨gb, 6, none⟩) (b := ⟨b', o' + 4, none⟩) _ hsame, hc'] at hc1
    exact (Option.some.inj hc1).symm
  subst hvv
  exact ⟨fun kk e => hiw.row.lt kk e, lt_of_cell hiw.cel⟩
 have HLOW := hid hlow
 have HMEM := hid (hgr1.inn_mem hinn)
 have HIC := hid (inner_calls hgr1 hinn.pts)
 have HG1 := hid hgr1
 have HI1 := hid hinn
 have HS1 := hid hS1
 have HB1 := hid hb1
 have HBOX1 := hid hbox1
 have HAT1 := hid hat2
 clear hX1 hk1 hgr0 hblk1 hgr1 hS1 hb1 hbox1 hat1 hat2 hinn HGR HSS HBOX HBX HAT hx6 hx3 hf6
 go_wp2_with fail
 with_reducible refine HIC.out.mono ?_
 rintro e X2 ⟨rfl, hb⟩
 have HG2 := hid (HG1.out.below hb)
 have HI2 := hid (HI1.out.below hb)
 have HS2 : Hid (∀ k, S k → k < X2.heap.size) := hid (fun k hk => Nat.lt_of_lt_of_le (HS1.out k hk) hb.size)
 have HB2 := hid (HB1.out.below hb HB1.out.size)
 have HBOX2 := hid (block_keep HBOX1.out (keeps_below hb Non) (fun h => h))
 have HAT2 := hid (att_keep2 HAT1.out (keeps_below hb Non) (fun _ _ h => h))
 clear hb HIC HG1 HI1 HS1 HB1 HBOX1 HAT1
 have c6 := HG2.out.cells.2.2.1
 by_cases hmost : 4096 < m
 ·have hz : (4096 : Int) < (m : Int) := by omega
  have HR : Hid (g.mayS k na = some 8) := hid (by
   unfold Gr.mayS
   rw [if_pos (by rw [HND.out, HM.out]; exact hmost)])
  clear hmost
  go_wp2_with fail
  go_ret
  rw [HR.out]
  exact ⟨HB2.out, rfl⟩
 have hz : ¬ (4096 : Int) < (m : Int) := by omega
 have HMOST := hid hmost
 go_upto_region 5 with (fail)
 go_cut [25] (fun s wz => Below X2.heap.size X2 wz ∧ ((s = .bool true ∧ g.mayS k na = some 2) ∨ (s = .bool false ∧ g.mayS k na = none)))
 case first =>
  have n0c := (cell_of_block HBOX2.out 0).trans rfl
  have n1c := (cell_of_block HBOX2.out 1).trans rfl
  have n2c := (cell_of_block HBOX2.out 2).trans rfl
  have n3c := (cell_of_block HBOX2.out 3).trans rfl
  have n4c := (cell_of_block HBOX2.out 4).trans rfl
  have HE : Hid (∀ W, Calls Tryz.prog 44 #[.agg #[.int .i64 (k : Int), .string sn, .string st, .slice aa na ac, .slice none 0 0]] W (Leaves (.bool (k == 1)) W)) := hid (fun W => by
   have h := isElem_calls ⟨k, nm, tx, .slice aa na ac, .slice none 0 0⟩ W
   unfold nodeV at h
   dsimp only at h
   rw [HSN.out, HST.out] at h
   exact h)
  by_cases hk1 : k = 1
  ·have hkb : (k == 1) = true := by rw [hk1]; rfl
   rw [hkb] at HE
   have HK1 := hid hk1
   clear hk1 hkb
   go_wp2_with fail
   with_reducible refine (HE.out _).mono ?_
   rintro e X3 ⟨rfl, hb⟩
   have HB3 := hid hb
   have HG3 := hid (HG2.out.below hb)
   have HI3 := hid (HI2.out.below hb)
   have HOC := hid (outside_calls HG3.out)
   clear hb HE n0c n1c n2c n3c n4c c6
   by_cases ho : g.opens = []
   ·have hob : decide (g.opens.reverse = []) = true := by rw [ho]; rfl
    rw [hob] at HOC
    go_wp2_with fail
    with_reducible refine HOC.out.mono ?_
    rintro e X4 ⟨rfl, hb⟩
    have HB4 := hid (below_then HB3.out hb)
    have HI4 := hid (HI3.out.below hb)
    have hcel := HI4.out.cel
    have HHC := hid (has_calls (HI4.out.row.rowIn (fun _ => True) (fun _ _ => trivial)))
    have HANY : Hid ((rows.any fun r => r.kind == 1) = g.top.any fun t => t.kind == 1) := hid (by
     have h1 := HI4.out.nds.kinds
     rw [ho] at h1
     have h2 : (rows.map fun r => r.kind).any (fun z => z == 1) = (g.top.map Tr.kind).any (fun z => z == 1) := by
      rw [h1]
      rfl
     rw [List.any_map, List.any_map] at h2
     exact h2)
    rw [HANY.out] at HHC
    clear hb HOC
    by_cases hq1 : (g.top.any fun t => t.kind == 1) = true
    ·rw [hq1] at HHC
     have HR : Hid (g.mayS k na = some 2) := hid (by
      unfold Gr.mayS
      rw [if_neg (by rw [HND.out, HM.out]; exact HMOST.out), if_pos ⟨HK1.out, ho, hq1⟩])
     clear ho hq1 hob
     go_wp2_with fail
     with_reducible refine HHC.out.mono ?_
     rintro e X5 ⟨rfl, hb⟩
     have HB5 := hid (below_then HB4.out hb)
     clear hb
     go_wp2_with fail
     go_meet
     exact ⟨HB5.out, .inl ⟨rfl, HR.out⟩⟩
    ·rw [Bool.eq_false_iff.2 hq1] at HHC
     have HR : Hid (g.mayS k na = none) := hid (by
      unfold Gr.mayS
      rw [if_neg (by rw [HND.out, HM.out]; exact HMOST.out), if_neg (fun hh => hq1 hh.2.2)])
     clear ho hq1 hob
     go_wp2_with fail
     with_reducible refine HHC.out.mono ?_
     rintro e X5 ⟨rfl, hb⟩
     have HB5 := hid (below_then HB4.out hb)
     clear hb
     go_wp2_with fail
     go_meet
     exact ⟨HB5.out, .inr ⟨rfl, HR.out⟩⟩
   ·have hob : decide (g.opens.reverse = []) = false := decide_eq_false (fun h => ho (List.reverse_eq_nil_iff.1 h))
    rw [hob] at HOC
    have HR : Hid (g.mayS k na = none) := hid (by
     unfold Gr.mayS
     rw [if_neg (by rw [HND.out, HM.out]; exact HMOST.out), if_neg (fun hh => ho hh.2.1)])
    clear ho hob
    go_wp2_with fail
    with_reducible refine HOC.out.mono ?_
    rintro e X4 ⟨rfl, hb⟩
    have HB4 := hid (below_then HB3.out hb)
    clear hb HOC
    go_wp2_with fail
    go_meet
    exact ⟨HB4.out, .inr ⟨rfl, HR.out⟩⟩
  ·have hkb : (k == 1) = false := beq_eq_false_iff_ne.2 hk1
   rw [hkb] at HE
   have HR : Hid (g.mayS k na = none) := hid (by
    unfold Gr.mayS
    rw [if_neg (by rw [HND.out, HM.out]; exact HMOST.out), if_neg (fun hh => hk1 hh.1)])
   clear hk1 hkb
   go_wp2_with fail
   with_reducible refine (HE.out _).mono ?_
   rintro e X3 ⟨rfl, hb⟩
   have HB3 := hid hb
   clear hb
   go_wp2_with fail
   go_meet
   exact ⟨HB3.out, .inr ⟨rfl, HR.out⟩⟩
 case rest =>
 obtain ⟨hb, hcase⟩ := hcut
 rename World => X3
 have HG3 := hid (HG2.out.below hb)
 have HI3 := hid (HI2.out.below hb)
 have HS3L : Hid (w.heap.size ≤ X3.heap.size) := hid (Nat.le_trans HB2.out.size hb.size)
 have HS3 : Hid (∀ k, S k → k < X3.heap.size) := hid (fun k hk => Nat.lt_of_lt_of_le (HS2.out k hk) hb.size)
 have HB3 := hid (HB2.out.below hb HB2.out.size)
 have HBOX3 := hid (block_keep HBOX2.out (keeps_below hb Non) (fun h => h))
 have HAT3 := hid (att_keep2 HAT2.out (keeps_below hb Non) (fun _ _ h => h))
 clear hb HG2 HI2 HS2 HB2 HBOX2 HAT2 c6 hmost
 rcases hcase with ⟨rfl, hr⟩ | ⟨rfl, hr⟩
 ·have HR := hid hr
  clear hr
  go_wp2_with fail
  go_ret
  rw [HR.out]
  exact ⟨HB3.out, rfl⟩
 have HR := hid hr
 clear hr
 obtain ⟨va, vc, hvl, hvc, hvm, _⟩ := HI3.out.row.form
 obtain ⟨n, hrl⟩ : ∃ z, rows.length = z := ⟨_, rfl⟩
 rw [hrl] at hvl hvc
 have hnk : n ≤ 1000000 := by rw [← hrl, HI3.out.nds.1]; exact HIN.out
 have HRL := hid hrl
 have HVL := hid hvl
 go_upto_region 7 with (fail)
 obtain ⟨x0, hx0⟩ : ∃ W, X3.drew = W := ⟨_, rfl⟩
 have hbx : Below X3.heap.size X3 x0 := by rw [← hx0]; exact ⟨rfl, rfl, rfl, Nat.le_refl _, fun _ _ => rfl⟩
 have HI0 := hid (HI3.out.below hbx)
 have HBOX0 := hid (block_keep HBOX3.out (keeps_below hbx Non) (fun h => h))
 have hlv := HI0.out.row
 have hcl := HI0.out.cel
 have hfz := HI0.out.frz
 rw [hvl] at hcl
 have n0c := (cell_of_block HBOX0.out 0).trans rfl
 have n1c := (cell_of_block HBOX0.out 1).trans rfl
 have n2c := (cell_of_block HBOX0.out 2).trans rfl
 have n3c := (cell_of_block HBOX0.out 3).trans rfl
 have n4c := (cell_of_block HBOX0.out 4).trans rfl
 obtain ⟨x1, hx1⟩ : ∃ W, x0.alloc (.cells #[.int .i64 0, .string ⟨#[]⟩, .string ⟨#[]⟩, .slice none 0 0, .slice none 0 0] 25) = W := ⟨_, rfl⟩
 have hb01 : Below x0.heap.size x0 x1 := by rw [← hx1]; exact (Below.refl _ _).alloc (Nat.le_refl _) _
 have hz5 : x1.heap[x0.heap.size]? = some (.cells #[.int .i64 0, .string ⟨#[]⟩, .string ⟨#[]⟩, .slice none 0 0, .slice none 0 0] 25 (0, 0)) := by rw [← hx1]; exact heap_alloc_new x0 _
 have hlv1 := hlv.keep (keeps_below hb01 Non) (fun _ _ h => h)
 obtain ⟨v', x2, hrun, hrow, hgrown, hown⟩ := append_any (w := x1) Tryz.underlying22 infoN rfl (by decide) hlv1.row (b := ⟨x0.heap.size, 0, none⟩) (m := 1) (c := 1) (news := [.int .i64 0, .string ⟨#[]⟩, .string ⟨#[]⟩, .slice none 0 0, .slice none 0 0]) rfl (fun j u hj => by
  rw [Addr.add_mid, Nat.zero_add, cell_of_block hz5 j, ← hj]
  simp) (by intro u hu; simp only [List.mem_cons, List.not_mem_nil, or_false] at hu; rcases hu with rfl | rfl | rfl | rfl | rfl <;> rfl) (by rw [hrl]; unfold maxLen; omega) (by rw [hrl]; omega)
 rw [hvl] at hrun
 have HRUN := hid hrun
 have hB01 := hid hb01
 have hx1c : x1.cell? ⟨b, o + 4, none⟩ = some (.slice va n vc) ∧ x1.cell? ⟨w.heap.size, 0, none⟩ = some (.int .i64 (k : Int)) ∧ x1.cell? ⟨w.heap.size, 1, none⟩ = some (.string sn) ∧ x1.cell? ⟨w.heap.size, 2, none⟩ = some (.string st) ∧ x1.cell? ⟨w.heap.size, 3, none⟩ = some (.slice aa na ac) ∧ x1.cell? ⟨w.heap.size, 4, none⟩ = some (.slice none 0 0) := ⟨(hb01.cell (lt_of_cell hcl)).trans hcl, (hb01.cell (lt_of_cell n0c)).trans n0c, (hb01.cell (lt_of_cell n1c)).trans n1c, (hb01.cell (lt_of_cell n2c)).trans n2c, (hb01.cell (lt_of_cell n3c)).trans n3c, (hb01.cell (lt_of_cell n4c)).trans n4c⟩
 have HX1C := hid hx1c
 have HZ5 := hid hz5
 have HGROWN := hid hgrown
 have HOWN := hid hown
 rcases hrow.2 with ⟨_, h0⟩ | ⟨g', cap', cur', rfl, _, hblk2, hcap', hcm', hcs', _⟩
 ·omega
 rw [hrl] at hrow HRUN hcap'
 have HROW0 := hid hrow
 have hk12 : Keeps (fun q => vl.ownBlock = some q) x1 x2 := (Keeps.refl _ x1).grown HGROWN.out (fun q e => .inl e)
 have hbn : ¬ vl.ownBlock = some b := HI3.out.nv
 have hbw : ¬ vl.ownBlock = some w.heap.size := fun e => Nat.lt_irrefl _ (HLOW.out.1 _ e)
 have hx2c : x2.cell? ⟨b, o + 4, none⟩ = some (.slice va n vc) ∧ x2.cell? ⟨w.heap.size, 0, none⟩ = some (.int .i64 (k : Int)) ∧ x2.cell? ⟨w.heap.size, 1, none⟩ = some (.string sn) ∧ x2.cell? ⟨w.heap.size, 2, none⟩ = some (.string st) ∧ x2.cell? ⟨w.heap.size, 3, none⟩ = some (.slice aa na ac) ∧ x2.cell? ⟨w.heap.size, 4, none⟩ = some (.slice none 0 0) := ⟨cell_keep hx1c.1 hk12 hbn, cell_keep hx1c.2.1 hk12 hbw, cell_keep hx1c.2.2.1 hk12 hbw, cell_keep hx1c.2.2.2.1 hk12 hbw, cell_keep hx1c.2.2.2.2.1 hk12 hbw, cell_keep hx1c.2.2.2.2.2 hk12 hbw⟩
 have HX2C := hid hx2c
 have HK12 := hid hk12
 have HBLK2 := hid hblk2
 have HCAP := hid (And.intro hcap' hcm')
 have HCS := hid hcs'
 have hnlt : (n : Int) < ((n + 1 : Nat) : Int) := by omega
 have hnlt2 : (n : Int) < (n : Int) + 1 := by omega
 have hbg : b ≠ g' := fun e => by
  rcases HOWN.out g' rfl with h1 | h1
  ·exact hbn (e ▸ h1)
  ·have := HLOW.out.2
   have h2 := hb01.size
   have h3 := HS3L.out
   have h4 := hbx.size
   omega
 have hgl2 : vl.ownBlock = some g' ∨ x0.heap.size ≤ g' := by
  rcases HOWN.out g' rfl with h1 | h1
  ·exact .inl h1
  ·exact .inr (Nat.le_trans hb01.size h1)
 have hz0 := hrow.cells (g := g') rfl
 have hq0 : ∀ j z, ([Value.int .i64 0, .string ⟨#[]⟩, .string ⟨#[]⟩, .slice none 0 0, .slice none 0 0] : List Value)[j]? = some z → x2.cell? ⟨g', n * 5 + j, none⟩ = some z := fun j z hj => by
  have h1 := hz0 (n * 5 + j) z (by rw [← hrl, ← nrC_len, List.getElem?_append_right (by omega), Nat.add_sub_cancel_left]; exact hj)
  rw [Addr.add_mid, Nat.zero_add] at h1
  exact h1
 have q0 : x2.cell? ⟨g', n * 5, none⟩ = some (.int .i64 0) := hq0 0 _ rfl
 have q1 := hq0 1 _ rfl
 have q2 := hq0 2 _ rfl
 have q3 := hq0 3 _ rfl
 have q4 := hq0 4 _ rfl
 have u0 := unfrozen_of_block hblk2 (n * 5)
 have u1 := unfrozen_of_block hblk2 (n * 5 + 1)
 have u2 := unfrozen_of_block hblk2 (n * 5 + 2)
 have u3 := unfrozen_of_block hblk2 (n * 5 + 3)
 have u4 := unfrozen_of_block hblk2 (n * 5 + 4)
 have hfz1 := (hb01.frozen (p := ⟨b, o + 4, none⟩) (lt_of_cell hcl)).trans hfz
 have hfz2 := frozen_keep hx1c.1 hfz1 hk12 hbn
 have hcb2 := hx2c.1
 have HFIN : Hid (∀ W4, Keeps (fun q => q = b ∨ q = g') x2 W4 → W4.heap[b]? = (x2.setCell ⟨b, o + 4, none⟩ (.slice (some ⟨g', 0, none⟩) (n + 1) cap')).heap[b]? → W4.ownsRow 0 25 5 (.slice (some ⟨g', 0, none⟩) (n + 1) cap') (n + 1) (nrC (rows ++ [⟨k, nm, tx, .slice aa na ac, .slice none 0 0⟩])) → PutOut w (fun q => q = gb ∨ some q ∈ bs ∨ ov.ownBlock = some q) S n0 gb (innerK g.top g.opens.reverse).length (g.mayS k na) (g.putS (.mk k nm tx ats [])) (.returned (.int .i64 0)) W4) := hid (fun W4 hk4 hb4 hr4 => by
  have hbxs := hbx.size
  have k01 : Keeps (fun q => q = b ∨ vl.ownBlock = some q ∨ x0.heap.size ≤ q) x0 x1 := keeps_below hb01 _
  have k02 := k01.trans hk12 (fun q hq => .inl (.inr (.inl hq)))
  have k04 := k02.trans hk4 (fun q hq => .inl (by
   rcases hq with h1 | h1
   ·exact .inl h1
   ·rw [h1]; exact .inr hgl2))
  have hx2b : x2.heap[b]? = x0.heap[b]? := (hk12.block b (Nat.lt_of_lt_of_le (lt_of_cell hcl) hb01.size) hbn).trans (hb01.block b (lt_of_cell hcl))
  have hSO : ∀ q, S q → ¬ (q = b ∨ vl.ownBlock = some q ∨ x0.heap.size ≤ q) := fun q hq hO => by
   rcases hO with h1 | h1 | h1
   ·exact HI0.out.nS (h1 ▸ hq)
   ·exact (HI0.out.nvS q h1).1 hq
   ·have := HS3.out q hq; omega
  have hat4 := att_keep2 (att_keep2 HAT3.out (keeps_below hbx Non) (fun _ _ h => h)) k04 hSO
  obtain ⟨v4, bs4, h4⟩ := HI0.out.put W4 _ (.slice (some ⟨g', 0, none⟩) (n + 1) cap') (rows ++ [⟨k, nm, tx, .slice aa na ac, .slice none 0 0⟩]) (innerK g.top g.opens.reverse ++ [.mk k nm tx ats []]) k04 (fun q hq => hq) (by
   rw [hb4]
   simp [World.setCell, Array.getElem?_modify, hx2b]) ⟨by rw [List.length_append, hrl]; exact hr4, fun q e => by
    rcases HOWN.out q e with h1 | h1
    ·exact HI0.out.row.new q h1
    ·have := HS3L.out; have h5 := HN0.out; have h6 := hb01.size; omega⟩ (fun q e => by
    rcases HOWN.out q e with h1 | h1
    ·exact .inl h1
    ·exact .inr (Nat.le_trans hb01.size h1)) ((HI0.out.nds.keep k04 hSO (fun _ h => h)).snoc (NodeIn.leaf hat4))
  replace h4 := grow_put h4
  refine ⟨(HB3.out.below hbx HB3.out.size).trans k04 (fun q hq => ?_), ?_⟩
  ·rcases hq with h1 | h1 | h1
   ·rcases HMEM.out.1 with h2 | h2
    ·exact .inl (.inl (h1.trans h2))
    ·exact .inl (.inr (.inl (by rw [h1]; exact h2)))
   ·exact .inl (.inr (.inl (HMEM.out.2 q h1)))
   ·have := HS3L.out; exact .inr (by have h7 := hbx.size; omega)
  ·rw [HR.out]
   have hNn : (innerK g.top g.opens.reverse).length = n := by rw [← HI3.out.nds.1, hrl]
   rw [hNn]
   refine ⟨rfl, S, v4, ov, ps, bs4, ?_, fun q hq => ?_, fun _ h => h, g', cap', fun front2 b2 o2 hps2 => ?_, ?_⟩
   ·have hnn : (g.putS (.mk k nm tx ats [])).nodes = m := by
     show g.nodes + (1 + ats.length) = m
     rw [HND.out, HNL.out]
     exact HM.out
    rw [hnn]
    exact h4
   ·have := HS3.out q hq
    have h5 := k04.size
    omega
   ·obtain ⟨_, he2⟩ := List.append_inj' (hps2.symm.trans HI0.out.pts) rfl
    injection he2 with he3 _
    injection he3 with h1 h2 _
    subst h1 h2
    exact (World.cell?_of_block (a := ⟨b2, o2 + 4, none⟩) hb4).trans (World.cell?_setCell_same (w := x2) (a := ⟨b2, o2 + 4, none⟩) _ hcb2)
   ·have h6 := hr4.cells (g := g') rfl (n * 5 + 4) (.slice none 0 0) (by
     rw [← hrl]
     exact (nrC_at (last_at rows ⟨k, nm, tx, .slice aa na ac, .slice none 0 0⟩)).2.2.2.2)
    rw [Addr.add_mid, Nat.zero_add] at h6
    exact h6)
 have hn0 : (0 : Int) ≤ (n : Int) := by omega
 clear hrun hx1c hz5 hgrown hown hlv hlv1 hk12 hbn hbw hx2c hblk2 hcap' hcm' hcs' hz0 hq0 hfz1 hrow hgl2
 refine wp_region_l (S := fun W => W.cell? ⟨b, o + 4, none⟩ = some (.slice va n vc) ∧ W.cell? ⟨w.heap.size, 0, none⟩ = some (.int .i64 (k : Int)) ∧ W.cell? ⟨w.heap.size, 1, none⟩ = some (.string sn) ∧ W.cell? ⟨w.heap.size, 2, none⟩ = some (.string st) ∧ W.cell? ⟨w.heap.size, 3, none⟩ = some (.slice aa na ac) ∧ W.cell? ⟨w.heap.size, 4, none⟩ = some (.slice none 0 0)) [8, 9, 10, 11, 12] (by kernel_rfl) (by rw [hx0]; exact ⟨hcl, n0c, n1c, n2c, n3c, n4c⟩) (fun hHeld => ?_)
 rw [hx0] at hHeld ⊢
 refine wpAnyL_take (i := 0) (f := 13) (v := ?_) rfl (by kernel_rfl) (by kernel_rfl) (by kernel_rfl) (by kernel_rfl) (by kernel_rfl) (fun _ _ _ h => h) (Or.inl ⟨by rfl, ?_⟩) (by assumption) ?_
 rotate_left
 ·intro W hS
  try dsimp only at hS
  try obtain ⟨hs0, hs1, hs2, hs3, hs4, hs5⟩ := hS
  go_simp
  try with_reducible rfl
 simp only [LT, Act.put]
 refine wpAnyL_take (i := 1) (f := 13) (v := ?_) rfl (by kernel_rfl) (by kernel_rfl) (by kernel_rfl) (by kernel_rfl) (by kernel_rfl) (fun _ _ _ h => h) (Or.inl ⟨by rfl, ?_⟩) (by assumption) ?_
 rotate_left
 ·intro W hS
  try dsimp only at hS
  try obtain ⟨hs0, hs1, hs2, hs3, hs4, hs5⟩ := hS
  go_simp
  try with_reducible rfl
 simp only [LT, Act.put]
 refine wpAnyL_take (i := 2) (f := 13) (v := ?_) rfl (by kernel_rfl) (by kernel_rfl) (by kernel_rfl) (by kernel_rfl) (by kernel_rfl) (fun _ _ _ h => h) (Or.inl ⟨by rfl, ?_⟩) (by assumption) ?_
 rotate_left
 ·intro W hS
  try dsimp only at hS
  try obtain ⟨hs0, hs1, hs2, hs3, hs4, hs5⟩ := hS
  go_simp
  try with_reducible rfl
 simp only [LT, Act.put]
 refine wpAnyL_take (i := 3) (f := 13) (v := ?_) rfl (by kernel_rfl) (by kernel_rfl) (by kernel_rfl) (by kernel_rfl) (by kernel_rfl) (fun _ _ _ h => h) (Or.inl ⟨by rfl, ?_⟩) (by assumption) ?_
 rotate_left
 ·intro W hS
  try dsimp only at hS
  try obtain ⟨hs0, hs1, hs2, hs3, hs4, hs5⟩ := hS
  go_simp
  try with_reducible rfl
 simp only [LT, Act.put]
 refine wpAnyL_take (i := 4) (f := 13) (v := ?_) rfl (by kernel_rfl) (by kernel_rfl) (by kernel_rfl) (by kernel_rfl) (by kernel_rfl) (fun _ _ _ h => h) (Or.inl ⟨by rfl, ?_⟩) (by assumption) ?_
 rotate_left
 ·intro W hS
  try dsimp only at hS
  try obtain ⟨hs0, hs1, hs2, hs3, hs4, hs5⟩ := hS
  go_simp
  try with_reducible rfl
 simp only [LT, Act.put]
 refine wpAnyL_take (i := 5) (f := 13) (v := ?_) rfl (by kernel_rfl) (by kernel_rfl) (by kernel_rfl) (by kernel_rfl) (by kernel_rfl) (fun _ _ _ h => h) (Or.inl ⟨by rfl, ?_⟩) (by assumption) ?_
 rotate_left
 ·intro W hS
  try dsimp only at hS
  try obtain ⟨hs0, hs1, hs2, hs3, hs4, hs5⟩ := hS
  go_simp
  try with_reducible rfl
 simp only [LT, Act.put]
 refine wpAnyL_one (i := 6) (by kernel_rfl) rfl (fun K hK => ?_)
 go_simp
 refine hK.out _ _ HX1C.out (fun hHeld => ?_)
 clear hK K
 try simp only [LT, Act.put]
 refine wpAnyL_one (i := 7) (by kernel_rfl) rfl (fun K hK => ?_)
 refine step_append rfl (.tmp 42) (.tmp 45) _ _ rfl _ _ _ rfl rfl HRUN.out ?_
 refine hK.out _ _ HX2C.out (fun hHeld => ?_)
 clear hK K
 try simp only [LT, Act.put]
 refine wpAnyL_free _ _ _ _ (by kernel_rfl) ?_
 refine wpAnyL_take (i := 8) (f := 13) (v := ?_) rfl (by kernel_rfl) (by kernel_rfl) (by kernel_rfl) (by kernel_rfl) (by kernel_rfl) (fun _ _ _ h => h) (Or.inl ⟨by rfl, ?_⟩) trivial ?_
 rotate_left
 ·intro W hS
  go_simp
  try with_reducible rfl
 simp only [LT, Act.put]
 refine wpAnyL_take (i := 10) (f := 13) (v := ?_) rfl (by kernel_rfl) (by kernel_rfl) (by kernel_rfl) (by kernel_rfl) (by kernel_rfl) (fun _ _ _ h => h) (Or.inl ⟨by rfl, ?_⟩) trivial ?_
 rotate_left
 ·intro W hS
  go_simp
  try with_reducible rfl
 simp only [LT, Act.put]
 refine wpAnyL_take (i := 11) (f := 13) (v := ?_) rfl (by kernel_rfl) (by kernel_rfl) (by kernel_rfl) (by kernel_rfl) (by kernel_rfl) (fun _ _ _ h => h) (Or.inl ⟨by rfl, ?_⟩) trivial ?_
 rotate_left
 ·intro W hS
  go_simp
  try with_reducible rfl
 simp only [LT, Act.put]
 refine wpAnyL_two (i := 9) (j := 12) (by kernel_rfl) rfl rfl (fun K hK => ?_) (fun K hK => ?_)
 ·go_simp
  refine hK.out _ _ trivial (fun _ => ?_)
  clear hK K
  try simp only [LT, Act.put]
  obtain ⟨y, hy⟩ : ∃ W, ((((x2.setCell ⟨g', n * 5, none⟩ (.int .i64 (k : Int))).setCell ⟨g', n * 5 + 1, none⟩ (.string sn)).setCell ⟨g', n * 5 + 2, none⟩ (.string st)).setCell ⟨g', n * 5 + 3, none⟩ (.slice aa na ac)).setCell ⟨g', n * 5 + 4, none⟩ (.slice none 0 0) = W := ⟨_, rfl⟩
  rw [hy]
  have hky : Keeps (fun q => q = g') x2 y := by
   rw [← hy]
   exact (((((Keeps.refl (fun q => q = g') x2).setCell (p := ⟨g', n * 5, none⟩) (.inl rfl) _).setCell (p := ⟨g', n * 5 + 1, none⟩) (.inl rfl) _).setCell (p := ⟨g', n * 5 + 2, none⟩) (.inl rfl) _).setCell (p := ⟨g', n * 5 + 3, none⟩) (.inl rfl) _).setCell (p := ⟨g', n * 5 + 4, none⟩) (.inl rfl) _
  have hcy := cell_keep hcb2 hky hbg
  have hfy := frozen_keep hcb2 hfz2 hky hbg
  have hry : y.ownsRow 0 25 5 (.slice (some ⟨g', 0, none⟩) (n + 1) cap') (n + 1) (nrC (rows ++ [⟨k, nm, tx, .slice aa na ac, .slice none 0 0⟩])) := by
   have h9 := row_fill HROW0.out HRL.out ⟨k, nm, tx, .slice aa na ac, .slice none 0 0⟩
   rw [← hy]
   dsimp only at h9
   rw [HSN.out, HST.out] at h9
   exact h9
  have HF4 := hid (HFIN.out (y.setCell ⟨b, o + 4, none⟩ (.slice (some ⟨g', 0, none⟩) (n + 1) cap')) ((hky.mono (fun _ _ h => .inr h)).setCell (p := ⟨b, o + 4, none⟩) (.inl (.inl rfl)) _) (setCell_heap_same ⟨b, o + 4, none⟩ _ (hky.block b (lt_of_cell hcb2) hbg)) (ownsRow_block hry (fun q e => by
   obtain rfl : g' = q := Option.some.inj e
   exact setCell_heap_far y ⟨b, o + 4, none⟩ _ g' hbg)))
  clear hy hky hry q0 q1 q2 q3 q4 u0 u1 u2 u3 u4
  refine wpAnyL_one (i := 12) (by kernel_rfl) rfl (fun K hK => ?_)
  go_simp
  refine hK.out _ _ trivial (fun _ => ?_)
  clear hK K
  try simp only [LT, Act.put]
  refine wpAnyL_done (by kernel_rfl) ?_ _
  go_wp2_with fail
  go_ret
  exact HF4.out
 ·go_simp
  refine hK.out _ _ trivial (fun _ => ?_)
  clear hK K
  try simp only [LT, Act.put]
  obtain ⟨y, hy⟩ : ∃ W, x2.setCell ⟨b, o + 4, none⟩ (.slice (some ⟨g', 0, none⟩) (n + 1) cap') = W := ⟨_, rfl⟩
  rw [hy]
  have hky : Keeps (fun q => q = b) x2 y := by
   rw [← hy]
   exact (Keeps.refl (fun q => q = b) x2).setCell (p := ⟨b, o + 4, none⟩) (.inl rfl) _
  have hgb3 : ¬ g' = b := fun e => hbg e.symm
  have q0' := cell_keep q0 hky hgb3
  have q1' := cell_keep q1 hky hgb3
  have q2' := cell_keep q2 hky hgb3
  have q3' := cell_keep q3 hky hgb3
  have q4' := cell_keep q4 hky hgb3
  have u0' := frozen_keep q0 u0 hky hgb3
  have u1' := frozen_keep q1 u1 hky hgb3
  have u2' := frozen_keep q2 u2 hky hgb3
  have u3' := frozen_keep q3 u3 hky hgb3
  have u4' := frozen_keep q4 u4 hky hgb3
  have hry : y.ownsRow 0 25 5 (.slice (some ⟨g', 0, none⟩) (n + 1) cap') (n + 1) (nrC rows ++ [.int .i64 0, .string ⟨#[]⟩, .string ⟨#[]⟩, .slice none 0 0, .slice none 0 0]) := ownsRow_block HROW0.out (fun q e => by
   obtain rfl : g' = q := Option.some.inj e
   rw [← hy]
   exact setCell_heap_far x2 ⟨b, o + 4, none⟩ _ g' hbg)
  have HF4 : Hid (PutOut w (fun q => q = gb ∨ some q ∈ bs ∨ ov.ownBlock = some q) S n0 gb (innerK g.top g.opens.reverse).length (g.mayS k na) (g.putS (.mk k nm tx ats [])) (.returned (.int .i64 0)) (((((y.setCell ⟨g', n * 5, none⟩ (.int .i64 (k : Int))).setCell ⟨g', n * 5 + 1, none⟩ (.string sn)).setCell ⟨g', n * 5 + 2, none⟩ (.string st)).setCell ⟨g', n * 5 + 3, none⟩ (.slice aa na ac)).setCell ⟨g', n * 5 + 4, none⟩ (.slice none 0 0))) := hid (by
   refine HFIN.out _ ((((((hky.mono (fun _ _ h => .inl h)).setCell (p := ⟨g', n * 5, none⟩) (.inl (.inr rfl)) _).setCell (p := ⟨g', n * 5 + 1, none⟩) (.inl (.inr rfl)) _).setCell (p := ⟨g', n * 5 + 2, none⟩) (.inl (.inr rfl)) _).setCell (p := ⟨g', n * 5 + 3, none⟩) (.inl (.inr rfl)) _).setCell (p := ⟨g', n * 5 + 4, none⟩) (.inl (.inr rfl)) _) ?_ ?_
   ·rw [setCell_heap_far _ _ _ b hgb3, setCell_heap_far _ _ _ b hgb3, setCell_heap_far _ _ _ b hgb3, setCell_heap_far _ _ _ b hgb3, setCell_heap_far _ _ _ b hgb3, hy]
   ·have h9 := row_fill hry HRL.out ⟨k, nm, tx, .slice aa na ac, .slice none 0 0⟩
    dsimp only at h9
    rw [HSN.out, HST.out] at h9
    exact h9)
  clear hy hky hry q0 q1 q2 q3 q4 u0 u1 u2 u3 u4
  refine wpAnyL_one (i := 9) (by kernel_rfl) rfl (fun K hK => ?_)
  go_simp
  refine hK.out _ _ trivial (fun _ => ?_)
  clear hK K
  try simp only [LT, Act.put]
  refine wpAnyL_done (by kernel_rfl) ?_ _
  go_wp2_with fail
  go_ret
  exact HF4.out
theorem closeF_snoc (f : Fr) : ∀ (l : List Fr) (ks : List Tr) (a : Fr), closeF ks a (l ++ [f]) = (ks, lastKids (a :: l) ((lastF a l).kids ++ [elemT f]))
 | [], ks, a => rfl
 | a2 :: l, ks, a => by
  show (ks, Fr.mk a.name a.attrs (closeF a.kids a2 (l ++ [f])).1 :: (closeF a.kids a2 (l ++ [f])).2) = _
  rw [closeF_snoc f l a.kids a2]
  rfl
theorem close_eq (g : Gr) {f : Fr} {fs : List Fr} (ho : g.opens = f :: fs) {a : Fr} {l : List Fr} (hr : g.opens.reverse = a :: l) : (closeF g.top a l).1 = (g.closeS f fs).top ∧ (closeF g.top a l).2 = (g.closeS f fs).opens.reverse := by
 obtain ⟨opens, top, nodes⟩ := g
 dsimp only at ho hr ⊢
 subst ho
 rw [List.reverse_cons] at hr
 cases fs with
 | nil =>
  obtain ⟨rfl, rfl⟩ : f = a ∧ l = [] := by
   simp only [List.reverse_nil, List.nil_append, List.cons.injEq] at hr
   exact ⟨hr.1, hr.2.symm⟩
  exact ⟨rfl, rfl⟩
 | cons x fs2 =>
  rw [List.reverse_cons] at hr
  obtain ⟨l2, hl2⟩ : ∃ l2, l = l2 ++ [f] ∧ a :: l2 = fs2.reverse ++ [x] := by
   cases hq : fs2.reverse with
   | nil =>
    rw [hq] at hr
    simp only [List.nil_append, List.cons_append, List.cons.injEq] at hr
    exact ⟨[], hr.2.symm, by rw [hr.1]; rfl⟩
   | cons y l3 =>
    rw [hq] at hr
    simp only [List.cons_append, List.cons.injEq] at hr
    exact ⟨l3 ++ [x], hr.2.symm, by rw [hr.1]; rfl⟩
  obtain ⟨rfl, hal⟩ := hl2
  rw [closeF_snoc]
  have hlf : lastF a l2 = x := by
   cases hq : fs2.reverse with
   | nil =>
    rw [hq] at hal
    simp only [List.nil_append, List.cons.injEq] at hal
    rw [hal.1, hal.2]
    rfl
   | cons y l3 =>
    rw [hq] at hal
    simp only [List.cons_append, List.cons.injEq] at hal
    rw [hal.1, hal.2]
    exact lastF_snoc x l3 y
  rw [hlf, hal, lastKids_snoc]
  refine ⟨rfl, ?_⟩
  show _ = (⟨x.name, x.attrs, x.kids ++ [elemT f]⟩ :: fs2).reverse
  rw [List.reverse_cons]
theorem ptr_drop {w : World} {ob oc : Nat} {front : List Addr} {pl : Addr} (h : w.ownsRow 0 56 1 (.slice (some ⟨ob, 0, none⟩) (front.length + 1) oc) (front.length + 1) (ptrC (front ++ [pl]))) : w.ownsRow 0 56 1 (.slice (some ⟨ob, 0, none⟩) front.length oc) front.length (ptrC front) := by
 refine ⟨by rw [ptrC, List.length_map, Nat.mul_one], ?_⟩
 rcases h.2 with ⟨h1, _⟩ | ⟨g, cap, cur, h1, h2, h3, h4, h5, h6, h7⟩
 ·cases h1
 ·injection h1 with e1 _ e3
  injection e1 with e1
  injection e1 with e1
  subst e1 e3
  refine .inr ⟨ob, oc, cur, rfl, h2, h3, by omega, h5, h6, ?_⟩
  have h8 := congrArg (List.take (front.length * 1)) h7
  rw [List.take_take, Nat.min_eq_left (by omega)] at h8
  rw [h8, ptrC, List.map_append, List.take_append_of_le_length (by rw [List.length_map]; omega), List.take_of_length_le (by rw [List.length_map]; omega)]
  rfl
theorem GrW.close {w : World} {n0 gb nodes : Nat} {S : Nat → Prop} {ks : List Tr} {a : Fr} {l : List Fr} {v : Value} {ob oc : Nat} {ps : List Addr} {bs : List (Option Nat)} (h : GrW w n0 gb S ks (a :: l) nodes v (.slice (some ⟨ob, 0, none⟩) ps.length oc) ps bs) :
  ∃ front pl, ps = front ++ [pl] ∧ ∀ w', Keeps (fun q => q = gb) w w' → w'.heap[gb]? = some (growB v (.slice (some ⟨ob, 0, none⟩) front.length oc) nodes) → ∃ bf, GrW w' n0 gb (fun k => S k ∨ bs.getLast? = some (some k)) (closeF ks a l).1 (closeF ks a l).2 nodes v (.slice (some ⟨ob, 0, none⟩) front.length oc) front bf := by
 obtain ⟨front, pl, bf, b, e1, e2, e3⟩ := Spine.close (S' := fun k => S k ∨ bs.getLast? = some (some k)) (fun k hk => .inl hk) h.spi
 have hlb : bs.getLast? = some b := by rw [e2]; simp
 have hap := Apart.app.1 (e2 ▸ h.dis)
 refine ⟨front, pl, e1, fun w' hk hb => ⟨bf, hb, ?_, ?_, hap.1, fun k hkb => ?_, ?_, fun k e => ?_, fun k hk => .inl (h.old k hk)⟩⟩
 ·have ho := h.opn
  rw [e1, List.length_append, List.length_singleton] at ho
  exact ownsRow_keep (ptr_drop ho) hk (fun k e hkg => by
   have h1 := h.sov k (by rw [← e]; rfl)
   exact h1.2 hkg)
 ·refine (e3 (fun k e => .inr (by rw [hlb, e]))).keep hk (fun k hs e => ?_) (fun _ e => e) (fun k hkb e => ?_)
  ·rcases hs with h1 | h1
   ·exact h.sgb (e ▸ h1)
   ·rw [hlb] at h1
    exact (h.off k (by rw [e2, Option.some.inj h1]; simp)).2.1 e
  ·exact (h.off k (by rw [e2]; exact List.mem_append_left _ hkb)).2.1 e
 ·have h1 := h.off k (by rw [e2]; exact List.mem_append_left _ hkb)
  refine ⟨fun hs => ?_, h1.2.1, fun e => h1.2.2 (by rw [← e]; rfl)⟩
  rcases hs with h2 | h2
  ·exact h1.1 h2
  ·rw [hlb] at h2
   exact hap.2.2 k hkb (by rw [Option.some.inj h2]; exact List.mem_cons_self ..)
 ·intro hs
  rcases hs with h2 | h2
  ·exact h.sgb h2
  ·rw [hlb] at h2
   exact (h.off gb (by rw [e2, Option.some.inj h2]; simp)).2.1 rfl
 ·have h1 := h.sov k (by rw [← e]; rfl)
  refine ⟨fun hs => ?_, h1.2⟩
  rcases hs with h2 | h2
  ·exact h1.1 h2
  ·rw [hlb] at h2
   exact (h.off k (by rw [e2, Option.some.inj h2]; simp)).2.2 (by rw [← e]; rfl)
end Go.Proofs.YtjpkkflhcjjefaaGreatDoor
