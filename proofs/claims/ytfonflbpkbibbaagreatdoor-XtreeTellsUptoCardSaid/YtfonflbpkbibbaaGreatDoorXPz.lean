/-
  A start tag or an empty one taken. Condition: the tree lies in memory. A scan's steps fail with a code that isn't 0; the tokens of two short documents. Of no program. No condition.
-/
import Derived.Test.YtfonflbpkbibbaaGreatDoorXTo2
import Derived.Test.YtfonflbpkbibbaaGreatDoorXP
import Derived.KernelRfl
namespace Go.Proofs.YtfonflbpkbibbaaGreatDoor
open Go.RowKit Go.Lib Go.Joins

def tagS (g : Gr) (kd : Nat) (nm : List UInt8) (ats : List (List UInt8 × List UInt8)) : Except Nat Gr :=
  if 32 ≤ g.opens.length then .error 7
  else match g.mayS 1 ats.length with
    | some c => .error c
    | none => if kd = 1 then .ok (g.openS nm ats) else .ok (g.putS (.mk 1 nm [] ats []))
theorem open_eq (g : Gr) (nm : List UInt8) (ats : List (List UInt8 × List UInt8)) : innerK (g.putS (.mk 1 nm [] ats [])).top (g.putS (.mk 1 nm [] ats [])).opens.reverse = innerK g.top g.opens.reverse ++ [.mk 1 nm [] ats []] ∧
    Inn.match_1 (fun _ => List Tr) (g.putS (.mk 1 nm [] ats [])).opens.reverse (fun _ => innerK g.top g.opens.reverse) (fun _ => (g.putS (.mk 1 nm [] ats [])).top) = (g.openS nm ats).top ∧
    lastKids (g.putS (.mk 1 nm [] ats [])).opens.reverse (innerK g.top g.opens.reverse) ++ [⟨nm, ats, []⟩] = (g.openS nm ats).opens.reverse ∧ (g.putS (.mk 1 nm [] ats [])).nodes = (g.openS nm ats).nodes := by
  obtain ⟨opens, top, nodes⟩ := g
  cases opens with
  | nil => exact ⟨rfl, rfl, rfl, rfl⟩
  | cons f fs =>
    have e1 : (Gr.putS ⟨f :: fs, top, nodes⟩ (.mk 1 nm [] ats [])).opens.reverse = fs.reverse ++ [⟨f.name, f.attrs, f.kids ++ [.mk 1 nm [] ats []]⟩] := List.reverse_cons ..
    have e2 : (Gr.openS ⟨f :: fs, top, nodes⟩ nm ats).opens.reverse = (fs.reverse ++ [f]) ++ [⟨nm, ats, []⟩] := by
      show (⟨nm, ats, []⟩ :: f :: fs).reverse = _
      rw [List.reverse_cons, List.reverse_cons]
    rw [e1, e2]
    show innerK top _ = innerK top (f :: fs).reverse ++ _ ∧ _
    rw [List.reverse_cons, innerK_snoc, innerK_snoc, lastKids_snoc]
    refine ⟨rfl, ?_, rfl, rfl⟩
    cases fs.reverse <;> rfl
theorem ptrC_snoc (l : List Addr) (p : Addr) : ptrC (l ++ [p]) = ptrC l ++ [.pointer (some p)] := by
  unfold ptrC
  rw [List.map_append]
  rfl
theorem mayS_cases (g : Gr) (k : Int) (na : Nat) : g.mayS k na = some 8 ∨ g.mayS k na = some 2 ∨ g.mayS k na = none := by
  unfold Gr.mayS
  split
  · exact .inl rfl
  · split
    · exact .inr (.inl rfl)
    · exact .inr (.inr rfl)
set_option maxRecDepth 100000 in
set_option maxHeartbeats 8000000 in
theorem tag_calls {w : World} {n0 gb : Nat} {g : Gr} {S : Nat → Prop} {v ov : Value} {ps : List Addr} {bs : List (Option Nat)} (h : GrW w n0 gb S g.top g.opens.reverse g.nodes v ov ps bs) (hS : ∀ k, S k → k < w.heap.size) (hn : n0 ≤ gb) (hc : g.nodes ≤ 1000000) (hin : (innerK g.top g.opens.reverse).length ≤ 1000000) (kd at_ : Nat) (nm tx : List UInt8) {aa : Option Addr} {ac : Nat} {ats : List (List UInt8 × List UInt8)} (hat : AttIn w S (.slice aa ats.length ac) ats) (hna : ats.length ≤ 1000000) : Calls Tryz.prog 65 #[.pointer (some ⟨gb, 0, none⟩), .agg #[.int .i64 (kd : Int), .int .i64 (at_ : Int), .string (strB nm), .string (strB tx), .slice aa ats.length ac]] w (TakeOut w S n0 gb (tagS g kd nm ats)) := by
  obtain ⟨sn, hsn⟩ : ∃ s, strB nm = s := ⟨_, rfl⟩
  obtain ⟨st, hst⟩ : ∃ s, strB tx = s := ⟨_, rfl⟩
  obtain ⟨na, hnl⟩ : ∃ z, ats.length = z := ⟨_, rfl⟩
  obtain ⟨ob, oc, rfl, hl, hoc, hom, _⟩ := h.open_form
  have hgl := lt_of_block h.blk
  obtain ⟨np, hnp⟩ : ∃ z, ps.length = z := ⟨_, rfl⟩
  have hdp : np = g.opens.length + 1 := by rw [← hnp, hl, List.length_reverse]
  have HSN := Lib.hid hsn
  have HNL := Lib.hid hnl
  have HNP := Lib.hid hnp
  have HDP := Lib.hid hdp
  have HOC := Lib.hid (And.intro hoc hom)
  have HN := Lib.hid hn
  have HN0 := Lib.hid (show n0 ≤ w.heap.size by omega)
  have HGR := Lib.hid h
  have HSS := Lib.hid hS
  have HIN := Lib.hid hin
  have HNC := Lib.hid hc
  have HAT := Lib.hid hat
  have HNA := Lib.hid hna
  rw [hsn, hst, hnl]
  obtain ⟨r, hr⟩ : ∃ r, tagS g kd nm ats = r := ⟨_, rfl⟩
  rw [hr]
  have HR := Lib.hid hr
  clear h hS hin hc hat hsn hst hnl hn hr hl hoc hom hna hdp
  go_enter Tryz.func65, Tryz.ntmps65
  go_upto_region 1 with (fail)
  obtain ⟨wb, hwb⟩ : ∃ W, w.alloc (.cells #[.int .i64 (kd : Int), .int .i64 (at_ : Int), .string sn, .string st, .slice aa na ac] 63) = W := ⟨_, rfl⟩
  rw [hwb]
  have hbb : Below w.heap.size w wb := by rw [← hwb]; exact (Below.refl _ _).alloc (Nat.le_refl _) _
  have hbox : wb.heap[w.heap.size]? = some (.cells #[.int .i64 (kd : Int), .int .i64 (at_ : Int), .string sn, .string st, .slice aa na ac] 63 (0, 0)) := by rw [← hwb]; exact heap_alloc_new w _
  have HGB := Lib.hid (HGR.out.below hbb)
  have HBB := Lib.hid hbb
  have HBOX := Lib.hid hbox
  have HSB : Hid (∀ k, S k → k < wb.heap.size) := Lib.hid (fun k hk => Nat.lt_of_lt_of_le (HSS.out k hk) hbb.size)
  have hc5 := HGB.out.cells.2.1
  rw [hnp] at hc5
  have HPUT : Hid (Calls Tryz.prog 68 #[.pointer (some ⟨gb, 0, none⟩), .agg #[.int .i64 1, .string sn, .string ⟨#[]⟩, .slice aa na ac, .slice none 0 0]] wb (PutOut wb (fun q => q = gb ∨ some q ∈ bs ∨ (Value.slice (some ⟨ob, 0, none⟩) ps.length oc).ownBlock = some q) S n0 gb (innerK g.top g.opens.reverse).length (g.mayS 1 na) (g.putS (.mk 1 nm [] ats [])))) := Lib.hid (by
    have h := put_calls HGB.out HSB.out HN.out HNC.out (k := 1) (nm := nm) (tx := []) (att_keep2 HAT.out (keeps_below hbb Non) (fun _ _ h => h)) HNA.out HIN.out
    rw [HSN.out, HNL.out] at h
    exact h)
  have HNO : Hid (¬ (w.heap.size = gb ∨ some w.heap.size ∈ bs ∨ (Value.slice (some ⟨ob, 0, none⟩) ps.length oc).ownBlock = some w.heap.size)) := Lib.hid (fun hq => by
    rcases hq with h1 | h1 | h1
    · omega
    · exact Nat.lt_irrefl _ (HGR.out.spi.blocks _ h1)
    · exact Nat.lt_irrefl _ (HGR.out.opn.lt _ h1).2)
  have hz2 := (cell_of_block hbox 2).trans rfl
  have hz4 := (cell_of_block hbox 4).trans rfl
  have HBW := Lib.hid (show w.heap.size < wb.heap.size from lt_of_block hbox)
  clear hwb hbb hbox HGR hnp
  by_cases hdeep : 32 ≤ g.opens.length
  · have hz : (32 : Int) < (np : Int) := by have := HDP.out; omega
    have HF : Hid (r = .error 7) := Lib.hid (by rw [← HR.out]; exact if_pos hdeep)
    clear hdeep
    go_wp2_with fail
    go_ret
    rw [HF.out]
    exact ⟨keeps_below HBB.out _, rfl⟩
  have hz : ¬ (32 : Int) < (np : Int) := by have := HDP.out; omega
  have HF1 : Hid ((match g.mayS 1 na with | some c => Except.error c | none => if kd = 1 then .ok (g.openS nm ats) else .ok (g.putS (.mk 1 nm [] ats []))) = r) := Lib.hid (by
    rw [← HR.out, tagS, if_neg hdeep, HNL.out])
  have HDEEP := Lib.hid hdeep
  clear hdeep
  go_wp2_with fail
  refine HPUT.out.mono ?_
  rintro e w2 ⟨hkp, hm⟩
  have HKP := Lib.hid hkp
  have HB2 : Hid (Keeps (fun q => ¬ S q) w w2) := Lib.hid ((keeps_below HBB.out _).trans hkp (fun q hq => .inl (HGB.out.own_out q hq)))
  have HBOX2 := Lib.hid (block_keep HBOX.out hkp HNO.out)
  clear hkp HPUT
  rcases mayS_cases g 1 na with hq | hq | hq
  · rw [hq] at hm
    have HF : Hid (r = .error 8) := Lib.hid (by rw [← HF1.out, hq])
    obtain rfl : e = .returned (.int .i64 8) := hm
    clear hq
    go_wp2_with fail
    go_ret
    rw [HF.out]
    exact ⟨HB2.out, rfl⟩
  · rw [hq] at hm
    have HF : Hid (r = .error 2) := Lib.hid (by rw [← HF1.out, hq])
    obtain rfl : e = .returned (.int .i64 2) := hm
    clear hq
    go_wp2_with fail
    go_ret
    rw [HF.out]
    exact ⟨HB2.out, rfl⟩
  rw [hq] at hm
  have HF2 : Hid ((if kd = 1 then Except.ok (g.openS nm ats) else .ok (g.putS (.mk 1 nm [] ats []))) = r) := Lib.hid (by rw [← HF1.out, hq])
  obtain ⟨rfl, S2, v2, ov2, ps2, bs2, hg2, hS2, hSS2, gn, cn, hcell, hkv⟩ := hm
  have HSS2 := Lib.hid hSS2
  have HG2 := Lib.hid hg2
  have HS2 := Lib.hid hS2
  have HCE := Lib.hid hcell
  have HKV := Lib.hid hkv
  have hk0 := (cell_of_block HBOX2.out 0).trans rfl
  clear hq hg2 hS2 hSS2 hcell hkv HF1 hc5 hz hz2 hz4
  by_cases hkd : kd = 1
  · have hkb : ((kd : Int) == 1) = true := by rw [hkd]; rfl
    have HF : Hid (r = .ok (g.openS nm ats)) := Lib.hid (by rw [← HF2.out, if_pos hkd])
    clear hkd
    go_upto_region 5 with (fail)
    obtain ⟨ob2, oc2, hov2, hl2, hoc2, hom2, _⟩ := HG2.out.open_form
    obtain ⟨np2, hnp2⟩ : ∃ z, ps2.length = z := ⟨_, rfl⟩
    rw [hnp2] at hov2 hoc2
    obtain ⟨y0, hy0⟩ : ∃ W, w2.drew = W := ⟨_, rfl⟩
    have hb20 : Below w2.heap.size w2 y0 := by rw [← hy0]; exact ⟨rfl, rfl, rfl, Nat.le_refl _, fun _ _ => rfl⟩
    have hg0 := HG2.out.below hb20
    have hS0 : ∀ k, S2 k → k < y0.heap.size := fun k hk => Nat.lt_of_lt_of_le (HS2.out k hk) hb20.size
    have hc5 := hg0.cells.2.1
    rw [hov2] at hc5
    obtain ⟨N, hNN⟩ : ∃ z, (innerK g.top g.opens.reverse).length = z := ⟨_, rfl⟩
    have HNN := Lib.hid hNN
    have HNW : Hid (Calls Tryz.prog 100 #[.pointer (some ⟨gb, 0, none⟩)] y0 (Leaves (.pointer (some ⟨gn, N * 5, none⟩)) y0)) := Lib.hid (by
      obtain ⟨front, b, o, vl, rows, hinn⟩ := hg0.inn hS0 HN.out
      have h := newest_calls hg0 hinn
      have h1 := HCE.out front b o hinn.pts
      have h2 : vl = .slice (some ⟨gn, 0, none⟩) (N + 1) cn := Option.some.inj (hinn.cel.symm.trans ((hb20.cell (lt_of_cell h1)).trans (by rw [h1, hNN])))
      obtain ⟨_, _, h3, _⟩ := hinn.row.form
      rw [h2] at h3
      injection h3 with _ h4 _
      rw [h2, ← h4] at h
      exact h)
    have HB20 := Lib.hid hb20
    have HOV2 := Lib.hid hov2
    have HNP2 := Lib.hid hnp2
    have HOC2 := Lib.hid (And.intro hoc2 hom2)
    clear hg0 hS0 hb20 hov2 hnp2 hl2 hoc2 hom2 hNN
    refine wp_region_z (S := fun W => W.cell? ⟨gb, 5, none⟩ = some (.slice (some ⟨ob2, 0, none⟩) np2 oc2)) 11 (by kernel_rfl) (by rw [hy0]; exact hc5) (fun hHeld => ?_)
    rw [hy0] at hHeld ⊢
    refine wpAnyZ_take (i := 0) (f := 12) (v := ?_) rfl (by kernel_rfl) (by kernel_rfl) (by kernel_rfl) (by kernel_rfl) (by kernel_rfl) (fun _ _ _ h => h) (Or.inl ⟨by rfl, ?_⟩) (by assumption) ?_
    rotate_left
    · intro W hS
      try dsimp only at hS
      try obtain ⟨hs0, hs1⟩ := hS
      go_simp
      try with_reducible rfl
    simp only [List.getElem_toArray, List.getElem_cons_zero, Act.put, List.setIfInBounds_toArray, List.set_cons_zero, List.set_cons_succ]
    refine wpAnyZ_take (i := 1) (f := 12) (v := ?_) rfl (by kernel_rfl) (by kernel_rfl) (by kernel_rfl) (by kernel_rfl) (by kernel_rfl) (fun _ _ _ h => h) (Or.inl ⟨by rfl, ?_⟩) (by assumption) ?_
    rotate_left
    · intro W hS
      try dsimp only at hS
      try obtain ⟨hs0, hs1⟩ := hS
      go_simp
      try with_reducible rfl
    simp only [List.getElem_toArray, List.getElem_cons_succ, List.getElem_cons_zero, Act.put, List.setIfInBounds_toArray, List.set_cons_zero, List.set_cons_succ]
    refine wpAnyZ_take (i := 2) (f := 12) (v := ?_) rfl (by kernel_rfl) (by kernel_rfl) (by kernel_rfl) (by kernel_rfl) (by kernel_rfl) (fun _ _ _ h => h) (Or.inl ⟨by rfl, ?_⟩) (by assumption) ?_
    rotate_left
    · intro W hS
      try dsimp only at hS
      try obtain ⟨hs0, hs1⟩ := hS
      go_simp
      try with_reducible rfl
    simp only [List.getElem_toArray, List.getElem_cons_succ, List.getElem_cons_zero, Act.put, List.setIfInBounds_toArray, List.set_cons_zero, List.set_cons_succ]
    refine wpAnyZ_take (i := 3) (f := 12) (v := ?_) rfl (by kernel_rfl) (by kernel_rfl) (by kernel_rfl) (by kernel_rfl) (by kernel_rfl) (fun _ _ _ h => h) (Or.inl ⟨by rfl, ?_⟩) (by assumption) ?_
    rotate_left
    · intro W hS
      try dsimp only at hS
      try obtain ⟨hs0, hs1⟩ := hS
      go_simp
      try with_reducible rfl
    simp only [List.getElem_toArray, List.getElem_cons_succ, List.getElem_cons_zero, Act.put, List.setIfInBounds_toArray, List.set_cons_zero, List.set_cons_succ]
    refine wpAnyZ_take (i := 4) (f := 12) (v := ?_) rfl (by kernel_rfl) (by kernel_rfl) (by kernel_rfl) (by kernel_rfl) (by kernel_rfl) (fun _ _ _ h => h) (Or.inl ⟨by rfl, ?_⟩) (by assumption) ?_
    rotate_left
    · intro W hS
      try dsimp only at hS
      try obtain ⟨hs0, hs1⟩ := hS
      go_simp
      try with_reducible rfl
    simp only [List.getElem_toArray, List.getElem_cons_succ, List.getElem_cons_zero, Act.put, List.setIfInBounds_toArray, List.set_cons_zero, List.set_cons_succ]
    refine wpAnyZ_take (i := 5) (f := 12) (v := ?_) rfl (by kernel_rfl) (by kernel_rfl) (by kernel_rfl) (by kernel_rfl) (by kernel_rfl) (fun _ _ _ h => h) (Or.inl ⟨by rfl, ?_⟩) (by assumption) ?_
    rotate_left
    · intro W hS
      try dsimp only at hS
      try obtain ⟨hs0, hs1⟩ := hS
      go_simp
      try with_reducible rfl
    simp only [List.getElem_toArray, List.getElem_cons_succ, List.getElem_cons_zero, Act.put, List.setIfInBounds_toArray, List.set_cons_zero, List.set_cons_succ]
    refine wpAnyZ_one (i := 6) (by kernel_rfl) rfl (fun K hK => ?_)
    go_simp
    with_reducible refine HNW.out.mono ?_
    rintro e x1 ⟨rfl, hb01⟩
    have HB21 := Lib.hid (below_then HB20.out hb01)
    have hx1c := (hb01.cell (lt_of_cell hc5)).trans hc5
    have HX1C := Lib.hid hx1c
    clear hb01
    refine hK.out _ _ HX1C.out (fun hHeld => ?_)
    clear hK K
    try simp only [List.getElem_toArray, List.getElem_cons_succ, List.getElem_cons_zero, Act.put, List.setIfInBounds_toArray, List.set_cons_zero, List.set_cons_succ]
    obtain ⟨x2, hx2⟩ : ∃ W, x1.alloc (.cells #[.pointer (some ⟨gn, N * 5, none⟩)] 61) = W := ⟨_, rfl⟩
    have hb12 : Below x1.heap.size x1 x2 := by rw [← hx2]; exact (Below.refl _ _).alloc (Nat.le_refl _) _
    have hp2 : x2.heap[x1.heap.size]? = some (.cells #[.pointer (some ⟨gn, N * 5, none⟩)] 61 (0, 0)) := by rw [← hx2]; exact heap_alloc_new x1 _
    have hb22 := below_then HB21.out hb12
    have hg22 := HG2.out.below hb22
    have hx2c : x2.cell? ⟨gb, 5, none⟩ = some (.slice (some ⟨ob2, 0, none⟩) np2 oc2) := (hb12.cell (lt_of_cell hx1c)).trans hx1c
    have hnp3 : np2 ≤ maxLen := Nat.le_trans HOC2.out.1 HOC2.out.2
    have hlo : np2 ≤ 1000 := by
      have h1 := hg22.open_form
      obtain ⟨_, _, _, h2, _⟩ := h1
      have h3 : ps2.length = (g.putS (.mk 1 nm [] ats [])).opens.reverse.length + 1 := h2
      have h4 : (g.putS (.mk 1 nm [] ats [])).opens.reverse.length = g.opens.length := by
        rw [List.length_reverse]
        obtain ⟨opens, top, nodes⟩ := g
        cases opens <;> rfl
      rw [HNP2.out, h4] at h3
      have h5 := HDEEP.out
      omega
    obtain ⟨ov3, x3, hrun, hrow3, hgrown, hown⟩ := append_any (w := x2) Tryz.underlying58 infoP rfl (by decide) hg22.opn (b := ⟨x1.heap.size, 0, none⟩) (m := 1) (c := 1) (news := [.pointer (some ⟨gn, N * 5, none⟩)]) rfl (fun j u hj => by
      rw [Addr.add_mid, Nat.zero_add, cell_of_block hp2 j, ← hj]
      simp) (by intro u hu; rw [List.mem_singleton.1 hu]; rfl) (by rw [HNP2.out]; unfold maxLen; omega) (by rw [HNP2.out]; omega)
    obtain ⟨g3, n3, cap3, rfl⟩ : ∃ g3 n3 cap3, ov3 = .slice (some ⟨g3, 0, none⟩) n3 cap3 := by
      rcases hrow3.2 with ⟨_, h0⟩ | ⟨g3, cap3, cur3, h1, _⟩
      · omega
      · exact ⟨g3, _, cap3, h1⟩
    rw [HOV2.out] at hrun hgrown hown
    have hk23 : Keeps (fun q => (Value.slice (some ⟨ob2, 0, none⟩) np2 oc2).ownBlock = some q) x2 x3 := (Keeps.refl _ x2).grown hgrown (fun q e => .inl e)
    have hngb : ¬ (Value.slice (some ⟨ob2, 0, none⟩) np2 oc2).ownBlock = some gb := fun e => (HG2.out.sov gb (by rw [HOV2.out]; exact e)).2 rfl
    have hx3c := cell_keep hx2c hk23 hngb
    have hbk3 := block_keep hg22.blk hk23 hngb
    have hf5 := unfrozen_of_block hbk3 5
    have HRUN := Lib.hid hrun
    have HX2C := Lib.hid hx2c
    have HX3C := Lib.hid hx3c
    have HB22 := Lib.hid hb22
    have HROW3 := Lib.hid hrow3
    have HOWN := Lib.hid hown
    have HK23 := Lib.hid hk23
    have HBK3 := Lib.hid hbk3
    clear hb12 hp2 hb22 hg22 hx2c hnp3 hlo hrun hrow3 hgrown hown hk23 hngb hbk3 hx1c hc5
    refine wpAnyZ_one (i := 7) (by kernel_rfl) rfl (fun K hK => ?_)
    go_simp
    refine hK.out _ _ HX2C.out (fun hHeld => ?_)
    clear hK K
    try simp only [List.getElem_toArray, List.getElem_cons_succ, List.getElem_cons_zero, Act.put, List.setIfInBounds_toArray, List.set_cons_zero, List.set_cons_succ]
    refine wpAnyZ_one (i := 8) (by kernel_rfl) rfl (fun K hK => ?_)
    refine step_append rfl (.tmp 30) (.tmp 33) _ _ rfl _ _ _ rfl rfl HRUN.out ?_
    refine hK.out _ _ HX3C.out (fun hHeld => ?_)
    clear hK K
    try simp only [List.getElem_toArray, List.getElem_cons_succ, List.getElem_cons_zero, Act.put, List.setIfInBounds_toArray, List.set_cons_zero, List.set_cons_succ]
    refine wpAnyZ_take (i := 9) (f := 12) (v := ?_) rfl (by kernel_rfl) (by kernel_rfl) (by kernel_rfl) (by kernel_rfl) (by kernel_rfl) (fun _ _ _ h => h) (Or.inl ⟨by rfl, ?_⟩) (by assumption) ?_
    rotate_left
    · intro W hS
      try dsimp only at hS
      try obtain ⟨hs0, hs1⟩ := hS
      go_simp
      try with_reducible rfl
    simp only [List.getElem_toArray, List.getElem_cons_succ, List.getElem_cons_zero, Act.put, List.setIfInBounds_toArray, List.set_cons_zero, List.set_cons_succ]
    refine wpAnyZ_take (i := 10) (f := 12) (v := ?_) rfl (by kernel_rfl) (by kernel_rfl) (by kernel_rfl) (by kernel_rfl) (by kernel_rfl) (fun _ _ _ h => h) (Or.inl ⟨by rfl, ?_⟩) (by assumption) ?_
    rotate_left
    · intro W hS
      try dsimp only at hS
      try obtain ⟨hs0, hs1⟩ := hS
      go_simp
      try with_reducible rfl
    simp only [List.getElem_toArray, List.getElem_cons_succ, List.getElem_cons_zero, Act.put, List.setIfInBounds_toArray, List.set_cons_zero, List.set_cons_succ]
    refine wpAnyZ_last (by kernel_rfl) rfl (by kernel_rfl) (fun K hK => ?_)
    go_simp
    refine hK.out _ _ ?_
    clear hK K
    try simp only [Act.put, List.setIfInBounds_toArray, List.set_cons_zero, List.set_cons_succ]
    have HFIN : Hid (TakeOut w S n0 gb r (.returned (.int .i64 0)) (x3.setCell ⟨gb, 5, none⟩ (Value.slice (some ⟨g3, 0, none⟩) n3 cap3))) := Lib.hid (by
      have hg2 := HG2.out
      have hgb2 := lt_of_block hg2.blk
      have hsz2 := HB22.out.size
      have hov : ∀ q, (Value.slice (some ⟨g3, 0, none⟩) n3 cap3).ownBlock = some q → ov2.ownBlock = some q ∨ w2.heap.size ≤ q := fun q e => by
        rcases HOWN.out q e with h1 | h1
        · exact .inl (by rw [HOV2.out]; exact h1)
        · exact .inr (Nat.le_trans hsz2 h1)
      have k02 : Keeps (fun q => q = gb ∨ ov2.ownBlock = some q) w2 x2 := keeps_below HB22.out _
      have k03 := k02.trans HK23.out (fun q hq => .inl (.inr (by rw [HOV2.out]; exact hq)))
      have k04 := k03.setCell (p := ⟨gb, 5, none⟩) (.inl (.inl rfl)) (Value.slice (some ⟨g3, 0, none⟩) n3 cap3)
      obtain ⟨e1, e2, e3, e4⟩ := open_eq g nm ats
      have hop := Spine.openL hg2.spi hg2.dis (g := gn) (c := cn) (n := N) (K := innerK g.top g.opens.reverse) (nm := nm) (ats := ats) (fun front b o h => by rw [HCE.out front b o h, HNN.out]; rfl) (fun h0 => by
        obtain ⟨h1, _⟩ : ps2 = [⟨gb, 0, none⟩] ∧ True := ⟨by have h2 := hg2.spi; rw [h0] at h2; exact h2.1, trivial⟩
        have h3 := HCE.out [] gb 0 h1
        rw [HNN.out] at h3
        exact Option.some.inj (hg2.cells.1.symm.trans h3)) (by rw [← HNN.out]; exact HKV.out) e1 HNN.out
      rw [e2, e3] at hop
      have hbl : (x3.setCell ⟨gb, 5, none⟩ (Value.slice (some ⟨g3, 0, none⟩) n3 cap3)).heap[gb]? = some (growB v2 (Value.slice (some ⟨g3, 0, none⟩) n3 cap3) (g.openS nm ats).nodes) := by
        rw [← e4]
        exact block_setCell (i := 5) HBK3.out _
      have hne : ∀ q, (Value.slice (some ⟨g3, 0, none⟩) n3 cap3).ownBlock = some q → gb ≠ q := fun q e => by
        rcases hov q e with h1 | h1
        · exact fun h2 => (hg2.sov q h1).2 h2.symm
        · omega
      rw [HF.out]
      refine ⟨HB2.out.trans k04 (fun q hq => .inl (fun hs => by
        have h2 := HSS2.out q hs
        rcases hq with h1 | h1
        · exact hg2.sgb (h1 ▸ h2)
        · exact (hg2.sov q h1).1 h2)), rfl, S2, v2, (Value.slice (some ⟨g3, 0, none⟩) n3 cap3), ps2 ++ [⟨gn, N * 5, none⟩], bs2 ++ [none], ⟨hbl, ?_, ?_, ?_, ?_, hg2.sgb, ?_, hg2.old⟩, fun k hk => Nat.lt_of_lt_of_le (HS2.out k hk) k04.size, HSS2.out⟩
      · rw [List.length_append, List.length_singleton, ptrC_snoc]
        exact ownsRow_block HROW3.out (fun q e => setCell_heap_far x3 ⟨gb, 5, none⟩ (Value.slice (some ⟨g3, 0, none⟩) n3 cap3) q (hne q e))
      · exact hop.keep k04 (fun k hk h1 => by
          rcases h1 with h2 | h2
          · exact hg2.sgb (h2 ▸ hk)
          · exact (hg2.sov k h2).1 hk) (fun _ h => h) (fun k hk h1 => by
          have hk2 : some k ∈ bs2 := by
            rcases List.mem_append.1 hk with h3 | h3
            · exact h3
            · simp at h3
          rcases h1 with h2 | h2
          · exact (hg2.off k hk2).2.1 h2
          · exact (hg2.off k hk2).2.2 h2)
      · exact Apart.app.2 ⟨hg2.dis, Apart.one _, fun k _ h3 => by simp at h3⟩
      · intro k hk
        have hk2 : some k ∈ bs2 := by
          rcases List.mem_append.1 hk with h3 | h3
          · exact h3
          · simp at h3
        refine ⟨(hg2.off k hk2).1, (hg2.off k hk2).2.1, fun e => ?_⟩
        rcases hov k e with h1 | h1
        · exact (hg2.off k hk2).2.2 h1
        · have := hg2.spi.blocks k hk2; omega
      · intro k e
        refine ⟨fun hs => ?_, (hne k e).symm⟩
        rcases hov k e with h1 | h1
        · exact (hg2.sov k h1).1 hs
        · have := HS2.out k hs; omega)
    go_wp2_with fail
    go_ret
    exact HFIN.out
  · have hkb : ((kd : Int) == 1) = false := by rw [beq_eq_false_iff_ne]; omega
    have HF : Hid (r = .ok (g.putS (.mk 1 nm [] ats []))) := Lib.hid (by rw [← HF2.out, if_neg hkd])
    clear hkd
    go_wp2_with fail
    go_ret
    rw [HF.out]
    exact ⟨HB2.out, rfl, S2, v2, ov2, ps2, bs2, HG2.out, HS2.out, HSS2.out⟩

end Go.Proofs.YtfonflbpkbibbaaGreatDoor
namespace Go.Proofs.YtfonflbpkbibbaaGreatDoor

def Sx.Nz {α : Type} (s : Sx α) : Prop := ∀ c p, s = .no c p → c ≠ 0
theorem Sx.nz_no {α : Type} {c p : Nat} (h : c ≠ 0) : (Sx.no c p : Sx α).Nz := fun _ _ e => by cases e; exact h
theorem Sx.nz_ok {α : Type} (x : α) (i : Nat) (r : List UInt8) : (Sx.ok x i r).Nz := fun _ _ e => by cases e
theorem Sx.Nz.then {α β : Type} {s : Sx α} {f : α → Nat → List UInt8 → Sx β} (h : s.Nz) (hf : ∀ x j t, (f x j t).Nz) : (s.then f).Nz := by
  cases s with
  | no c p => intro c' p' e; cases e; exact h c p rfl
  | ok x j t => exact hf x j t
theorem peekS_nz (i : Nat) (r : List UInt8) : (peekS i r).Nz := by cases r; exact Sx.nz_no (by decide); exact Sx.nz_ok _ _ _
theorem mustS_nz (c : UInt8) (i : Nat) (r : List UInt8) : (mustS c i r).Nz := by
  cases r with
  | nil => exact Sx.nz_no (by decide)
  | cons x t => rw [mustS]; split; exact Sx.nz_ok _ _ _; exact Sx.nz_no (by decide)
theorem blkS_nz : ∀ (r : List UInt8) (i : Nat), (blkS i r).Nz
  | [], _ => Sx.nz_no (by decide)
  | x :: t, i => by rw [blkS]; split; exact blkS_nz t _; exact Sx.nz_ok _ _ _
theorem blanksS_nz (i : Nat) (r : List UInt8) : (blanksS i r).Nz := (blkS_nz r i).then fun _ _ _ => Sx.nz_ok _ _ _
theorem nmG_nz : ∀ (g : Nat) (fb : Bool) (i : Nat) (r : List UInt8), (nmG g fb i r).Nz
  | 0, _, _, _ => Sx.nz_no (by decide)
  | g + 1, fb, i, r => by
    rw [nmG]
    split
    · exact Sx.nz_no (by decide)
    · split
      · exact nmG_nz g _ _ _
      · exact Sx.nz_ok _ _ _
theorem nameS_nz (i : Nat) (r : List UInt8) : (nameS i r).Nz := (nmG_nz _ _ _ _).then fun _ _ _ => by
  try dsimp only
  split
  · exact Sx.nz_no (by decide)
  · exact Sx.nz_ok _ _ _
theorem upToS_nz (m : List UInt8) (i : Nat) (r : List UInt8) : (upToS m i r).Nz := by
  unfold upToS
  split
  · exact Sx.nz_no (by decide)
  · exact Sx.nz_ok _ _ _
theorem refS_nz (i : Nat) (r : List UInt8) : (refS i r).Nz := by
  unfold refS
  split
  · exact Sx.nz_no (by decide)
  · split
    · exact Sx.nz_no (by decide)
    · exact Sx.nz_ok _ _ _
theorem mixG_nz (q : Option UInt8) : ∀ (g i : Nat) (r : List UInt8), (mixG q g i r).Nz
  | 0, _, _ => Sx.nz_no (by decide)
  | g + 1, i, r => by
    rw [mixG]
    split
    · exact Sx.nz_no (by decide)
    · split
      · exact (refS_nz _ _).then fun _ _ _ => (mixG_nz q g _ _).then fun _ _ _ => Sx.nz_ok _ _ _
      · exact Sx.nz_ok _ _ _
theorem valueS_nz (i : Nat) (r : List UInt8) : (valueS i r).Nz := (peekS_nz _ _).then fun _ _ _ => by
  try dsimp only
  split
  · exact Sx.nz_no (by decide)
  · exact (mixG_nz _ _ _ _).then fun _ _ _ => (mustS_nz _ _ _).then fun _ _ _ => Sx.nz_ok _ _ _
theorem attrS_nz (ns : List (List UInt8)) (i : Nat) (r : List UInt8) : (attrS ns i r).Nz := (nameS_nz _ _).then fun _ _ _ => by
  try dsimp only
  split
  · exact Sx.nz_no (by decide)
  · exact (blanksS_nz _ _).then fun _ _ _ => (mustS_nz _ _ _).then fun _ _ _ => (blanksS_nz _ _).then fun _ _ _ => (valueS_nz _ _).then fun _ _ _ => Sx.nz_ok _ _ _
theorem tagG_nz : ∀ (g : Nat) (ats : List (List UInt8 × List UInt8)) (i : Nat) (r : List UInt8), (tagG g ats i r).Nz
  | 0, _, _, _ => Sx.nz_no (by decide)
  | g + 1, ats, i, r => by
    rw [tagG]
    refine (blanksS_nz _ _).then fun _ _ _ => (peekS_nz _ _).then fun _ _ _ => ?_
    try dsimp only
    split
    · exact (mustS_nz _ _ _).then fun _ _ _ => Sx.nz_ok _ _ _
    · split
      · exact (mustS_nz _ _ _).then fun _ _ _ => Sx.nz_ok _ _ _
      · split
        · exact Sx.nz_no (by decide)
        · exact (attrS_nz _ _ _).then fun _ _ _ => tagG_nz g _ _ _
theorem startS_nz (i : Nat) (r : List UInt8) : (startS i r).Nz := (nameS_nz _ _).then fun _ _ _ => (tagG_nz _ _ _ _).then fun _ _ _ => Sx.nz_ok _ _ _
theorem endTagS_nz (i : Nat) (r : List UInt8) : (endTagS i r).Nz := (nameS_nz _ _).then fun _ _ _ => (blanksS_nz _ _).then fun _ _ _ => (mustS_nz _ _ _).then fun _ _ _ => Sx.nz_ok _ _ _
theorem piS_nz (i : Nat) (r : List UInt8) : (piS i r).Nz := (nameS_nz _ _).then fun _ _ _ => by
  try dsimp only
  split
  · exact Sx.nz_no (by decide)
  · refine (blanksS_nz _ _).then fun _ _ _ => ?_
    try dsimp only
    split
    · exact (upToS_nz _ _ _).then fun _ _ _ => Sx.nz_ok _ _ _
    · exact (mustS_nz _ _ _).then fun _ _ _ => (mustS_nz _ _ _).then fun _ _ _ => Sx.nz_ok _ _ _
theorem commentS_nz (i : Nat) (r : List UInt8) : (commentS i r).Nz := (upToS_nz _ _ _).then fun _ _ _ => (peekS_nz _ _).then fun _ _ _ => by
  try dsimp only
  split
  · exact Sx.nz_no (by decide)
  · exact Sx.nz_ok _ _ _
theorem opensS_nz (m : List UInt8) (i : Nat) (r : List UInt8) : (opensS m i r).Nz := by
  unfold opensS
  split
  · exact Sx.nz_no (by decide)
  · split <;> exact Sx.nz_ok _ _ _
theorem lenS_nz (i : Nat) {m : Sx Bool} {yes : Nat → List UInt8 → Sx Tk} {no : Sx Tk} (hm : m.Nz) (hy : ∀ j t, (yes j t).Nz) (hn : no.Nz) : (lenS i m yes no).Nz := hm.then fun _ _ _ => by
  try dsimp only
  split
  · exact hy _ _
  · exact hn
theorem tokS_nz (i : Nat) (r : List UInt8) : (tokS i r).Nz := by
  unfold tokS
  split
  · exact (mixG_nz _ _ _ _).then fun _ _ _ => Sx.nz_ok _ _ _
  · refine lenS_nz i (opensS_nz _ _ _) (fun _ _ => (commentS_nz _ _).then fun _ _ _ => Sx.nz_ok _ _ _) ?_
    refine lenS_nz i (opensS_nz _ _ _) (fun _ _ => (upToS_nz _ _ _).then fun _ _ _ => Sx.nz_ok _ _ _) ?_
    refine lenS_nz i (opensS_nz _ _ _) (fun _ _ => Sx.nz_no (by decide)) ?_
    refine lenS_nz i (opensS_nz _ _ _) (fun _ _ => (piS_nz _ _).then fun _ _ _ => Sx.nz_ok _ _ _) ?_
    refine lenS_nz i (opensS_nz _ _ _) (fun _ _ => (endTagS_nz _ _).then fun _ _ _ => Sx.nz_ok _ _ _) ?_
    refine lenS_nz i (opensS_nz _ _ _) (fun _ _ => (startS_nz _ _).then fun _ _ _ => Sx.nz_ok _ _ _) ?_
    first
      | exact Sx.nz_ok _ _ _
      | exact Sx.nz_no (by decide)
theorem Sx.nz_ite {α : Type} {c : Prop} [Decidable c] {s t : Sx α} (hs : s.Nz) (ht : t.Nz) : (if c then s else t).Nz := by
  split
  · exact hs
  · exact ht
theorem declS_nz (b : List UInt8) : (declS b).Nz := Sx.nz_ite ((upToS_nz _ _ _).then fun _ _ _ => Sx.nz_ite (Sx.nz_ok _ _ _) (Sx.nz_no (by decide))) (Sx.nz_ok _ _ _)

end Go.Proofs.YtfonflbpkbibbaaGreatDoor
namespace Go.Proofs.YtfonflbpkbibbaaGreatDoor
def doc1 : List UInt8 := [60, 97, 32, 120, 61, 39, 49, 39, 62, 98, 38, 97, 109, 112, 59, 99, 60, 47, 97, 62]
set_option maxRecDepth 100000 in
theorem all_doc1 : allS doc1 = .ok [⟨1, 0, [97], [], [([120], [49])]⟩, ⟨4, 9, [], [98, 38, 99], []⟩, ⟨3, 16, [97], [], []⟩] 20 [] := by kernel_rfl
set_option maxRecDepth 100000 in
theorem all_doc2 : allS [60, 97] = .no 6 2 := by kernel_rfl
end Go.Proofs.YtfonflbpkbibbaaGreatDoor
