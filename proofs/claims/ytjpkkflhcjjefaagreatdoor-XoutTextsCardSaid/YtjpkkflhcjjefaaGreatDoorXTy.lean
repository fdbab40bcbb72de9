/-
 How a document's tree goes on by a token, and where its first element stands.
-/
import Derived.Test.YtjpkkflhcjjefaaGreatDoorXTt
import Derived.Test.YtjpkkflhcjjefaaGreatDoorXDp
namespace Go.Proofs.YtjpkkflhcjjefaaGreatDoor
open Go.RowKit Go.Lib Go.Joins
set_option maxHeartbeats 32000000
def charT (g : Gr) (kd : Nat) (tx : List UInt8) : Except Nat Gr :=
 if g.opens = [] ∧ (kd = 5 ∨ trimL tx ≠ []) then .error 2
 else if g.opens = [] ∨ tx = [] then .ok g
 else match onT tx g.inner with
  | some ks => .ok (g.setInner ks)
  | none => match g.mayS 2 0 with
   | some c => .error c
   | none => .ok (g.putS (.mk 2 [] tx [] []))
theorem onT_snoc (t : List UInt8) (n : Tr) : ∀ l : List Tr, onT t (l ++ [n]) = if n.kind = 2 then some (l ++ [.mk n.kind n.name (n.text ++ t) n.attrs n.kids]) else none
 | [] => rfl
 | [a] => by
  show (onT t [n]).map (a :: ·) = _
  rw [onT]
  split <;> rfl
 | a :: b :: l => by
  show (onT t ((b :: l) ++ [n])).map (a :: ·) = _
  rw [onT_snoc t n (b :: l)]
  split <;> rfl
theorem inner_eq (g : Gr) : innerK g.top g.opens.reverse = g.inner := by
 obtain ⟨opens, top, nodes⟩ := g
 cases opens with
 | nil => rfl
 | cons f fs =>
  show innerK top (f :: fs).reverse = f.kids
  rw [List.reverse_cons, innerK_snoc]
theorem set_eq (g : Gr) (ks : List Tr) : Inn.match_1 (fun _ => List Tr) g.opens.reverse (fun _ => ks) (fun _ => g.top) = (g.setInner ks).top ∧ lastKids g.opens.reverse ks = (g.setInner ks).opens.reverse ∧ (g.setInner ks).nodes = g.nodes := by
 obtain ⟨opens, top, nodes⟩ := g
 cases opens with
 | nil => exact ⟨rfl, rfl, rfl⟩
 | cons f fs =>
  refine ⟨?_, ?_, rfl⟩
  ·have e1 : (Gr.mk (f :: fs) top nodes).opens.reverse = fs.reverse ++ [f] := List.reverse_cons ..
   rw [e1]
   cases fs.reverse <;> rfl
  ·show lastKids (f :: fs).reverse ks = (⟨f.name, f.attrs, ks⟩ :: fs).reverse
   rw [List.reverse_cons, List.reverse_cons, lastKids_snoc]
theorem NodeIn.onText {w : World} {S : Nat → Prop} {r : Nr} {n : Tr} (h : NodeIn w S r n) (u : List UInt8) : NodeIn w S ⟨r.kind, r.name, u, r.av, r.kv⟩ (.mk n.kind n.name u n.attrs n.kids) := by
 cases h with
 | mk r attrs kids rows ha hk hl h => exact .mk ⟨r.kind, r.name, u, r.av, r.kv⟩ attrs kids rows ha hk hl h
theorem newest_two {w : World} {n0 gb nodes : Nat} {S : Nat → Prop} {ks : List Tr} {fs : List Fr} {v ov : Value} {ps : List Addr} {bs : List (Option Nat)} (h : GrW w n0 gb S ks fs nodes v ov ps bs) {front : List Addr} {b o : Nat} {vl : Value} {rows : List Nr} (hi : Inn w n0 gb S ks fs nodes ov ps front b o vl rows) :
  ∃ z, Calls Tryz.prog 108 #[.pointer (some ⟨gb, 0, none⟩)] w (Leaves z w) ∧ ((rows = [] ∧ z = .pointer none) ∨ ∃ rs r g c, rows = rs ++ [r] ∧ vl = .slice (some ⟨g, 0, none⟩) (rs.length + 1) c ∧ z = .pointer (some ⟨g, rs.length * 5, none⟩)) := by
 have hc := newest_calls h hi
 obtain ⟨a, c, hv, _, _, hf⟩ := hi.row.form
 by_cases hr : rows = []
 ·subst hr
  refine ⟨_, hc, .inl ⟨rfl, ?_⟩⟩
  subst hv
  cases a <;> rfl
 ·obtain ⟨rs, r, rfl, hl⟩ := list_snoc (l := rows) (n := rows.length - 1) (by have := List.length_pos_iff.2 hr; omega)
  rcases hf with ⟨_, h0, _⟩ | ⟨g, rfl⟩
  ·exact absurd h0 (by simp)
  ·rw [List.length_append, List.length_singleton] at hv
   subst hv
   rw [List.length_append, List.length_singleton] at hc
   exact ⟨_, hc, .inr ⟨rs, r, g, c, rfl, rfl, rfl⟩⟩
set_option maxRecDepth 100000 in
theorem chrs_calls {w : World} {n0 gb : Nat} {g : Gr} {S : Nat → Prop} {v ov : Value} {ps : List Addr} {bs : List (Option Nat)} (h : GrW w n0 gb S g.top g.opens.reverse g.nodes v ov ps bs) (hS : ∀ k, S k → k < w.heap.size) (hn : n0 ≤ gb) (hc : g.nodes ≤ 1000000) (hin : (innerK g.top g.opens.reverse).length ≤ 1000000) (hL : Laid w) (kd at_ : Nat) (nm tx : List UInt8) {aa : Option Addr} {na ac : Nat} (htx : tx.length ≤ 1000000000) (hlt : ∀ n, (innerK g.top g.opens.reverse).getLast? = some n → n.text.length ≤ 1000000000000000000) : Calls Tryz.prog 76 #[.pointer (some ⟨gb, 0, none⟩), .agg #[.int .i64 (kd : Int), .int .i64 (at_ : Int), .string (strB nm), .string (strB tx), .slice aa na ac]] w (TakeOut w S n0 gb (charT g kd tx)) := by
 obtain ⟨sn, hsn⟩ : ∃ s, strB nm = s := ⟨_, rfl⟩
 obtain ⟨st, hst⟩ : ∃ s, strB tx = s := ⟨_, rfl⟩
 have hgl := lt_of_block h.blk
 have HST := hid hst
 have HN := hid hn
 have HN0 := hid (show n0 ≤ w.heap.size by omega)
 have HGR := hid h
 have HSS := hid hS
 have HIN := hid hin
 have HNC := hid hc
 have HLL := hid hL
 have HTX := hid htx
 have HTL := hid hlt
 rw [hsn, hst]
 obtain ⟨r, hr⟩ : ∃ r, charT g kd tx = r := ⟨_, rfl⟩
 rw [hr]
 have HR := hid hr
 have hse : (st.toList == []) = (tx == []) := by rw [← hst]; exact str_eq tx []
 have HTR : Hid (∀ W, Below w.heap.size w W → Calls Tryz.prog 110 #[.string st] W (Leaves (.string (strB (trimL tx))) W)) := hid (fun W hW => by
  have h := trim_calls (strB tx) W (by rw [strB_size]; have := HTX.out; omega) (HLL.out.below hW)
  rw [strB_list, HST.out] at h
  exact h)
 have HSE := hid hse
 clear h hS hin hc hsn hst hn hr hL htx hlt hse
 go_enter Tryz.func76, Tryz.ntmps76
 go_upto_region 1 with (fail)
 obtain ⟨wb, hwb⟩ : ∃ W, w.alloc (.cells #[.int .i64 (kd : Int), .int .i64 (at_ : Int), .string sn, .string st, .slice aa na ac] 87) = W := ⟨_, rfl⟩
 rw [hwb]
 have hbb : Below w.heap.size w wb := by rw [← hwb]; exact (Below.refl _ _).alloc (Nat.le_refl _) _
 have hbox : wb.heap[w.heap.size]? = some (.cells #[.int .i64 (kd : Int), .int .i64 (at_ : Int), .string sn, .string st, .slice aa na ac] 87 (0, 0)) := by rw [← hwb]; exact heap_alloc_new w _
 have hgrb := HGR.out.below hbb
 obtain ⟨front, b, o, vl, rows, hinn⟩ := hgrb.inn (fun k hk => Nat.lt_of_lt_of_le (HSS.out k hk) hbb.size) HN.out
 obtain ⟨pv, hnw, hpv⟩ := newest_two hgrb hinn
 have HNW := hid hnw
 have HPV := hid hpv
 have HII := hid hinn
 have HGB := hid hgrb
 have HBB := hid hbb
 have HBOX := hid hbox
 clear hwb hbb hbox hgrb hinn hpv hnw
 go_wp2_with fail
 with_reducible refine HNW.out.mono ?_
 rintro e w2 ⟨rfl, hb⟩
 have HB2 := hid (below_then HBB.out hb)
 have HBB2 := hid hb
 have HOC := hid (outside_calls (HGB.out.below hb))
 have hbx := block_keep HBOX.out (keeps_below hb Non) (fun h => h)
 have hk0 := (cell_of_block hbx 0).trans rfl
 have hk3 := (cell_of_block hbx 3).trans rfl
 have HK3 := hid hk3
 clear hb hbx HNW
 by_cases ho : g.opens = []
 ·have hob : decide (g.opens.reverse = []) = true := by rw [ho]; rfl
  rw [hob] at HOC
  have HO := hid ho
  clear ho hob
  by_cases h5 : kd = 5
  ·have hkb : ((kd : Int) == 5) = true := by rw [h5]; rfl
   have HF : Hid (r = .error 2) := hid (by rw [← HR.out, charT, if_pos ⟨HO.out, .inl h5⟩])
   clear h5
   go_wp2_with fail
   with_reducible refine HOC.out.mono ?_
   rintro e w3 ⟨rfl, hb⟩
   have HB3 := hid (below_then HB2.out hb)
   replace hk0 := (hb.cell (lt_of_cell hk0)).trans hk0
   clear hb HOC
   go_wp2_with fail
   go_ret
   rw [HF.out]
   exact ⟨keeps_below HB3.out _, rfl⟩
  have hkb : ((kd : Int) == 5) = false := by rw [beq_eq_false_iff_ne]; omega
  have H5 := hid h5
  clear h5
  go_wp2_with fail
  with_reducible refine HOC.out.mono ?_
  rintro e w3 ⟨rfl, hb⟩
  have HB3 := hid (below_then HB2.out hb)
  have HBB3 := hid (below_then HBB2.out hb)
  replace hk0 := (hb.cell (lt_of_cell hk0)).trans hk0
  replace hk3 := (hb.cell (lt_of_cell hk3)).trans hk3
  clear hb HOC
  obtain ⟨sr, hsr⟩ : ∃ z, strB (trimL tx) = z := ⟨_, rfl⟩
  rw [hsr] at HTR
  have htr : (sr.toList == []) = (trimL tx == []) := by rw [← hsr]; exact str_eq _ []
  clear hsr
  go_wp2_with fail
  with_reducible refine (HTR.out w3 HB3.out).mono ?_
  rintro e w4 ⟨rfl, hb⟩
  have HB4 := hid (below_then HB3.out hb)
  have HOC4 := hid (outside_calls (HGB.out.below (below_then HBB3.out hb)))
  have hob : decide (g.opens.reverse = []) = true := by rw [HO.out]; rfl
  rw [hob] at HOC4
  clear hb hob
  by_cases ht : trimL tx = []
  ·have hte : (sr.toList == []) = true := by rw [htr, ht]; rfl
   have HF : Hid (r = .ok g) := hid (by
    rw [← HR.out, charT, if_neg (fun hh => hh.2.elim (fun h1 => H5.out h1) (fun h1 => h1 ht)), if_pos (.inl HO.out)])
   clear ht htr
   go_wp2_with fail
   with_reducible refine HOC4.out.mono ?_
   rintro e w5 ⟨rfl, hb⟩
   have HB5 := hid (below_then HB4.out hb)
   clear hb
   go_wp2_with fail
   go_ret
   rw [HF.out]
   exact ⟨keeps_below HB5.out _, rfl, S, v, ov, ps, bs, HGR.out.below HB5.out, fun k hk => Nat.lt_of_lt_of_le (HSS.out k hk) HB5.out.size, fun _ h => h⟩
  ·have hte : (sr.toList == []) = false := by rw [htr]; exact beq_eq_false_iff_ne.2 ht
   have HF : Hid (r = .error 2) := hid (by rw [← HR.out, charT, if_pos ⟨HO.out, .inr ht⟩])
   clear ht htr
   go_wp2_with fail
   go_ret
   rw [HF.out]
   exact ⟨keeps_below HB4.out _, rfl⟩
 have hob : decide (g.opens.reverse = []) = false := decide_eq_false (fun h => ho (List.reverse_eq_nil_iff.1 h))
 have HOF := hid hob
 rw [hob] at HOC
 have HO := hid ho
 clear ho hob
 go_wp2_with fail
 with_reducible refine HOC.out.mono ?_
 rintro e w3 ⟨rfl, hb⟩
 have HB3 := hid (below_then HB2.out hb)
 have HBB3 := hid (below_then HBB2.out hb)
 replace hk3 := (hb.cell (lt_of_cell hk3)).trans hk3
 have HOC3 := hid (outside_calls (HGB.out.below HBB3.out))
 rw [HOF.out] at HOC3
 clear hb HOC hk0
 go_wp2_with fail
 with_reducible refine HOC3.out.mono ?_
 rintro e w5 ⟨rfl, hb⟩
 have HB5 := hid (below_then HB3.out hb)
 have HBB5 := hid (below_then HBB3.out hb)
 replace hk3 := (hb.cell (lt_of_cell hk3)).trans hk3
 clear hb HOC3
 by_cases htx : tx = []
 ·have hte : (st.toList == []) = true := by rw [HSE.out, htx]; rfl
  have HF : Hid (r = .ok g) := hid (by rw [← HR.out, charT, if_neg (fun hh => HO.out hh.1), if_pos (.inr htx)])
  clear htx
  go_wp2_with fail
  go_ret
  rw [HF.out]
  exact ⟨keeps_below HB5.out _, rfl, S, v, ov, ps, bs, HGR.out.below HB5.out, fun k hk => Nat.lt_of_lt_of_le (HSS.out k hk) HB5.out.size, fun _ h => h⟩
 have hte : (st.toList == []) = false := by rw [HSE.out]; exact beq_eq_false_iff_ne.2 htx
 have HF0 : Hid (r = match onT tx g.inner with | some ks => .ok (g.setInner ks) | none => match g.mayS 2 0 with | some c => .error c | none => .ok (g.putS (.mk 2 [] tx [] []))) := hid (by
  rw [← HR.out, charT, if_neg (fun hh => HO.out hh.1), if_neg (fun hh => hh.elim HO.out htx)])
 clear htx
 rcases HPV.out with ⟨hr0, rfl⟩ | ⟨rs, r0, gn, cn, hrs, hvl, rfl⟩
 ·have HF1 : Hid (r = match g.mayS 2 0 with | some c => .error c | none => .ok (g.putS (.mk 2 [] tx [] []))) := hid (by
   have h1 : g.inner = [] := by
    rw [← inner_eq]
    exact List.length_eq_zero_iff.1 (by rw [← HII.out.nds.1, hr0]; rfl)
   rw [HF0.out, h1]
   rfl)
  clear hr0
  have HPUT : Hid (Calls Tryz.prog 77 #[.pointer (some ⟨gb, 0, none⟩), .agg #[.int .i64 2, .string ⟨#[]⟩, .string st, .slice none 0 0, .slice none 0 0]] w5 (PutOut w5 (fun q => q = gb ∨ some q ∈ bs ∨ ov.ownBlock = some q) S n0 gb (innerK g.top g.opens.reverse).length (g.mayS 2 0) (g.putS (.mk 2 [] tx [] [])))) := hid (by
   have h := put_calls (HGR.out.below HB5.out) (fun k hk => Nat.lt_of_lt_of_le (HSS.out k hk) HB5.out.size) HN.out HNC.out (k := 2) (nm := []) (tx := tx) (aa := none) (ac := 0) (ats := []) (AttIn.nil w5 S) (by decide) HIN.out
   rw [HST.out] at h
   exact h)
  go_wp2_with fail
  refine HPUT.out.mono ?_
  rintro e w6 ⟨hkp, hm⟩
  have HB6 : Hid (Keeps (fun q => ¬ S q) w w6) := hid ((keeps_below HB5.out _).trans hkp (fun q hq => .inl (HGR.out.own_out q hq)))
  clear hkp HPUT
  rcases mayS_cases g 2 0 with hq | hq | hq
  ·rw [hq] at hm
   have HF : Hid (r = .error 8) := hid (by rw [HF1.out, hq])
   obtain rfl : e = .returned (.int .i64 8) := hm
   clear hq
   go_wp2_with fail
   go_ret
   rw [HF.out]
   exact ⟨HB6.out, rfl⟩
  ·rw [hq] at hm
   have HF : Hid (r = .error 2) := hid (by rw [HF1.out, hq])
   obtain rfl : e = .returned (.int .i64 2) := hm
   clear hq
   go_wp2_with fail
   go_ret
   rw [HF.out]
   exact ⟨HB6.out, rfl⟩
  ·rw [hq] at hm
   have HF : Hid (r = .ok (g.putS (.mk 2 [] tx [] []))) := hid (by rw [HF1.out, hq])
   obtain ⟨rfl, S2, v2, ov2, ps2, bs2, hg2, hS2, hSS2, _⟩ := hm
   have HG2 := hid (And.intro hg2 (And.intro hS2 hSS2))
   clear hq hg2 hS2 hSS2
   go_wp2_with fail
   go_ret
   rw [HF.out]
   exact ⟨HB6.out, rfl, S2, v2, ov2, ps2, bs2, HG2.out.1, HG2.out.2.1, HG2.out.2.2⟩
 obtain ⟨m, hm0⟩ : ∃ z, rs.length = z := ⟨_, rfl⟩
 have HM0 := hid hm0
 have hlen : (innerK g.top g.opens.reverse).length = rs.length + 1 := by rw [← HII.out.nds.1, hrs, List.length_append]; rfl
 obtain ⟨K, n, hKn, hKl⟩ := list_snoc hlen
 have hnds := HII.out.nds
 rw [hrs, hKn] at hnds
 obtain ⟨hn1, hn2⟩ := hnds.split
 obtain ⟨k1, k2, k3, k4, _⟩ := hn2.kids
 have hrow := HII.out.row
 rw [hrs, hvl] at hrow
 have hci := hrow.cells (g := gn) rfl (last_at rs r0)
 rw [hm0] at hci
 have hkc := (HBB5.out.cell (lt_of_cell hci.1)).trans hci.1
 have hkt := (HBB5.out.cell (lt_of_cell hci.2.2.1)).trans hci.2.2.1
 rw [hm0]
 have HKN := hid hKn
 have HRS := hid hrs
 have HVL := hid hvl
 have HN1 := hid hn1
 have HN2 := hid hn2
 have HROW := hid hrow
 have HK1 := hid k1
 have HK3T := hid k3
 obtain ⟨rk, hrk⟩ : ∃ z, r0.kind = z := ⟨_, rfl⟩
 obtain ⟨so, hso⟩ : ∃ z, strB r0.text = z := ⟨_, rfl⟩
 rw [hrk] at hkc
 rw [hso] at hkt
 have HRK := hid hrk
 have HSO := hid hso
 clear hlen hKn hKl hnds hn1 hn2 k1 k2 k3 k4 hrow hci hrs hvl hm0 hrk hso
 by_cases h2 : rk = 2
 ·have hk2 : ((rk : Int) == 2) = true := by rw [h2]; rfl
  have HF : Hid (r = .ok (g.setInner (K ++ [.mk n.kind n.name (n.text ++ tx) n.attrs n.kids]))) := hid (by
   rw [HF0.out, ← inner_eq, HKN.out, onT_snoc, if_pos (by rw [← HK1.out, HRK.out]; exact h2)])
  have hcat : ¬ (9223372036854775807 < so.size + st.size) := by
   have e1 := HTL.out n (by rw [HKN.out]; simp)
   have e2 := HTX.out
   rw [← HSO.out, ← HST.out, strB_size, strB_size, HK3T.out]
   omega
  clear h2
  go_upto_region 8 with (fail)
  obtain ⟨y0, hy0⟩ : ∃ W, w5.drew = W := ⟨_, rfl⟩
  have hb50 : Below w5.heap.size w5 y0 := by rw [← hy0]; exact ⟨rfl, rfl, rfl, Nat.le_refl _, fun _ _ => rfl⟩
  have hc2 := (hb50.cell (lt_of_cell hkt)).trans hkt
  have hc3 := (hb50.cell (lt_of_cell hk3)).trans hk3
  have hbb0 := below_then HBB5.out hb50
  have hrow0 := HROW.out.keep (keeps_below hbb0 Non) (fun _ _ h => h)
  have hf2 : y0.frozen? ⟨gn, m * 5 + 2, none⟩ = false := by
   have := hrow0.row
   rw [List.length_append, List.length_singleton] at this
   exact this.frozenAt _
  have HFIN : Hid (TakeOut w S n0 gb r (.returned (.int .i64 0)) (y0.setCell ⟨gn, m * 5 + 2, none⟩ (.string (so ++ st)))) := hid (by
   have hwb0 : w.heap.size ≤ wb.heap.size := HBB.out.size
   have kb : Keeps (fun q => q = gn) wb (y0.setCell ⟨gn, m * 5 + 2, none⟩ (.string (so ++ st))) := (keeps_below hbb0 (fun q => q = gn)).setCell (p := ⟨gn, m * 5 + 2, none⟩) (.inl rfl) _
   have hgv : vl.ownBlock = some gn := by rw [HVL.out]; rfl
   have hSg : ∀ k, S k → ¬ k = gn := fun k hk e => (HII.out.nvS gn hgv).1 (e ▸ hk)
   have hst := hrow0.row
   rw [List.length_append, List.length_singleton] at hst
   have hst2 := (hst.stored (m * 5 + 2) (.string (so ++ st))).1
   rw [← HM0.out] at hst2
   rw [← HSO.out, ← HST.out, strB_app, nrC_text] at hst2
   have hlv : Lv (y0.setCell ⟨gn, m * 5 + 2, none⟩ (.string (so ++ st))) n0 vl (rs ++ [⟨r0.kind, r0.name, r0.text ++ tx, r0.av, r0.kv⟩]) := ⟨by
    rw [List.length_append, List.length_singleton, HVL.out, ← HM0.out, ← HSO.out, ← HST.out, strB_app]
    exact hst2, HII.out.row.new⟩
   obtain ⟨v4, bs4, h4⟩ := HII.out.put _ (fun q => q = gn) vl (rs ++ [⟨r0.kind, r0.name, r0.text ++ tx, r0.av, r0.kv⟩]) (K ++ [.mk n.kind n.name (r0.text ++ tx) n.attrs n.kids]) kb (fun q hq => .inr (.inl (by rw [hq]; exact hgv))) (by
    rw [setCell_id HII.out.cel b]
    exact kb.block b (lt_of_cell HII.out.cel) (fun e => HII.out.nv (by rw [hgv, e]))) hlv (fun q e => .inl e) ((HN1.out.keep kb hSg (fun _ h => h)).snoc ((HN2.out.keep kb hSg (fun _ h => h)).onText (r0.text ++ tx)))
   obtain ⟨e1, e2, e3⟩ := set_eq g (K ++ [.mk n.kind n.name (r0.text ++ tx) n.attrs n.kids])
   rw [e1, e2, ← e3] at h4
   rw [HF.out, ← HK3T.out]
   refine ⟨(keeps_below HBB.out _).trans kb (fun q hq => .inl (fun hs => hSg q hs hq)), rfl, S, v4, ov, ps, bs4, h4, fun k hk => Nat.lt_of_lt_of_le (HSS.out k hk) (Nat.le_trans hwb0 kb.size), fun _ h => h⟩)
  clear hb50 hbb0 hrow0 hk3 hkt hkc
  refine wp_region_z (S := fun W => W.cell? ⟨gn, m * 5 + 2, none⟩ = some (.string so) ∧ W.cell? ⟨w.heap.size, 3, none⟩ = some (.string st)) 9 (by kernel_rfl) (by rw [hy0]; exact ⟨hc2, hc3⟩) (fun hHeld => ?_)
  rw [hy0] at hHeld ⊢
  refine tkZ 0 10 (hy := by intro W hS; (try dsimp only at hS); (try obtain ⟨hs0, hs1⟩ := hS); go_simp; try with_reducible rfl) ?_
  simp only [Act.put, List.setIfInBounds_toArray]
  refine tkZ 1 10 (hy := by intro W hS; (try dsimp only at hS); (try obtain ⟨hs0, hs1⟩ := hS); go_simp; try with_reducible rfl) ?_
  simp only [Act.put]
  refine tkZ 2 10 (hy := by intro W hS; (try dsimp only at hS); (try obtain ⟨hs0, hs1⟩ := hS); go_simp; try with_reducible rfl) ?_
  simp only [Act.put]
  refine tkZ 3 10 (hy := by intro W hS; (try dsimp only at hS); (try obtain ⟨hs0, hs1⟩ := hS); go_simp; try with_reducible rfl) ?_
  simp only [Act.put]
  refine tkZ 4 10 (hy := by intro W hS; (try dsimp only at hS); (try obtain ⟨hs0, hs1⟩ := hS); go_simp; try with_reducible rfl) ?_
  simp only [Act.put]
  refine tkZ 5 10 (hy := by intro W hS; (try dsimp only at hS); (try obtain ⟨hs0, hs1⟩ := hS); go_simp; try with_reducible rfl) ?_
  simp only [Act.put]
  refine tkZ 6 10 (hy := by intro W hS; (try dsimp only at hS); (try obtain ⟨hs0, hs1⟩ := hS); go_simp; try with_reducible rfl) ?_
  simp only [Act.put]
  refine tkZ 7 10 (hy := by intro W hS; (try dsimp only at hS); (try obtain ⟨hs0, hs1⟩ := hS); go_simp; try with_reducible rfl) ?_
  simp only [Act.put]
  refine tkZ 8 10 (hy := by intro W hS; (try dsimp only at hS); (try obtain ⟨hs0, hs1⟩ := hS); go_simp; try with_reducible rfl) ?_
  simp only [Act.put]
  refine wpAnyZ_last (by kernel_rfl) rfl (by kernel_rfl) (fun K hK => ?_)
  go_simp
  refine hK.out _ _ ?_
  clear hK K
  try simp only [Act.put, List.setIfInBounds_toArray, List.set_cons_zero, List.set_cons_succ]
  go_wp2_with fail
  go_ret
  exact HFIN.out
 ·have hk2 : ((rk : Int) == 2) = false := by rw [beq_eq_false_iff_ne]; omega
  have HF1 : Hid (r = match g.mayS 2 0 with | some c => .error c | none => .ok (g.putS (.mk 2 [] tx [] []))) := hid (by
   rw [HF0.out, ← inner_eq, HKN.out, onT_snoc, if_neg (by rw [← HK1.out, HRK.out]; exact h2)])
  clear h2
  have HPUT : Hid (Calls Tryz.prog 77 #[.pointer (some ⟨gb, 0, none⟩), .agg #[.int .i64 2, .string ⟨#[]⟩, .string st, .slice none 0 0, .slice none 0 0]] w5 (PutOut w5 (fun q => q = gb ∨ some q ∈ bs ∨ ov.ownBlock = some q) S n0 gb (innerK g.top g.opens.reverse).length (g.mayS 2 0) (g.putS (.mk 2 [] tx [] [])))) := hid (by
   have h := put_calls (HGR.out.below HB5.out) (fun k hk => Nat.lt_of_lt_of_le (HSS.out k hk) HB5.out.size) HN.out HNC.out (k := 2) (nm := []) (tx := tx) (aa := none) (ac := 0) (ats := []) (AttIn.nil w5 S) (by decide) HIN.out
   rw [HST.out] at h
   exact h)
  go_wp2_with fail
  refine HPUT.out.mono ?_
  rintro e w6 ⟨hkp, hm⟩
  have HB6 : Hid (Keeps (fun q => ¬ S q) w w6) := hid ((keeps_below HB5.out _).trans hkp (fun q hq => .inl (HGR.out.own_out q hq)))
  clear hkp HPUT
  rcases mayS_cases g 2 0 with hq | hq | hq
  ·rw [hq] at hm
   have HF : Hid (r = .error 8) := hid (by rw [HF1.out, hq])
   obtain rfl : e = .returned (.int .i64 8) := hm
   clear hq
   go_wp2_with fail
   go_ret
   rw [HF.out]
   exact ⟨HB6.out, rfl⟩
  ·rw [hq] at hm
   have HF : Hid (r = .error 2) := hid (by rw [HF1.out, hq])
   obtain rfl : e = .returned (.int .i64 2) := hm
   clear hq
   go_wp2_with fail
   go_ret
   rw [HF.out]
   exact ⟨HB6.out, rfl⟩
  ·rw [hq] at hm
   have HF : Hid (r = .ok (g.putS (.mk 2 [] tx [] []))) := hid (by rw [HF1.out, hq])
   obtain ⟨rfl, S2, v2, ov2, ps2, bs2, hg2, hS2, hSS2, _⟩ := hm
   have HG2 := hid (And.intro hg2 (And.intro hS2 hSS2))
   clear hq hg2 hS2 hSS2
   go_wp2_with fail
   go_ret
   rw [HF.out]
   exact ⟨HB6.out, rfl, S2, v2, ov2, ps2, bs2, HG2.out.1, HG2.out.2.1, HG2.out.2.2⟩
theorem TakeOut.from {w wb : World} {S : Nat → Prop} {n0 gb : Nat} {r : Except Nat Gr} {e : Ending} {w' : World} (hb : Below w.heap.size w wb) (h : TakeOut wb S n0 gb r e w') : TakeOut w S n0 gb r e w' := ⟨(keeps_below hb _).trans h.1 (fun _ hq => .inl hq), h.2⟩
def exc (r : Option Nat) (g' : Gr) : Except Nat Gr :=
 match r with
 | some c => .error c
 | none => .ok g'
theorem PutOut.take {w : World} {OO S : Nat → Prop} {n0 gb n : Nat} {r : Option Nat} {g' : Gr} {e : Ending} {w' : World} (ho : ∀ q, OO q → ¬ S q) (h : PutOut w OO S n0 gb n r g' e w') : TakeOut w S n0 gb (exc r g') e w' := by
 obtain ⟨h1, h2⟩ := h
 refine ⟨h1.mono (fun q _ hq => ho q hq), ?_⟩
 cases r with
 | some c => exact h2
 | none =>
  obtain ⟨h3, S2, v, ov, ps, bs, h4, h5, h6, _⟩ := h2
  exact ⟨h3, S2, v, ov, ps, bs, h4, h5, h6⟩
set_option maxRecDepth 100000 in
theorem take_calls {w : World} {n0 gb : Nat} {g : Gr} {S : Nat → Prop} {v ov : Value} {ps : List Addr} {bs : List (Option Nat)} (h : GrW w n0 gb S g.top g.opens.reverse g.nodes v ov ps bs) (hS : ∀ k, S k → k < w.heap.size) (hn : n0 ≤ gb) (hc : g.nodes ≤ 1000000) (hin : (innerK g.top g.opens.reverse).length ≤ 1000000) (hL : Laid w) (kd at_ : Nat) (nm tx : List UInt8) {aa : Option Addr} {ac : Nat} {ats : List (List UInt8 × List UInt8)} (hat : AttIn w S (.slice aa ats.length ac) ats) (hna : ats.length ≤ 1000000) (htx : tx.length ≤ 1000000000) (hlt : ∀ n, (innerK g.top g.opens.reverse).getLast? = some n → n.text.length ≤ 1000000000000000000) : Calls Tryz.prog 41 #[.pointer (some ⟨gb, 0, none⟩), .agg #[.int .i64 (kd : Int), .int .i64 (at_ : Int), .string (strB nm), .string (strB tx), .slice aa ats.length ac]] w (TakeOut w S n0 gb (g.takeS ⟨kd, at_, nm, tx, ats⟩)) := by
 obtain ⟨sn, hsn⟩ : ∃ s, strB nm = s := ⟨_, rfl⟩
 obtain ⟨st, hst⟩ : ∃ s, strB tx = s := ⟨_, rfl⟩
 obtain ⟨na, hnl⟩ : ∃ z, ats.length = z := ⟨_, rfl⟩
 have hgl := lt_of_block h.blk
 have HSN := hid hsn
 have HST := hid hst
 have HNL := hid hnl
 have HN := hid hn
 have HN0 := hid (show n0 ≤ w.heap.size by omega)
 have HGR := hid h
 have HSS := hid hS
 have HIN := hid hin
 have HNC := hid hc
 have HLL := hid hL
 have HAT := hid hat
 have HNA := hid hna
 have HTX := hid htx
 have HTL := hid hlt
 rw [hsn, hst, hnl]
 obtain ⟨r, hr⟩ : ∃ r, g.takeS ⟨kd, at_, nm, tx, ats⟩ = r := ⟨_, rfl⟩
 rw [hr]
 have HR := hid hr
 clear h hS hin hc hsn hst hnl hn hr hL hat hna htx hlt hgl
 go_enter Tryz.func41, Tryz.ntmps41
 go_upto_region 1 with (fail)
 obtain ⟨wb, hwb⟩ : ∃ W, w.alloc (.cells #[.int .i64 (kd : Int), .int .i64 (at_ : Int), .string sn, .string st, .slice aa na ac] 87) = W := ⟨_, rfl⟩
 rw [hwb]
 have hbb : Below w.heap.size w wb := by rw [← hwb]; exact (Below.refl _ _).alloc (Nat.le_refl _) _
 have hbox : wb.heap[w.heap.size]? = some (.cells #[.int .i64 (kd : Int), .int .i64 (at_ : Int), .string sn, .string st, .slice aa na ac] 87 (0, 0)) := by rw [← hwb]; exact heap_alloc_new w _
 have z0 := (cell_of_block hbox 0).trans rfl
 have z1 := (cell_of_block hbox 1).trans rfl
 have z2 := (cell_of_block hbox 2).trans rfl
 have z3 := (cell_of_block hbox 3).trans rfl
 have z4 := (cell_of_block hbox 4).trans rfl
 have HBB := hid hbb
 have HGB := hid (HGR.out.below hbb)
 have HAB := hid (att_keep2 HAT.out (keeps_below hbb Non) (fun _ _ h => h))
 clear hwb hbb hbox
 by_cases h1 : kd = 1 ∨ kd = 2
 ·have h12 : ((kd : Int) == 1) = true ∨ (((kd : Int) == 1) = false ∧ ((kd : Int) == 2) = true) := by
   rcases h1 with h | h
   ·exact .inl (by rw [h]; rfl)
   ·exact .inr ⟨by rw [h]; rfl, by rw [h]; rfl⟩
  have HC : Hid (Calls Tryz.prog 74 #[.pointer (some ⟨gb, 0, none⟩), .agg #[.int .i64 (kd : Int), .int .i64 (at_ : Int), .string sn, .string st, .slice aa na ac]] wb (TakeOut wb S n0 gb r)) := hid (by
   have h := tag_calls HGB.out (fun k hk => Nat.lt_of_lt_of_le (HSS.out k hk) HBB.out.size) HN.out HNC.out HIN.out kd at_ nm tx HAB.out HNA.out
   rw [HSN.out, HST.out, HNL.out] at h
   rw [← HR.out]
   rw [show g.takeS ⟨kd, at_, nm, tx, ats⟩ = tagS g kd nm ats from if_pos h1]
   exact h)
  clear h1
  rcases h12 with ha | ⟨ha, hb⟩
  all_goals go_wp2_with fail
  all_goals refine HC.out.mono ?_
  all_goals intro e w2 h2
  all_goals have h3 := (TakeOut.from HBB.out h2)
  all_goals clear h2
  all_goals obtain ⟨hb, hm⟩ := h3
  all_goals cases r with
  | error c =>
   obtain rfl : e = .returned (.int .i64 (c : Int)) := hm
   have HF := hid hb
   clear hb
   go_wp2_with fail
   go_ret
   exact ⟨HF.out, rfl⟩
  | ok g' =>
   obtain ⟨rfl, hrest⟩ := hm
   have HF := hid (And.intro hb hrest)
   clear hb hrest
   go_wp2_with fail
   go_ret
   exact ⟨HF.out.1, rfl, HF.out.2⟩
 have hk1 : ((kd : Int) == 1) = false := by rw [beq_eq_false_iff_ne]; omega
 have hk2 : ((kd : Int) == 2) = false := by rw [beq_eq_false_iff_ne]; omega
 by_cases h3 : kd = 3
 ·have hk3 : ((kd : Int) == 3) = true := by rw [h3]; rfl
  have HC : Hid (Calls Tryz.prog 75 #[.pointer (some ⟨gb, 0, none⟩), .agg #[.int .i64 (kd : Int), .int .i64 (at_ : Int), .string sn, .string st, .slice aa na ac]] wb (TakeOut wb S n0 gb r)) := hid (by
   have h := end_calls HGB.out (fun k hk => Nat.lt_of_lt_of_le (HSS.out k hk) HBB.out.size) HN.out kd at_ nm tx (.slice aa ats.length ac) ⟨_, _, _, rfl⟩
   rw [HSN.out, HST.out, HNL.out] at h
   rw [← HR.out]
   rw [show g.takeS ⟨kd, at_, nm, tx, ats⟩ = (match g.opens with | [] => .error 3 | f :: fs => if f.name = nm then .ok (g.closeS f fs) else .error 3) from by
    unfold Gr.takeS
    rw [if_neg h1, if_pos h3]
    cases g.opens <;> rfl]
   exact h)
  clear h1 h3
  go_wp2_with fail
  refine HC.out.mono ?_
  intro e w2 h2
  have h3 := (TakeOut.from HBB.out h2)
  clear h2
  obtain ⟨hb, hm⟩ := h3
  cases r with
  | error c =>
   obtain rfl : e = .returned (.int .i64 (c : Int)) := hm
   have HF := hid hb
   clear hb
   go_wp2_with fail
   go_ret
   exact ⟨HF.out, rfl⟩
  | ok g' =>
   obtain ⟨rfl, hrest⟩ := hm
   have HF := hid (And.intro hb hrest)
   clear hb hrest
   go_wp2_with fail
   go_ret
   exact ⟨HF.out.1, rfl, HF.out.2⟩
 have hk3 : ((kd : Int) == 3) = false := by rw [beq_eq_false_iff_ne]; omega
 by_cases h4 : kd = 4 ∨ kd = 5
 ·have h45 : ((kd : Int) == 4) = true ∨ (((kd : Int) == 4) = false ∧ ((kd : Int) == 5) = true) := by
   rcases h4 with h | h
   ·exact .inl (by rw [h]; rfl)
   ·exact .inr ⟨by rw [h]; rfl, by rw [h]; rfl⟩
  have HC : Hid (Calls Tryz.prog 76 #[.pointer (some ⟨gb, 0, none⟩), .agg #[.int .i64 (kd : Int), .int .i64 (at_ : Int), .string sn, .string st, .slice aa na ac]] wb (TakeOut wb S n0 gb r)) := hid (by
   have h := chrs_calls HGB.out (fun k hk => Nat.lt_of_lt_of_le (HSS.out k hk) HBB.out.size) HN.out HNC.out HIN.out (HLL.out.below HBB.out) kd at_ nm tx (aa := aa) (na := na) (ac := ac) HTX.out HTL.out
   rw [HSN.out, HST.out] at h
   rw [← HR.out]
   rw [show g.takeS ⟨kd, at_, nm, tx, ats⟩ = charT g kd tx from by
    unfold Gr.takeS
    rw [if_neg h1, if_neg h3, if_pos h4]
    rfl]
   exact h)
  clear h1 h3 h4
  rcases h45 with ha | ⟨ha, hb⟩
  all_goals go_wp2_with fail
  all_goals refine HC.out.mono ?_
  all_goals intro e w2 h2
  all_goals have h3 := (TakeOut.from HBB.out h2)
  all_goals clear h2
  all_goals obtain ⟨hb, hm⟩ := h3
  all_goals cases r with
  | error c =>
   obtain rfl : e = .returned (.int .i64 (c : Int)) := hm
   have HF := hid hb
   clear hb
   go_wp2_with fail
   go_ret
   exact ⟨HF.out, rfl⟩
  | ok g' =>
   obtain ⟨rfl, hrest⟩ := hm
   have HF := hid (And.intro hb hrest)
   clear hb hrest
   go_wp2_with fail
   go_ret
   exact ⟨HF.out.1, rfl, HF.out.2⟩
 have hk4 : ((kd : Int) == 4) = false := by rw [beq_eq_false_iff_ne]; omega
 have hk5 : ((kd : Int) == 5) = false := by rw [beq_eq_false_iff_ne]; omega
 by_cases h6 : kd = 6
 ·have hk6 : ((kd : Int) == 6) = true := by rw [h6]; rfl
  have HC : Hid (Calls Tryz.prog 77 #[.pointer (some ⟨gb, 0, none⟩), .agg #[.int .i64 3, .string ⟨#[]⟩, .string st, .slice none 0 0, .slice none 0 0]] wb (TakeOut wb S n0 gb r)) := hid (by
   have h := (put_calls HGB.out (fun k hk => Nat.lt_of_lt_of_le (HSS.out k hk) HBB.out.size) HN.out HNC.out (k := 3) (nm := []) (tx := tx) (aa := none) (ac := 0) (ats := []) (AttIn.nil wb S) (by decide) HIN.out).mono (fun _ _ h => h.take HGB.out.own_out)
   rw [HST.out] at h
   skip
   rw [← HR.out]
   rw [show g.takeS ⟨kd, at_, nm, tx, ats⟩ = exc (g.mayS 3 0) (g.putS (.mk 3 [] tx [] [])) from by
    unfold Gr.takeS
    rw [if_neg h1, if_neg h3, if_neg h4, if_pos h6]
    unfold exc
    cases g.mayS 3 0 <;> rfl]
   exact h)
  clear h1 h3 h4 h6
  go_wp2_with fail
  refine HC.out.mono ?_
  intro e w2 h2
  have h3 := (TakeOut.from HBB.out h2)
  clear h2
  obtain ⟨hb, hm⟩ := h3
  cases r with
  | error c =>
   obtain rfl : e = .returned (.int .i64 (c : Int)) := hm
   have HF := hid hb
   clear hb
   go_wp2_with fail
   go_ret
   exact ⟨HF.out, rfl⟩
  | ok g' =>
   obtain ⟨rfl, hrest⟩ := hm
   have HF := hid (And.intro hb hrest)
   clear hb hrest
   go_wp2_with fail
   go_ret
   exact ⟨HF.out.1, rfl, HF.out.2⟩
 ·have hk6 : ((kd : Int) == 6) = false := by rw [beq_eq_false_iff_ne]; omega
  have HC : Hid (Calls Tryz.prog 77 #[.pointer (some ⟨gb, 0, none⟩), .agg #[.int .i64 4, .string sn, .string st, .slice none 0 0, .slice none 0 0]] wb (TakeOut wb S n0 gb r)) := hid (by
   have h := (put_calls HGB.out (fun k hk => Nat.lt_of_lt_of_le (HSS.out k hk) HBB.out.size) HN.out HNC.out (k := 4) (nm := nm) (tx := tx) (aa := none) (ac := 0) (ats := []) (AttIn.nil wb S) (by decide) HIN.out).mono (fun _ _ h => h.take HGB.out.own_out)
   rw [HST.out] at h
   rw [HSN.out] at h
   rw [← HR.out]
   rw [show g.takeS ⟨kd, at_, nm, tx, ats⟩ = exc (g.mayS 4 0) (g.putS (.mk 4 nm tx [] [])) from by
    unfold Gr.takeS
    rw [if_neg h1, if_neg h3, if_neg h4, if_neg h6]
    unfold exc
    cases g.mayS 4 0 <;> rfl]
   exact h)
  clear h1 h3 h4 h6
  go_wp2_with fail
  refine HC.out.mono ?_
  intro e w2 h2
  have h3 := (TakeOut.from HBB.out h2)
  clear h2
  obtain ⟨hb, hm⟩ := h3
  cases r with
  | error c =>
   obtain rfl : e = .returned (.int .i64 (c : Int)) := hm
   have HF := hid hb
   clear hb
   go_wp2_with fail
   go_ret
   exact ⟨HF.out, rfl⟩
  | ok g' =>
   obtain ⟨rfl, hrest⟩ := hm
   have HF := hid (And.intro hb hrest)
   clear hb hrest
   go_wp2_with fail
   go_ret
   exact ⟨HF.out.1, rfl, HF.out.2⟩
theorem nrC_one : ∀ (l : List Nr), (∀ x ∈ l, x.av.oneCell' = true ∧ x.kv.oneCell' = true) → ∀ u ∈ nrC l, u.oneCell' = true
 | [], _, u, hu => by cases hu
 | x :: t, h, u, hu => by
  have hu2 : u ∈ Value.int .i64 (x.kind : Int) :: .string (strB x.name) :: .string (strB x.text) :: x.av :: x.kv :: nrC t := hu
  simp only [List.mem_cons] at hu2
  rcases hu2 with rfl | rfl | rfl | rfl | rfl | h2
  ·rfl
  ·rfl
  ·rfl
  ·exact (h x (List.mem_cons_self ..)).1
  ·exact (h x (List.mem_cons_self ..)).2
  ·exact nrC_one t (fun y hy => h y (List.mem_cons_of_mem _ hy)) u h2
theorem nrC_get : ∀ (l : List Nr) (j : Nat) (u : Value), (nrC l)[j]? = some u → ∃ i x, l[i]? = some x ∧ ((j = i * 5 ∧ u = .int .i64 (x.kind : Int)) ∨ (j = i * 5 + 1 ∧ u = .string (strB x.name)) ∨ (j = i * 5 + 2 ∧ u = .string (strB x.text)) ∨ (j = i * 5 + 3 ∧ u = x.av) ∨ (j = i * 5 + 4 ∧ u = x.kv))
 | [], j, u, h => by simp [nrC] at h
 | x :: t, j, u, h => by
  have h2 : (Value.int .i64 (x.kind : Int) :: .string (strB x.name) :: .string (strB x.text) :: x.av :: x.kv :: nrC t)[j]? = some u := h
  match j, h2 with
  | 0, h2 => exact ⟨0, x, rfl, .inl ⟨rfl, (Option.some.inj h2).symm⟩⟩
  | 1, h2 => exact ⟨0, x, rfl, .inr (.inl ⟨rfl, (Option.some.inj h2).symm⟩)⟩
  | 2, h2 => exact ⟨0, x, rfl, .inr (.inr (.inl ⟨rfl, (Option.some.inj h2).symm⟩))⟩
  | 3, h2 => exact ⟨0, x, rfl, .inr (.inr (.inr (.inl ⟨rfl, (Option.some.inj h2).symm⟩)))⟩
  | 4, h2 => exact ⟨0, x, rfl, .inr (.inr (.inr (.inr ⟨rfl, (Option.some.inj h2).symm⟩)))⟩
  | j + 5, h2 =>
   obtain ⟨i, y, h3, h4⟩ := nrC_get t j u h2
   refine ⟨i + 1, y, h3, ?_⟩
   rcases h4 with ⟨h5, h6⟩ | ⟨h5, h6⟩ | ⟨h5, h6⟩ | ⟨h5, h6⟩ | ⟨h5, h6⟩
   ·exact .inl ⟨by omega, h6⟩
   ·exact .inr (.inl ⟨by omega, h6⟩)
   ·exact .inr (.inr (.inl ⟨by omega, h6⟩))
   ·exact .inr (.inr (.inr (.inl ⟨by omega, h6⟩)))
   ·exact .inr (.inr (.inr (.inr ⟨by omega, h6⟩)))
set_option maxRecDepth 100000 in
theorem clone_calls {w : World} {S : Nat → Prop} {v : Value} {rows : List Nr} (h : RowIn w S v rows) (hn : rows.length ≤ 1000000) (h1 : ∀ x ∈ rows, x.av.oneCell' = true ∧ x.kv.oneCell' = true) : Calls Tryz.prog 46 #[v] w (fun e w' => ∃ v', e = .returned v' ∧ (∃ a n c, v' = .slice a n c) ∧ RowIn w' (fun k => w.heap.size ≤ k) v' rows ∧ Below w.heap.size w w') := by
 obtain ⟨a, c, rfl, hc, hm, hnil, hr⟩ := h
 cases a with
 | none =>
  have hr0 : rows = [] := by
   rcases hr with h0 | ⟨b, o, e, _⟩
   ·exact h0
   ·cases e
  obtain rfl : c = 0 := hnil rfl
  subst hr0
  have hq : ∀ W, (binOp .eql 22 (.slice none 0 0) (.slice none 0 0)).run Tryz.prog W = .ok (.bool true) W := fun W => run_eql_slice_nil W _ _ none 0 0 0 0 Tryz.underlying22
  clear hr hc hm hnil h1
  show Calls Tryz.prog 46 #[.slice none 0 0] w _
  go_enter Tryz.func46, Tryz.ntmps46
  go_wp2_with fail
  go_ret
  exact ⟨_, rfl, ⟨_, _, _, rfl⟩, RowIn.nil w _, Below.refl _ _⟩
 | some ad =>
  obtain ⟨n, hl⟩ : ∃ n, rows.length = n := ⟨_, rfl⟩
  have hrow0 := World.ownsRow_made (e := 25) (size := 5) w #[] 0 (Nat.zero_le _) (by unfold maxLen; omega) rfl
  have hcells : ∀ j u, (nrC rows)[j]? = some u → (w.alloc (.cells #[] 25)).cell? (ad.add j) = some u := fun j u hj => by
   obtain ⟨i, x, hx, hk⟩ := nrC_get rows j u hj
   rcases hr with h0 | ⟨b, o, e, _, hcell⟩
   ·rw [h0] at hx; simp at hx
   obtain rfl : ad = ⟨b, o, none⟩ := Option.some.inj e
   obtain ⟨y0, y1, y2, y3, y4⟩ := (hcell i x hx).keep (keeps_below ((Below.refl _ w).alloc (Nat.le_refl _) (.cells #[] 25)) Non) (fun e => e)
   rw [Addr.add_mid]
   rcases hk with ⟨rfl, rfl⟩ | ⟨rfl, rfl⟩ | ⟨rfl, rfl⟩ | ⟨rfl, rfl⟩ | ⟨rfl, rfl⟩
   ·exact y0
   ·exact y1
   ·exact y2
   ·exact y3
   ·exact y4
  obtain ⟨v', w', hrun, hrow, hgrown, hown⟩ := append_any (w := w.alloc (.cells #[] 25)) Tryz.underlying22 infoN rfl (by decide) hrow0 (b := ad) (m := n) (c := c) (news := nrC rows) (by rw [nrC_len, hl]) hcells (nrC_one rows h1) (by unfold maxLen; omega) (by omega)
  rw [Nat.zero_add] at hrow
  have HRUN := hid hrun
  have hb0 : Below w.heap.size w (w.alloc (.cells #[] 25)) := (Below.refl _ _).alloc (Nat.le_refl _) _
  have hbel : Below w.heap.size w w' := hb0.trans (((Keeps.refl (fun k => (Value.slice (some ⟨w.heap.size, 0, none⟩) 0 0).ownBlock = some k) _).grown hgrown (fun k e => .inl e)).toBelow hb0.size (fun k e => Nat.le_of_eq (Option.some.inj e)))
  have hlv : Lv w' 0 v' rows := ⟨by rw [hl]; exact hrow, fun _ _ => Nat.zero_le _⟩
  have hri := hlv.rowIn (fun k => w.heap.size ≤ k) (fun k e => by
   rcases hown k e with h2 | h2
   ·exact Nat.le_of_eq (Option.some.inj h2)
   ·exact Nat.le_trans hb0.size h2)
  obtain ⟨a', c', hv', _⟩ := hlv.form
  rw [hl] at hv'
  have HF := hid (And.intro hri hbel)
  rw [hl]
  clear hrow0 hcells hrun hrow hgrown hown hb0 hbel hlv hri hr hnil hc hm h1
  subst hv'
  have hq : ∀ W, (binOp .eql 22 (.slice (some ad) n c) (.slice none 0 0)).run Tryz.prog W = .ok (.bool false) W := fun W => run_eql_slice_nil W _ _ (some ad) n c 0 0 Tryz.underlying22
  go_enter Tryz.func46, Tryz.ntmps46
  go_wp2_with (at_builtin; refine wpList_step (fun K hK => step_append rfl (.tmp 5) (.tmp 6) _ _ rfl _ _ _ rfl rfl HRUN.out (hK _ _ ?_)))
  go_ret
  exact ⟨_, rfl, ⟨_, _, _, rfl⟩, HF.out.1, HF.out.2⟩
theorem GrW.start {w : World} {n0 gb : Nat} {ov : Value} (hb : w.heap[gb]? = some (growB (.slice none 0 0) ov 0)) (ho : w.ownsRow 0 56 1 ov 1 (ptrC [⟨gb, 0, none⟩])) (hov : ∀ k, ov.ownBlock = some k → n0 ≤ k ∧ k ≠ gb) (hn : n0 ≤ gb) : GrW w n0 gb (fun k => k < n0) [] [] 0 (.slice none 0 0) ov [⟨gb, 0, none⟩] [none] where
 blk := hb
 opn := ho
 spi := ⟨rfl, rfl, [], Lv.nil w n0, NodesIn.nil _ _⟩
 dis := Apart.one _
 off := fun k hk => by simp at hk
 sgb := fun h => by omega
 sov := fun k e => ⟨fun h => by have := (hov k e).1; omega, (hov k e).2⟩
 old := fun _ h => h
structure DocIn (w : World) (n0 : Nat) (dv : Value) (q : List Tr × Tr × List Tr) : Prop where
 ex : ∃ bv av r rb ra, dv = docV bv (.int .i64 (r.kind : Int)) (.string (strB r.name)) (.string (strB r.text)) r.av r.kv av ∧ NodeIn w (fun _ => True) r q.2.1 ∧ RowIn w (fun _ => True) bv rb ∧ NodesIn w (fun _ => True) rb q.1 ∧ RowIn w (fun _ => True) av ra ∧ NodesIn w (fun _ => True) ra q.2.2
def ParseOut (w : World) : Except (Nat × Nat) (List Tr × Tr × List Tr) → Ending → World → Prop
 | .ok q, e, w' => ∃ dv, e = .returned (.tuple #[dv, .nilIface]) ∧ DocIn w' w.heap.size dv q ∧ Below w.heap.size w w'
 | .error (c, p), e, w' => ∃ ev, e = .returned (.tuple #[docZ, ev]) ∧ c ≠ 0 ∧ ErrAt w.heap.size w' (c : Int) (p : Int) ev ∧ Below w.heap.size w w'
theorem ret_doc {R : Ending → World → Prop} {tmps : Array Value} {w : World} {b : Nat} {c0 c1 c2 c3 c4 c5 c6 v : Value} (hb : w.heap[b]? = some (.cells #[c0, c1, c2, c3, c4, c5, c6] 27 (0, 0))) (h2 : tmps.getD 2 undef = .pointer (some ⟨b, 0, none⟩)) (h3 : tmps.getD 3 undef = v) (hR : R (.returned (.tuple #[docV c0 c1 c2 c3 c4 c5 c6, v])) w) : bodyPost Tryz.prog Tryz.f20 R .ret ⟨tmps, []⟩ w := by
 refine bodyPost_ret_by (v := .tuple #[docV c0 c1 c2 c3 c4 c5 c6, v]) ?_ rfl hR
 rw [results_cell_tmp (p := 2) (u := 3) (ty := 27) rfl]
 rw [h2, h3]
 simp only [asAddr, Sem.run_pure, Result.andThen_ok]
 rw [run_loadVar_row (P := Tryz.prog) w b 27 27 _ (0, 0) _ hb Tryz.underlying27 rfl (by kernel_rfl)]
 rfl
theorem mayS_err {g : Gr} {k : Int} {na c : Nat} (h : g.mayS k na = some c) : c ≠ 0 := by
 unfold Gr.mayS at h
 repeat' split at h
 ·injection h with h; omega
 ·injection h with h; omega
 ·cases h
theorem takeS_err {g : Gr} {tk : Tk} {c : Nat} (h : g.takeS tk = .error c) : c ≠ 0 := by
 unfold Gr.takeS at h
 repeat' split at h
 all_goals first
  | (cases h; done)
  | (injection h with h; subst h; exact mayS_err (by assumption))
  | (injection h with h; omega)
theorem drop_at {α : Type} {l : List α} {i : Nat} {x : α} (h : l[i]? = some x) : l.drop i = x :: l.drop (i + 1) := by
 obtain ⟨hi, hx⟩ := List.getElem?_eq_some_iff.1 h
 rw [List.drop_eq_getElem_cons hi, hx]
theorem growS_step {g g2 : Gr} {ts : List Tk} {i : Nat} {tk : Tk} (hi : ts[i]? = some tk) (h : g.takeS tk = .ok g2) : growS g (ts.drop i) = growS g2 (ts.drop (i + 1)) := by
 rw [drop_at hi, growS, h]
theorem growS_stop {g : Gr} {ts : List Tk} {i c : Nat} {tk : Tk} (hi : ts[i]? = some tk) (h : g.takeS tk = .error c) : growS g (ts.drop i) = .error (c, tk.at_) := by
 rw [drop_at hi, growS, h]
theorem elemAt_cut : ∀ (l : List Tr) (i : Nat), (elemAt l i = -1 ∧ cutT l = none) ∨ ∃ (j : Nat) (t : Tr), elemAt l i = ((i + j : Nat) : Int) ∧ l[j]? = some t ∧ cutT l = some (l.take j, t, l.drop (j + 1))
 | [], _ => .inl ⟨rfl, rfl⟩
 | t :: l, i => by
  by_cases h : t.kind = 1
  ·refine .inr ⟨0, t, ?_, rfl, ?_⟩
   ·rw [elemAt, if_pos h]; rfl
   ·rw [cutT, if_pos h]; rfl
  ·rcases elemAt_cut l (i + 1) with ⟨h1, h2⟩ | ⟨j, x, h1, h2, h3⟩
   ·exact .inl ⟨by rw [elemAt, if_neg h, h1], by rw [cutT, if_neg h, h2]; rfl⟩
   ·refine .inr ⟨j + 1, x, ?_, h2, ?_⟩
    ·rw [elemAt, if_neg h, h1, show i + 1 + j = i + (j + 1) by omega]
    ·rw [cutT, if_neg h, h3]; rfl
theorem RowIn.take {w : World} {S : Nat → Prop} {b o c : Nat} {rows : List Nr} {n : Nat} (h : RowIn w S (.slice (some ⟨b, o, none⟩) n c) rows) (j : Nat) (hj : j ≤ rows.length) : RowIn w S (.slice (some ⟨b, o, none⟩) j c) (rows.take j) := by
 obtain ⟨a, c2, e, hc, hm, hn, hr⟩ := h
 injection e with e1 e2 e3
 subst e1
 subst e3
 have hl : (rows.take j).length = j := by rw [List.length_take]; omega
 refine ⟨_, c, by rw [hl], by omega, hm, fun h => (by cases h), ?_⟩
 rcases hr with h0 | ⟨b2, o2, e2, hS, hcell⟩
 ·exact .inl (by rw [h0]; simp)
 ·refine .inr ⟨b2, o2, e2, hS, fun i x hx => hcell i x ?_⟩
  rw [List.getElem?_take] at hx
  split at hx
  ·exact hx
  ·cases hx
theorem NodesIn.take {w : World} {S : Nat → Prop} {rows : List Nr} {ks : List Tr} (h : NodesIn w S rows ks) (j : Nat) : NodesIn w S (rows.take j) (ks.take j) := by
 refine ⟨by rw [List.length_take, List.length_take, h.1], fun i x t hx ht => ?_⟩
 rw [List.getElem?_take] at hx ht
 split at hx
 ·next hi =>
  rw [if_pos hi] at ht
  exact h.2 i x t hx ht
 ·cases hx
theorem NodesIn.drop {w : World} {S : Nat → Prop} {rows : List Nr} {ks : List Tr} (h : NodesIn w S rows ks) (j : Nat) : NodesIn w S (rows.drop j) (ks.drop j) := by
 refine ⟨by rw [List.length_drop, List.length_drop, h.1], fun i x t hx ht => ?_⟩
 rw [List.getElem?_drop] at hx ht
 exact h.2 (j + i) x t hx ht
theorem RowIn.drop {w : World} {S : Nat → Prop} {b o c : Nat} {rows : List Nr} {n : Nat} (h : RowIn w S (.slice (some ⟨b, o, none⟩) n c) rows) (j : Nat) (hj : j ≤ rows.length) : RowIn w S (.slice (some ⟨b, o + j * 5, none⟩) (n - j) (c - j)) (rows.drop j) := by
 obtain ⟨a, c2, e, hc, hm, hn, hr⟩ := h
 injection e with e1 e2 e3
 subst e1
 subst e3
 subst e2
 have hl : (rows.drop j).length = rows.length - j := by rw [List.length_drop]
 refine ⟨_, c - j, by rw [hl], by omega, by omega, fun h => (by cases h), ?_⟩
 rcases hr with h0 | ⟨b2, o2, e2, hS, hcell⟩
 ·exact .inl (by rw [h0]; simp)
 ·injection e2 with e2
  injection e2 with e2 e3
  subst e2
  subst e3
  refine .inr ⟨b, o + j * 5, rfl, hS, fun i x hx => ?_⟩
  rw [List.getElem?_drop] at hx
  have h5 := hcell (j + i) x hx
  rw [show o + j * 5 + i * 5 = o + (j + i) * 5 by omega]
  exact h5
theorem GrW.topIn {w : World} {n0 gb nodes : Nat} {S : Nat → Prop} {ks : List Tr} {fs : List Fr} {v ov : Value} {ps : List Addr} {bs : List (Option Nat)} (h : GrW w n0 gb S ks fs nodes v ov ps bs) : ∃ rows, RowIn w (fun _ => True) v rows ∧ (fs = [] → NodesIn w (fun _ => True) rows ks) ∧ (rows ≠ [] → ∃ g c, v = .slice (some ⟨g, 0, none⟩) rows.length c ∧ rows.length ≤ c ∧ c ≤ maxLen ∧ n0 ≤ g) := by
 have hf : ∀ rows, Lv w n0 v rows → rows ≠ [] → ∃ g c, v = .slice (some ⟨g, 0, none⟩) rows.length c ∧ rows.length ≤ c ∧ c ≤ maxLen ∧ n0 ≤ g := fun rows h1 hn => by
  obtain ⟨a, c, e, h3, h4, h5⟩ := h1.form
  rcases h5 with ⟨_, h6, _⟩ | ⟨g, h6⟩
  ·exact absurd h6 hn
  ·subst h6
   exact ⟨g, c, e, h3, h4, h1.new g (by rw [e]; rfl)⟩
 have hs := h.spi
 cases fs with
 | nil =>
  obtain ⟨_, _, rows, h1, h2⟩ := hs
  exact ⟨rows, h1.rowIn _ (fun _ _ => trivial), fun _ => h2.keep (Keeps.refl Non w) (fun _ _ h => h) (fun _ _ => trivial), hf rows h1⟩
 | cons f fs =>
  obtain ⟨rows, r, g, c, ps', bs', _, _, _, h1, _⟩ := hs
  exact ⟨rows ++ [r], h1.rowIn _ (fun _ _ => trivial), fun e => (by cases e), hf _ h1⟩
theorem NodesIn.ones {w : World} {S : Nat → Prop} {rows : List Nr} {ks : List Tr} (h : NodesIn w S rows ks) : ∀ x ∈ rows, x.av.oneCell' = true ∧ x.kv.oneCell' = true := by
 intro x hx
 obtain ⟨i, hi⟩ := List.getElem?_of_mem hx
 obtain ⟨t, ht⟩ : ∃ t, ks[i]? = some t := ⟨_, List.getElem?_eq_getElem (by rw [← h.1]; exact (List.getElem?_eq_some_iff.1 hi).1)⟩
 obtain ⟨_, _, _, ⟨a, c, ha, _⟩, rows2, ⟨a2, c2, hk, _⟩, _⟩ := (h.2 i x t hi ht).kids
 rw [ha, hk]
 exact ⟨rfl, rfl⟩
end Go.Proofs.YtjpkkflhcjjefaaGreatDoor
