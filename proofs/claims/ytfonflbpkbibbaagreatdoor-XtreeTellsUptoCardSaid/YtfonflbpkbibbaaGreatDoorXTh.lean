/-
  The law of values: an attribute's value without quotes, < and & is told as it is, each tab and each end of a line a blank. Conditions: the laid variables hold what their initialisers lay. Characters taken. Conditions: the tree lies in memory; the laid variables hold what their initialisers lay; texts are no longer than 2 to the 40.
-/
import Derived.Test.YtfonflbpkbibbaaGreatDoorXAw
import Derived.Test.YtfonflbpkbibbaaGreatDoorXOk
import Derived.Test.YtfonflbpkbibbaaGreatDoorXPz
import Derived.Test.YtfonflbpkbibbaaGreatDoorTrimWalk
namespace Go.Proofs.YtfonflbpkbibbaaGreatDoor
open Go.RowKit Go.Lib Go.Joins

theorem doc_str (W : World) (l : List UInt8) (h : l.length ≤ 1000000) : DocAt (bytesWorld W 5 (strB l)) (some ⟨W.heap.size, 0, none⟩) (grownCap W (strB l).size 0 5) l :=
  doc_of_cells (fun k hk => by
    rw [Nat.zero_add, bytesWorld_cell W 5 (strB l) k (by rw [strB_size]; exact hk), strB_list]
    rfl) (Nat.le_trans (by rw [strB_size]; exact Nat.le_refl _) (grownCap_ge W _ _ _)) (grownCap_le_maxLen W _ _ _ (by rw [strB_size]; unfold maxLen; omega))
theorem strB_app (a b : List UInt8) : strB a ++ strB b = strB (a ++ b) := by
  apply ByteArray.ext
  apply Array.toList_inj.1
  simp [strB, ByteArray.data_append]
theorem strB_one (l : List UInt8) (i : Nat) (x : UInt8) (h : l[i]? = some x) : (strB l).extract i (i + 1) = strB [x] := by
  apply ByteArray.ext
  apply Array.toList_inj.1
  rw [ByteArray.data_extract, Array.toList_extract, List.extract_eq_take_drop, Nat.add_sub_cancel_left]
  show (l.drop i).take 1 = [x]
  have hlt := (List.getElem?_eq_some_iff.1 h).1
  rw [List.drop_eq_getElem_cons hlt]
  rw [List.getElem?_eq_getElem hlt] at h
  rw [Option.some.inj h]
  rfl
/-- Each tab and each end of a line a blank. -/
def flatE (l : List UInt8) : List UInt8 := l.map fun x => if x = 10 ∨ x = 9 then 32 else x
theorem flatE_snoc (l : List UInt8) (i : Nat) (x : UInt8) (h : l[i]? = some x) : flatE (l.take (i + 1)) = flatE (l.take i) ++ [if x = 10 ∨ x = 9 then 32 else x] := by
  unfold flatE
  rw [List.take_add_one, h, List.map_append]
  rfl
theorem bad_lt (l : List UInt8) : badL l < (l.length : Int) + 1 := by
  have h : ∀ g p, p ≤ l.length → badFrom (fs l) l.length g p < (l.length : Int) + 1 := by
    intro g
    induction g with
    | zero => intro p _; show (-1 : Int) < _; omega
    | succ g ih =>
      intro p hp
      rw [badFrom]
      split
      · rename_i hpl
        split
        · omega
        · exact ih _ (nx_fits2 hpl)
      · omega
  exact h _ 0 (Nat.zero_le _)
/-- Bytes that may not stand in such a value. -/
def okV (x : UInt8) : Prop := x ≠ 34 ∧ x ≠ 39 ∧ x ≠ 60 ∧ x ≠ 38
theorem eq_int (x : UInt8) (n : Nat) (hn : n < 256) : ((x.toNat : Int) == (n : Int)) = decide (x = UInt8.ofNat n) := by
  by_cases h : x = UInt8.ofNat n
  · have h1 : x.toNat = n := by rw [h, UInt8.toNat_ofNat']; omega
    rw [decide_eq_true h, h1]
    exact beq_self_eq_true _
  · rw [decide_eq_false h, beq_eq_false_iff_ne]
    intro h2
    exact h (UInt8.toNat_inj.1 (by rw [UInt8.toNat_ofNat']; omega))
end Go.Proofs.YtfonflbpkbibbaaGreatDoor
namespace Go.Proofs.YtfonflbpkbibbaaGreatDoor
open Go.RowKit Go.Lib Go.Joins

def charT (g : Gr) (kd : Nat) (tx : List UInt8) : Except Nat Gr :=
  if g.opens = [] ∧ (kd = 5 ∨ trimL tx ≠ []) then .error 2
  else if g.opens = [] ∨ tx = [] then .ok g
  else match onT tx g.inner with
    | some ks => .ok (g.setInner ks)
    | none => match g.mayS 2 0 with
      | some c => .error c
      | none => .ok (g.putS (.mk 2 [] tx [] []))
theorem onT_snoc (t : List UInt8) (n : Tr) : ∀ l : List Tr, onT t (l ++ [n]) = if n.kind = 2 then some (l ++ [.mk n.kind n.name (n.text ++ t) n.attrs n.kids]) else none
  | [] => rfl
  | [a] => by
    show (onT t [n]).map (a :: ·) = _
    rw [onT]
    split <;> rfl
  | a :: b :: l => by
    show (onT t ((b :: l) ++ [n])).map (a :: ·) = _
    rw [onT_snoc t n (b :: l)]
    split <;> rfl
theorem inner_eq (g : Gr) : innerK g.top g.opens.reverse = g.inner := by
  obtain ⟨opens, top, nodes⟩ := g
  cases opens with
  | nil => rfl
  | cons f fs =>
    show innerK top (f :: fs).reverse = f.kids
    rw [List.reverse_cons, innerK_snoc]
theorem set_eq (g : Gr) (ks : List Tr) : Inn.match_1 (fun _ => List Tr) g.opens.reverse (fun _ => ks) (fun _ => g.top) = (g.setInner ks).top ∧ lastKids g.opens.reverse ks = (g.setInner ks).opens.reverse ∧ (g.setInner ks).nodes = g.nodes := by
  obtain ⟨opens, top, nodes⟩ := g
  cases opens with
  | nil => exact ⟨rfl, rfl, rfl⟩
  | cons f fs =>
    refine ⟨?_, ?_, rfl⟩
    · have e1 : (Gr.mk (f :: fs) top nodes).opens.reverse = fs.reverse ++ [f] := List.reverse_cons ..
      rw [e1]
      cases fs.reverse <;> rfl
    · show lastKids (f :: fs).reverse ks = (⟨f.name, f.attrs, ks⟩ :: fs).reverse
      rw [List.reverse_cons, List.reverse_cons, lastKids_snoc]
theorem NodeIn.onText {w : World} {S : Nat → Prop} {r : Nr} {n : Tr} (h : NodeIn w S r n) (u : List UInt8) : NodeIn w S ⟨r.kind, r.name, u, r.av, r.kv⟩ (.mk n.kind n.name u n.attrs n.kids) := by
  cases h with
  | mk r attrs kids rows ha hk hl h => exact .mk ⟨r.kind, r.name, u, r.av, r.kv⟩ attrs kids rows ha hk hl h
theorem newest_two {w : World} {n0 gb nodes : Nat} {S : Nat → Prop} {ks : List Tr} {fs : List Fr} {v ov : Value} {ps : List Addr} {bs : List (Option Nat)} (h : GrW w n0 gb S ks fs nodes v ov ps bs) {front : List Addr} {b o : Nat} {vl : Value} {rows : List Nr} (hi : Inn w n0 gb S ks fs nodes ov ps front b o vl rows) :
    ∃ z, Calls Tryz.prog 100 #[.pointer (some ⟨gb, 0, none⟩)] w (Leaves z w) ∧ ((rows = [] ∧ z = .pointer none) ∨ ∃ rs r g c, rows = rs ++ [r] ∧ vl = .slice (some ⟨g, 0, none⟩) (rs.length + 1) c ∧ z = .pointer (some ⟨g, rs.length * 5, none⟩)) := by
  have hc := newest_calls h hi
  obtain ⟨a, c, hv, _, _, hf⟩ := hi.row.form
  by_cases hr : rows = []
  · subst hr
    refine ⟨_, hc, .inl ⟨rfl, ?_⟩⟩
    subst hv
    cases a <;> rfl
  · obtain ⟨rs, r, rfl, hl⟩ := list_snoc (l := rows) (n := rows.length - 1) (by have := List.length_pos_iff.2 hr; omega)
    rcases hf with ⟨_, h0, _⟩ | ⟨g, rfl⟩
    · exact absurd h0 (by simp)
    · rw [List.length_append, List.length_singleton] at hv
      subst hv
      rw [List.length_append, List.length_singleton] at hc
      exact ⟨_, hc, .inr ⟨rs, r, g, c, rfl, rfl, rfl⟩⟩
set_option maxRecDepth 100000 in
set_option maxHeartbeats 8000000 in
theorem chrs_calls {w : World} {n0 gb : Nat} {g : Gr} {S : Nat → Prop} {v ov : Value} {ps : List Addr} {bs : List (Option Nat)} (h : GrW w n0 gb S g.top g.opens.reverse g.nodes v ov ps bs) (hS : ∀ k, S k → k < w.heap.size) (hn : n0 ≤ gb) (hc : g.nodes ≤ 1000000) (hin : (innerK g.top g.opens.reverse).length ≤ 1000000) (hL : Laid w) (kd at_ : Nat) (nm tx : List UInt8) {aa : Option Addr} {na ac : Nat} (htx : tx.length ≤ 1000000000) (hlt : ∀ n, (innerK g.top g.opens.reverse).getLast? = some n → n.text.length ≤ 1000000000000000000) : Calls Tryz.prog 67 #[.pointer (some ⟨gb, 0, none⟩), .agg #[.int .i64 (kd : Int), .int .i64 (at_ : Int), .string (strB nm), .string (strB tx), .slice aa na ac]] w (TakeOut w S n0 gb (charT g kd tx)) := by
  obtain ⟨sn, hsn⟩ : ∃ s, strB nm = s := ⟨_, rfl⟩
  obtain ⟨st, hst⟩ : ∃ s, strB tx = s := ⟨_, rfl⟩
  have hgl := lt_of_block h.blk
  have HST := Lib.hid hst
  have HN := Lib.hid hn
  have HN0 := Lib.hid (show n0 ≤ w.heap.size by omega)
  have HGR := Lib.hid h
  have HSS := Lib.hid hS
  have HIN := Lib.hid hin
  have HNC := Lib.hid hc
  have HLL := Lib.hid hL
  have HTX := Lib.hid htx
  have HTL := Lib.hid hlt
  rw [hsn, hst]
  obtain ⟨r, hr⟩ : ∃ r, charT g kd tx = r := ⟨_, rfl⟩
  rw [hr]
  have HR := Lib.hid hr
  have hse : (st.toList == []) = (tx == []) := by rw [← hst]; exact str_eq tx []
  have HTR : Hid (∀ W, Below w.heap.size w W → Calls Tryz.prog 102 #[.string st] W (Leaves (.string (strB (trimL tx))) W)) := Lib.hid (fun W hW => by
    have h := trim_calls (strB tx) W (by rw [strB_size]; have := HTX.out; omega) (HLL.out.below hW)
    rw [strB_list, HST.out] at h
    exact h)
  have HSE := Lib.hid hse
  clear h hS hin hc hsn hst hn hr hL htx hlt hse
  go_enter Tryz.func67, Tryz.ntmps67
  go_upto_region 1 with (fail)
  obtain ⟨wb, hwb⟩ : ∃ W, w.alloc (.cells #[.int .i64 (kd : Int), .int .i64 (at_ : Int), .string sn, .string st, .slice aa na ac] 63) = W := ⟨_, rfl⟩
  rw [hwb]
  have hbb : Below w.heap.size w wb := by rw [← hwb]; exact (Below.refl _ _).alloc (Nat.le_refl _) _
  have hbox : wb.heap[w.heap.size]? = some (.cells #[.int .i64 (kd : Int), .int .i64 (at_ : Int), .string sn, .string st, .slice aa na ac] 63 (0, 0)) := by rw [← hwb]; exact heap_alloc_new w _
  have hgrb := HGR.out.below hbb
  obtain ⟨front, b, o, vl, rows, hinn⟩ := hgrb.inn (fun k hk => Nat.lt_of_lt_of_le (HSS.out k hk) hbb.size) HN.out
  obtain ⟨pv, hnw, hpv⟩ := newest_two hgrb hinn
  have HNW := Lib.hid hnw
  have HPV := Lib.hid hpv
  have HII := Lib.hid hinn
  have HGB := Lib.hid hgrb
  have HBB := Lib.hid hbb
  have HBOX := Lib.hid hbox
  clear hwb hbb hbox hgrb hinn hpv hnw
  go_wp2_with fail
  with_reducible refine HNW.out.mono ?_
  rintro e w2 ⟨rfl, hb⟩
  have HB2 := Lib.hid (below_then HBB.out hb)
  have HBB2 := Lib.hid hb
  have HOC := Lib.hid (outside_calls (HGB.out.below hb))
  have hbx := block_keep HBOX.out (keeps_below hb Non) (fun h => h)
  have hk0 := (cell_of_block hbx 0).trans rfl
  have hk3 := (cell_of_block hbx 3).trans rfl
  have HK3 := Lib.hid hk3
  clear hb hbx HNW
  by_cases ho : g.opens = []
  · have hob : decide (g.opens.reverse = []) = true := by rw [ho]; rfl
    rw [hob] at HOC
    have HO := Lib.hid ho
    clear ho hob
    by_cases h5 : kd = 5
    · have hkb : ((kd : Int) == 5) = true := by rw [h5]; rfl
      have HF : Hid (r = .error 2) := Lib.hid (by rw [← HR.out, charT, if_pos ⟨HO.out, .inl h5⟩])
      clear h5
      go_wp2_with fail
      with_reducible refine HOC.out.mono ?_
      rintro e w3 ⟨rfl, hb⟩
      have HB3 := Lib.hid (below_then HB2.out hb)
      replace hk0 := (hb.cell (lt_of_cell hk0)).trans hk0
      clear hb HOC
      go_wp2_with fail
      go_ret
      rw [HF.out]
      exact ⟨keeps_below HB3.out _, rfl⟩
    have hkb : ((kd : Int) == 5) = false := by rw [beq_eq_false_iff_ne]; omega
    have H5 := Lib.hid h5
    clear h5
    go_wp2_with fail
    with_reducible refine HOC.out.mono ?_
    rintro e w3 ⟨rfl, hb⟩
    have HB3 := Lib.hid (below_then HB2.out hb)
    have HBB3 := Lib.hid (below_then HBB2.out hb)
    replace hk0 := (hb.cell (lt_of_cell hk0)).trans hk0
    replace hk3 := (hb.cell (lt_of_cell hk3)).trans hk3
    clear hb HOC
    obtain ⟨sr, hsr⟩ : ∃ z, strB (trimL tx) = z := ⟨_, rfl⟩
    rw [hsr] at HTR
    have htr : (sr.toList == []) = (trimL tx == []) := by rw [← hsr]; exact str_eq _ []
    clear hsr
    go_wp2_with fail
    with_reducible refine (HTR.out w3 HB3.out).mono ?_
    rintro e w4 ⟨rfl, hb⟩
    have HB4 := Lib.hid (below_then HB3.out hb)
    have HOC4 := Lib.hid (outside_calls (HGB.out.below (below_then HBB3.out hb)))
    have hob : decide (g.opens.reverse = []) = true := by rw [HO.out]; rfl
    rw [hob] at HOC4
    clear hb hob
    by_cases ht : trimL tx = []
    · have hte : (sr.toList == []) = true := by rw [htr, ht]; rfl
      have HF : Hid (r = .ok g) := Lib.hid (by
        rw [← HR.out, charT, if_neg (fun hh => by rcases hh.2 with h1 | h1
                                                  · exact H5.out h1
                                                  · exact h1 ht), if_pos (.inl HO.out)])
      clear ht htr
      go_wp2_with fail
      with_reducible refine HOC4.out.mono ?_
      rintro e w5 ⟨rfl, hb⟩
      have HB5 := Lib.hid (below_then HB4.out hb)
      clear hb
      go_wp2_with fail
      go_ret
      rw [HF.out]
      exact ⟨keeps_below HB5.out _, rfl, S, v, ov, ps, bs, HGR.out.below HB5.out, fun k hk => Nat.lt_of_lt_of_le (HSS.out k hk) HB5.out.size, fun _ h => h⟩
    · have hte : (sr.toList == []) = false := by rw [htr]; exact beq_eq_false_iff_ne.2 ht
      have HF : Hid (r = .error 2) := Lib.hid (by rw [← HR.out, charT, if_pos ⟨HO.out, .inr ht⟩])
      clear ht htr
      go_wp2_with fail
      go_ret
      rw [HF.out]
      exact ⟨keeps_below HB4.out _, rfl⟩
  have hob : decide (g.opens.reverse = []) = false := decide_eq_false (fun h => ho (List.reverse_eq_nil_iff.1 h))
  have HOF := Lib.hid hob
  rw [hob] at HOC
  have HO := Lib.hid ho
  clear ho hob
  go_wp2_with fail
  with_reducible refine HOC.out.mono ?_
  rintro e w3 ⟨rfl, hb⟩
  have HB3 := Lib.hid (below_then HB2.out hb)
  have HBB3 := Lib.hid (below_then HBB2.out hb)
  replace hk3 := (hb.cell (lt_of_cell hk3)).trans hk3
  have HOC3 := Lib.hid (outside_calls (HGB.out.below HBB3.out))
  rw [HOF.out] at HOC3
  clear hb HOC hk0
  go_wp2_with fail
  with_reducible refine HOC3.out.mono ?_
  rintro e w5 ⟨rfl, hb⟩
  have HB5 := Lib.hid (below_then HB3.out hb)
  have HBB5 := Lib.hid (below_then HBB3.out hb)
  replace hk3 := (hb.cell (lt_of_cell hk3)).trans hk3
  clear hb HOC3
  by_cases htx : tx = []
  · have hte : (st.toList == []) = true := by rw [HSE.out, htx]; rfl
    have HF : Hid (r = .ok g) := Lib.hid (by rw [← HR.out, charT, if_neg (fun hh => HO.out hh.1), if_pos (.inr htx)])
    clear htx
    go_wp2_with fail
    go_ret
    rw [HF.out]
    exact ⟨keeps_below HB5.out _, rfl, S, v, ov, ps, bs, HGR.out.below HB5.out, fun k hk => Nat.lt_of_lt_of_le (HSS.out k hk) HB5.out.size, fun _ h => h⟩
  have hte : (st.toList == []) = false := by rw [HSE.out]; exact beq_eq_false_iff_ne.2 htx
  have HF0 : Hid (r = match onT tx g.inner with | some ks => .ok (g.setInner ks) | none => match g.mayS 2 0 with | some c => .error c | none => .ok (g.putS (.mk 2 [] tx [] []))) := Lib.hid (by
    rw [← HR.out, charT, if_neg (fun hh => HO.out hh.1), if_neg (fun hh => hh.elim HO.out htx)])
  clear htx
  rcases HPV.out with ⟨hr0, rfl⟩ | ⟨rs, r0, gn, cn, hrs, hvl, rfl⟩
  · have HF1 : Hid (r = match g.mayS 2 0 with | some c => .error c | none => .ok (g.putS (.mk 2 [] tx [] []))) := Lib.hid (by
      have h1 : g.inner = [] := by
        rw [← inner_eq]
        exact List.length_eq_zero_iff.1 (by rw [← HII.out.nds.1, hr0]; rfl)
      rw [HF0.out, h1]
      rfl)
    clear hr0
    have HPUT : Hid (Calls Tryz.prog 68 #[.pointer (some ⟨gb, 0, none⟩), .agg #[.int .i64 2, .string ⟨#[]⟩, .string st, .slice none 0 0, .slice none 0 0]] w5 (PutOut w5 (fun q => q = gb ∨ some q ∈ bs ∨ ov.ownBlock = some q) S n0 gb (innerK g.top g.opens.reverse).length (g.mayS 2 0) (g.putS (.mk 2 [] tx [] [])))) := Lib.hid (by
      have h := put_calls (HGR.out.below HB5.out) (fun k hk => Nat.lt_of_lt_of_le (HSS.out k hk) HB5.out.size) HN.out HNC.out (k := 2) (nm := []) (tx := tx) (aa := none) (ac := 0) (ats := []) (AttIn.nil w5 S) (by decide) HIN.out
      rw [HST.out] at h
      exact h)
    go_wp2_with fail
    refine HPUT.out.mono ?_
    rintro e w6 ⟨hkp, hm⟩
    have HB6 : Hid (Keeps (fun q => ¬ S q) w w6) := Lib.hid ((keeps_below HB5.out _).trans hkp (fun q hq => .inl (HGR.out.own_out q hq)))
    clear hkp HPUT
    rcases mayS_cases g 2 0 with hq | hq | hq
    · rw [hq] at hm
      have HF : Hid (r = .error 8) := Lib.hid (by rw [HF1.out, hq])
      obtain rfl : e = .returned (.int .i64 8) := hm
      clear hq
      go_wp2_with fail
      go_ret
      rw [HF.out]
      exact ⟨HB6.out, rfl⟩
    · rw [hq] at hm
      have HF : Hid (r = .error 2) := Lib.hid (by rw [HF1.out, hq])
      obtain rfl : e = .returned (.int .i64 2) := hm
      clear hq
      go_wp2_with fail
      go_ret
      rw [HF.out]
      exact ⟨HB6.out, rfl⟩
    · rw [hq] at hm
      have HF : Hid (r = .ok (g.putS (.mk 2 [] tx [] []))) := Lib.hid (by rw [HF1.out, hq])
      obtain ⟨rfl, S2, v2, ov2, ps2, bs2, hg2, hS2, hSS2, _⟩ := hm
      have HG2 := Lib.hid (And.intro hg2 (And.intro hS2 hSS2))
      clear hq hg2 hS2 hSS2
      go_wp2_with fail
      go_ret
      rw [HF.out]
      exact ⟨HB6.out, rfl, S2, v2, ov2, ps2, bs2, HG2.out.1, HG2.out.2.1, HG2.out.2.2⟩
  obtain ⟨m, hm0⟩ : ∃ z, rs.length = z := ⟨_, rfl⟩
  have HM0 := Lib.hid hm0
  have hlen : (innerK g.top g.opens.reverse).length = rs.length + 1 := by rw [← HII.out.nds.1, hrs, List.length_append]; rfl
  obtain ⟨K, n, hKn, hKl⟩ := list_snoc hlen
  have hnds := HII.out.nds
  rw [hrs, hKn] at hnds
  obtain ⟨hn1, hn2⟩ := hnds.split
  obtain ⟨k1, k2, k3, k4, _⟩ := hn2.kids
  have hrow := HII.out.row
  rw [hrs, hvl] at hrow
  have hci := hrow.cells (g := gn) rfl (last_at rs r0)
  rw [hm0] at hci
  have hkc := (HBB5.out.cell (lt_of_cell hci.1)).trans hci.1
  have hkt := (HBB5.out.cell (lt_of_cell hci.2.2.1)).trans hci.2.2.1
  rw [hm0]
  have HKN := Lib.hid hKn
  have HRS := Lib.hid hrs
  have HVL := Lib.hid hvl
  have HN1 := Lib.hid hn1
  have HN2 := Lib.hid hn2
  have HROW := Lib.hid hrow
  have HK1 := Lib.hid k1
  have HK3T := Lib.hid k3
  obtain ⟨rk, hrk⟩ : ∃ z, r0.kind = z := ⟨_, rfl⟩
  obtain ⟨so, hso⟩ : ∃ z, strB r0.text = z := ⟨_, rfl⟩
  rw [hrk] at hkc
  rw [hso] at hkt
  have HRK := Lib.hid hrk
  have HSO := Lib.hid hso
  clear hlen hKn hKl hnds hn1 hn2 k1 k2 k3 k4 hrow hci hrs hvl hm0 hrk hso
  by_cases h2 : rk = 2
  · have hk2 : ((rk : Int) == 2) = true := by rw [h2]; rfl
    have HF : Hid (r = .ok (g.setInner (K ++ [.mk n.kind n.name (n.text ++ tx) n.attrs n.kids]))) := Lib.hid (by
      rw [HF0.out, ← inner_eq, HKN.out, onT_snoc, if_pos (by rw [← HK1.out, HRK.out]; exact h2)])
    have hcat : ¬ (9223372036854775807 < so.size + st.size) := by
      have e1 := HTL.out n (by rw [HKN.out]; simp)
      have e2 := HTX.out
      rw [← HSO.out, ← HST.out, strB_size, strB_size, HK3T.out]
      omega
    clear h2
    go_upto_region 8 with (fail)
    obtain ⟨y0, hy0⟩ : ∃ W, w5.drew = W := ⟨_, rfl⟩
    have hb50 : Below w5.heap.size w5 y0 := by rw [← hy0]; exact ⟨rfl, rfl, rfl, Nat.le_refl _, fun _ _ => rfl⟩
    have hc2 := (hb50.cell (lt_of_cell hkt)).trans hkt
    have hc3 := (hb50.cell (lt_of_cell hk3)).trans hk3
    have hbb0 := below_then HBB5.out hb50
    have hrow0 := HROW.out.keep (keeps_below hbb0 Non) (fun _ _ h => h)
    have hf2 : y0.frozen? ⟨gn, m * 5 + 2, none⟩ = false := by
      have := hrow0.row
      rw [List.length_append, List.length_singleton] at this
      exact this.frozenAt _
    have HFIN : Hid (TakeOut w S n0 gb r (.returned (.int .i64 0)) (y0.setCell ⟨gn, m * 5 + 2, none⟩ (.string (so ++ st)))) := Lib.hid (by
      have hwb0 : w.heap.size ≤ wb.heap.size := HBB.out.size
      have kb : Keeps (fun q => q = gn) wb (y0.setCell ⟨gn, m * 5 + 2, none⟩ (.string (so ++ st))) := (keeps_below hbb0 (fun q => q = gn)).setCell (p := ⟨gn, m * 5 + 2, none⟩) (.inl rfl) _
      have hgv : vl.ownBlock = some gn := by rw [HVL.out]; rfl
      have hSg : ∀ k, S k → ¬ k = gn := fun k hk e => (HII.out.nvS gn hgv).1 (e ▸ hk)
      have hst := hrow0.row
      rw [List.length_append, List.length_singleton] at hst
      have hst2 := (hst.stored (m * 5 + 2) (.string (so ++ st))).1
      rw [← HM0.out] at hst2
      rw [← HSO.out, ← HST.out, strB_app, nrC_text] at hst2
      have hlv : Lv (y0.setCell ⟨gn, m * 5 + 2, none⟩ (.string (so ++ st))) n0 vl (rs ++ [⟨r0.kind, r0.name, r0.text ++ tx, r0.av, r0.kv⟩]) := ⟨by
        rw [List.length_append, List.length_singleton, HVL.out, ← HM0.out, ← HSO.out, ← HST.out, strB_app]
        exact hst2, HII.out.row.new⟩
      obtain ⟨v4, bs4, h4⟩ := HII.out.put _ (fun q => q = gn) vl (rs ++ [⟨r0.kind, r0.name, r0.text ++ tx, r0.av, r0.kv⟩]) (K ++ [.mk n.kind n.name (r0.text ++ tx) n.attrs n.kids]) kb (fun q hq => .inr (.inl (by rw [hq]; exact hgv))) (by
        rw [setCell_id HII.out.cel b]
        exact kb.block b (lt_of_cell HII.out.cel) (fun e => HII.out.nv (by rw [hgv, e]))) hlv (fun q e => .inl e) ((HN1.out.keep kb hSg (fun _ h => h)).snoc ((HN2.out.keep kb hSg (fun _ h => h)).onText (r0.text ++ tx)))
      obtain ⟨e1, e2, e3⟩ := set_eq g (K ++ [.mk n.kind n.name (r0.text ++ tx) n.attrs n.kids])
      rw [e1, e2, ← e3] at h4
      rw [HF.out, ← HK3T.out]
      refine ⟨(keeps_below HBB.out _).trans kb (fun q hq => .inl (fun hs => hSg q hs hq)), rfl, S, v4, ov, ps, bs4, h4, fun k hk => Nat.lt_of_lt_of_le (HSS.out k hk) (Nat.le_trans hwb0 kb.size), fun _ h => h⟩)
    clear hb50 hbb0 hrow0 hk3 hkt hkc
    refine wp_region_z (S := fun W => W.cell? ⟨gn, m * 5 + 2, none⟩ = some (.string so) ∧ W.cell? ⟨w.heap.size, 3, none⟩ = some (.string st)) 9 (by kernel_rfl) (by rw [hy0]; exact ⟨hc2, hc3⟩) (fun hHeld => ?_)
    rw [hy0] at hHeld ⊢
    refine wpAnyZ_take (i := 0) (f := 10) (v := ?_) rfl (by kernel_rfl) (by kernel_rfl) (by kernel_rfl) (by kernel_rfl) (by kernel_rfl) (fun _ _ _ h => h) (Or.inl ⟨by rfl, ?_⟩) (by assumption) ?_
    rotate_left
    · intro W hS
      try dsimp only at hS
      try obtain ⟨hs0, hs1⟩ := hS
      go_simp
      try with_reducible rfl
    simp only [Act.put, List.setIfInBounds_toArray]
    refine wpAnyZ_take (i := 1) (f := 10) (v := ?_) rfl (by kernel_rfl) (by kernel_rfl) (by kernel_rfl) (by kernel_rfl) (by kernel_rfl) (fun _ _ _ h => h) (Or.inl ⟨by rfl, ?_⟩) (by assumption) ?_
    rotate_left
    · intro W hS
      try dsimp only at hS
      try obtain ⟨hs0, hs1⟩ := hS
      go_simp
      try with_reducible rfl
    simp only [Act.put]
    refine wpAnyZ_take (i := 2) (f := 10) (v := ?_) rfl (by kernel_rfl) (by kernel_rfl) (by kernel_rfl) (by kernel_rfl) (by kernel_rfl) (fun _ _ _ h => h) (Or.inl ⟨by rfl, ?_⟩) (by assumption) ?_
    rotate_left
    · intro W hS
      try dsimp only at hS
      try obtain ⟨hs0, hs1⟩ := hS
      go_simp
      try with_reducible rfl
    simp only [Act.put]
    refine wpAnyZ_take (i := 3) (f := 10) (v := ?_) rfl (by kernel_rfl) (by kernel_rfl) (by kernel_rfl) (by kernel_rfl) (by kernel_rfl) (fun _ _ _ h => h) (Or.inl ⟨by rfl, ?_⟩) (by assumption) ?_
    rotate_left
    · intro W hS
      try dsimp only at hS
      try obtain ⟨hs0, hs1⟩ := hS
      go_simp
      try with_reducible rfl
    simp only [Act.put]
    refine wpAnyZ_take (i := 4) (f := 10) (v := ?_) rfl (by kernel_rfl) (by kernel_rfl) (by kernel_rfl) (by kernel_rfl) (by kernel_rfl) (fun _ _ _ h => h) (Or.inl ⟨by rfl, ?_⟩) (by assumption) ?_
    rotate_left
    · intro W hS
      try dsimp only at hS
      try obtain ⟨hs0, hs1⟩ := hS
      go_simp
      try with_reducible rfl
    simp only [Act.put]
    refine wpAnyZ_take (i := 5) (f := 10) (v := ?_) rfl (by kernel_rfl) (by kernel_rfl) (by kernel_rfl) (by kernel_rfl) (by kernel_rfl) (fun _ _ _ h => h) (Or.inl ⟨by rfl, ?_⟩) (by assumption) ?_
    rotate_left
    · intro W hS
      try dsimp only at hS
      try obtain ⟨hs0, hs1⟩ := hS
      go_simp
      try with_reducible rfl
    simp only [Act.put]
    refine wpAnyZ_take (i := 6) (f := 10) (v := ?_) rfl (by kernel_rfl) (by kernel_rfl) (by kernel_rfl) (by kernel_rfl) (by kernel_rfl) (fun _ _ _ h => h) (Or.inl ⟨by rfl, ?_⟩) (by assumption) ?_
    rotate_left
    · intro W hS
      try dsimp only at hS
      try obtain ⟨hs0, hs1⟩ := hS
      go_simp
      try with_reducible rfl
    simp only [Act.put]
    refine wpAnyZ_take (i := 7) (f := 10) (v := ?_) rfl (by kernel_rfl) (by kernel_rfl) (by kernel_rfl) (by kernel_rfl) (by kernel_rfl) (fun _ _ _ h => h) (Or.inl ⟨by rfl, ?_⟩) (by assumption) ?_
    rotate_left
    · intro W hS
      try dsimp only at hS
      try obtain ⟨hs0, hs1⟩ := hS
      go_simp
      try with_reducible rfl
    simp only [Act.put]
    refine wpAnyZ_take (i := 8) (f := 10) (v := ?_) rfl (by kernel_rfl) (by kernel_rfl) (by kernel_rfl) (by kernel_rfl) (by kernel_rfl) (fun _ _ _ h => h) (Or.inl ⟨by rfl, ?_⟩) (by assumption) ?_
    rotate_left
    · intro W hS
      try dsimp only at hS
      try obtain ⟨hs0, hs1⟩ := hS
      go_simp
      try with_reducible rfl
    simp only [Act.put]
    refine wpAnyZ_last (by kernel_rfl) rfl (by kernel_rfl) (fun K hK => ?_)
    go_simp
    refine hK.out _ _ ?_
    clear hK K
    try simp only [Act.put, List.setIfInBounds_toArray, List.set_cons_zero, List.set_cons_succ]
    go_wp2_with fail
    go_ret
    exact HFIN.out
  · have hk2 : ((rk : Int) == 2) = false := by rw [beq_eq_false_iff_ne]; omega
    have HF1 : Hid (r = match g.mayS 2 0 with | some c => .error c | none => .ok (g.putS (.mk 2 [] tx [] []))) := Lib.hid (by
      rw [HF0.out, ← inner_eq, HKN.out, onT_snoc, if_neg (by rw [← HK1.out, HRK.out]; exact h2)])
    clear h2
    have HPUT : Hid (Calls Tryz.prog 68 #[.pointer (some ⟨gb, 0, none⟩), .agg #[.int .i64 2, .string ⟨#[]⟩, .string st, .slice none 0 0, .slice none 0 0]] w5 (PutOut w5 (fun q => q = gb ∨ some q ∈ bs ∨ ov.ownBlock = some q) S n0 gb (innerK g.top g.opens.reverse).length (g.mayS 2 0) (g.putS (.mk 2 [] tx [] [])))) := Lib.hid (by
      have h := put_calls (HGR.out.below HB5.out) (fun k hk => Nat.lt_of_lt_of_le (HSS.out k hk) HB5.out.size) HN.out HNC.out (k := 2) (nm := []) (tx := tx) (aa := none) (ac := 0) (ats := []) (AttIn.nil w5 S) (by decide) HIN.out
      rw [HST.out] at h
      exact h)
    go_wp2_with fail
    refine HPUT.out.mono ?_
    rintro e w6 ⟨hkp, hm⟩
    have HB6 : Hid (Keeps (fun q => ¬ S q) w w6) := Lib.hid ((keeps_below HB5.out _).trans hkp (fun q hq => .inl (HGR.out.own_out q hq)))
    clear hkp HPUT
    rcases mayS_cases g 2 0 with hq | hq | hq
    · rw [hq] at hm
      have HF : Hid (r = .error 8) := Lib.hid (by rw [HF1.out, hq])
      obtain rfl : e = .returned (.int .i64 8) := hm
      clear hq
      go_wp2_with fail
      go_ret
      rw [HF.out]
      exact ⟨HB6.out, rfl⟩
    · rw [hq] at hm
      have HF : Hid (r = .error 2) := Lib.hid (by rw [HF1.out, hq])
      obtain rfl : e = .returned (.int .i64 2) := hm
      clear hq
      go_wp2_with fail
      go_ret
      rw [HF.out]
      exact ⟨HB6.out, rfl⟩
    · rw [hq] at hm
      have HF : Hid (r = .ok (g.putS (.mk 2 [] tx [] []))) := Lib.hid (by rw [HF1.out, hq])
      obtain ⟨rfl, S2, v2, ov2, ps2, bs2, hg2, hS2, hSS2, _⟩ := hm
      have HG2 := Lib.hid (And.intro hg2 (And.intro hS2 hSS2))
      clear hq hg2 hS2 hSS2
      go_wp2_with fail
      go_ret
      rw [HF.out]
      exact ⟨HB6.out, rfl, S2, v2, ov2, ps2, bs2, HG2.out.1, HG2.out.2.1, HG2.out.2.2⟩

end Go.Proofs.YtfonflbpkbibbaaGreatDoor
