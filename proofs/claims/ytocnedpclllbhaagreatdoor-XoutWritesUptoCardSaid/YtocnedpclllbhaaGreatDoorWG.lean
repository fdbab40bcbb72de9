/-
 An element's tag, written, and its level opened. Conditions: the printer, its levels and the node lie in memory, the node in blocks that were there before; what is written is short.
-/
import Derived.Test.YtocnedpclllbhaaGreatDoorWF
import Derived.Test.YtocnedpclllbhaaGreatDoorXPt
namespace Go.Proofs.YtocnedpclllbhaaGreatDoor
open Go.RowKit Go.Lib Go.Joins

theorem strB_join (a b : List UInt8) : strB a ++ strB b = strB (a ++ b) := by
  apply ByteArray.ext
  simp [strB, ByteArray.data_append]
/-- Texts put, out of a new row. -/
theorem put_here {W : World} {B b : Nat} {out F : List UInt8} {o : Value} {cells : Array Value} (h : PrAt W B b out o) (hBw : B ≤ W.heap.size) (l : List (List UInt8)) (m : Nat) (hm : l.length = m) (hm2 : m ≤ 1000000) (hc : cells = (l.map fun x => Value.string (strB x)).toArray) (hF : out ++ l.flatten = F) (hs : F.length ≤ 70368744177664) : Calls Tryz.prog 30 #[.pointer (some ⟨b, 0, none⟩), .slice (some ⟨W.heap.size, 0, none⟩) m m] (W.alloc (.cells cells 9)) (POut W B b F o) := by
  have hba : Below W.heap.size W (W.alloc (.cells cells 9)) := (Below.refl _ _).alloc (Nat.le_refl _) _
  have h1 := pput_calls (h.below hba) (l := l) (g := W.heap.size) (by rw [hc]; exact TxRow.new W l) (by have := h.lt; omega) (by omega) (by rw [← List.length_append, hF]; exact hs) (Nat.le_trans hBw hba.size)
  rw [hF, hm] at h1
  refine h1.mono ?_
  rintro e w' ⟨h2, h3, h4⟩
  exact ⟨h2, h3, ((Wr.refl B b W).below hBw hba).trans h4⟩
/-- Levels as cells: what is left of each, and its end. -/
def lvC : List (Value × List UInt8) → List Value
  | [] => []
  | x :: l => x.1 :: .string (strB x.2) :: lvC l
theorem lvC_len : ∀ l, (lvC l).length = l.length * 2
  | [] => rfl
  | x :: l => by rw [lvC, List.length_cons, List.length_cons, lvC_len l, List.length_cons]; omega
theorem lvC_app : ∀ a b, lvC (a ++ b) = lvC a ++ lvC b
  | [], _ => rfl
  | x :: a, b => by rw [List.cons_append, lvC, lvC, lvC_app a b]; rfl
theorem lvC_at : ∀ {l : List (Value × List UInt8)} {i : Nat} {x : Value × List UInt8}, l[i]? = some x → (lvC l)[i * 2]? = some x.1 ∧ (lvC l)[i * 2 + 1]? = some (.string (strB x.2))
  | [], _, _, h => by simp at h
  | y :: l, 0, x, h => by
    simp only [List.getElem?_cons_zero, Option.some.injEq] at h
    subst h
    exact ⟨rfl, rfl⟩
  | y :: l, i + 1, x, h => by
    rw [List.getElem?_cons_succ] at h
    have := lvC_at h
    rw [show (i + 1) * 2 = i * 2 + 1 + 1 by omega]
    exact this
theorem infoLv : (Tryz.prog.info? 61).map (fun i => (i.zero, i.size, i.bytes)) = some (some (.agg #[.slice none 0 0, .string ⟨#[]⟩]), 2, 40) := by kernel_rfl
/-- The levels' row, of the call's own: the outermost level first. -/
structure LvW (w : World) (B : Nat) (o : Value) (l : List (Value × List UInt8)) : Prop where
  row : w.ownsRow 0 61 2 o l.length (lvC l)
  new : ∀ k, o.ownBlock = some k → B ≤ k
theorem LvW.below {w w' : World} {B : Nat} {o : Value} {l : List (Value × List UInt8)} (h : LvW w B o l) (hk : Below w.heap.size w w') : LvW w' B o l := ⟨ownsRow_keep h.row (keeps_below hk Non) (fun _ _ e => e), h.new⟩
theorem LvW.wr {w w' : World} {B b : Nat} {o o2 : Value} {out : List UInt8} {l : List (Value × List UInt8)} (h : LvW w B o l) (hp : PrAt w B b out o2) (hk : Wr B b w w') : LvW w' B o l := by
  refine ⟨⟨h.row.1, ?_⟩, h.new⟩
  rcases h.row.2 with h1 | ⟨g, cap, cur, h1, h2, h3, h4⟩
  · exact .inl h1
  · refine .inr ⟨g, cap, cur, h1, h2, hk.oth g _ h3 (fun e => ?_) (fun c fz e => by injection e with _ e2 _; revert e2; decide), h4⟩
    obtain ⟨p, v, _, hc, _⟩ := hp.cell
    rw [Option.some.inj e, hc] at h3
    injection h3 with h3
    injection h3 with _ h5 _
    revert h5
    decide
theorem LvW.ne {w : World} {B b : Nat} {o o2 : Value} {out : List UInt8} {l : List (Value × List UInt8)} (h : LvW w B o l) (hp : PrAt w B b out o2) : ∀ k, o.ownBlock = some k → ¬ k = b := by
  intro k hk e
  rcases h.row.2 with ⟨h1, _⟩ | ⟨g, cap, cur, h1, h2, h3, h4⟩
  · rw [h1] at hk; cases hk
  · rw [h1] at hk
    obtain rfl : g = k := Option.some.inj hk
    obtain ⟨p, v, _, hc, _⟩ := hp.cell
    rw [e, hc] at h3
    injection h3 with h3
    injection h3 with _ h5 _
    revert h5
    decide
theorem LvW.form {w : World} {B : Nat} {o : Value} {l : List (Value × List UInt8)} (h : LvW w B o l) : ∃ a c, o = .slice a l.length c := by
  rcases h.row.2 with ⟨h1, h0⟩ | ⟨g, cap, cur, h1, _⟩
  · exact ⟨none, 0, by rw [h1, h0]⟩
  · exact ⟨_, _, h1⟩
/-- What a tag leaves. -/
def TagOut (w : World) (B b : Nat) (out : List UInt8) (o : Value) (ls : List (Value × List UInt8)) (r : Nr) (t : Tr) (e : Ending) (w' : World) : Prop :=
  e = .returned (.tuple #[]) ∧ Below B w w' ∧ ((t.kids = [] ∧ PrAt w' B b (out ++ wrN t) o ∧ LvW w' B o ls) ∨
    (t.kids ≠ [] ∧ ∃ o2, PrAt w' B b (out ++ 60 :: (t.name ++ (attrsB t.attrs ++ [62]))) o2 ∧ LvW w' B o2 (ls ++ [(r.kv, 60 :: 47 :: (t.name ++ [62]))])))
theorem attrs_take {l : List (List UInt8 × List UInt8)} {i : Nat} {x : List UInt8 × List UInt8} (h : l[i]? = some x) : attrsB (l.take (i + 1)) = attrsB (l.take i) ++ attrB x := by
  rw [List.take_add_one, h]
  unfold attrsB
  rw [List.flatMap_append]
  simp
theorem attrs_part (l : List (List UInt8 × List UInt8)) (i : Nat) : (attrsB (l.take i)).length ≤ (attrsB l).length := by
  have h := congrArg (fun z => (attrsB z).length) (List.take_append_drop i l)
  simp only [attrsB, List.flatMap_append, List.length_append] at h
  unfold attrsB
  omega
theorem attrs_few : ∀ l : List (List UInt8 × List UInt8), l.length ≤ (attrsB l).length
  | [] => Nat.le_refl _
  | a :: l => by
    have h1 := attrs_few l
    show l.length + 1 ≤ (attrB a ++ attrsB l).length
    rw [List.length_append]
    unfold attrB
    rw [List.length_cons]
    omega
/-- The printer, where the levels' row has grown. -/
theorem PrAt.grown {w w' : World} {B b : Nat} {out : List UInt8} {o : Value} {l : List (Value × List UInt8)} (h : PrAt w B b out o) (hl : LvW w B o l) (hk : Keeps (fun q => o.ownBlock = some q) w w') : PrAt w' B b out o := by
  have hne := hl.ne h
  obtain ⟨hB, p, v, hp, hc, hown, hz⟩ := h
  refine ⟨hB, p, v, hp, block_keep hc hk (fun e => hne b e rfl), ownsRow_keep hown hk (fun k e1 e2 => ?_), hz⟩
  obtain ⟨c1, f1, h1⟩ := Lib.ownsRow_kind hown k e1
  obtain ⟨c2, f2, h2⟩ := Lib.ownsRow_kind hl.row k e2
  rw [h1] at h2
  injection h2 with h2
  injection h2 with _ h3 _
  revert h3
  decide
theorem PrAt.put {w : World} {B b : Nat} {out : List UInt8} {o : Value} (h : PrAt w B b out o) (o2 : Value) : PrAt (w.setCell ⟨b, 2, none⟩ o2) B b out o2 := by
  obtain ⟨hB, p, v, hp, hc, hown, hz⟩ := h
  refine ⟨hB, p, v, hp, ?_, ownsRow_keep hown ((Keeps.refl (One b) w).setCell (p := ⟨b, 2, none⟩) (.inl rfl) _) (fun k e hk => own_ne hown hc (by rw [e]; exact congrArg some hk)), hz⟩
  simp [World.setCell, Array.getElem?_modify, hc]
set_option maxRecDepth 100000 in
set_option maxHeartbeats 8000000 in
theorem ptag_calls {w0 w : World} {b nb no : Nat} {out : List UInt8} {o : Value} {ls : List (Value × List UInt8)} {r : Nr} {t : Tr} (h : PrAt w w0.heap.size b out o) (hl : LvW w w0.heap.size o ls) (hb : Below w0.heap.size w0 w) (hn : NrIn w0 nb no r) (ht : NodeIn w0 Any r t) (hk : t.kind = 1)
    (h1 : out.length ≤ 1073741824) (h2 : (wrN t).length ≤ 1073741824) (h3 : ls.length ≤ 1000000000) : Calls Tryz.prog 51 #[.pointer (some ⟨b, 0, none⟩), .pointer (some ⟨nb, no, none⟩)] w (TagOut w w0.heap.size b out o ls r t) := by
  obtain ⟨k, nm, tx, ats, ks⟩ := t
  obtain rfl : k = 1 := hk
  obtain ⟨hk1, hk2, hk3, ⟨aa, ac, hav, hac, hacm, _, hcells⟩, rows, ⟨ka, kc, hkv, hkc, hkm, _, _⟩, hrl, _⟩ := ht.kids
  change r.name = nm at hk2
  change r.av = .slice aa ats.length ac at hav
  change ats.length ≤ ac at hac
  change ats = [] ∨ _ at hcells
  change rows.length = ks.length at hrl
  rw [hrl] at hkv hkc
  obtain ⟨B, hB⟩ : ∃ B, w0.heap.size = B := ⟨_, rfl⟩
  have hbase : B ≤ w.heap.size := by rw [← hB]; exact hb.size
  obtain ⟨na, hna⟩ : ∃ n, ats.length = n := ⟨_, rfl⟩
  obtain ⟨nk, hnk⟩ : ∃ n, ks.length = n := ⟨_, rfl⟩
  rw [hna] at hav hac
  rw [hnk] at hkv hkc
  rw [hB] at h hl ⊢
  have HNR := Lib.hid hn
  have HB0 := Lib.hid hb
  have HB := Lib.hid hB
  have HBASE := Lib.hid hbase
  have HP := Lib.hid h
  have HLV := Lib.hid hl
  have HAV := Lib.hid hav
  have HKV := Lib.hid hkv
  have HKC := Lib.hid (And.intro hkc hkm)
  have HAC := Lib.hid (And.intro hac hacm)
  have HNM := Lib.hid hk2
  have HCL := Lib.hid hcells
  have HNA := Lib.hid hna
  have HNK := Lib.hid hnk
  have HLS := Lib.hid h3
  have hwr := wr_mk 1 nm tx ats ks
  rw [if_pos rfl] at hwr
  have hw0 : nm.length + (attrsB ats).length + 2 ≤ (wrN (.mk 1 nm tx ats ks)).length := by
    rw [hwr, List.length_cons, List.length_append, List.length_append]
    split <;> (simp only [List.length_cons, List.length_nil]; omega)
  have HLEN : Hid (out.length ≤ 1073741824 ∧ nm.length + (attrsB ats).length + 2 ≤ 1073741824) := Lib.hid ⟨h1, by omega⟩
  have HWR := Lib.hid hwr
  obtain ⟨sn, hsn⟩ : ∃ s, strB nm = s := ⟨_, rfl⟩
  have HSN := Lib.hid hsn
  have HCUR : Hid (∀ W, Below B w W → NrIn W nb no r) := Lib.hid (fun W hW => hn.keep (keeps_below (hb.trans (hB ▸ hW)) Non) (fun e => e))
  obtain ⟨y0, y1, y2, y3, y4⟩ := HCUR.out w (Below.refl _ _)
  rw [hk2, hsn] at y1
  have HPUT : Hid (Calls Tryz.prog 30 #[.pointer (some ⟨b, 0, none⟩), .slice (some ⟨w.heap.size, 0, none⟩) 2 2] (w.alloc (.cells #[.string ⟨#[60]⟩, .string sn] 9)) (POut w B b (out ++ 60 :: nm) o)) := Lib.hid (put_here h hbase [[60], nm] 2 rfl (by decide) (by rw [← hsn]; rfl) (by simp) (by rw [List.length_append, List.length_cons]; have := HLEN.out; omega))
  clear h hl hb hn ht hav hac hacm hkv hkc hkm hcells hrl hna hnk h1 h2 h3 hwr hw0 hsn hk1 hk2 hk3 hB hbase
  go_enter Tryz.func51, Tryz.ntmps51
  go_wp2_with fail
  with_reducible refine HPUT.out.mono ?_
  rintro e w1 ⟨rfl, hp1, hw1⟩
  have HP1 := Lib.hid hp1
  have HL1 := Lib.hid (HLV.out.wr HP.out hw1)
  have HB1 := Lib.hid hw1.low
  obtain ⟨y0, y1, y2, y3, y4⟩ := HCUR.out w1 hw1.low
  rw [HAV.out] at y3
  clear hp1 hw1
  go_wp2_with fail
  go_loopg [18] na (fun gk s wr => ∃ i : Nat, s = .int .i64 (i : Int) ∧ gk + i = na ∧ PrAt wr B b (out ++ 60 :: (nm ++ attrsB (ats.take i))) o ∧ LvW wr B o ls ∧ Below B w wr)
  case atStart => exact ⟨0, rfl, rfl, by simpa [attrsB] using HP1.out, HL1.out, HB1.out⟩
  case round =>
    obtain ⟨i, rfl, hgi, hp, hlv, hbw⟩ := hrel
    have HPR := Lib.hid hp
    have HLR := Lib.hid hlv
    have HBR := Lib.hid hbw
    obtain ⟨y0, y1, y2, y3, y4⟩ := HCUR.out wr hbw
    clear hp hlv hbw
    cases gk with
    | zero =>
      obtain rfl : i = na := by omega
      have hge : ¬ ((i : Int) < (i : Int)) := by omega
      have HPA : Hid (PrAt wr B b (out ++ 60 :: (nm ++ attrsB ats)) o) := Lib.hid (by
        have h1 := HPR.out
        rw [List.take_of_length_le (by rw [HNA.out]; exact Nat.le_refl _)] at h1
        exact h1)
      rw [HKV.out] at y4
      rw [HNM.out, HSN.out] at y1
      have hbaseR : B ≤ wr.heap.size := Nat.le_trans HBASE.out HBR.out.size
      clear HPR
      by_cases hks : nk = 0
      · subst hks
        have HKS : Hid (ks = []) := Lib.hid (List.length_eq_zero_iff.1 HNK.out)
        have HPUT2 : Hid (Calls Tryz.prog 30 #[.pointer (some ⟨b, 0, none⟩), .slice (some ⟨wr.heap.size, 0, none⟩) 1 1] (wr.alloc (.cells #[.string ⟨#[47, 62]⟩] 9)) (POut wr B b (out ++ wrN (.mk 1 nm tx ats ks)) o)) := Lib.hid (put_here HPA.out hbaseR [[47, 62]] 1 rfl (by decide) rfl (by rw [HWR.out, HKS.out]; simp) (by rw [List.length_append, HWR.out, HKS.out]; simp; have := HLEN.out; omega))
        go_wp2_with fail
        with_reducible refine HPUT2.out.mono ?_
        rintro e w3 ⟨rfl, hp3, hw3⟩
        have HFIN : Hid (TagOut w B b out o ls r (.mk 1 nm tx ats ks) (.returned (.tuple #[])) w3) := Lib.hid ⟨rfl, HBR.out.trans hw3.low, .inl ⟨HKS.out, hp3, HLR.out.wr HPA.out hw3⟩⟩
        clear hp3 hw3
        go_wp2_with fail
        go_end0
        exact HFIN.out
      · have hkz : ((nk : Int) == 0) = false := beq_eq_false_iff_ne.2 (by omega)
        have hkn : ¬ (nk : Int) = 0 := by omega
        have HKS : Hid (ks ≠ []) := Lib.hid (fun e => hks (by rw [← HNK.out, e]; rfl))
        have HPUT2 : Hid (Calls Tryz.prog 30 #[.pointer (some ⟨b, 0, none⟩), .slice (some ⟨wr.heap.size, 0, none⟩) 1 1] (wr.alloc (.cells #[.string ⟨#[62]⟩] 9)) (POut wr B b (out ++ 60 :: (nm ++ (attrsB ats ++ [62]))) o)) := Lib.hid (put_here HPA.out hbaseR [[62]] 1 rfl (by decide) rfl (by simp) (by simp; have := HLEN.out; omega))
        go_wp2_with fail
        with_reducible refine HPUT2.out.mono ?_
        rintro e w3 ⟨rfl, hp3, hw3⟩
        have HP3 := Lib.hid hp3
        have HL3 := Lib.hid (HLR.out.wr HPA.out hw3)
        have HB3 := Lib.hid (HBR.out.trans hw3.low)
        clear hp3 hw3 hkz hkn hks hge
        obtain ⟨oa, oc, ho⟩ := HL3.out.form
        obtain ⟨nl, hnl⟩ : ∃ n, ls.length = n := ⟨_, rfl⟩
        rw [hnl] at ho
        have HNL := Lib.hid hnl
        subst ho
        go_upto_region 11 with (fail)
        obtain ⟨y0, hy0⟩ : ∃ W, w3.drew = W := ⟨_, rfl⟩
        have hb30 : Below w3.heap.size w3 y0 := by rw [← hy0]; exact ⟨rfl, rfl, rfl, Nat.le_refl _, fun _ _ => rfl⟩
        have HP4 := Lib.hid (HP3.out.below hb30)
        have HL4 := Lib.hid (HL3.out.below hb30)
        have HB4 := Lib.hid (HB3.out.trans (hb30.mono (Nat.le_trans HBASE.out HB3.out.size)))
        obtain ⟨_, z1, _, _, z4⟩ := HCUR.out y0 HB4.out
        rw [HNM.out, HSN.out] at z1
        rw [HKV.out] at z4
        have z2 := HP4.out.open_
        have hs1 : (⟨#[60, 47]⟩ : ByteArray) ++ sn = strB (60 :: 47 :: nm) := by
          rw [← HSN.out, show (⟨#[60, 47]⟩ : ByteArray) = strB [60, 47] from rfl, strB_join]; rfl
        have hs2 : strB (60 :: 47 :: nm) ++ (⟨#[62]⟩ : ByteArray) = strB (60 :: 47 :: (nm ++ [62])) := by
          rw [show (⟨#[62]⟩ : ByteArray) = strB [62] from rfl, strB_join]; rfl
        have hz1 : sn.size ≤ 1073741824 := by rw [← HSN.out, strB_size]; have := HLEN.out; omega
        have hz2 : (strB (60 :: 47 :: nm)).size ≤ 1073741826 := by rw [strB_size, List.length_cons, List.length_cons]; have := HLEN.out; omega
        obtain ⟨s1, hs1e⟩ : ∃ s, strB (60 :: 47 :: nm) = s := ⟨_, rfl⟩
        obtain ⟨s2, hs2e⟩ : ∃ s, strB (60 :: 47 :: (nm ++ [62])) = s := ⟨_, rfl⟩
        rw [hs1e] at hs1 hs2 hz2
        rw [hs2e] at hs2
        have hz3 : ¬ (9223372036854775807 < 2 + sn.size) := by omega
        have hz4 : ¬ (9223372036854775807 < s1.size + 1) := by omega
        have HS2E := Lib.hid hs2e
        have HS1 := Lib.hid hs1
        have HS2 := Lib.hid hs2
        clear hb30 hs1e hs2e hnl hs1 hs2
        refine wp_region_z (S := fun W => W.cell? ⟨b, 2, none⟩ = some (.slice oa nl oc) ∧ W.cell? ⟨nb, no + 1, none⟩ = some (.string sn) ∧ W.cell? ⟨nb, no + 4, none⟩ = some (.slice ka nk kc)) 20 (by kernel_rfl) (by rw [hy0]; exact ⟨z2, z1, z4⟩) (fun hHeld => ?_)
        rw [hy0] at hHeld ⊢
        refine wpAnyZ_take (i := 0) (f := 21) (v := ?_) rfl (by kernel_rfl) (by kernel_rfl) (by kernel_rfl) (by kernel_rfl) (by kernel_rfl) (fun _ _ _ h => h) (Or.inl ⟨by rfl, ?_⟩) (by assumption) ?_
        rotate_left
        · intro W hS
          try dsimp only at hS
          try obtain ⟨hq0, hq1, hq2⟩ := hS
          go_simp
          try with_reducible rfl
        try simp only [List.getElem_toArray, List.getElem_cons_zero, Act.put, List.setIfInBounds_toArray, List.set_cons_zero, List.set_cons_succ]
        refine wpAnyZ_take (i := 1) (f := 21) (v := ?_) rfl (by kernel_rfl) (by kernel_rfl) (by kernel_rfl) (by kernel_rfl) (by kernel_rfl) (fun _ _ _ h => h) (Or.inl ⟨by rfl, ?_⟩) (by assumption) ?_
        rotate_left
        · intro W hS
          try dsimp only at hS
          try obtain ⟨hq0, hq1, hq2⟩ := hS
          go_simp
          try with_reducible rfl
        try simp only [List.getElem_toArray, List.getElem_cons_succ, List.getElem_cons_zero, Act.put, List.setIfInBounds_toArray, List.set_cons_zero, List.set_cons_succ]
        refine wpAnyZ_take (i := 2) (f := 21) (v := ?_) rfl (by kernel_rfl) (by kernel_rfl) (by kernel_rfl) (by kernel_rfl) (by kernel_rfl) (fun _ _ _ h => h) (Or.inl ⟨by rfl, ?_⟩) (by assumption) ?_
        rotate_left
        · intro W hS
          try dsimp only at hS
          try obtain ⟨hq0, hq1, hq2⟩ := hS
          go_simp
          try with_reducible rfl
        try simp only [List.getElem_toArray, List.getElem_cons_succ, List.getElem_cons_zero, Act.put, List.setIfInBounds_toArray, List.set_cons_zero, List.set_cons_succ]
        refine wpAnyZ_take (i := 3) (f := 21) (v := ?_) rfl (by kernel_rfl) (by kernel_rfl) (by kernel_rfl) (by kernel_rfl) (by kernel_rfl) (fun _ _ _ h => h) (Or.inl ⟨by rfl, ?_⟩) (by assumption) ?_
        rotate_left
        · intro W hS
          try dsimp only at hS
          try obtain ⟨hq0, hq1, hq2⟩ := hS
          go_simp
          try with_reducible rfl
        try simp only [List.getElem_toArray, List.getElem_cons_succ, List.getElem_cons_zero, Act.put, List.setIfInBounds_toArray, List.set_cons_zero, List.set_cons_succ]
        refine wpAnyZ_take (i := 4) (f := 21) (v := ?_) rfl (by kernel_rfl) (by kernel_rfl) (by kernel_rfl) (by kernel_rfl) (by kernel_rfl) (fun _ _ _ h => h) (Or.inl ⟨by rfl, ?_⟩) (by assumption) ?_
        rotate_left
        · intro W hS
          try dsimp only at hS
          try obtain ⟨hq0, hq1, hq2⟩ := hS
          go_simp
          try with_reducible rfl
        try simp only [List.getElem_toArray, List.getElem_cons_succ, List.getElem_cons_zero, Act.put, List.setIfInBounds_toArray, List.set_cons_zero, List.set_cons_succ]
        refine wpAnyZ_take (i := 5) (f := 21) (v := ?_) rfl (by kernel_rfl) (by kernel_rfl) (by kernel_rfl) (by kernel_rfl) (by kernel_rfl) (fun _ _ _ h => h) (Or.inl ⟨by rfl, ?_⟩) (by assumption) ?_
        rotate_left
        · intro W hS
          try dsimp only at hS
          try obtain ⟨hq0, hq1, hq2⟩ := hS
          go_simp
          try with_reducible rfl
        try simp only [List.getElem_toArray, List.getElem_cons_succ, List.getElem_cons_zero, Act.put, List.setIfInBounds_toArray, List.set_cons_zero, List.set_cons_succ]
        refine wpAnyZ_take (i := 6) (f := 21) (v := ?_) rfl (by kernel_rfl) (by kernel_rfl) (by kernel_rfl) (by kernel_rfl) (by kernel_rfl) (fun _ _ _ h => h) (Or.inl ⟨by rfl, ?_⟩) (by assumption) ?_
        rotate_left
        · intro W hS
          try dsimp only at hS
          try obtain ⟨hq0, hq1, hq2⟩ := hS
          go_simp
          try with_reducible rfl
        try simp only [List.getElem_toArray, List.getElem_cons_succ, List.getElem_cons_zero, Act.put, List.setIfInBounds_toArray, List.set_cons_zero, List.set_cons_succ]
        refine wpAnyZ_take (i := 7) (f := 21) (v := ?_) rfl (by kernel_rfl) (by kernel_rfl) (by kernel_rfl) (by kernel_rfl) (by kernel_rfl) (fun _ _ _ h => h) (Or.inl ⟨by rfl, ?_⟩) (by assumption) ?_
        rotate_left
        · intro W hS
          try dsimp only at hS
          try obtain ⟨hq0, hq1, hq2⟩ := hS
          go_simp
          try with_reducible rfl
        try simp only [List.getElem_toArray, List.getElem_cons_succ, List.getElem_cons_zero, Act.put, List.setIfInBounds_toArray, List.set_cons_zero, List.set_cons_succ]
        refine wpAnyZ_take (i := 8) (f := 21) (v := ?_) rfl (by kernel_rfl) (by kernel_rfl) (by kernel_rfl) (by kernel_rfl) (by kernel_rfl) (fun _ _ _ h => h) (Or.inl ⟨by rfl, ?_⟩) (by assumption) ?_
        rotate_left
        · intro W hS
          try dsimp only at hS
          try obtain ⟨hq0, hq1, hq2⟩ := hS
          go_simp
          try with_reducible rfl
        try simp only [List.getElem_toArray, List.getElem_cons_succ, List.getElem_cons_zero, Act.put, List.setIfInBounds_toArray, List.set_cons_zero, List.set_cons_succ]
        refine wpAnyZ_take (i := 9) (f := 21) (v := ?_) rfl (by kernel_rfl) (by kernel_rfl) (by kernel_rfl) (by kernel_rfl) (by kernel_rfl) (fun _ _ _ h => h) (Or.inl ⟨by rfl, ?_⟩) (by assumption) ?_
        rotate_left
        · intro W hS
          try dsimp only at hS
          try obtain ⟨hq0, hq1, hq2⟩ := hS
          go_simp
          try with_reducible rfl
        try simp only [List.getElem_toArray, List.getElem_cons_succ, List.getElem_cons_zero, Act.put, List.setIfInBounds_toArray, List.set_cons_zero, List.set_cons_succ]
        refine wpAnyZ_take (i := 10) (f := 21) (v := ?_) rfl (by kernel_rfl) (by kernel_rfl) (by kernel_rfl) (by kernel_rfl) (by kernel_rfl) (fun _ _ _ h => h) (Or.inl ⟨by rfl, ?_⟩) (by assumption) ?_
        rotate_left
        · intro W hS
          try dsimp only at hS
          try obtain ⟨hq0, hq1, hq2⟩ := hS
          go_simp
          try with_reducible rfl
        try simp only [List.getElem_toArray, List.getElem_cons_succ, List.getElem_cons_zero, Act.put, List.setIfInBounds_toArray, List.set_cons_zero, List.set_cons_succ]
        refine wpAnyZ_take (i := 11) (f := 21) (v := ?_) rfl (by kernel_rfl) (by kernel_rfl) (by kernel_rfl) (by kernel_rfl) (by kernel_rfl) (fun _ _ _ h => h) (Or.inl ⟨by rfl, ?_⟩) (by assumption) ?_
        rotate_left
        · intro W hS
          try dsimp only at hS
          try obtain ⟨hq0, hq1, hq2⟩ := hS
          go_simp
          try with_reducible rfl
        try simp only [List.getElem_toArray, List.getElem_cons_succ, List.getElem_cons_zero, Act.put, List.setIfInBounds_toArray, List.set_cons_zero, List.set_cons_succ]
        refine wpAnyZ_take (i := 12) (f := 21) (v := ?_) rfl (by kernel_rfl) (by kernel_rfl) (by kernel_rfl) (by kernel_rfl) (by kernel_rfl) (fun _ _ _ h => h) (Or.inl ⟨by rfl, ?_⟩) (by assumption) ?_
        rotate_left
        · intro W hS
          try dsimp only at hS
          try obtain ⟨hq0, hq1, hq2⟩ := hS
          go_simp
          try with_reducible rfl
        try simp only [List.getElem_toArray, List.getElem_cons_succ, List.getElem_cons_zero, Act.put, List.setIfInBounds_toArray, List.set_cons_zero, List.set_cons_succ]
        refine wpAnyZ_take (i := 13) (f := 21) (v := .string s1) rfl (by kernel_rfl) (by kernel_rfl) (by kernel_rfl) (by kernel_rfl) (by kernel_rfl) (fun _ _ _ h => h) (Or.inl ⟨by rfl, ?_⟩) (by assumption) ?_
        · intro W hS
          go_simp
          exact HS1.out
        try simp only [List.getElem_toArray, List.getElem_cons_succ, List.getElem_cons_zero, Act.put, List.setIfInBounds_toArray, List.set_cons_zero, List.set_cons_succ]
        refine wpAnyZ_take (i := 14) (f := 21) (v := .string s2) rfl (by kernel_rfl) (by kernel_rfl) (by kernel_rfl) (by kernel_rfl) (by kernel_rfl) (fun _ _ _ h => h) (Or.inl ⟨by rfl, ?_⟩) (by assumption) ?_
        · intro W hS
          go_simp
          exact HS2.out
        try simp only [List.getElem_toArray, List.getElem_cons_succ, List.getElem_cons_zero, Act.put, List.setIfInBounds_toArray, List.set_cons_zero, List.set_cons_succ]
        refine wpAnyZ_take (i := 15) (f := 21) (v := ?_) rfl (by kernel_rfl) (by kernel_rfl) (by kernel_rfl) (by kernel_rfl) (by kernel_rfl) (fun _ _ _ h => h) (Or.inl ⟨by rfl, ?_⟩) (by assumption) ?_
        rotate_left
        · intro W hS
          try dsimp only at hS
          try obtain ⟨hq0, hq1, hq2⟩ := hS
          go_simp
          try with_reducible rfl
        try simp only [List.getElem_toArray, List.getElem_cons_succ, List.getElem_cons_zero, Act.put, List.setIfInBounds_toArray, List.set_cons_zero, List.set_cons_succ]
        obtain ⟨x1, hx1⟩ : ∃ W, y0.alloc (.cells #[.slice ka nk kc, .string s2] 61) = W := ⟨_, rfl⟩
        have hb01 : Below y0.heap.size y0 x1 := by rw [← hx1]; exact (Below.refl _ _).alloc (Nat.le_refl _) _
        have hp1 : x1.heap[y0.heap.size]? = some (.cells #[.slice ka nk kc, .string s2] 61 (0, 0)) := by rw [← hx1]; exact heap_alloc_new y0 _
        have HP5 := Lib.hid (HP4.out.below hb01)
        have HL5 := Lib.hid (HL4.out.below hb01)
        have HB5 := Lib.hid (HB4.out.trans (hb01.mono (Nat.le_trans HBASE.out HB4.out.size)))
        have hx1c : x1.cell? ⟨b, 2, none⟩ = some (.slice oa nl oc) ∧ x1.cell? ⟨nb, no + 1, none⟩ = some (.string sn) ∧ x1.cell? ⟨nb, no + 4, none⟩ = some (.slice ka nk kc) := by
          obtain ⟨_, z1, _, _, z4⟩ := HCUR.out x1 HB5.out
          rw [HNM.out, HSN.out] at z1
          rw [HKV.out] at z4
          exact ⟨HP5.out.open_, z1, z4⟩
        obtain ⟨ov3, x3, hrun, hrow3, hgrown, hown⟩ := append_any (w := x1) Tryz.underlying62 infoLv rfl (by decide) HL5.out.row (b := ⟨y0.heap.size, 0, none⟩) (m := 1) (c := 1) (news := [.slice ka nk kc, .string s2]) rfl (fun j u hj => by
          rw [Addr.add_mid, Nat.zero_add, cell_of_block hp1 j, ← hj]
          simp) (by intro u hu; simp only [List.mem_cons, List.not_mem_nil, or_false] at hu; rcases hu with rfl | rfl <;> rfl) (by rw [HNL.out]; have h1 := HLS.out; have h2 := HNL.out; unfold maxLen; omega) (by have h1 := HLS.out; omega)
        obtain ⟨g3, n3, cap3, rfl⟩ : ∃ g3 n3 cap3, ov3 = .slice (some ⟨g3, 0, none⟩) n3 cap3 := by
          rcases hrow3.2 with ⟨_, h0⟩ | ⟨g3, cap3, cur3, h1, _⟩
          · omega
          · exact ⟨g3, _, cap3, h1⟩
        have hk13 : Keeps (fun q => (Value.slice oa nl oc).ownBlock = some q) x1 x3 := (Keeps.refl _ x1).grown hgrown (fun q e => .inl e)
        have hp3 := HP5.out.grown HL5.out hk13
        have hB3 : Below B w x3 := HB5.out.trans ((Below.refl B x1).grown hgrown (Nat.le_trans HBASE.out HB5.out.size) (fun k hk => HL5.out.new k hk))
        have hx3c : x3.cell? ⟨b, 2, none⟩ = some (.slice oa nl oc) ∧ x3.cell? ⟨nb, no + 1, none⟩ = some (.string sn) ∧ x3.cell? ⟨nb, no + 4, none⟩ = some (.slice ka nk kc) := by
          obtain ⟨_, z1, _, _, z4⟩ := HCUR.out x3 hB3
          rw [HNM.out, HSN.out] at z1
          rw [HKV.out] at z4
          exact ⟨hp3.open_, z1, z4⟩
        have hf2 := hp3.thaw 2
        have HFIN : Hid (TagOut w B b out (.slice oa nl oc) ls r (.mk 1 nm tx ats ks) (.returned (.tuple #[])) (x3.setCell ⟨b, 2, none⟩ (.slice (some ⟨g3, 0, none⟩) n3 cap3))) := Lib.hid (by
          refine ⟨rfl, hB3.setCell (p := ⟨b, 2, none⟩) hp3.base _, .inr ⟨HKS.out, _, hp3.put _, ?_, fun k hk => ?_⟩⟩
          · rw [lvC_app, List.length_append, HKV.out]
            show World.ownsRow _ _ _ _ _ (ls.length + 1) (lvC ls ++ [.slice ka nk kc, .string (strB (60 :: 47 :: (nm ++ [62])))])
            rw [HS2E.out]
            refine ownsRow_keep hrow3 ((Keeps.refl (One b) x3).setCell (p := ⟨b, 2, none⟩) (.inl rfl) _) (fun k hk e => ?_)
            rcases hown k hk with h1 | h1
            · exact HL5.out.ne HP5.out k h1 e
            · have h2 := HP5.out.lt
              have h3 : k = b := e
              omega
          · rcases hown k hk with h1 | h1
            · exact HL5.out.new k h1
            · exact Nat.le_trans (Nat.le_trans HBASE.out HB5.out.size) h1)
        have HRUN := Lib.hid hrun
        have HX1C := Lib.hid hx1c
        have HX3C := Lib.hid hx3c
        clear hb01 hp1 hx1c hrun hrow3 hgrown hown hk13 hp3 hB3 hx3c
        refine wpAnyZ_one (i := 16) (by kernel_rfl) rfl (fun K hK => ?_)
        go_simp
        refine hK.out _ _ HX1C.out (fun hHeld => ?_)
        clear hK K
        try simp only [List.getElem_toArray, List.getElem_cons_succ, List.getElem_cons_zero, Act.put, List.setIfInBounds_toArray, List.set_cons_zero, List.set_cons_succ]
        refine wpAnyZ_one (i := 17) (by kernel_rfl) rfl (fun K hK => ?_)
        refine step_append rfl (.tmp 51) (.tmp 63) _ _ rfl _ _ _ rfl rfl HRUN.out ?_
        refine hK.out _ _ HX3C.out (fun hHeld => ?_)
        clear hK K
        try simp only [List.getElem_toArray, List.getElem_cons_succ, List.getElem_cons_zero, Act.put, List.setIfInBounds_toArray, List.set_cons_zero, List.set_cons_succ]
        refine wpAnyZ_take (i := 18) (f := 21) (v := ?_) rfl (by kernel_rfl) (by kernel_rfl) (by kernel_rfl) (by kernel_rfl) (by kernel_rfl) (fun _ _ _ h => h) (Or.inl ⟨by rfl, ?_⟩) (by assumption) ?_
        rotate_left
        · intro W hS
          try dsimp only at hS
          try obtain ⟨hq0, hq1, hq2⟩ := hS
          go_simp
          try with_reducible rfl
        try simp only [List.getElem_toArray, List.getElem_cons_succ, List.getElem_cons_zero, Act.put, List.setIfInBounds_toArray, List.set_cons_zero, List.set_cons_succ]
        refine wpAnyZ_take (i := 19) (f := 21) (v := ?_) rfl (by kernel_rfl) (by kernel_rfl) (by kernel_rfl) (by kernel_rfl) (by kernel_rfl) (fun _ _ _ h => h) (Or.inl ⟨by rfl, ?_⟩) (by assumption) ?_
        rotate_left
        · intro W hS
          try dsimp only at hS
          try obtain ⟨hq0, hq1, hq2⟩ := hS
          go_simp
          try with_reducible rfl
        try simp only [List.getElem_toArray, List.getElem_cons_succ, List.getElem_cons_zero, Act.put, List.setIfInBounds_toArray, List.set_cons_zero, List.set_cons_succ]
        refine wpAnyZ_last (by kernel_rfl) rfl (by kernel_rfl) (fun K hK => ?_)
        go_simp
        refine hK.out _ _ ?_
        clear hK K
        try simp only [List.getElem_toArray, List.getElem_cons_succ, List.getElem_cons_zero, Act.put, List.setIfInBounds_toArray, List.set_cons_zero, List.set_cons_succ]
        go_wp2_with fail
        go_end0
        exact HFIN.out
    | succ gk =>
      have hlt : (i : Int) < (na : Int) := by omega
      have hi0 : (0 : Int) ≤ (i : Int) := by omega
      obtain ⟨x, hx⟩ : ∃ x, ats[i]? = some x := ⟨_, List.getElem?_eq_getElem (by rw [HNA.out]; omega)⟩
      rcases HCL.out with h0 | ⟨ab, ao, rfl, _, hcell⟩
      · rw [h0] at hx; simp at hx
      obtain ⟨a1, a2⟩ := hcell i x hx
      have hlow : ∀ W, Below B w W → W.cell? ⟨ab, ao + i * 2, none⟩ = some (.string (strB x.1)) ∧ W.cell? ⟨ab, ao + i * 2 + 1, none⟩ = some (.string (strB x.2)) := fun W hW => by
        have h1 : Below w0.heap.size w0 W := HB0.out.trans (HB.out ▸ hW)
        exact ⟨(h1.cell (lt_of_cell a1)).trans a1, (h1.cell (lt_of_cell a2)).trans a2⟩
      obtain ⟨c1, c2⟩ := hlow wr HBR.out
      have hadd : IntKind.i64.wrap ((i : Int) + 1) = ((i + 1 : Nat) : Int) := IntWalk.i64_in _ (by
        have h1 := attrs_few ats
        have h2 := HLEN.out
        have h3 := HNA.out
        omega)
      obtain ⟨s1, hs1⟩ : ∃ s, strB x.1 = s := ⟨_, rfl⟩
      obtain ⟨s2, hs2⟩ : ∃ s, strB x.2 = s := ⟨_, rfl⟩
      rw [hs1] at c1
      rw [hs2] at c2
      have HS2 := Lib.hid hs2
      obtain ⟨F0, hF0⟩ : ∃ F, out ++ 60 :: (nm ++ attrsB (ats.take i)) = F := ⟨_, rfl⟩
      rw [hF0] at HPR
      have hF3 : (F0 ++ (32 :: (x.1 ++ [61, 34])) ++ escS true x.2) ++ [34] = out ++ 60 :: (nm ++ attrsB (ats.take (i + 1))) := by
        rw [attrs_take hx, ← hF0]
        unfold attrB
        simp only [List.append_assoc, List.cons_append, List.nil_append]
      have hlen3 := congrArg List.length hF3
      have hpart := attrs_part ats (i + 1)
      have hle := HLEN.out
      simp only [List.length_append, List.length_cons, List.length_nil] at hlen3
      have HF3 := Lib.hid hF3
      have HLN : Hid (F0.length + (x.1.length + 3) + (escS true x.2).length + 1 ≤ 4294967296) := Lib.hid (by omega)
      have hesl := esc_len true x.2
      have hat := congrArg List.length (attrs_take hx)
      unfold attrB at hat
      simp only [List.length_append, List.length_cons, List.length_nil] at hat
      have HEL : Hid (x.2.length ≤ 1073741824) := Lib.hid (by omega)
      have hba : Below wr.heap.size wr (wr.alloc (.cells #[.string s1, .string s2] 42)) := (Below.refl _ _).alloc (Nat.le_refl _) _
      have hblk : (wr.alloc (.cells #[.string s1, .string s2] 42)).heap[wr.heap.size]? = some (.cells #[.string s1, .string s2] 42 (0, 0)) := heap_alloc_new wr _
      have hbaseR : B ≤ wr.heap.size := Nat.le_trans HBASE.out HBR.out.size
      have HBL := Lib.hid hblk
      have HPA := Lib.hid (HPR.out.below hba)
      have HLA := Lib.hid (HLR.out.below hba)
      have HBA := Lib.hid (HBR.out.trans (hba.mono hbaseR))
      have HBL0 := Lib.hid HPR.out.lt
      have HPUT : Hid (Calls Tryz.prog 30 #[.pointer (some ⟨b, 0, none⟩), .slice (some ⟨wr.heap.size + 1, 0, none⟩) 3 3] ((wr.alloc (.cells #[.string s1, .string s2] 42)).alloc (.cells #[.string ⟨#[32]⟩, .string s1, .string ⟨#[61, 34]⟩] 9)) (POut (wr.alloc (.cells #[.string s1, .string s2] 42)) B b (F0 ++ (32 :: (x.1 ++ [61, 34]))) o)) := Lib.hid (by
        have h1 := put_here HPA.out (Nat.le_trans hbaseR hba.size) [[32], x.1, [61, 34]] 3 rfl (by decide) (cells := #[.string ⟨#[32]⟩, .string s1, .string ⟨#[61, 34]⟩]) (by rw [← hs1]; rfl) (F := F0 ++ (32 :: (x.1 ++ [61, 34]))) (by simp) (by simp only [List.length_append, List.length_cons, List.length_nil]; have := HLN.out; omega)
        rw [show (wr.alloc (.cells #[.string s1, .string s2] 42)).heap.size = wr.heap.size + 1 by simp] at h1
        exact h1)
      clear hcell a1 a2 hlow hat hF0 hF3 hlen3 hpart hle hesl hba hblk hbaseR hx hs1 hs2
      go_wp2_with fail
      with_reducible refine HPUT.out.mono ?_
      rintro e w3 ⟨rfl, hp3, hw3⟩
      have hblk3 := hw3.oth _ _ HBL.out (by have := HBL0.out; intro e; injection e with e; omega) (fun c fz e => by injection e with _ e2 _; revert e2; decide)
      have d1 : w3.cell? ⟨wr.heap.size, 1, none⟩ = some (.string s2) := (cell_of_block hblk3 1).trans rfl
      have HP3 := Lib.hid hp3
      have HL3 := Lib.hid (HLA.out.wr HPA.out hw3)
      have HB3 := Lib.hid (HBA.out.trans hw3.low)
      have HCH : Hid (Calls Tryz.prog 52 #[.pointer (some ⟨b, 0, none⟩), .string s2, .string ⟨#[38, 60, 34, 9, 10, 13]⟩] w3 (POut w3 B b (F0 ++ (32 :: (x.1 ++ [61, 34])) ++ escS true x.2) o)) := Lib.hid (by
        have h1 := pchars_calls hp3 true x.2 ⟨#[38, 60, 34, 9, 10, 13]⟩ rfl HEL.out (by simp only [List.length_append, List.length_cons, List.length_nil]; have := HLN.out; omega) (Nat.le_trans HBASE.out HB3.out.size)
        rw [HS2.out] at h1
        exact h1)
      clear hp3 hw3 hblk3
      go_wp2_with fail
      with_reducible refine HCH.out.mono ?_
      rintro e w4 ⟨rfl, hp4, hw4⟩
      have HP4 := Lib.hid hp4
      have HL4 := Lib.hid (HL3.out.wr HP3.out hw4)
      have HB4 := Lib.hid (HB3.out.trans hw4.low)
      have HPUT2 : Hid (Calls Tryz.prog 30 #[.pointer (some ⟨b, 0, none⟩), .slice (some ⟨w4.heap.size, 0, none⟩) 1 1] (w4.alloc (.cells #[.string ⟨#[34]⟩] 9)) (POut w4 B b (out ++ 60 :: (nm ++ attrsB (ats.take (i + 1)))) o)) := Lib.hid (put_here hp4 (Nat.le_trans HBASE.out HB4.out.size) [[34]] 1 rfl (by decide) rfl (by rw [← HF3.out]; simp) (by rw [← HF3.out]; simp only [List.length_append, List.length_cons, List.length_nil]; have := HLN.out; omega))
      clear hp4 hw4 d1
      go_wp2_with fail
      with_reducible refine HPUT2.out.mono ?_
      rintro e w5 ⟨rfl, hp5, hw5⟩
      have HP5 := Lib.hid hp5
      have HL5 := Lib.hid (HL4.out.wr HP4.out hw5)
      have HB5 := Lib.hid (HB4.out.trans hw5.low)
      clear hp5 hw5
      go_wp2_with fail
      go_roundg gk
      case measure => omega
      case rel => exact ⟨i + 1, rfl, by omega, HP5.out, HL5.out, HB5.out⟩

end Go.Proofs.YtocnedpclllbhaaGreatDoor
