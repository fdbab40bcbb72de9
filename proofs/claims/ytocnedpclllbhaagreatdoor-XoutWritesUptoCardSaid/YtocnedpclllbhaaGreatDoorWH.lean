/-
 A node written, or its beginning. Conditions: the printer, its levels and the node lie in memory, the node in blocks that were there before; what is written is short.
-/
import Derived.Test.YtocnedpclllbhaaGreatDoorWG
namespace Go.Proofs.YtocnedpclllbhaaGreatDoor
open Go.RowKit Go.Lib Go.Joins

/-- What node leaves. -/
def NodeOut (w : World) (B b : Nat) (out : List UInt8) (o : Value) (ls : List (Value × List UInt8)) (r : Nr) (t : Tr) (e : Ending) (w' : World) : Prop :=
  e = .returned (.tuple #[]) ∧ Below B w w' ∧ (((t.kind = 1 → t.kids = []) ∧ PrAt w' B b (out ++ wrN t) o ∧ LvW w' B o ls) ∨
    ((t.kind = 1 ∧ t.kids ≠ []) ∧ ∃ o2, PrAt w' B b (out ++ 60 :: (t.name ++ (attrsB t.attrs ++ [62]))) o2 ∧ LvW w' B o2 (ls ++ [(r.kv, 60 :: 47 :: (t.name ++ [62]))])))
theorem NodeOut.plain {w w' : World} {B b : Nat} {out : List UInt8} {o : Value} {ls : List (Value × List UInt8)} {r : Nr} {t : Tr} {F : List UInt8} (hk : t.kind ≠ 1) (hF : F = out ++ wrN t) (hl : LvW w B o ls) (hp0 : PrAt w B b out o) (hp : PrAt w' B b F o) (hw : Wr B b w w') : NodeOut w B b out o ls r t (.returned (.tuple #[])) w' :=
  ⟨rfl, hw.low, .inl ⟨fun h => absurd h hk, hF ▸ hp, hl.wr hp0 hw⟩⟩
set_option maxRecDepth 100000 in
set_option maxHeartbeats 8000000 in
theorem pnode_calls {w0 w : World} {b nb no : Nat} {out : List UInt8} {o : Value} {ls : List (Value × List UInt8)} {r : Nr} {t : Tr} (h : PrAt w w0.heap.size b out o) (hl : LvW w w0.heap.size o ls) (hb : Below w0.heap.size w0 w) (hn : NrIn w0 nb no r) (ht : NodeIn w0 Any r t)
    (h1 : out.length ≤ 1073741824) (h2 : (wrN t).length ≤ 1073741824) (h3 : ls.length ≤ 1000000000) : Calls Tryz.prog 31 #[.pointer (some ⟨b, 0, none⟩), .pointer (some ⟨nb, no, none⟩)] w (NodeOut w w0.heap.size b out o ls r t) := by
  have HCUR : Hid (∀ W, Below w0.heap.size w W → NrIn W nb no r) := Lib.hid (fun W hW => hn.keep (keeps_below (hb.trans hW) Non) (fun e => e))
  obtain ⟨y0, y1, y2, y3, y4⟩ := HCUR.out w (Below.refl _ _)
  obtain ⟨hk1, hk2, hk3, _⟩ := ht.kids
  have HTAG := fun hk => ptag_calls h hl hb hn ht hk h1 h2 h3
  obtain ⟨k, nm, tx, ats, ks⟩ := t
  change r.kind = k at hk1
  change r.name = nm at hk2
  change r.text = tx at hk3
  have hwr := wr_mk k nm tx ats ks
  have hbase : w0.heap.size ≤ w.heap.size := hb.size
  obtain ⟨B, hB⟩ : ∃ B, w0.heap.size = B := ⟨_, rfl⟩
  rw [hB] at h hl hbase HCUR HTAG ⊢
  rw [hk1] at y0
  rw [hk2] at y1
  rw [hk3] at y2
  have HP := Lib.hid h
  have HLV := Lib.hid hl
  have HTAG := Lib.hid HTAG
  have HBASE := Lib.hid hbase
  have HLEN : Hid (out.length + (wrN (.mk k nm tx ats ks)).length ≤ 70368744177664) := Lib.hid (by omega)
  have HL2 : Hid ((wrN (.mk k nm tx ats ks)).length ≤ 1073741824) := Lib.hid h2
  have HNM := Lib.hid hk2
  have HTX := Lib.hid hk3
  have HWR := Lib.hid hwr
  obtain ⟨sn, hsn⟩ : ∃ s, strB nm = s := ⟨_, rfl⟩
  obtain ⟨st, hst⟩ : ∃ s, strB tx = s := ⟨_, rfl⟩
  rw [hsn] at y1
  rw [hst] at y2
  have HSN := Lib.hid hsn
  have HST := Lib.hid hst
  clear h hl hb hn ht hk1 hk2 hk3 h1 h2 h3 hwr hbase hB hsn hst
  by_cases hk : k = 1
  · subst hk
    have HT : Hid (Calls Tryz.prog 51 #[.pointer (some ⟨b, 0, none⟩), .pointer (some ⟨nb, no, none⟩)] w (TagOut w B b out o ls r (.mk 1 nm tx ats ks))) := Lib.hid (HTAG.out rfl)
    clear HTAG
    go_enter Tryz.func31, Tryz.ntmps31
    go_wp2_with fail
    with_reducible refine HT.out.mono ?_
    rintro e w1 ⟨rfl, hb1, h1⟩
    have HFIN : Hid (NodeOut w B b out o ls r (.mk 1 nm tx ats ks) (.returned (.tuple #[])) w1) := Lib.hid ⟨rfl, hb1, h1.imp (fun h => ⟨fun _ => h.1, h.2⟩) (fun h => ⟨⟨rfl, h.1⟩, h.2⟩)⟩
    clear hb1 h1
    go_wp2_with fail
    go_end0
    exact HFIN.out
  have hk1 : (k == 1) = false := beq_eq_false_iff_ne.2 hk
  have HK := Lib.hid hk
  clear HTAG
  by_cases hk2 : k = 2
  · subst hk2
    have HW2 : Hid (wrN (.mk 2 nm tx ats ks) = escS false tx) := Lib.hid HWR.out
    have HCH : Hid (Calls Tryz.prog 52 #[.pointer (some ⟨b, 0, none⟩), .string st, .string ⟨#[38, 60, 62, 13]⟩] w (POut w B b (out ++ escS false tx) o)) := Lib.hid (by
      have h1 := pchars_calls HP.out false tx ⟨#[38, 60, 62, 13]⟩ rfl (by have h2 := HL2.out; rw [HW2.out] at h2; have := esc_len false tx; omega) (by rw [← HW2.out]; exact HLEN.out) HBASE.out
      rw [HST.out] at h1
      exact h1)
    go_enter Tryz.func31, Tryz.ntmps31
    go_wp2_with fail
    with_reducible refine HCH.out.mono ?_
    rintro e w1 ⟨rfl, hp1, hw1⟩
    have HFIN := Lib.hid (NodeOut.plain (r := r) (t := .mk 2 nm tx ats ks) HK.out (by rw [HW2.out]) HLV.out HP.out hp1 hw1)
    clear hp1 hw1
    go_wp2_with fail
    go_end0
    exact HFIN.out
  have hk2b : (k == 2) = false := beq_eq_false_iff_ne.2 hk2
  by_cases hk3 : k = 3
  · subst hk3
    have HW3 : Hid (wrN (.mk 3 nm tx ats ks) = 60 :: 33 :: 45 :: 45 :: (tx ++ [45, 45, 62])) := Lib.hid HWR.out
    have HPUT : Hid (Calls Tryz.prog 30 #[.pointer (some ⟨b, 0, none⟩), .slice (some ⟨w.heap.size, 0, none⟩) 3 3] (w.alloc (.cells #[.string ⟨#[60, 33, 45, 45]⟩, .string st, .string ⟨#[45, 45, 62]⟩] 9)) (POut w B b (out ++ wrN (.mk 3 nm tx ats ks)) o)) := Lib.hid (put_here HP.out HBASE.out [[60, 33, 45, 45], tx, [45, 45, 62]] 3 rfl (by decide) (by rw [← HST.out]; rfl) (by rw [HW3.out]; simp) (by rw [List.length_append]; exact HLEN.out))
    go_enter Tryz.func31, Tryz.ntmps31
    go_wp2_with fail
    with_reducible refine HPUT.out.mono ?_
    rintro e w1 ⟨rfl, hp1, hw1⟩
    have HFIN := Lib.hid (NodeOut.plain (r := r) (t := .mk 3 nm tx ats ks) HK.out rfl HLV.out HP.out hp1 hw1)
    clear hp1 hw1
    go_wp2_with fail
    go_end0
    exact HFIN.out
  have hk3b : (k == 3) = false := beq_eq_false_iff_ne.2 hk3
  by_cases hk4 : k = 4
  · subst hk4
    have HPUT : Hid (Calls Tryz.prog 30 #[.pointer (some ⟨b, 0, none⟩), .slice (some ⟨w.heap.size, 0, none⟩) 2 2] (w.alloc (.cells #[.string ⟨#[60, 63]⟩, .string sn] 9)) (POut w B b (out ++ 60 :: 63 :: nm) o)) := Lib.hid (put_here HP.out HBASE.out [[60, 63], nm] 2 rfl (by decide) (by rw [← HSN.out]; rfl) (by simp) (by
      have h1 := HLEN.out
      rw [HWR.out] at h1
      simp at h1 ⊢
      omega))
    by_cases hx : tx = []
    · have HW4 : Hid (wrN (.mk 4 nm tx ats ks) = 60 :: 63 :: (nm ++ [63, 62])) := Lib.hid (by rw [HWR.out, hx]; rfl)
      have hse : st = ⟨#[]⟩ := by rw [← HST.out, hx]; rfl
      subst hse
      go_enter Tryz.func31, Tryz.ntmps31
      go_wp2_with fail
      with_reducible refine HPUT.out.mono ?_
      rintro e w1 ⟨rfl, hp1, hw1⟩
      have HW1 := Lib.hid hw1
      obtain ⟨_, _, z2, _⟩ := HCUR.out w1 hw1.low
      rw [HTX.out, HST.out] at z2
      have HPUT2 : Hid (Calls Tryz.prog 30 #[.pointer (some ⟨b, 0, none⟩), .slice (some ⟨w1.heap.size, 0, none⟩) 1 1] (w1.alloc (.cells #[.string ⟨#[63, 62]⟩] 9)) (POut w1 B b (out ++ wrN (.mk 4 nm tx ats ks)) o)) := Lib.hid (put_here hp1 (Nat.le_trans HBASE.out hw1.low.size) [[63, 62]] 1 rfl (by decide) rfl (by rw [HW4.out]; simp) (by rw [List.length_append]; exact HLEN.out))
      clear hp1 hw1
      go_wp2_with fail
      with_reducible refine HPUT2.out.mono ?_
      rintro e w2 ⟨rfl, hp2, hw2⟩
      have HFIN := Lib.hid (NodeOut.plain (r := r) (t := .mk 4 nm tx ats ks) HK.out rfl HLV.out HP.out hp2 (HW1.out.trans hw2))
      clear hp2 hw2
      go_wp2_with fail
      go_end0
      exact HFIN.out
    · have HW4 : Hid (wrN (.mk 4 nm tx ats ks) = 60 :: 63 :: (nm ++ (32 :: (tx ++ [63, 62])))) := Lib.hid (by
        rw [HWR.out]
        cases tx with
        | nil => exact absurd rfl hx
        | cons a l => simp)
      have hse1 : st.toList.isEmpty = false := by
        rw [← HST.out, Lib.toList_data]
        cases tx with
        | nil => exact absurd rfl hx
        | cons a l => rfl
      have hse2 : ¬ st.toList = [] := fun h => by rw [h] at hse1; exact absurd hse1 (by decide)
      go_enter Tryz.func31, Tryz.ntmps31
      go_wp2_with fail
      with_reducible refine HPUT.out.mono ?_
      rintro e w1 ⟨rfl, hp1, hw1⟩
      have HW1 := Lib.hid hw1
      obtain ⟨_, _, z2, _⟩ := HCUR.out w1 hw1.low
      rw [HTX.out, HST.out] at z2
      have HPUT2 : Hid (Calls Tryz.prog 30 #[.pointer (some ⟨b, 0, none⟩), .slice (some ⟨w1.heap.size, 0, none⟩) 2 2] (w1.alloc (.cells #[.string ⟨#[32]⟩, .string st] 9)) (POut w1 B b (out ++ 60 :: 63 :: (nm ++ (32 :: tx))) o)) := Lib.hid (put_here hp1 (Nat.le_trans HBASE.out hw1.low.size) [[32], tx] 2 rfl (by decide) (by rw [← HST.out]; rfl) (by simp) (by
        have h1 := HLEN.out
        rw [HW4.out] at h1
        simp at h1 ⊢
        omega))
      clear hp1 hw1
      go_wp2_with fail
      with_reducible refine HPUT2.out.mono ?_
      rintro e w2 ⟨rfl, hp2, hw2⟩
      have HW2 := Lib.hid (HW1.out.trans hw2)
      have HPUT3 : Hid (Calls Tryz.prog 30 #[.pointer (some ⟨b, 0, none⟩), .slice (some ⟨w2.heap.size, 0, none⟩) 1 1] (w2.alloc (.cells #[.string ⟨#[63, 62]⟩] 9)) (POut w2 B b (out ++ wrN (.mk 4 nm tx ats ks)) o)) := Lib.hid (put_here hp2 (Nat.le_trans HBASE.out HW2.out.low.size) [[63, 62]] 1 rfl (by decide) rfl (by rw [HW4.out]; simp) (by rw [List.length_append]; exact HLEN.out))
      clear hp2 hw2
      go_wp2_with fail
      with_reducible refine HPUT3.out.mono ?_
      rintro e w3 ⟨rfl, hp3, hw3⟩
      have HFIN := Lib.hid (NodeOut.plain (r := r) (t := .mk 4 nm tx ats ks) HK.out rfl HLV.out HP.out hp3 (HW2.out.trans hw3))
      clear hp3 hw3
      go_wp2_with fail
      go_end0
      exact HFIN.out
  have hk4b : (k == 4) = false := beq_eq_false_iff_ne.2 hk4
  have HW5 : Hid (wrN (.mk k nm tx ats ks) = []) := Lib.hid (by rw [HWR.out, if_neg hk, if_neg hk2, if_neg hk3, if_neg hk4])
  go_enter Tryz.func31, Tryz.ntmps31
  go_wp2_with fail
  go_end0
  exact NodeOut.plain (t := .mk k nm tx ats ks) HK.out (by rw [HW5.out, List.append_nil]) HLV.out HP.out HP.out (Wr.refl _ _ _)

end Go.Proofs.YtocnedpclllbhaaGreatDoor
