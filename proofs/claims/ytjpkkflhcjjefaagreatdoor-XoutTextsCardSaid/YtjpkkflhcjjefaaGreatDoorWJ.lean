/-
 Whether XML has a text, whether it can be read as it is, whether an instruction may have a name, whether two texts are beside each other.
-/
import Derived.Test.YtjpkkflhcjjefaaGreatDoorWH
import Derived.Test.YtjpkkflhcjjefaaGreatDoorXTy
import Derived.Lib.ConvBytes
import Derived.Maps.OwnOps
import Derived.Maps.Views
import Derived.Maps.Keyed
namespace Go.Proofs.YtjpkkflhcjjefaaGreatDoor
open Go.RowKit Go.Lib Go.Joins
set_option maxHeartbeats 32000000
def RestIn (w0 : World) (v : Value) (ts : List Tr) : Prop := ∃ rows, RowIn w0 Any v rows ∧ NodesIn w0 Any rows ts
def LvsIn (w0 : World) : List (Value × List UInt8) → List (List Tr × List UInt8) → Prop
 | [], [] => True
 | x :: xs, l :: ls => x.2 = l.2 ∧ RestIn w0 x.1 l.1 ∧ LvsIn w0 xs ls
 | [], _ :: _ => False
 | _ :: _, [] => False
theorem LvsIn.len {w0 : World} : ∀ {xs : List (Value × List UInt8)} {ls : List (List Tr × List UInt8)}, LvsIn w0 xs ls → xs.length = ls.length
 | [], [], _ => rfl
 | _ :: _, _ :: _, h => by rw [List.length_cons, List.length_cons, LvsIn.len h.2.2]
 | [], _ :: _, h => h.elim
 | _ :: _, [], h => h.elim
theorem steps_len : ∀ ls : List (List Tr × List UInt8), ls.length ≤ stepsW ls
 | [] => Nat.le_refl _
 | l :: ls => by
  have := steps_len ls
  rw [List.length_cons, stepsW]
  omega
theorem RestIn.first {w0 : World} {v : Value} {t : Tr} {ts : List Tr} (h : RestIn w0 v (t :: ts)) : ∃ nb no c r, v = .slice (some ⟨nb, no, none⟩) (ts.length + 1) c ∧ ts.length + 1 ≤ c ∧ c ≤ maxLen ∧ NrIn w0 nb no r ∧ NodeIn w0 Any r t ∧
  RestIn w0 (.slice (some ⟨nb, no + 5, none⟩) ts.length (c - 1)) ts ∧ (c = 1 → RestIn w0 (.slice (some ⟨nb, no, none⟩) 0 0) ts) := by
 obtain ⟨rows, hr, hn⟩ := h
 obtain ⟨a, c, rfl, hc, hm, hz, hcell⟩ := hr
 cases rows with
 | nil => have := hn.1; simp at this
 | cons r rows =>
  have hl : rows.length = ts.length := by have := hn.1; rw [List.length_cons, List.length_cons] at this; omega
  rcases hcell with h0 | ⟨nb, no, rfl, hS, hcell⟩
  ·cases h0
  have hn1 := hn.2 0 r t rfl rfl
  have hd : NodesIn w0 Any rows ts := ⟨hl, fun i x y e1 e2 => hn.2 (i + 1) x y e1 e2⟩
  rw [List.length_cons] at hc
  refine ⟨nb, no, c, r, by rw [List.length_cons, hl], by omega, hm, by have := hcell 0 r rfl; simpa using this, hn1, ⟨rows, ⟨_, c - 1, by rw [hl], by omega, by omega, fun h => (by cases h), .inr ⟨nb, no + 5, rfl, trivial, fun i x hx => ?_⟩⟩, hd⟩, fun hc1 => ?_⟩
  ·rw [show no + 5 + i * 5 = no + (i + 1) * 5 by omega]
   exact hcell (i + 1) x hx
  ·have h0 : rows = [] := List.length_eq_zero_iff.1 (by omega)
   exact ⟨rows, ⟨_, 0, by rw [h0]; rfl, by rw [h0]; exact Nat.le_refl _, Nat.zero_le _, fun h => (by cases h), .inl h0⟩, hd⟩
theorem RestIn.none {w0 : World} {v : Value} (h : RestIn w0 v []) : ∃ a c, v = .slice a 0 c := by
 obtain ⟨rows, ⟨a, c, rfl, _⟩, hn⟩ := h
 exact ⟨a, c, by rw [hn.1]; rfl⟩
theorem LvW.last {w : World} {B : Nat} {o : Value} {l : List (Value × List UInt8)} {x : Value × List UInt8} (h : LvW w B o (l ++ [x])) : ∃ g c, o = .slice (some ⟨g, 0, none⟩) (l.length + 1) c ∧ l.length + 1 ≤ c ∧ c ≤ maxLen ∧ B ≤ g ∧ w.frozen? ⟨g, l.length * 2, none⟩ = false ∧
  w.cell? ⟨g, l.length * 2, none⟩ = some x.1 ∧ w.cell? ⟨g, l.length * 2 + 1, none⟩ = some (.string (strB x.2)) := by
 have hl : (l ++ [x]).length = l.length + 1 := by simp
 obtain ⟨hlen, hr⟩ := h.row
 rcases hr with ⟨_, h0⟩ | ⟨g, cap, cur, rfl, _, hg, hcap, hcm, hcur, htk⟩
 ·rw [hl] at h0; omega
 ·rw [hl] at hcap htk ⊢
  have hx : (l ++ [x])[l.length]? = some x := by rw [List.getElem?_append_right (Nat.le_refl _), Nat.sub_self]; rfl
  obtain ⟨e1, e2⟩ := lvC_at hx
  have hat : ∀ i v, (lvC (l ++ [x]))[i]? = some v → i < (l.length + 1) * 2 → cur[i]? = some v := fun i v hv hi => by
   rw [← htk, List.getElem?_take, if_pos hi] at hv
   rw [← hv, Array.getElem?_toList]
  refine ⟨g, cap, rfl, hcap, hcm, h.new g rfl, Lib.frozen_of_heap hg _, ?_, ?_⟩
  ·rw [Lib.cell_of_heap hg]; exact hat _ _ e1 (by omega)
  ·rw [Lib.cell_of_heap hg]; exact hat _ _ e2 (by omega)
theorem LvW.drop {w : World} {B g c : Nat} {l : List (Value × List UInt8)} {x : Value × List UInt8} (h : LvW w B (.slice (some ⟨g, 0, none⟩) (l.length + 1) c) (l ++ [x])) : LvW w B (.slice (some ⟨g, 0, none⟩) l.length c) l := by
 refine ⟨⟨lvC_len l, ?_⟩, fun k hk => h.new k hk⟩
 rcases h.row.2 with ⟨h1, _⟩ | ⟨g2, cap, cur, h1, h2, h3, h4, h5, h6, h7⟩
 ·cases h1
 ·injection h1 with e1 _ e3
  injection e1 with e1
  injection e1 with e1
  subst e1 e3
  rw [List.length_append, List.length_singleton] at h4 h7
  refine .inr ⟨g, c, cur, rfl, h2, h3, by omega, h5, h6, ?_⟩
  have h8 := congrArg (List.take (l.length * 2)) h7
  rw [List.take_take, Nat.min_eq_left (by omega)] at h8
  rw [h8, lvC_app, List.take_append_of_le_length (by rw [lvC_len]; omega), List.take_of_length_le (by rw [lvC_len]; omega)]
theorem LvW.turn {w : World} {B g c : Nat} {l : List (Value × List UInt8)} {x : Value × List UInt8} (h : LvW w B (.slice (some ⟨g, 0, none⟩) (l.length + 1) c) (l ++ [x])) (v : Value) : LvW (w.setCell ⟨g, l.length * 2, none⟩ v) B (.slice (some ⟨g, 0, none⟩) (l.length + 1) c) (l ++ [(v, x.2)]) := by
 have hlen : ∀ y : Value × List UInt8, (lvC (l ++ [y])).length = (l ++ [y]).length * 2 := fun y => lvC_len _
 refine ⟨⟨lvC_len _, ?_⟩, fun k hk => h.new k hk⟩
 rcases h.row.2 with ⟨h1, _⟩ | ⟨g2, cap, cur, h1, h2, h3, h4, h5, h6, h7⟩
 ·cases h1
 ·injection h1 with e1 _ e3
  injection e1 with e1
  injection e1 with e1
  subst e1 e3
  rw [List.length_append, List.length_singleton] at h4 h7 ⊢
  refine .inr ⟨g, c, cur.setIfInBounds (l.length * 2) v, rfl, h2, by simp [World.setCell, Array.getElem?_modify, h3], h4, h5, by rw [Array.size_setIfInBounds]; exact h6, ?_⟩
  rw [Array.toList_setIfInBounds, List.take_set, h7, lvC_app, lvC_app]
  show (lvC l ++ [x.1, .string (strB x.2)]).set (l.length * 2) v = lvC l ++ [v, .string (strB x.2)]
  rw [List.set_append_right _ _ (by rw [lvC_len]; exact Nat.le_refl _), lvC_len, Nat.sub_self]
  rfl
theorem PrAt.side {w : World} {B b g c n : Nat} {out : List UInt8} {l : List (Value × List UInt8)} (h : PrAt w B b out (.slice (some ⟨g, 0, none⟩) n c)) (hl : LvW w B (.slice (some ⟨g, 0, none⟩) n c) l) (i : Nat) (v : Value) : PrAt (w.setCell ⟨g, i, none⟩ v) B b out (.slice (some ⟨g, 0, none⟩) n c) :=
 h.grown hl ((Keeps.refl (fun q => (Value.slice (some ⟨g, 0, none⟩) n c).ownBlock = some q) w).setCell (p := ⟨g, i, none⟩) (.inl rfl) v)
theorem PrAt.new {w0 : World} {v : Value} : PrAt ((w0.alloc (.cells #[v, .string ⟨#[]⟩] 66)).alloc (.cells #[.pointer none, .slice none 0 0, .slice (some ⟨w0.heap.size, 0, none⟩) 1 1] 72)) w0.heap.size (w0.heap.size + 1) [] (.slice (some ⟨w0.heap.size, 0, none⟩) 1 1) := by
 refine ⟨by omega, .pointer none, .slice none 0 0, .inl rfl, ?_, World.ownsRow_nil _ _ _ _, fun _ => rfl⟩
 have h := heap_alloc_new (w0.alloc (.cells #[v, .string ⟨#[]⟩] 66)) (.cells #[.pointer none, .slice none 0 0, .slice (some ⟨w0.heap.size, 0, none⟩) 1 1] 72)
 rw [show (w0.alloc (.cells #[v, .string ⟨#[]⟩] 66)).heap.size = w0.heap.size + 1 by simp] at h
 exact h
theorem LvW.new1 {w0 : World} {v : Value} (o : Obj) : LvW ((w0.alloc (.cells #[v, .string ⟨#[]⟩] 66)).alloc o) w0.heap.size (.slice (some ⟨w0.heap.size, 0, none⟩) 1 1) [(v, [])] := by
 have h1 : ((w0.alloc (.cells #[v, .string ⟨#[]⟩] 66)).alloc o).heap[w0.heap.size]? = some (.cells #[v, .string ⟨#[]⟩] 66 (0, 0)) := by
  rw [Lib.alloc_old _ _ _ (by simp)]
  exact heap_alloc_new w0 _
 refine ⟨⟨rfl, .inr ⟨w0.heap.size, 1, #[v, .string ⟨#[]⟩], rfl, Nat.zero_le _, h1, Nat.le_refl _, by unfold maxLen; decide, rfl, rfl⟩⟩, fun k e => ?_⟩
 exact Nat.le_of_eq (Option.some.inj e)
set_option maxRecDepth 100000 in
theorem pnodes_calls {w0 : World} {v : Value} {ks : List Tr} (h : RestIn w0 v ks) (hs : (wrL ks).length ≤ 1073741824) (hc : cntL ks ≤ 400000000) : Calls Tryz.prog 16 #[v] w0 (Leaves (.string (strB (wrL ks))) w0) := by
 obtain ⟨B, hB⟩ : ∃ B, w0.heap.size = B := ⟨_, rfl⟩
 have HR := hid h
 have hvs : ∃ a n c, v = .slice a n c := by obtain ⟨rows, ⟨a, c, e, _⟩, _⟩ := h; exact ⟨_, _, _, e⟩
 obtain ⟨va, vn, vc, rfl⟩ := hvs
 obtain ⟨FIN, hF⟩ : ∃ F, wrL ks = F := ⟨_, rfl⟩
 rw [hF] at hs ⊢
 obtain ⟨N, hN⟩ : ∃ N, stepsW [(ks, [])] = N := ⟨_, rfl⟩
 have hN2 : N ≤ 1000000000 := by rw [← hN, stepsW, stepsW]; dsimp only; omega
 have HN := hid hN
 have HN2 := hid hN2
 have HF := hid hF
 have HS := hid hs
 have HB := hid hB
 have HP0 := hid (PrAt.new (w0 := w0) (v := .slice va vn vc))
 have HL0 := hid (LvW.new1 (w0 := w0) (v := .slice va vn vc) (.cells #[.pointer none, .slice none 0 0, .slice (some ⟨w0.heap.size, 0, none⟩) 1 1] 72))
 clear h hs hc hF hN hN2 hB
 go_enter Tryz.func16, Tryz.ntmps16
 go_wp2_with fail
 rw [HB.out] at HP0 HL0 ⊢
 go_loopg [] N (fun gk wr => ∃ (xs : List (Value × List UInt8)) (ls : List (List Tr × List UInt8)) (out : List UInt8) (o : Value), PrAt wr B (B + 1) out o ∧ LvW wr B o xs.reverse ∧ LvsIn w0 xs ls ∧ out ++ flatW ls = FIN ∧ Below B w0 wr ∧ stepsW ls = gk ∧ gk ≤ N)
 case atStart => exact ⟨[(_, [])], [(ks, [])], [], _, HP0.out, HL0.out, ⟨rfl, HR.out, trivial⟩, by rw [flatW, flatW, HF.out]; simp, (((Below.refl _ _).alloc (by have := HB.out; omega) _).alloc (by have := HB.out; simp; omega) _), HN.out, Nat.le_refl _⟩
 case round =>
  obtain ⟨xs, ls, out, o, hp, hlv, hin, hfin, hbl, hst, hgn⟩ := hrel
  have HPR := hid hp
  have HLR := hid hlv
  have HIN := hid hin
  have HFI := hid hfin
  have HBL := hid hbl
  have HST := hid hst
  have HGN := hid hgn
  have z2 := hp.open_
  clear hp hlv hin hfin hbl hst hgn
  cases xs with
  | nil =>
   have hls : ls = [] := List.length_eq_zero_iff.1 HIN.out.len.symm
   obtain ⟨oa, oc, rfl⟩ := HLR.out.form
   have HPS : Hid (Calls Tryz.prog 38 #[.pointer (some ⟨B + 1, 0, none⟩)] wr (fun e w' => e = .returned (.string (strB FIN)) ∧ Below B wr w')) := hid (by
    have h1 := HFI.out
    rw [hls, flatW, List.append_nil] at h1
    rw [← h1]
    exact pstring_calls HPR.out)
   clear hls HIN
   simp only [List.reverse_nil, List.length_nil] at z2 HLR HPR
   go_wp2_with fail
   with_reducible refine HPS.out.mono ?_
   rintro e w2 ⟨rfl, hb2⟩
   have HB2 : Hid (Below w0.heap.size w0 w2) := hid (by rw [HB.out]; exact HBL.out.trans hb2)
   clear hb2
   go_wp2_with fail
   go_ret
   exact ⟨rfl, HB2.out⟩
  | cons x xs =>
   cases ls with
   | nil => exact HIN.out.elim
   | cons l ls =>
    obtain ⟨hx2, hrest, hin2⟩ := HIN.out
    have hlv := HLR.out
    rw [List.reverse_cons] at hlv
    obtain ⟨g, c, rfl, hcl, hcm, hgB, hfz, hc1, hc2⟩ := hlv.last
    obtain ⟨m, hm⟩ : ∃ m, xs.reverse.length = m := ⟨_, rfl⟩
    have hlv2 := hlv
    rw [hm] at z2 hcl hfz hc1 hc2 hlv2 HPR
    have HLV := hid hlv2
    have HIN2 := hid hin2
    have HX2 := hid hx2
    have HREST := hid hrest
    have HM := hid hm
    have HMX : Hid (m ≤ 1000000000) := hid (by
     have h1 := steps_len (l :: ls)
     have h2 := HIN.out.len
     have h3 := HST.out
     have h4 := HGN.out
     have h5 := HN2.out
     rw [List.length_reverse] at hm
     rw [List.length_cons, List.length_cons] at h2
     rw [List.length_cons] at h1
     omega)
    have hgt : (0 : Int) < (m : Int) + 1 := by omega
    have hsub : IntKind.i64.wrap (m : Int) = (m : Int) := IntWalk.i64_in _ (by have := HMX.out; omega)
    have hm0 : (0 : Int) ≤ (m : Int) := by omega
    have hml : (m : Int) < (m : Int) + 1 := by omega
    have hmc : (m : Int) ≤ (c : Int) := by omega
    clear hx2 hrest hin2 hlv hlv2 hm hcl hcm HIN HLR
    obtain ⟨lv, le⟩ := l
    obtain ⟨xv, xe⟩ := x
    dsimp only at HX2 HREST hc1 hc2
    obtain rfl : xe = le := HX2.out
    obtain ⟨se, hse⟩ : ∃ s, strB xe = s := ⟨_, rfl⟩
    rw [hse] at hc2
    have HSE := hid hse
    cases lv with
    | nil =>
     obtain ⟨ra, rc, rfl⟩ := HREST.out.none
     clear HREST HX2 hse
     go_wp2_with fail
     go_quiet (fail)
     obtain ⟨y0, hy0⟩ : ∃ W, wr.drewN nq = W := ⟨_, rfl⟩
     rw [hy0]
     have hb0 : Below wr.heap.size wr y0 := by rw [← hy0]; exact ⟨rfl, rfl, rfl, Nat.le_refl _, fun _ _ => rfl⟩
     have HP1 := hid (HPR.out.below hb0)
     have HL1 := hid (HLV.out.below hb0)
     have hbB : B ≤ wr.heap.size := by have := HBL.out.size; have := HB.out; omega
     have HB1 := hid (HBL.out.trans (hb0.mono hbB))
     have d1 := (hb0.cell (lt_of_cell hc1)).trans hc1
     have d2 := (hb0.cell (lt_of_cell hc2)).trans hc2
     have hfl : out ++ (xe ++ flatW ls) = FIN := by rw [← HFI.out, flat_end]
     have HFL := hid hfl
     have HBY : Hid (B ≤ y0.heap.size) := hid (Nat.le_trans hbB hb0.size)
     have HPUT : Hid (Calls Tryz.prog 36 #[.pointer (some ⟨B + 1, 0, none⟩), .slice (some ⟨y0.heap.size, 0, none⟩) 1 1] (y0.alloc (.cells #[.string se] 9)) (POut y0 B (B + 1) (out ++ xe) (.slice (some ⟨g, 0, none⟩) (m + 1) c))) := hid (put_here HP1.out HBY.out [xe] 1 rfl (by decide) (cells := #[.string se]) (F := out ++ xe) (by rw [← HSE.out]; rfl) (by simp) (by
      have h1 := HS.out
      rw [← hfl] at h1
      simp only [List.length_append] at h1 ⊢
      omega))
     clear hb0 hc1 hc2 z2 hfl hbB HP0 HL0
     go_wp2_with fail
     with_reducible refine HPUT.out.mono ?_
     rintro e y1 ⟨rfl, hp1, hw1⟩
     have HL2 := hid (HL1.out.wr HP1.out hw1)
     have HP2 := hid hp1
     have HB2 := hid (HB1.out.trans hw1.low)
     clear hp1 hw1 d1 d2
     go_upto_region 6 with (fail)
     obtain ⟨y2, hy2⟩ : ∃ W, y1.drew = W := ⟨_, rfl⟩
     have hb12 : Below y1.heap.size y1 y2 := by rw [← hy2]; exact ⟨rfl, rfl, rfl, Nat.le_refl _, fun _ _ => rfl⟩
     have HP3 := hid (HP2.out.below hb12)
     have HL3 := hid (HL2.out.below hb12)
     have HB3 := hid (HB2.out.trans (hb12.mono (by have := HB2.out.size; have := HB.out; omega)))
     have z3 := HP3.out.open_
     have hf3 := HP3.out.thaw 2
     clear hb12
     refine wp_region_z (S := fun W => W.cell? ⟨B + 1, 2, none⟩ = some (.slice (some ⟨g, 0, none⟩) (m + 1) c)) 14 (by kernel_rfl) (by rw [hy2]; exact z3) (fun hHeld => ?_)
     rw [hy2] at hHeld ⊢
     refine tkZ 0 16 ?_
     try simp only [LT, Act.put]
     refine tkZ 1 16 ?_
     try simp only [LT, Act.put]
     refine tkZ 2 16 ?_
     try simp only [LT, Act.put]
     refine tkZ 3 16 ?_
     try simp only [LT, Act.put]
     refine tkZ 4 16 ?_
     try simp only [LT, Act.put]
     refine tkZ 5 16 ?_
     try simp only [LT, Act.put]
     refine tkZ 6 16 ?_
     try simp only [LT, Act.put]
     refine tkZ 7 16 ?_
     try simp only [LT, Act.put]
     refine tkZ 8 16 ?_
     try simp only [LT, Act.put]
     refine tkZ 9 16 ?_
     try simp only [LT, Act.put]
     refine tkZ 10 16 ?_
     try simp only [LT, Act.put]
     refine tkZ 11 16 ?_
     try simp only [LT, Act.put]
     refine tkZ 12 16 ?_
     try simp only [LT, Act.put]
     refine tkZ 13 16 ?_
     try simp only [LT, Act.put]
     refine wpAnyZ_last (by kernel_rfl) rfl (by kernel_rfl) (fun K hK => ?_)
     go_simp
     refine hK.out _ _ ?_
     clear hK K
     try simp only [LT, Act.put]
     have HP4 := hid (HP3.out.put (.slice (some ⟨g, 0, none⟩) m c))
     have HL4 : Hid (LvW (y2.setCell ⟨B + 1, 2, none⟩ (.slice (some ⟨g, 0, none⟩) m c)) B (.slice (some ⟨g, 0, none⟩) m c) xs.reverse) := hid (by
      have h1 := HL3.out
      rw [← HM.out] at h1
      have h2 := h1.drop
      rw [HM.out] at h1 h2
      refine ⟨ownsRow_keep h2.row ((Keeps.refl (One (B + 1)) y2).setCell (p := ⟨B + 1, 2, none⟩) (.inl rfl) _) (fun k hk e => h1.ne HP3.out k hk e), h2.new⟩)
     have HB4 : Hid (Below B w0 (y2.setCell ⟨B + 1, 2, none⟩ (.slice (some ⟨g, 0, none⟩) m c))) := hid (HB3.out.setCell (p := ⟨B + 1, 2, none⟩) (Nat.le_succ B) _)
     go_wp2_with fail
     go_roundg (stepsW ls)
     case measure => have h1 := steps_end xe ls; have h2 := HST.out; omega
     case rel => exact ⟨xs, ls, out ++ xe, _, HP4.out, HL4.out, HIN2.out, by rw [List.append_assoc]; exact HFL.out, HB4.out, rfl, by have h1 := steps_end xe ls; have h2 := HST.out; have h3 := HGN.out; omega⟩
    | cons t ts =>
     obtain ⟨nb, no, rc, r, rfl, hrc, hrm, hnr, hnt, hrest1, hrest2⟩ := HREST.out.first
     obtain ⟨q, hq⟩ : ∃ q, ts.length = q := ⟨_, rfl⟩
     rw [hq] at hrc hrest1 hc1
     have HNR := hid hnr
     have HNT := hid hnt
     have HR1 := hid hrest1
     have HR2 := hid hrest2
     have hq0 : ((q : Int) + 1 == 0) = false := beq_eq_false_iff_ne.2 (by omega)
     have hq1 : ¬ ((q : Int) + 1 = 0) := by omega
     have hq2 : (0 : Int) < (q : Int) + 1 := by omega
     have hq3 : (1 : Int) ≤ (q : Int) + 1 := by omega
     have hq4 : (q : Int) + 1 ≤ (rc : Int) := by omega
     clear HREST HX2 hse hnr hnt hrest1 hrest2
     go_wp2_with fail
     go_quiet (fail)
     obtain ⟨y0, hy0⟩ : ∃ W, wr.drewN nq = W := ⟨_, rfl⟩
     rw [hy0]
     have hb0 : Below wr.heap.size wr y0 := by rw [← hy0]; exact ⟨rfl, rfl, rfl, Nat.le_refl _, fun _ _ => rfl⟩
     have HP1 := hid (HPR.out.below hb0)
     have HL1 := hid (HLV.out.below hb0)
     have hbB : B ≤ wr.heap.size := by have := HBL.out.size; have := HB.out; omega
     have HB1 := hid (HBL.out.trans (hb0.mono hbB))
     have d1 := (hb0.cell (lt_of_cell hc1)).trans hc1
     have d2 := (hb0.cell (lt_of_cell hc2)).trans hc2
     have HBY : Hid (B ≤ y0.heap.size) := hid (Nat.le_trans hbB hb0.size)
     have hf1 : y0.frozen? ⟨g, m * 2, none⟩ = false := by rw [← hy0]; exact hfz
     have HGB := hid hgB
     have HNODE : Hid (∀ nv, RestIn w0 nv ts → Calls Tryz.prog 37 #[.pointer (some ⟨B + 1, 0, none⟩), .pointer (some ⟨nb, no, none⟩)] (y0.setCell ⟨g, m * 2, none⟩ nv) (fun e w' => e = .returned (.tuple #[]) ∧ ∃ (xs2 : List (Value × List UInt8)) (ls2 : List (List Tr × List UInt8)) (out2 : List UInt8) (o2 : Value), PrAt w' B (B + 1) out2 o2 ∧ LvW w' B o2 xs2.reverse ∧ LvsIn w0 xs2 ls2 ∧ out2 ++ flatW ls2 = FIN ∧ Below B w0 w' ∧ stepsW ls2 < gk)) := hid (fun nv hR => by
      have hl1 := HL1.out
      have hp2 := HP1.out.side hl1 (m * 2) nv
      rw [← HM.out] at hl1
      have hl2 := hl1.turn nv
      rw [HM.out] at hl2
      dsimp only at hl2
      have hbl2 : Below B w0 (y0.setCell ⟨g, m * 2, none⟩ nv) := HB1.out.setCell (p := ⟨g, m * 2, none⟩) HGB.out nv
      have hfl := HFI.out
      rw [flat_next] at hfl
      have hlen := congrArg List.length hfl
      simp only [List.length_append] at hlen
      have hS := HS.out
      have hcall := pnode_calls (w0 := w0) (ls := xs.reverse ++ [(nv, xe)]) (by rw [HB.out]; exact hp2) (by rw [HB.out]; exact hl2) (by rw [HB.out]; exact hbl2) HNR.out HNT.out (by omega) (by omega) (by rw [List.length_append, HM.out, List.length_singleton]; have h1 := HMX.out; have h2 := steps_len ((t :: ts, xe) :: ls); have h3 := HIN2.out.len; have h4 := HST.out; have h5 := HGN.out; have h6 := HN2.out; have h7 := HM.out; rw [List.length_reverse] at h7; rw [List.length_cons] at h2; omega)
      rw [HB.out] at hcall
      refine hcall.mono ?_
      rintro e w' ⟨he, hb, hcase⟩
      rcases hcase with ⟨_, hp, hl⟩ | ⟨⟨hk1, hk2⟩, o2, hp, hl⟩
      ·refine ⟨he, (nv, xe) :: xs, (ts, xe) :: ls, out ++ wrN t, _, hp, by rw [List.reverse_cons]; exact hl, ⟨rfl, hR, HIN2.out⟩, by rw [List.append_assoc]; exact hfl, hbl2.trans hb, ?_⟩
       have h1 := steps_next t ts xe ls
       have h2 := HST.out
       omega
      ·obtain ⟨_, _, _, _, rows, hr1, hr2⟩ := HNT.out.kids
       obtain ⟨k, n, tx, ats, kk⟩ := t
       obtain rfl : k = 1 := hk1
       refine ⟨he, (r.kv, 60 :: 47 :: (n ++ [62])) :: (nv, xe) :: xs, (kk, 60 :: 47 :: (n ++ [62])) :: (ts, xe) :: ls, out ++ 60 :: (n ++ (attrsB ats ++ [62])), o2, hp, by rw [List.reverse_cons, List.reverse_cons]; exact hl, ⟨rfl, ⟨rows, hr1, hr2⟩, rfl, hR, HIN2.out⟩, ?_, hbl2.trans hb, ?_⟩
       ·have hk3 : kk ≠ [] := hk2
        rw [← HFI.out, flat_open (x := tx) hk3, List.append_assoc]
       ·have h1 := steps_open n tx ats kk ts xe (60 :: 47 :: (n ++ [62])) ls
        have h2 := HST.out
        omega)
     clear hb0 hc1 hc2 z2 hbB HP0 HL0 hgB
     by_cases hrc1 : rc = 1
     ·subst hrc1
      obtain rfl : q = 0 := by omega
      have HND := hid (HNODE.out _ (HR2.out rfl))
      clear HNODE HR1 HR2
      go_wp2_with fail
      with_reducible refine HND.out.mono ?_
      rintro e w3 ⟨rfl, xs2, ls2, out2, o2, hp, hl, hi, hf, hb, hs⟩
      have HX := hid (And.intro hp (And.intro hl (And.intro hi (And.intro hf (And.intro hb hs)))))
      clear hp hl hi hf hb hs
      go_wp2_with fail
      go_roundg (stepsW ls2)
      case measure => exact HX.out.2.2.2.2.2
      case rel => exact ⟨xs2, ls2, out2, o2, HX.out.1, HX.out.2.1, HX.out.2.2.1, HX.out.2.2.2.1, HX.out.2.2.2.2.1, rfl, by have h1 := HX.out.2.2.2.2.2; have h2 := HGN.out; omega⟩
     ·have HND := hid (HNODE.out _ HR1.out)
      clear HNODE HR1 HR2
      go_wp2_with fail
      with_reducible refine HND.out.mono ?_
      rintro e w3 ⟨rfl, xs2, ls2, out2, o2, hp, hl, hi, hf, hb, hs⟩
      have HX := hid (And.intro hp (And.intro hl (And.intro hi (And.intro hf (And.intro hb hs)))))
      clear hp hl hi hf hb hs
      go_wp2_with fail
      go_roundg (stepsW ls2)
      case measure => exact HX.out.2.2.2.2.2
      case rel => exact ⟨xs2, ls2, out2, o2, HX.out.1, HX.out.2.1, HX.out.2.2.1, HX.out.2.2.2.1, HX.out.2.2.2.2.1, rfl, by have h1 := HX.out.2.2.2.2.2; have h2 := HGN.out; omega⟩
theorem phas_calls {w : World} (l : List UInt8) (hl : l.length ≤ 1073741824) (hL : Laid w) : Calls Tryz.prog 55 #[.string (strB l)] w (Leaves (.bool (hasB l)) w) := by
 obtain ⟨s, hs⟩ : ∃ s, strB l = s := ⟨_, rfl⟩
 have hsz : s.size = l.length := by rw [← hs]; rfl
 have hdl : s.data.toList = l := by rw [← hs]; rfl
 have hconv := Lib.run_convert_string_bytes (P := Tryz.prog) w 9 43 5 s Tryz.underlying9 Tryz.underlying43 Tryz.underlying5
 have hb0 := bytesWorld_below w s
 have hrow : Row8 (bytesWorld w 5 s) (some ⟨w.heap.size, 0, none⟩) s.size (fs s.data.toList) :=
  ⟨fs_lt _, by omega, Or.inr ⟨_, _, rfl, fun i hi => by rw [Nat.zero_add]; exact bytesWorld_cell w 5 s i hi⟩⟩
 have hc1 := grownCap_ge w s.size 0 5
 have hc2 := grownCap_le_maxLen w s.size 0 5 (by unfold maxLen; omega)
 obtain ⟨W1, hW1⟩ : ∃ W1, bytesWorld w 5 s = W1 := ⟨_, rfl⟩
 obtain ⟨cap, hcap⟩ : ∃ cap, grownCap w s.size 0 5 = cap := ⟨_, rfl⟩
 rw [hW1] at hconv hb0 hrow
 rw [hcap] at hconv hc1 hc2
 have HBAD := hid (bad_calls (some ⟨w.heap.size, 0, none⟩) s.size cap (fs s.data.toList) W1 (hL.below hb0) hc1 (by unfold maxLen at hc2; omega) hrow (by omega))
 have HQ : Hid (hasB l = decide (badZ (fs s.data.toList) s.size < 0)) := hid (by rw [hdl, hsz]; rfl)
 have HB0 := hid hb0
 obtain ⟨q, hq⟩ : ∃ q, badZ (fs s.data.toList) s.size = q := ⟨_, rfl⟩
 rw [hq] at HBAD HQ
 rw [HQ.out, hs]
 clear hL hl hs hdl hsz hrow hc1 hc2 hW1 hcap hb0 hq
 go_enter Tryz.func55, Tryz.ntmps55
 go_wp2_with fail
 with_reducible refine HBAD.out.mono ?_
 rintro e w2 ⟨rfl, hb2⟩
 have HB2 := hid (below_then HB0.out hb2)
 clear hb2
 go_wp2_with fail
 go_ret
 exact ⟨rfl, HB2.out⟩
theorem contains_cut {m : List UInt8} (hm : m ≠ []) (s : List UInt8) : Lib.contains s m = !(cutS m s).isNone := by
 unfold Lib.contains
 rw [index_cutS m hm]
 cases cutS m s with
 | none => rfl
 | some q => simp
theorem pcontains_calls {w : World} (ss ms : ByteArray) (s m : List UInt8) (hs : ss.data.toList = s) (hm : ms.data.toList = m) (hm0 : m ≠ []) (hl : s.length ≤ 1073741900) (hx : MaxLen w) : Calls Tryz.prog 57 #[.string ss, .string ms] w (Leaves (.bool (!(cutS m s).isNone)) w) := by
 obtain ⟨mx, hmx⟩ := hx
 have hsz : ss.size = s.length := by rw [Lib.size_eq, hs]
 refine (Tryz.strings_Contains ss ms mx w (by omega) hmx).mono ?_
 rintro e w' ⟨rfl, rfl⟩
 rw [hs, hm, contains_cut hm0]
 exact ⟨rfl, Below.refl _ _⟩
theorem pverbatim_calls {w : World} (l : List UInt8) (hl : l.length ≤ 1073741824) (hE : EnvAt w) : Calls Tryz.prog 56 #[.string (strB l)] w (Leaves (.bool (hasB l && !l.contains 13)) w) := by
 have HH := hid (phas_calls l hl hE.laid)
 have HC := hid (fun W (hW : MaxLen W) => pcontains_calls (w := W) (strB l) ⟨#[13]⟩ l [13] rfl rfl (by decide) (by omega) hW)
 have hcr := cut_cr l
 obtain ⟨q, hq⟩ : ∃ q, hasB l = q := ⟨_, rfl⟩
 obtain ⟨p, hp⟩ : ∃ p, (cutS [13] l).isNone = p := ⟨_, rfl⟩
 obtain ⟨s, hs⟩ : ∃ s, strB l = s := ⟨_, rfl⟩
 rw [hq] at HH
 rw [hp] at HC hcr
 rw [hq, ← hcr]
 rw [hs] at HH HC ⊢
 have HM := hid hE.mx
 clear hE hq hp hs hcr hl
 go_enter Tryz.func56, Tryz.ntmps56
 go_wp2_with fail
 with_reducible refine HH.out.mono ?_
 rintro e w2 ⟨rfl, hb2⟩
 have HB2 := hid hb2
 have HC2 := hid (HC.out w2 (HM.out.below hb2))
 clear hb2 HC HH
 cases q with
 | false =>
  go_wp2_with fail
  go_ret
  exact ⟨rfl, HB2.out⟩
 | true =>
  go_wp2_with fail
  with_reducible refine HC2.out.mono ?_
  rintro e w3 ⟨rfl, hb3⟩
  have HB3 := hid (below_then HB2.out hb3)
  clear hb3
  go_wp2_with fail
  go_ret
  exact ⟨by simp, HB3.out⟩
theorem ptarget_calls {w : World} (l : List UInt8) (hl : l.length ≤ 1073741824) (hE : EnvAt w) : Calls Tryz.prog 58 #[.string (strB l)] w (Leaves (.bool (nameW l && !sameS l [120, 109, 108])) w) := by
 have hsz : (strB l).size = l.length := rfl
 have HH := uname_calls (strB l) w (by omega) hE.laid
 rw [show (strB l).data.toList = l from rfl, nameP_eq] at HH
 have HH := hid HH
 have HC : Hid (∀ W, EnvAt W → Calls Tryz.prog 87 #[.string (strB l), .string ⟨#[120, 109, 108]⟩] W (Leaves (.bool (sameS l [120, 109, 108])) W)) := hid (fun W hW => fold_calls (strB l) [120, 109, 108] (.inl rfl) W hW (by omega))
 obtain ⟨q, hq⟩ : ∃ q, nameW l = q := ⟨_, rfl⟩
 obtain ⟨p, hp⟩ : ∃ p, sameS l [120, 109, 108] = p := ⟨_, rfl⟩
 obtain ⟨s, hs⟩ : ∃ s, strB l = s := ⟨_, rfl⟩
 rw [hq] at HH
 rw [hp] at HC
 rw [hq, hp]
 rw [hs] at HH HC ⊢
 have HE := hid hE
 clear hE hq hp hs hl hsz
 go_enter Tryz.func58, Tryz.ntmps58
 go_wp2_with fail
 with_reducible refine HH.out.mono ?_
 rintro e w2 ⟨rfl, hb2⟩
 have HB2 := hid hb2
 have HC2 := hid (HC.out w2 (HE.out.below hb2))
 clear hb2 HC HH
 cases q with
 | false =>
  go_wp2_with fail
  go_ret
  exact ⟨rfl, HB2.out⟩
 | true =>
  go_wp2_with fail
  with_reducible refine HC2.out.mono ?_
  rintro e w3 ⟨rfl, hb3⟩
  have HB3 := hid (below_then HB2.out hb3)
  clear hb3
  go_wp2_with fail
  go_ret
  exact ⟨by simp, HB3.out⟩
set_option maxRecDepth 100000 in
theorem ptouch_calls {w : World} {S : Nat → Prop} {v : Value} {rows : List Nr} {ks : List Tr} (h : RowIn w S v rows) (hk : rows.map (fun r => r.kind) = ks.map Tr.kind) : Calls Tryz.prog 54 #[v] w (Leaves (.bool (touchB ks)) w) := by
 obtain ⟨a, c, rfl, hc, hm, _, hcell⟩ := h
 obtain ⟨n, hn⟩ : ∃ n, rows.length = n := ⟨_, rfl⟩
 have hn2 : ks.length = n := by have := congrArg List.length hk; rw [List.length_map, List.length_map] at this; omega
 rw [hn] at hc ⊢
 have HN := hid hn
 have HN2 := hid hn2
 have HK := hid hk
 have HCL := hid hcell
 obtain ⟨Q, hQ⟩ : ∃ Q, touchB ks = Q := ⟨_, rfl⟩
 rw [hQ]
 have HQ := hid hQ
 have HMX : Hid (n ≤ maxLen) := hid (by omega)
 clear hn hn2 hk hcell hQ hc hm
 go_enter Tryz.func54, Tryz.ntmps54
 go_wp2_with fail
 go_loopg [3] n (fun g s wr => ∃ j : Nat, s = .int .i64 ((j : Int) + 1) ∧ n ≤ g + j ∧ wr = w ∧ ∀ i t u, i < j → ks[i]? = some t → ks[i + 1]? = some u → ¬ (t.kind = 2 ∧ u.kind = 2))
 case atStart => exact ⟨0, rfl, by omega, rfl, fun i t u h => absurd h (Nat.not_lt_zero _)⟩
 case round =>
  obtain ⟨j, rfl, hg, rfl, hno⟩ := hrel
  have HNO := hid hno
  clear hno
  by_cases hj : j + 1 < n
  ·obtain ⟨g, rfl⟩ : ∃ g, gk = g + 1 := ⟨gk - 1, by omega⟩
   have hji : (j : Int) + 1 < (n : Int) := by omega
   have hw1 : IntKind.i64.wrap (j : Int) = (j : Int) := IntWalk.i64_in _ (by have := HMX.out; unfold maxLen at this; omega)
   have hw2 : IntKind.i64.wrap ((j : Int) + 1 + 1) = (((j + 1 : Nat) : Int) + 1) := by rw [IntWalk.i64_in _ (by have := HMX.out; unfold maxLen at this; omega)]; omega
   have h0 : (0 : Int) ≤ (j : Int) := by omega
   have h1 : (0 : Int) ≤ (j : Int) + 1 := by omega
   have h2 : (j : Int) < (n : Int) := by omega
   obtain ⟨r1, hr1⟩ : ∃ r, rows[j]? = some r := ⟨_, List.getElem?_eq_getElem (by rw [HN.out]; omega)⟩
   obtain ⟨r2, hr2⟩ : ∃ r, rows[j + 1]? = some r := ⟨_, List.getElem?_eq_getElem (by rw [HN.out]; omega)⟩
   obtain ⟨t1, ht1⟩ : ∃ r, ks[j]? = some r := ⟨_, List.getElem?_eq_getElem (by rw [HN2.out]; omega)⟩
   obtain ⟨t2, ht2⟩ : ∃ r, ks[j + 1]? = some r := ⟨_, List.getElem?_eq_getElem (by rw [HN2.out]; omega)⟩
   have hk1 : r1.kind = t1.kind := by
    have h := congrArg (fun l => l[j]?) HK.out
    simp only [List.getElem?_map, hr1, ht1, Option.map_some, Option.some.injEq] at h
    exact h
   have hk2 : r2.kind = t2.kind := by
    have h := congrArg (fun l => l[j + 1]?) HK.out
    simp only [List.getElem?_map, hr2, ht2, Option.map_some, Option.some.injEq] at h
    exact h
   rcases HCL.out with h0 | ⟨b, o, rfl, _, hcell⟩
   ·rw [h0] at hr1; simp at hr1
   have c1 := (hcell j r1 hr1).1
   have c2 := (hcell (j + 1) r2 hr2).1
   rw [hk1] at c1
   rw [hk2] at c2
   obtain ⟨k1, hk1⟩ : ∃ k, t1.kind = k := ⟨_, rfl⟩
   obtain ⟨k2, hk2⟩ : ∃ k, t2.kind = k := ⟨_, rfl⟩
   rw [hk1] at c1
   rw [hk2] at c2
   have HT1 := hid (And.intro ht1 hk1)
   have HT2 := hid (And.intro ht2 hk2)
   clear hcell hr1 hr2 ht1 ht2 hk1 hk2
   by_cases e1 : k1 = 2
   ·have e1b : (k1 == 2) = true := by rw [e1]; rfl
    by_cases e2 : k2 = 2
    ·have e2b : (k2 == 2) = true := by rw [e2]; rfl
     have HF : Hid (Q = true) := hid (by
      rw [← HQ.out, touch_at]
      exact ⟨j, t1, t2, HT1.out.1, HT2.out.1, HT1.out.2.trans e1, HT2.out.2.trans e2⟩)
     go_wp2_with fail
     go_ret
     exact ⟨by rw [HF.out]; rfl, Below.refl _ _⟩
    ·have e2b : (k2 == 2) = false := beq_eq_false_iff_ne.2 e2
     have HE2 := hid e2
     go_wp2_with fail
     go_roundg g
     case measure => omega
     case rel => exact ⟨j + 1, rfl, by omega, rfl, fun i t u hi h3 h4 h5 => by
      by_cases hij : i < j
      ·exact HNO.out i t u hij h3 h4 h5
      ·obtain rfl : i = j := by omega
       rw [HT2.out.1] at h4
       exact HE2.out (by rw [← HT2.out.2, Option.some.inj h4]; exact h5.2)⟩
   ·have e1b : (k1 == 2) = false := beq_eq_false_iff_ne.2 e1
    have HE1 := hid e1
    go_wp2_with fail
    go_roundg g
    case measure => omega
    case rel => exact ⟨j + 1, rfl, by omega, rfl, fun i t u hi h3 h4 h5 => by
     by_cases hij : i < j
     ·exact HNO.out i t u hij h3 h4 h5
     ·obtain rfl : i = j := by omega
      rw [HT1.out.1] at h3
      exact HE1.out (by rw [← HT1.out.2, Option.some.inj h3]; exact h5.1)⟩
  ·have hji : ¬ ((j : Int) + 1 < (n : Int)) := by omega
   have HF : Hid (Q = false) := hid (by
    rw [← HQ.out, ← Bool.not_eq_true, touch_at]
    rintro ⟨i, t, u, h3, h4, h5, h6⟩
    have h7 := (List.getElem?_eq_some_iff.1 h4).1
    exact HNO.out i t u (by have := HN2.out; omega) h3 h4 ⟨h5, h6⟩)
   go_wp2_with fail
   go_ret
   exact ⟨by rw [HF.out]; rfl, Below.refl _ _⟩
theorem keyLaw : Maps.Keyed Tryz.prog 9 := Maps.string_keyed Tryz.underlying9
theorem zeroI (w : World) : (zeroValue 3).run Tryz.prog w = .ok (.int .i64 0) w := by kernel_rfl
theorem ownsMap_keep {H : Type} {w w' : World} {P : Program} {k : TypeId} {R : Value → Option (DataW H × List MemPlace)} {b n : Nat} {D : DataW H} (h : w.ownsMap P k R b n D) (hb : w'.heap[b]? = w.heap[b]?) : w'.ownsMap P k R b n D := by
 obtain ⟨es, clock, h1, h2⟩ := h
 exact ⟨es, clock, hb.trans h1, h2⟩
theorem ownsMap_lt {H : Type} {w : World} {P : Program} {k : TypeId} {R : Value → Option (DataW H × List MemPlace)} {b n : Nat} {D : DataW H} (h : w.ownsMap P k R b n D) : b < w.heap.size := by
 obtain ⟨es, clock, h1, _⟩ := h
 exact lt_of_block h1
def Seen (D : DataW Unit) (ks : List (List UInt8)) : Prop := Maps.IsMap D ∧ ∀ x : List UInt8, D.atKey (.string x) (.lit (.int .i64 0)) = .lit (.int .i64 (if ks.contains x = true then 1 else 0))
theorem Seen.nil : Seen (.map []) [] := ⟨⟨_, rfl⟩, fun _ => rfl⟩
theorem Seen.snoc {D : DataW Unit} {ks : List (List UInt8)} {x : List UInt8} (h : Seen D ks) : Seen (D.put (.string x) (.lit (.int .i64 1))) (ks ++ [x]) := by
 refine ⟨h.1.put _ _, fun y => ?_⟩
 by_cases hy : y = x
 ·subst hy
  rw [Maps.atKey_put_same h.1 (k := .string y) trivial, if_pos (by simp)]
 ·have hne : (Lit.string y) ≠ Lit.string x := fun e => hy (Lit.string.inj e)
  have hc : (ks ++ [x]).contains y = ks.contains y := by
   rw [Bool.eq_iff_iff]
   simp [hy]
  rw [Maps.atKey_put_other hne, h.2 y, hc]
set_option maxRecDepth 100000 in
theorem pattrs_calls {w : World} {S : Nat → Prop} {v : Value} {l : List (List UInt8 × List UInt8)} (h : AttIn w S v l) (hf : ∀ a ∈ l, a.1.length ≤ 1073741823 ∧ a.2.length ≤ 1073741823) (hE : EnvAt w) : Calls Tryz.prog 53 #[v] w (Leaves (.bool (attrsW [] l)) w) := by
 have hmm := @run_makeMap Tryz.prog
 obtain ⟨a, c, rfl, hc, hm, _, hcell⟩ := h
 obtain ⟨n, hn⟩ : ∃ n, l.length = n := ⟨_, rfl⟩
 rw [hn] at hc ⊢
 have HN := hid hn
 have HCL := hid hcell
 have HFW := hid hf
 have HE := hid hE
 have hn64 : n ≤ 9223372036854775807 := by unfold maxLen at hm; omega
 have HMK : Hid (n ≤ maxLen) := hid (by omega)
 obtain ⟨Q, hQ⟩ : ∃ Q, attrsW [] l = Q := ⟨_, rfl⟩
 rw [hQ]
 have HQ : Hid (Q = attrsW ((l.take 0).map Prod.fst) (l.drop 0)) := hid hQ.symm
 obtain ⟨W1, hW1⟩ : ∃ W1, w.alloc (.map #[] 0) = W1 := ⟨_, rfl⟩
 have hmb : W1.ownsMap Tryz.prog 9 (plainElem (H := Unit) Tryz.prog 3) w.heap.size 0 (.map []) := by
  have := World.ownsMap_made (H := Unit) w Tryz.prog 9 (plainElem Tryz.prog 3)
  rw [hW1] at this
  exact this
 have hb1 : Below w.heap.size w W1 := by rw [← hW1]; exact (Below.refl _ _).alloc (Nat.le_refl _) _
 have HMB := hid hmb
 have HB1 := hid hb1
 clear hn hcell hf hE hQ hc hm hmb hb1
 go_enter Tryz.func53, Tryz.ntmps53
 go_wp2_with fail
 go_loopg [9] n (fun gk i wr => ∃ (j : Nat) (D : DataW Unit), i = .int .i64 (j : Int) ∧ gk + j = n ∧ wr.ownsMap Tryz.prog 9 (plainElem (H := Unit) Tryz.prog 3) w.heap.size j D ∧ Seen D ((l.take j).map Prod.fst) ∧ Q = attrsW ((l.take j).map Prod.fst) (l.drop j) ∧ Below w.heap.size w wr)
 case atStart => exact ⟨0, .map [], rfl, rfl, HMB.out, Seen.nil, HQ.out, HB1.out⟩
 case round =>
  obtain ⟨j, D, rfl, hg, hmap, hseen, hq, hb⟩ := hrel
  have HG := hid hg
  have HQ2 := hid hq
  have HB := hid hb
  have HSEEN := hid hseen
  clear hg hq hb HQ hW1 hseen HMB HB1
  by_cases hlt : j < n
  ·obtain ⟨g', rfl⟩ : ∃ g', gk = g' + 1 := ⟨gk - 1, by have := HG.out; omega⟩
   have hji : (j : Int) < (n : Int) := by omega
   have hj0 : (0 : Int) ≤ (j : Int) := by omega
   have hadd : IntKind.i64.wrap ((j : Int) + 1) = ((j + 1 : Nat) : Int) := IntWalk.i64_in _ (by omega)
   obtain ⟨x, hx⟩ : ∃ x, l[j]? = some x := ⟨l[j]'(by rw [HN.out]; exact hlt), List.getElem?_eq_getElem _⟩
   rcases HCL.out with h0 | ⟨b, o, rfl, _, hcell⟩
   ·rw [h0] at hx; simp at hx
   obtain ⟨c1, c2⟩ := hcell j x hx
   replace c1 := (HB.out.cell (lt_of_cell c1)).trans c1
   replace c2 := (HB.out.cell (lt_of_cell c2)).trans c2
   obtain ⟨hx1, hx2⟩ := HFW.out x (List.mem_of_getElem? hx)
   have hst : attrsW ((l.take j).map Prod.fst) (l.drop j) = (!((l.take j).map Prod.fst).contains x.1 && nameW x.1 && hasB x.2 && attrsW ((l.take (j + 1)).map Prod.fst) (l.drop (j + 1))) := by
    have hd : l.drop j = x :: l.drop (j + 1) := by
     obtain ⟨h1, h2⟩ := List.getElem?_eq_some_iff.1 hx
     rw [List.drop_eq_getElem_cons h1, h2]
    have htk : l.take (j + 1) = l.take j ++ [x] := by
     obtain ⟨h1, h2⟩ := List.getElem?_eq_some_iff.1 hx
     rw [List.take_succ_eq_append_getElem h1, h2]
    rw [hd, attrsW, htk, List.map_append]
    rfl
   have HSN : Hid (Seen (D.put (.string x.1) (.lit (.int .i64 1))) ((l.take (j + 1)).map Prod.fst)) := hid (by
    have htk : l.take (j + 1) = l.take j ++ [x] := by
     obtain ⟨h1, h2⟩ := List.getElem?_eq_some_iff.1 hx
     rw [List.take_succ_eq_append_getElem h1, h2]
    rw [htk, List.map_append]
    exact HSEEN.out.snoc)
   have hcn := HSEEN.out.2 x.1
   have HNM : Hid (∀ W, Below w.heap.size w W → Calls Tryz.prog 52 #[.string (strB x.1)] W (Leaves (.bool (nameW x.1)) W)) := hid (fun W hW => by
    have h1 := uname_calls (strB x.1) W (by rw [strB_size]; omega) (HE.out.below hW).laid
    rw [show (strB x.1).data.toList = x.1 from rfl, nameP_eq] at h1
    exact h1)
   have HHS : Hid (∀ W, Below w.heap.size w W → Calls Tryz.prog 55 #[.string (strB x.2)] W (Leaves (.bool (hasB x.2)) W)) := hid (fun W hW => phas_calls x.2 (by omega) (HE.out.below hW).laid)
   obtain ⟨z, hz⟩ : ∃ z, strB x.1 = z := ⟨_, rfl⟩
   obtain ⟨z2, hz2⟩ : ∃ z, strB x.2 = z := ⟨_, rfl⟩
   rw [hz] at c1 HNM
   rw [hz2] at c2 HHS
   have hkey : keyOf Tryz.prog 9 (.string z) = some (.string x.1) := by
    rw [← hz]
    exact Go.WideMaps.keyOf_string_mk Tryz.underlying9 (by rw [strB_size]; unfold maxLen; omega)
   obtain ⟨nq, hnq⟩ : ∃ q, nameW x.1 = q := ⟨_, rfl⟩
   obtain ⟨hq, hhq⟩ : ∃ q, hasB x.2 = q := ⟨_, rfl⟩
   obtain ⟨sq, hsq⟩ : ∃ q, ((l.take j).map Prod.fst).contains x.1 = q := ⟨_, rfl⟩
   have HQ3 : Hid (Q = (!sq && nq && hq && attrsW ((l.take (j + 1)).map Prod.fst) (l.drop (j + 1)))) := hid (by rw [HQ2.out, hst, hnq, hhq, hsq])
   rw [hnq] at HNM
   rw [hhq] at HHS
   rw [hsq] at hcn
   -- the loop's variable in a block of its own
   obtain ⟨y0, hy0⟩ : ∃ W, wr.alloc (.cells #[.string z, .string z2] 47) = W := ⟨_, rfl⟩
   have hby : Below wr.heap.size wr y0 := by rw [← hy0]; exact (Below.refl _ _).alloc (Nat.le_refl _) _
   have hml := ownsMap_lt hmap
   have hmapy := ownsMap_keep hmap (hby.block _ hml)
   have HBY := hid (below_then HB.out hby)
   have hblk : y0.heap[wr.heap.size]? = some (.cells #[.string z, .string z2] 47 (0, 0)) := by rw [← hy0]; exact heap_alloc_new wr _
   have HBLK := hid hblk
   have HML := hid hml
   have HMX := HMK.out
   have HSZ : Hid (y0.heap.size = wr.heap.size + 1) := hid (by rw [← hy0]; simp)
   have d1 : y0.cell? ⟨wr.heap.size, 0, none⟩ = some (.string z) := (cell_of_block hblk 0).trans rfl
   have d2 : y0.cell? ⟨wr.heap.size, 1, none⟩ = some (.string z2) := (cell_of_block hblk 1).trans rfl
   have HY0 := hid hy0
   have hysz : w.heap.size ≤ y0.heap.size := HBY.out.size
   clear hx hst hx1 hx2 hz hz2 hnq hhq hsq HQ2 hcell hmap hby hblk hml
   cases sq with
   | true =>
    rw [if_pos rfl] at hcn
    have HF : Hid (Q = false) := hid (by rw [HQ3.out]; rfl)
    obtain ⟨cc, hrun, hat, _⟩ := hmapy.lookup_int keyLaw Tryz.underlying124 Tryz.underlying3 (zeroI _) hkey
    have hc1 : cc = 1 := by
     rw [hcn] at hat
     injection hat with h1
     injection h1 with _ h1
     exact h1.symm
    subst hc1
    clear hat hcn HQ3
    have hval : plainElem (H := Unit) Tryz.prog 3 (.int .i64 2) = some (.lit (.int .i64 2), []) := plainElem_int Tryz.underlying3 (by decide)
    go_wp2_with (at_mapUpdate; refine wpList_mapUpdate_own _ rfl _ _ _ 124 rfl 9 3 keyLaw Tryz.underlying124 _ w.heap.size j _ rfl hmapy (by omega) _ _ _ rfl rfl hkey (.lit (.int .i64 2)) [] hval ?_)
    intro w1 hmap1 hgrow1
    obtain ⟨c2, hrun2, hat2, _⟩ := hmap1.lookup_int keyLaw Tryz.underlying124 Tryz.underlying3 (zeroI _) hkey
    have hc2 : c2 = 2 := by
     rw [Maps.atKey_put_same HSEEN.out.1 (k := .string x.1) trivial] at hat2
     injection hat2 with h1
     injection h1 with _ h1
     exact h1.symm
    subst hc2
    have hblk1 := (hgrow1.block wr.heap.size (by rw [HSZ.out]; omega) (fun e => by injection e with e; have := HML.out; omega)).trans HBLK.out
    have e1 : w1.cell? ⟨wr.heap.size, 0, none⟩ = some (.string z) := (cell_of_block hblk1 0).trans rfl
    have HB1 : Hid (Below w.heap.size w w1) := hid (HBY.out.grown hgrow1 HBY.out.size (fun k e => by cases e; omega))
    clear hat2 hgrow1 hrun hmapy hval hblk1 d1 d2
    go_wp2_with fail
    go_ret
    exact ⟨by rw [HF.out]; rfl, HB1.out⟩
   | false =>
    rw [if_neg (by decide)] at hcn
    obtain ⟨cc, hrun, hat, _⟩ := hmapy.lookup_int keyLaw Tryz.underlying124 Tryz.underlying3 (zeroI _) hkey
    have hc1 : cc = 0 := by
     rw [hcn] at hat
     injection hat with h1
     injection h1 with _ h1
     exact h1.symm
    subst hc1
    clear hat hcn
    have hval : plainElem (H := Unit) Tryz.prog 3 (.int .i64 1) = some (.lit (.int .i64 1), []) := plainElem_int Tryz.underlying3 (by decide)
    go_wp2_with (at_mapUpdate; refine wpList_mapUpdate_own _ rfl _ _ _ 124 rfl 9 3 keyLaw Tryz.underlying124 _ w.heap.size j _ rfl hmapy (by omega) _ _ _ rfl rfl hkey (.lit (.int .i64 1)) [] hval ?_)
    intro w1 hmap1 hgrow1
    obtain ⟨c2, hrun2, hat2, _⟩ := hmap1.lookup_int keyLaw Tryz.underlying124 Tryz.underlying3 (zeroI _) hkey
    have hc2 : c2 = 1 := by
     rw [Maps.atKey_put_same HSEEN.out.1 (k := .string x.1) trivial] at hat2
     injection hat2 with h1
     injection h1 with _ h1
     exact h1.symm
    subst hc2
    have hblk1 := (hgrow1.block wr.heap.size (by rw [HSZ.out]; omega) (fun e => by injection e with e; have := HML.out; omega)).trans HBLK.out
    have HBLK1 := hid hblk1
    have e1 : w1.cell? ⟨wr.heap.size, 0, none⟩ = some (.string z) := (cell_of_block hblk1 0).trans rfl
    have hb1 : Below w.heap.size w w1 := HBY.out.grown hgrow1 HBY.out.size (fun k e => by cases e; omega)
    have HB1 := hid hb1
    have HC := hid (HNM.out w1 hb1)
    have HMAP1 := hid hmap1
    have hm1 := ownsMap_lt hmap1
    clear hat2 hgrow1 hrun hmapy hval hblk1 d1 d2 hb1 hmap1
    go_wp2_with fail
    with_reducible refine HC.out.mono ?_
    rintro e w2 ⟨rfl, hb2⟩
    have HB3 := hid (below_then HB1.out hb2)
    have HMAP2 := hid (ownsMap_keep HMAP1.out (hb2.block _ hm1))
    have hblk2 := block_below hb2 HBLK1.out
    have HBLK2 := hid hblk2
    have e2 : w2.cell? ⟨wr.heap.size, 1, none⟩ = some (.string z2) := (cell_of_block hblk2 1).trans rfl
    have hm2 := ownsMap_lt HMAP2.out
    have HC2 := hid (HHS.out w2 HB3.out)
    clear hb2 HC HMAP1 hblk2 hm1
    cases nq with
    | false =>
     have HF : Hid (Q = false) := hid (by rw [HQ3.out]; rfl)
     go_wp2_with fail
     go_ret
     exact ⟨by rw [HF.out]; rfl, HB3.out⟩
    | true =>
     go_wp2_with fail
     with_reducible refine HC2.out.mono ?_
     rintro e w3 ⟨rfl, hb3⟩
     have HB4 := hid (below_then HB3.out hb3)
     have HMAP3 := hid (ownsMap_keep HMAP2.out (hb3.block _ hm2))
     clear hb3 hm2 e1 e2 HC2
     cases hq with
     | false =>
      have HF : Hid (Q = false) := hid (by rw [HQ3.out]; rfl)
      go_wp2_with fail
      go_ret
      exact ⟨by rw [HF.out]; rfl, HB4.out⟩
     | true =>
      have HQ4 : Hid (Q = attrsW ((l.take (j + 1)).map Prod.fst) (l.drop (j + 1))) := hid (by rw [HQ3.out]; rfl)
      go_wp2_with fail
      go_roundg g'
      case measure => omega
      case rel => exact ⟨j + 1, _, rfl, by have := HG.out; omega, HMAP3.out, HSN.out, HQ4.out, HB4.out⟩
  ·have hji : ¬ ((j : Int) < (n : Int)) := by omega
   have HF : Hid (Q = true) := hid (by
    rw [HQ2.out, List.drop_eq_nil_of_le (by rw [HN.out]; omega), attrsW])
   go_wp2_with fail
   go_ret
   exact ⟨by rw [HF.out]; rfl, HB.out⟩
end Go.Proofs.YtjpkkflhcjjefaaGreatDoor
