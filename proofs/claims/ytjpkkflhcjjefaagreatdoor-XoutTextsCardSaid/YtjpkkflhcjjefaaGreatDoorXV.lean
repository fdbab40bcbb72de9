/-
 What stands up to a mark, told by a document's scan.
-/
import Derived.Test.YtjpkkflhcjjefaaGreatDoorTK
import Derived.Test.YtjpkkflhcjjefaaGreatDoorXB
import Derived.Deep.DeepCutAuto
import Derived.Lib.SlBytesRow
import Derived.Deep.RegionHeld3
import Derived.Lib.ConvBytes
import Derived.Lib.IndexMore
namespace Go.Proofs.YtjpkkflhcjjefaaGreatDoor
open Go.RowKit Go.Lib Go.Joins
set_option maxRecDepth 100000
set_option maxHeartbeats 32000000
def foldN (i : Nat) : Nat := if 65 ≤ i ∧ i ≤ 90 then i + 32 else if i = 107 then 8490 else if i = 115 then 383 else if 97 ≤ i ∧ i ≤ 122 then i - 32 else i
def SomeErr (g : Nat) (w : World) : Prop := ∃ ev, w.cell? ⟨g, 0, none⟩ = some ev ∧ (ev = .nilIface ∨ ∃ te pe, ev = .iface te pe)
structure EnvAt (w : World) : Prop where
 laid : Laid w
 mx : MaxLen w
 es : SomeErr 13 w
 er : SomeErr 14 w
 fold : ∀ i, i < 128 → w.cell? ⟨6, i, none⟩ = some (.int .u16 (foldN i : Int))
theorem cell_keeps {w w' : World} {B b o : Nat} {v : Value} (h : w.cell? ⟨b, o, none⟩ = some v) (hk : Keeps (One B) w w') (hb : b ≠ B) : w'.cell? ⟨b, o, none⟩ = some v :=
 (World.cell?_of_block (hk.block b (lt_of_cell h) hb)).trans h
theorem EnvAt.keeps {w w' : World} {B : Nat} (h : EnvAt w) (hk : Keeps (One B) w w') (hB : 15 ≤ B) : EnvAt w' where
 laid := ⟨⟨fun c hc => cell_keeps (h.laid.1.1 c hc) hk (by omega), fun i hi => ⟨cell_keeps (h.laid.1.2 i hi).1 hk (by omega), cell_keeps (h.laid.1.2 i hi).2 hk (by omega)⟩⟩, fun j v hj => cell_keeps (h.laid.2.1 j v hj) hk (by omega), fun j v hj => cell_keeps (h.laid.2.2.1 j v hj) hk (by omega), fun j v hj => cell_keeps (h.laid.2.2.2 j v hj) hk (by omega)⟩
 mx := let ⟨m, hm⟩ := h.mx; ⟨m, cell_keeps hm hk (by omega)⟩
 es := let ⟨v, hv, hc⟩ := h.es; ⟨v, cell_keeps hv hk (by omega), hc⟩
 er := let ⟨v, hv, hc⟩ := h.er; ⟨v, cell_keeps hv hk (by omega), hc⟩
 fold := fun i hi => cell_keeps (h.fold i hi) hk (by omega)
theorem EnvAt.below {w w' : World} (h : EnvAt w) (hb : Below w.heap.size w w') : EnvAt w' := h.keeps (B := w.heap.size + 15) ((Keeps.refl _ w).below hb (Nat.le_refl _)) (by omega)
def strB (l : List UInt8) : ByteArray := ⟨l.toArray⟩
def cut (l : List UInt8) (i j : Nat) : List UInt8 := (l.drop i).take (j - i)
theorem ScAt.text {w : World} {B b o c : Nat} {l : List UInt8} {p : Nat} {t : List UInt8} (h : ScAt w B (some ⟨b, o, none⟩) c l p t) (i j k : Nat) (hij : i ≤ j) (hj : j ≤ l.length) : (convert 43 9 (.slice (some ⟨b, o + i, none⟩) (j - i) k)).run Tryz.prog w = .ok (.string (strB (cut l i j))) w := by
 have hb : Lib.Bytes w b o (strB l) := fun x hx => by
  have hx2 : x < l.length := hx
  rcases h.row with h0 | ⟨b2, o2, h1, h2, h3⟩
  ·omega
  ·cases h1
   rw [h3 x hx2]
   congr 2
   unfold fs strB
   rw [List.getD_eq_getElem?_getD, List.getElem?_eq_getElem hx2]
   rfl
 have hs : (strB l).size = l.length := rfl
 rw [Lib.run_convert_window (P := Tryz.prog) w 43 5 9 Tryz.underlying43 Tryz.underlying5 Tryz.underlying9 b o (strB l) hb i (j - i) k (by rw [hs]; omega)]
 congr 2
 apply ByteArray.ext
 apply Array.toList_inj.1
 unfold strB cut
 simp [ByteArray.data_extract, List.extract_eq_take_drop]
theorem ScAt.row8 {w : World} {B : Nat} {a : Option Addr} {c : Nat} {l : List UInt8} {i : Nat} {t : List UInt8} (h : ScAt w B a c l i t) : Row8 w a l.length (fs l) := by
 refine ⟨fs_lt l, by have := h.few; omega, ?_⟩
 rcases h.row with h0 | ⟨b, o, h1, _, h3⟩
 ·exact .inl h0
 ·exact .inr ⟨b, o, h1, h3⟩
theorem nx_fits {f : Nat → Nat} {N p : Nat} (hp : p < N) (hg : goesB (nx f N p).1 = true) : p + (nx f N p).2 ≤ N ∧ 1 ≤ (nx f N p).2 := by
 cases he : errD (dN f N p) with
 | true => rw [nx_err he] at hg; exact absurd hg (by decide)
 | false =>
  by_cases hc : inTab charsT (dN f N p).1 = true
  ·rw [nx_yes he hc]
   exact ⟨dN_fits hp he, dN_pos f N p⟩
  ·rw [nx_no hc] at hg; exact absurd hg (by decide)
theorem nx_small (f : Nat → Nat) (N p : Nat) : (nx f N p).1 < 2147483648 := by
 unfold nx
 dsimp only
 split
 ·next h =>
  have := (chars_nat _).1 h.1
  omega
 ·decide
theorem goes_of_begins {m : Int} (h : beginsB m = true) : goesB m = true := by
 unfold beginsB at h
 unfold goesB
 rw [h, Bool.or_true]
theorem goes_of_fits {fb : Bool} {m : Nat} (h : fitsB fb m = true) : goesB (m : Int) = true := by
 cases fb with
 | true => exact goes_of_begins h
 | false => exact h
theorem fs_drop (l : List UInt8) (j k : Nat) : fs (l.drop j) k = fs l (j + k) := by
 unfold fs
 rw [List.getD_eq_getElem?_getD, List.getD_eq_getElem?_getD, List.getElem?_drop]
theorem nx_drop (l : List UInt8) (j : Nat) : nx (fs (l.drop j)) (l.drop j).length 0 = nx (fs l) l.length j := by
 unfold nx
 simp only [fs_drop, List.length_drop, Nat.sub_zero, Nat.add_zero, Nat.zero_add]
theorem name_calls {w : World} {B : Nat} {a : Option Addr} {c : Nat} {l : List UInt8} {i : Nat} {t : List UInt8} (h : ScAt w B a c l i t) (hE : EnvAt w) (hB : 15 ≤ B) : Calls Tryz.prog 136 #[.pointer (some ⟨B, 0, none⟩)] w (ScOut w B a c l (fun x => .string (strB x)) (nameS i t)) := by
 obtain ⟨e0, e1⟩ := h.cells
 have hfew := h.few
 obtain ⟨R, hR⟩ : ∃ R, nmG t.length true i t = R := ⟨_, rfl⟩
 obtain ⟨Q, hQ⟩ : ∃ Q, nameS i t = Q := ⟨_, rfl⟩
 have hb : Q = R.then fun _ j u => if j = i then .no 2 i else .ok (t.take (j - i)) j u := by rw [← hQ]; unfold nameS; rw [hR]
 rw [hQ]
 obtain ⟨n, hn⟩ : ∃ n, l.length = n := ⟨_, rfl⟩
 rw [hn] at e0 hfew
 have HB := hid hb
 have HR := hid hR
 have HS := hid h
 have HEnv := hid hE
 have HNL := hid hn
 obtain ⟨G, hG⟩ : ∃ G, t.length = G := ⟨_, rfl⟩
 have HG := hid hG
 have HTL : Hid (t = l.drop i) := hid h.left
 clear h hR hb hQ hG hE hn
 go_enter Tryz.func136, Tryz.ntmps136
 go_wp2_with fail
 go_loopg [4] (G + 1) (fun gk s4 wr => ∃ g fb j u, gk = g + 1 ∧ ((fb = true ∧ s4 = .func (.func 83) #[] #[]) ∨ (fb = false ∧ s4 = .func (.func 84) #[] #[])) ∧ u.length ≤ g ∧ i ≤ j ∧ (j = i ∨ fb = false) ∧ nmG g fb j u = R ∧ ScAt wr B a c l j u ∧ Keeps (One B) w wr)
 case atStart => exact ⟨G, true, i, t, rfl, .inl ⟨rfl, rfl⟩, by rw [HG.out]; exact Nat.le_refl _, Nat.le_refl _, .inl rfl, by rw [← HG.out]; exact HR.out, HS.out, Keeps.refl _ _⟩
 case round =>
  obtain ⟨g, fb, j, u, rfl, hfb, hg, hij, hjf, hq, hs, hk⟩ := hrel
  have HQ := hid hq
  have HS1 := hid hs
  have HK := hid hk
  have HE1 : Hid (EnvAt wr) := hid (HEnv.out.keeps hk hB)
  obtain ⟨y0, y1⟩ := hs.cells
  rw [HNL.out] at y0
  rcases hfb with ⟨rfl, rfl⟩ | ⟨rfl, rfl⟩
  ·cases u with
   | nil =>
    have HC := hid (peek_end hs)
    have HF : Hid (∀ k, ScOut w B a c l (fun x => .string (strB x)) Q (.panicked [{ v := wrongV 6 j, recovered := false }]) (wr.drewN k)) := hid fun k => by
     rw [HB.out, ← HQ.out]
     cases g <;> exact ⟨rfl, HK.out.drewN k⟩
    clear hq hs hk HR HS HG
    go_wp2_with fail
    with_reducible refine HC.out.mono ?_
    rintro e w1 ⟨rfl, k, rfl⟩
    go_wp2_with fail
    exact ⟨rfl, HF.out _⟩
   | cons x u =>
    have HC := hid (peek_ok hs)
    obtain ⟨hlt, hx, hu⟩ := hs.head
    rw [HNL.out] at hlt
    obtain ⟨g', rfl⟩ : ∃ g', g = g' + 1 := ⟨g - 1, by have := hg; rw [List.length_cons] at this; omega⟩
    have HNX : Hid (∀ W, Below wr.heap.size wr W → Calls Tryz.prog 115 #[.slice a n c, .int .i64 (j : Int)] W (Leaves (runeOf (nx (fs (x :: u)) (x :: u).length 0)) W)) := hid (fun W hb => by
     have h := next_calls a n c (fs l) (j : Int) W (HE1.out.below hb).laid (by have := (HS1.out.keep hb).row8; rwa [HNL.out] at this) (by have := HS1.out.cap; rwa [HNL.out] at this) HS1.out.most
     unfold nextZ at h
     rw [if_neg (by omega), Int.toNat_natCast] at h
     rw [HS1.out.left, nx_drop, HNL.out]
     exact h)
    have hst := HQ.out
    rw [nmG, if_neg (List.cons_ne_nil _ _)] at hst
    have hfit : goesB (nx (fs (x :: u)) (x :: u).length 0).1 = true → j + (nx (fs (x :: u)) (x :: u).length 0).2 ≤ n ∧ 1 ≤ (nx (fs (x :: u)) (x :: u).length 0).2 := by
     rw [HS1.out.left, nx_drop, HNL.out]
     exact fun h => nx_fits hlt h
    have hsm : (nx (fs (x :: u)) (x :: u).length 0).1 < 2147483648 := by
     rw [HS1.out.left, nx_drop]
     exact nx_small _ _ _
    obtain ⟨⟨rr, wd⟩, hd⟩ : ∃ d, nx (fs (x :: u)) (x :: u).length 0 = d := ⟨_, rfl⟩
    simp only [hd] at HNX
    rw [hd] at hst hfit hsm
    dsimp only at hst hfit hsm
    unfold runeOf at HNX
    have HFN : Hid (∀ W, Below wr.heap.size wr W → Calls Tryz.prog 83 #[.int .i32 (rr : Int)] W (Leaves (.bool (fitsB true rr)) W)) := hid (fun W hb => firsts_calls (rr : Int) W ((HE1.out.below hb).laid.2.2.1))
    have hfg : fitsB true rr = true → goesB (rr : Int) = true := goes_of_fits
    obtain ⟨bq, hbq⟩ : ∃ x, fitsB true rr = x := ⟨_, rfl⟩
    rw [hbq] at hst hfg
    simp only [hbq] at HFN
    have HCE : Hid (∀ W, Below wr.heap.size wr W → W.cell? ⟨B, 0, none⟩ = some (.slice a n c) ∧ W.cell? ⟨B, 1, none⟩ = some (.int .i64 (j : Int))) := hid (fun W hb => by
     obtain ⟨z0, z1⟩ := (HS1.out.keep hb).cells
     rw [HNL.out] at z0
     exact ⟨z0, z1⟩)
    clear hd hbq hq hs hk HR HS HG hx
    go_wp2_with fail
    with_reducible refine HC.out.mono ?_
    rintro e w1 ⟨rfl, k, rfl⟩
    go_upto_region 3 with (fail)
    obtain ⟨x0, hx0⟩ : ∃ W, (wr.drewN k).drew = W := ⟨_, rfl⟩
    have hbx0 : Below wr.heap.size wr x0 := by rw [← hx0]; exact ⟨rfl, rfl, rfl, Nat.le_refl _, fun _ _ => rfl⟩
    have HBx0 := hid hbx0
    refine wp_region_held_drew (S := fun W => W.cell? ⟨B, 0, none⟩ = some (.slice a n c) ∧ W.cell? ⟨B, 1, none⟩ = some (.int .i64 (j : Int))) (by kernel_rfl) (by rw [hx0]; exact HCE.out _ hbx0) (fun hHeld => ?_)
    rw [hx0] at hHeld ⊢
    clear hx0 hbx0
    refine tkH 0 ?_
    simp only [LT, Act.put]
    refine tkH 1 ?_
    simp only [LT, Act.put]
    refine tkH 2 ?_
    simp only [LT, Act.put]
    refine tkH 3 ?_
    simp only [LT, Act.put]
    refine tkH 4 ?_
    simp only [LT, Act.put]
    refine tkH 5 ?_
    simp only [LT, Act.put]
    refine tkH 6 ?_
    simp only [LT, Act.put]
    refine tkH 7 ?_
    simp only [LT, Act.put]
    refine wpAnyH_ready (rs := [8]) (by kernel_rfl) (by simp) ?_
    refine AllReadyH.cons rfl (fun K hK => ?_) AllReadyH.nil
    go_simp
    with_reducible refine (HNX.out _ HBx0.out).mono ?_
    rintro e x1 ⟨rfl, hb⟩
    have HBx1 := hid (below_then HBx0.out hb)
    clear hb
    refine hK.out _ _ (HCE.out _ HBx1.out) (fun hHeld => ?_)
    clear hK K
    try simp only [LT, Act.put]
    refine tkH 9 ?_
    simp only [LT, Act.put]
    refine tkH 10 ?_
    simp only [LT, Act.put]
    refine tkH 11 ?_
    simp only [LT, Act.put]
    refine tkH 12 ?_
    simp only [LT, Act.put]
    refine tkH 13 ?_
    simp only [LT, Act.put]
    refine wpAnyH_done (by kernel_rfl) ?_ _
    obtain ⟨z0, z1⟩ := HCE.out _ HBx1.out
    clear hHeld
    have HF2 := hid (HFN.out _ HBx1.out)
    cases bq with
    | false =>
     rw [if_neg Bool.false_ne_true] at hst
     have HST := hid hst
     clear hst hfit hfg
     go_wp2_with fail
     with_reducible refine HF2.out.mono ?_
     rintro e x2 ⟨rfl, hb2⟩
     have HBx2 := hid (below_then HBx1.out hb2)
     obtain ⟨z0, z1⟩ := HCE.out _ HBx2.out
     have HS2 := hid (HS1.out.keep HBx2.out)
     have HK2 : Hid (Keeps (One B) w x2) := hid (HK.out.trans (keeps_below HBx2.out Non) (fresh_non _ _))
     clear hb2
     by_cases hji : j = i
     ·subst hji
      have hz : ((j : Int) == (j : Int)) = true := by simp
      have HF : Hid (ScOut w B a c l (fun x => .string (strB x)) Q (.panicked [{ v := wrongV 2 j, recovered := false }]) x2) := hid (by
       rw [HB.out, ← HST.out, Sx.then_ok, if_pos rfl]
       exact ⟨rfl, HK2.out⟩)
      go_wp2_with fail
      exact ⟨rfl, HF.out⟩
     ·have hz : ((j : Int) == (i : Int)) = false := by simp; omega
      obtain ⟨bb, oo, rfl⟩ : ∃ b o, a = some ⟨b, o, none⟩ := by
       rcases HS1.out.row with h1 | ⟨b, o, h1, _⟩
       ·rw [HNL.out] at h1; omega
       ·exact ⟨b, o, h1⟩
      have hcap := HS1.out.cap
      rw [HNL.out] at hcap
      have hq0 : (0 : Int) ≤ (i : Int) := by omega
      have hq1 : (i : Int) ≤ (j : Int) := by omega
      have hq2 : (j : Int) ≤ (c : Int) := by omega
      have hcp : ¬ c = i := by omega
      have hcv : ∀ k, (convert 43 9 (.slice (some ⟨bb, oo + i, none⟩) (j - i) (c - i))).run Tryz.prog (x2.drewN k) = .ok (.string (strB (cut l i j))) (x2.drewN k) := fun k => (HS2.out.drawn k).text i j (c - i) (by omega) (by rw [HNL.out]; omega)
      have HF : Hid (∀ k, ScOut w B (some ⟨bb, oo, none⟩) c l (fun x => .string (strB x)) Q (.returned (.string (strB (cut l i j)))) (x2.drewN k)) := hid (fun k => by
       rw [HB.out, ← HST.out, Sx.then_ok, if_neg hji, HTL.out]
       exact ⟨rfl, HS2.out.drawn k, HK2.out.drewN k⟩)
      clear hji
      go_wp2_with fail
      go_quiet (fail)
      go_wp2_with fail
      go_ret
      exact HF.out _
    | true =>
     rw [if_pos rfl] at hst
     have HST := hid hst
     obtain ⟨hw1, hw2⟩ := hfit (hfg rfl)
     have hadd : IntKind.i64.wrap ((j : Int) + (wd : Int)) = ((j + wd : Nat) : Int) := IntWalk.i64_in _ (by omega)
     clear hst hfit hfg
     go_wp2_with fail
     with_reducible refine HF2.out.mono ?_
     rintro e x2 ⟨rfl, hb2⟩
     have HBx2 := hid (below_then HBx1.out hb2)
     obtain ⟨z0, z1⟩ := HCE.out _ HBx2.out
     have f1 := unfrozen_of_block (HS1.out.keep HBx2.out).blk 1
     have HSET : Hid (ScAt (x2.setCell ⟨B, 1, none⟩ (.int .i64 ((j + wd : Nat) : Int))) B a c l (j + wd) ((x :: u).drop wd) ∧ Keeps (One B) w (x2.setCell ⟨B, 1, none⟩ (.int .i64 ((j + wd : Nat) : Int)))) := hid (by
      have h := (HS1.out.keep HBx2.out).place (j := j + wd) (by rw [HNL.out]; omega) (u := (x :: u).drop wd) (by rw [HS1.out.left, List.drop_drop])
      exact ⟨h.1, (HK.out.trans (keeps_below HBx2.out Non) (fresh_non _ _)).trans h.2 (fresh_refl _ _)⟩)
     clear hb2
     go_wp2_with fail
     go_roundg (g' + 1)
     case measure => omega
     case rel => exact ⟨g', false, j + wd, (x :: u).drop wd, rfl, .inr ⟨rfl, rfl⟩, by rw [List.length_drop]; rw [List.length_cons] at hg ⊢; omega, by omega, .inr rfl, HST.out, HSET.out.1, HSET.out.2⟩
  ·cases u with
   | nil =>
    have HC := hid (peek_end hs)
    have HF : Hid (∀ k, ScOut w B a c l (fun x => .string (strB x)) Q (.panicked [{ v := wrongV 6 j, recovered := false }]) (wr.drewN k)) := hid fun k => by
     rw [HB.out, ← HQ.out]
     cases g <;> exact ⟨rfl, HK.out.drewN k⟩
    clear hq hs hk HR HS HG
    go_wp2_with fail
    with_reducible refine HC.out.mono ?_
    rintro e w1 ⟨rfl, k, rfl⟩
    go_wp2_with fail
    exact ⟨rfl, HF.out _⟩
   | cons x u =>
    have HC := hid (peek_ok hs)
    obtain ⟨hlt, hx, hu⟩ := hs.head
    rw [HNL.out] at hlt
    obtain ⟨g', rfl⟩ : ∃ g', g = g' + 1 := ⟨g - 1, by have := hg; rw [List.length_cons] at this; omega⟩
    have HNX : Hid (∀ W, Below wr.heap.size wr W → Calls Tryz.prog 115 #[.slice a n c, .int .i64 (j : Int)] W (Leaves (runeOf (nx (fs (x :: u)) (x :: u).length 0)) W)) := hid (fun W hb => by
     have h := next_calls a n c (fs l) (j : Int) W (HE1.out.below hb).laid (by have := (HS1.out.keep hb).row8; rwa [HNL.out] at this) (by have := HS1.out.cap; rwa [HNL.out] at this) HS1.out.most
     unfold nextZ at h
     rw [if_neg (by omega), Int.toNat_natCast] at h
     rw [HS1.out.left, nx_drop, HNL.out]
     exact h)
    have hst := HQ.out
    rw [nmG, if_neg (List.cons_ne_nil _ _)] at hst
    have hfit : goesB (nx (fs (x :: u)) (x :: u).length 0).1 = true → j + (nx (fs (x :: u)) (x :: u).length 0).2 ≤ n ∧ 1 ≤ (nx (fs (x :: u)) (x :: u).length 0).2 := by
     rw [HS1.out.left, nx_drop, HNL.out]
     exact fun h => nx_fits hlt h
    have hsm : (nx (fs (x :: u)) (x :: u).length 0).1 < 2147483648 := by
     rw [HS1.out.left, nx_drop]
     exact nx_small _ _ _
    obtain ⟨⟨rr, wd⟩, hd⟩ : ∃ d, nx (fs (x :: u)) (x :: u).length 0 = d := ⟨_, rfl⟩
    simp only [hd] at HNX
    rw [hd] at hst hfit hsm
    dsimp only at hst hfit hsm
    unfold runeOf at HNX
    have HFN : Hid (∀ W, Below wr.heap.size wr W → Calls Tryz.prog 84 #[.int .i32 (rr : Int)] W (Leaves (.bool (fitsB false rr)) W)) := hid (fun W hb => further_calls (rr : Int) W ((HE1.out.below hb).laid.2.2.2) ((HE1.out.below hb).laid.2.2.1))
    have hfg : fitsB false rr = true → goesB (rr : Int) = true := goes_of_fits
    obtain ⟨bq, hbq⟩ : ∃ x, fitsB false rr = x := ⟨_, rfl⟩
    rw [hbq] at hst hfg
    simp only [hbq] at HFN
    have HCE : Hid (∀ W, Below wr.heap.size wr W → W.cell? ⟨B, 0, none⟩ = some (.slice a n c) ∧ W.cell? ⟨B, 1, none⟩ = some (.int .i64 (j : Int))) := hid (fun W hb => by
     obtain ⟨z0, z1⟩ := (HS1.out.keep hb).cells
     rw [HNL.out] at z0
     exact ⟨z0, z1⟩)
    clear hd hbq hq hs hk HR HS HG hx
    go_wp2_with fail
    with_reducible refine HC.out.mono ?_
    rintro e w1 ⟨rfl, k, rfl⟩
    go_upto_region 3 with (fail)
    obtain ⟨x0, hx0⟩ : ∃ W, (wr.drewN k).drew = W := ⟨_, rfl⟩
    have hbx0 : Below wr.heap.size wr x0 := by rw [← hx0]; exact ⟨rfl, rfl, rfl, Nat.le_refl _, fun _ _ => rfl⟩
    have HBx0 := hid hbx0
    refine wp_region_held_drew (S := fun W => W.cell? ⟨B, 0, none⟩ = some (.slice a n c) ∧ W.cell? ⟨B, 1, none⟩ = some (.int .i64 (j : Int))) (by kernel_rfl) (by rw [hx0]; exact HCE.out _ hbx0) (fun hHeld => ?_)
    rw [hx0] at hHeld ⊢
    clear hx0 hbx0
    refine tkH 0 ?_
    simp only [LT, Act.put]
    refine tkH 1 ?_
    simp only [LT, Act.put]
    refine tkH 2 ?_
    simp only [LT, Act.put]
    refine tkH 3 ?_
    simp only [LT, Act.put]
    refine tkH 4 ?_
    simp only [LT, Act.put]
    refine tkH 5 ?_
    simp only [LT, Act.put]
    refine tkH 6 ?_
    simp only [LT, Act.put]
    refine tkH 7 ?_
    simp only [LT, Act.put]
    refine wpAnyH_ready (rs := [8]) (by kernel_rfl) (by simp) ?_
    refine AllReadyH.cons rfl (fun K hK => ?_) AllReadyH.nil
    go_simp
    with_reducible refine (HNX.out _ HBx0.out).mono ?_
    rintro e x1 ⟨rfl, hb⟩
    have HBx1 := hid (below_then HBx0.out hb)
    clear hb
    refine hK.out _ _ (HCE.out _ HBx1.out) (fun hHeld => ?_)
    clear hK K
    try simp only [LT, Act.put]
    refine tkH 9 ?_
    simp only [LT, Act.put]
    refine tkH 10 ?_
    simp only [LT, Act.put]
    refine tkH 11 ?_
    simp only [LT, Act.put]
    refine tkH 12 ?_
    simp only [LT, Act.put]
    refine tkH 13 ?_
    simp only [LT, Act.put]
    refine wpAnyH_done (by kernel_rfl) ?_ _
    obtain ⟨z0, z1⟩ := HCE.out _ HBx1.out
    clear hHeld
    have HF2 := hid (HFN.out _ HBx1.out)
    cases bq with
    | false =>
     rw [if_neg Bool.false_ne_true] at hst
     have HST := hid hst
     clear hst hfit hfg
     go_wp2_with fail
     with_reducible refine HF2.out.mono ?_
     rintro e x2 ⟨rfl, hb2⟩
     have HBx2 := hid (below_then HBx1.out hb2)
     obtain ⟨z0, z1⟩ := HCE.out _ HBx2.out
     have HS2 := hid (HS1.out.keep HBx2.out)
     have HK2 : Hid (Keeps (One B) w x2) := hid (HK.out.trans (keeps_below HBx2.out Non) (fresh_non _ _))
     clear hb2
     by_cases hji : j = i
     ·subst hji
      have hz : ((j : Int) == (j : Int)) = true := by simp
      have HF : Hid (ScOut w B a c l (fun x => .string (strB x)) Q (.panicked [{ v := wrongV 2 j, recovered := false }]) x2) := hid (by
       rw [HB.out, ← HST.out, Sx.then_ok, if_pos rfl]
       exact ⟨rfl, HK2.out⟩)
      go_wp2_with fail
      exact ⟨rfl, HF.out⟩
     ·have hz : ((j : Int) == (i : Int)) = false := by simp; omega
      obtain ⟨bb, oo, rfl⟩ : ∃ b o, a = some ⟨b, o, none⟩ := by
       rcases HS1.out.row with h1 | ⟨b, o, h1, _⟩
       ·rw [HNL.out] at h1; omega
       ·exact ⟨b, o, h1⟩
      have hcap := HS1.out.cap
      rw [HNL.out] at hcap
      have hq0 : (0 : Int) ≤ (i : Int) := by omega
      have hq1 : (i : Int) ≤ (j : Int) := by omega
      have hq2 : (j : Int) ≤ (c : Int) := by omega
      have hcp : ¬ c = i := by omega
      have hcv : ∀ k, (convert 43 9 (.slice (some ⟨bb, oo + i, none⟩) (j - i) (c - i))).run Tryz.prog (x2.drewN k) = .ok (.string (strB (cut l i j))) (x2.drewN k) := fun k => (HS2.out.drawn k).text i j (c - i) (by omega) (by rw [HNL.out]; omega)
      have HF : Hid (∀ k, ScOut w B (some ⟨bb, oo, none⟩) c l (fun x => .string (strB x)) Q (.returned (.string (strB (cut l i j)))) (x2.drewN k)) := hid (fun k => by
       rw [HB.out, ← HST.out, Sx.then_ok, if_neg hji, HTL.out]
       exact ⟨rfl, HS2.out.drawn k, HK2.out.drewN k⟩)
      clear hji
      go_wp2_with fail
      go_quiet (fail)
      go_wp2_with fail
      go_ret
      exact HF.out _
    | true =>
     rw [if_pos rfl] at hst
     have HST := hid hst
     obtain ⟨hw1, hw2⟩ := hfit (hfg rfl)
     have hadd : IntKind.i64.wrap ((j : Int) + (wd : Int)) = ((j + wd : Nat) : Int) := IntWalk.i64_in _ (by omega)
     clear hst hfit hfg
     go_wp2_with fail
     with_reducible refine HF2.out.mono ?_
     rintro e x2 ⟨rfl, hb2⟩
     have HBx2 := hid (below_then HBx1.out hb2)
     obtain ⟨z0, z1⟩ := HCE.out _ HBx2.out
     have f1 := unfrozen_of_block (HS1.out.keep HBx2.out).blk 1
     have HSET : Hid (ScAt (x2.setCell ⟨B, 1, none⟩ (.int .i64 ((j + wd : Nat) : Int))) B a c l (j + wd) ((x :: u).drop wd) ∧ Keeps (One B) w (x2.setCell ⟨B, 1, none⟩ (.int .i64 ((j + wd : Nat) : Int)))) := hid (by
      have h := (HS1.out.keep HBx2.out).place (j := j + wd) (by rw [HNL.out]; omega) (u := (x :: u).drop wd) (by rw [HS1.out.left, List.drop_drop])
      exact ⟨h.1, (HK.out.trans (keeps_below HBx2.out Non) (fresh_non _ _)).trans h.2 (fresh_refl _ _)⟩)
     clear hb2
     go_wp2_with fail
     go_roundg (g' + 1)
     case measure => omega
     case rel => exact ⟨g', false, j + wd, (x :: u).drop wd, rfl, .inr ⟨rfl, rfl⟩, by rw [List.length_drop]; rw [List.length_cons] at hg ⊢; omega, by omega, .inr rfl, HST.out, HSET.out.1, HSET.out.2⟩
def intsB (l : List UInt8) : List Int := l.map fun x => (x.toNat : Int)
theorem bytesOf_ints (l : List UInt8) : Lib.bytesOf (intsB l) = l := by
 unfold Lib.bytesOf intsB
 rw [List.map_map]
 conv => rhs; rw [← List.map_id l]
 apply List.map_congr_left
 intro x _
 simp
theorem intsB_range (l : List UInt8) : ∀ x ∈ intsB l, 0 ≤ x ∧ x < 256 := by
 intro x hx
 obtain ⟨y, _, rfl⟩ := List.mem_map.1 hx
 have := y.toNat_lt
 omega
theorem intsB_len (l : List UInt8) : (intsB l).length = l.length := List.length_map _
theorem intsB_getD (l : List UInt8) (k : Nat) (hk : k < l.length) : (intsB l).getD k 0 = (fs l k : Int) := by
 unfold intsB fs
 rw [List.getD_eq_getElem?_getD, List.getD_eq_getElem?_getD, List.getElem?_map, List.getElem?_eq_getElem hk]
 rfl
def tailA (a : Option Addr) (c i : Nat) : Option Addr := if c = i then a else a.map (·.add i)
theorem ScAt.tail {w : World} {B : Nat} {a : Option Addr} {c : Nat} {l : List UInt8} {i : Nat} {t : List UInt8} (h : ScAt w B a c l i t) (j : Nat) (hj : j ≤ l.length) : Lib.BytesIn w (tailA a c j) (l.length - j) (intsB (l.drop j)) ∧ (tailA a c j = none → c - j = 0) ∧ l.length - j ≤ c - j := by
 have hcap := h.cap
 refine ⟨?_, ?_, by omega⟩
 ·intro hpos
  obtain ⟨b, o, rfl⟩ : ∃ b o, a = some ⟨b, o, none⟩ := by
   rcases h.row with h1 | ⟨b, o, h1, _⟩
   ·omega
   ·exact ⟨b, o, h1⟩
  refine ⟨b, o + j, ?_, fun k hk => ?_⟩
  ·unfold tailA
   rw [if_neg (by omega)]
   simp [Addr.add]
  ·rcases h.row with h1 | ⟨b2, o2, h1, _, h3⟩
   ·omega
   ·cases h1
    rw [Nat.add_assoc, h3 (j + k) (by omega), intsB_getD _ _ (by rw [List.length_drop]; exact hk), fs_drop]
 ·unfold tailA
  intro h0
  by_cases hc : c = j
  ·omega
  ·rw [if_neg hc] at h0
   cases a with
   | none => have := h.nul rfl; omega
   | some a => cases h0
theorem index_cutS (m : List UInt8) (hm : m ≠ []) : ∀ r : List UInt8, Lib.index r m = match cutS m r with | none => -1 | some q => (q.1.length : Int)
 | [] => by cases m with
  | nil => exact absurd rfl hm
  | cons => rfl
 | x :: t => by
  have ih := index_cutS m hm t
  unfold cutS Lib.index
  by_cases h : m.isPrefixOf (x :: t) = true
  ·rw [if_pos h, if_pos h]; rfl
  ·rw [if_neg h, if_neg h, ih]
   cases cutS m t with
   | none => rfl
   | some q => simp
theorem cutS_split (m : List UInt8) : ∀ {r : List UInt8} {q : List UInt8 × List UInt8}, cutS m r = some q → r = q.1 ++ (m ++ q.2)
 | [], q, h => by cases h
 | x :: t, q, h => by
  unfold cutS at h
  by_cases hp : m.isPrefixOf (x :: t) = true
  ·rw [if_pos hp] at h
   cases h
   have := List.isPrefixOf_iff_prefix.1 hp
   obtain ⟨s, hs⟩ := this
   rw [← hs]
   simp
  ·rw [if_neg hp] at h
   cases hc : cutS m t with
   | none => rw [hc] at h; cases h
   | some q' =>
    rw [hc] at h
    cases h
    rw [cutS_split m hc]
    rfl
theorem conv_zero (W : World) (a : Option Addr) (k : Nat) : (convert 43 9 (.slice a 0 k)).run Tryz.prog W = .ok (.string ⟨#[]⟩) W := by
 rw [run_convert_bytes_string W 43 9 5 a 0 k Tryz.underlying43 Tryz.underlying5 Tryz.underlying9]
 cases a <;> rfl
theorem map_add (b o j : Nat) : Option.map (fun x : Addr => x.add j) (some ⟨b, o, none⟩) = some ⟨b, o + j, none⟩ := by simp [Addr.add]
theorem ScAt.conv {w : World} {B : Nat} {a : Option Addr} {c : Nat} {l : List UInt8} {i : Nat} {t : List UInt8} (h : ScAt w B a c l i t) (j k cc : Nat) (hj : j + k ≤ l.length) : (convert 43 9 (.slice (tailA a c j) k cc)).run Tryz.prog w = .ok (.string (strB ((l.drop j).take k))) w := by
 have hcap := h.cap
 by_cases hk : k = 0
 ·subst hk
  rw [List.take_zero]
  exact conv_zero w _ cc
 ·obtain ⟨b, o, rfl⟩ : ∃ b o, a = some ⟨b, o, none⟩ := by
   rcases h.row with h1 | ⟨b, o, h1, _⟩
   ·omega
   ·exact ⟨b, o, h1⟩
  unfold tailA
  rw [if_neg (by omega), map_add]
  have := h.text j (j + k) cc (by omega) hj
  unfold cut at this
  rw [Nat.add_sub_cancel_left] at this
  exact this
def cutOut (p : Option Addr) (n c : Nat) (q : Option (List UInt8 × List UInt8)) (W : World) (e : Ending) (w' : World) : Prop :=
 (∃ v, e = .returned (.tuple #[.slice p (match q with | none => n | some q => q.1.length) c, v, .bool q.isSome])) ∧ ∃ k, w' = W.drewN k
theorem cut_calls {W : World} {B : Nat} {a : Option Addr} {c : Nat} {l : List UInt8} {i : Nat} {t : List UInt8} (h : ScAt W B a c l i t) (hM : MaxLen W) (j : Nat) (hj : j ≤ l.length) (p2 : Option Addr) (c2 : Nat) (m : List UInt8) (hm : m ≠ []) (hl : m.length ≤ 1000) (h2 : Lib.BytesIn W p2 m.length (intsB m)) : Calls Tryz.prog 130 #[.slice (tailA a c j) (l.length - j) (c - j), .slice p2 m.length c2] W (cutOut (tailA a c j) (l.length - j) (c - j) (cutS m (l.drop j)) W) := by
 obtain ⟨mx, hmx⟩ := hM
 obtain ⟨h1, h3, h4⟩ := h.tail j hj
 have hfew := h.few
 refine (Tryz.bytes_Cut_all (tailA a c j) p2 (l.length - j) (c - j) m.length c2 (intsB (l.drop j)) (intsB m) mx W (by rw [intsB_len, List.length_drop]) (intsB_len m) (intsB_range _) (intsB_range _) h1 h2 h3 h4 (by omega) (by omega) hmx).mono ?_
 rintro e w' ⟨rfl, hk⟩
 refine ⟨?_, hk⟩
 rw [bytesOf_ints, bytesOf_ints, index_cutS m hm]
 cases cutS m (l.drop j) with
 | none => exact ⟨_, rfl⟩
 | some q =>
  unfold Lib.cutV
  rw [if_pos (by simp)]
  exact ⟨Lib.fromV (tailA a c j) (l.length - j) (c - j) (q.1.length + m.length), by simp⟩
def upToR (m : List UInt8) (i n : Nat) : Option (List UInt8 × List UInt8) → Sx (List UInt8)
 | none => .no 6 (i + n)
 | some q => .ok (eols q.1) (i + q.1.length + m.length) q.2
theorem upToS_eq (m : List UInt8) (i : Nat) (r : List UInt8) : upToS m i r = upToR m i r.length (cutS m r) := by
 unfold upToS
 cases cutS m r <;> rfl
theorem upTo_calls {w : World} {B : Nat} {a : Option Addr} {c : Nat} {l : List UInt8} {i : Nat} {t : List UInt8} (h : ScAt w B a c l i t) (hE : EnvAt w) (hB : 15 ≤ B) (m : List UInt8) (hm : m ≠ []) (hml : m.length ≤ 1000) : Calls Tryz.prog 101 #[.pointer (some ⟨B, 0, none⟩), .string (strB m)] w (ScOut w B a c l (fun x => .string (strB x)) (upToS m i t)) := by
 obtain ⟨e0, e1⟩ := h.cells
 have hfew := h.few
 have hcap := h.cap
 have hfit := h.fits
 obtain ⟨n, hn⟩ : ∃ n, l.length = n := ⟨_, rfl⟩
 rw [hn] at e0 hfew hcap hfit
 have HS := hid h
 have HEnv := hid hE
 have HNL := hid hn
 have hq0 : (0 : Int) ≤ (i : Int) := by omega
 have hq1 : (i : Int) ≤ (n : Int) := by omega
 obtain ⟨R, hR⟩ : ∃ R, cutS m t = R := ⟨_, rfl⟩
 have HQ : Hid (upToS m i t = upToR m i t.length R) := hid (by rw [upToS_eq, hR])
 obtain ⟨ms, hms⟩ : ∃ ms, strB m = ms := ⟨_, rfl⟩
 have hsz : ms.size = m.length := by rw [← hms]; rfl
 have HMS := hid hms
 have HR := hid hR
 have HCV := hid (fun W : World => Lib.run_convert_string_bytes (P := Tryz.prog) W 9 43 5 ms Tryz.underlying9 Tryz.underlying43 Tryz.underlying5)
 obtain ⟨Q, hQ⟩ : ∃ Q, upToS m i t = Q := ⟨_, rfl⟩
 rw [hQ, hms]
 rw [hQ] at HQ
 have HCUT : Hid (∀ W, Below w.heap.size w W → ∀ mb mc, Lib.BytesIn W (some ⟨mb, 0, none⟩) m.length (intsB m) → Calls Tryz.prog 130 #[.slice (if c = i then a else Option.map (fun x => x.add i) a) (n - i) (c - i), .slice (some ⟨mb, 0, none⟩) m.length mc] W (cutOut (tailA a c i) (n - i) (c - i) R W)) := hid (fun W hb mb mc h2 => by
  have h := cut_calls (HS.out.keep hb) (HEnv.out.below hb).mx i (by rw [HNL.out]; exact hfit) (some ⟨mb, 0, none⟩) mc m hm hml h2
  rw [HNL.out, ← HS.out.left, HR.out] at h
  exact h)
 have HCE : Hid (∀ W, Below w.heap.size w W → W.cell? ⟨B, 0, none⟩ = some (.slice a n c) ∧ W.cell? ⟨B, 1, none⟩ = some (.int .i64 (i : Int))) := hid (fun W hb => by
  obtain ⟨z0, z1⟩ := (HS.out.keep hb).cells
  rw [HNL.out] at z0
  exact ⟨z0, z1⟩)
 clear h hn hE hR hQ hms
 go_enter Tryz.func101, Tryz.ntmps101
 go_upto_region 1 with (fail)
 obtain ⟨x0, hx0⟩ : ∃ W, w.drew = W := ⟨_, rfl⟩
 have hbx0 : Below w.heap.size w x0 := by rw [← hx0]; exact ⟨rfl, rfl, rfl, Nat.le_refl _, fun _ _ => rfl⟩
 have HBx0 := hid hbx0
 refine wp_region_held_drew (S := fun W => W.cell? ⟨B, 0, none⟩ = some (.slice a n c) ∧ W.cell? ⟨B, 1, none⟩ = some (.int .i64 (i : Int))) (by kernel_rfl) (by rw [hx0]; exact HCE.out _ hbx0) (fun hHeld => ?_)
 rw [hx0] at hHeld ⊢
 clear hx0 hbx0
 refine tkH 0 ?_
 simp only [LT, Act.put]
 refine tkH 1 ?_
 simp only [LT, Act.put]
 refine tkH 2 ?_
 simp only [LT, Act.put]
 refine tkH 3 ?_
 simp only [LT, Act.put]
 refine tkH 4 ?_
 simp only [LT, Act.put]
 refine tkH 5 ?_
 simp only [LT, Act.put]
 refine tkH 6 ?_
 simp only [LT, Act.put]
 refine tkH 7 ?_
 simp only [LT, Act.put]
 refine tkH 8 ?_
 simp only [LT, Act.put]
 refine tkH 9 ?_
 simp only [LT, Act.put]
 refine wpAnyH_ready (rs := [10]) (by kernel_rfl) (by simp) ?_
 refine AllReadyH.cons rfl (fun K hK => ?_) AllReadyH.nil
 go_simp
 rw [HCV.out]
 simp only [Result.andThen, Oper.upon_value]
 obtain ⟨x1, hx1⟩ : ∃ W, bytesWorld x0 5 ms = W := ⟨_, rfl⟩
 obtain ⟨mb, hmb⟩ : ∃ b, x0.heap.size = b := ⟨_, rfl⟩
 obtain ⟨mc, hmc⟩ : ∃ b, grownCap x0 ms.size 0 5 = b := ⟨_, rfl⟩
 have hbx1 : Below w.heap.size w x1 := by rw [← hx1]; exact below_then HBx0.out (bytesWorld_below x0 ms)
 have HBx1 := hid hbx1
 have HM1 : Hid (∀ W, Below x1.heap.size x1 W → Lib.BytesIn W (some ⟨mb, 0, none⟩) m.length (intsB m)) := hid (fun W hb _ => ⟨mb, 0, rfl, fun k hk => by
  have hc := bytesWorld_cell x0 5 ms k (by rw [hsz]; exact hk)
  rw [hx1, hmb] at hc
  rw [Nat.zero_add, cell_below hb hc, ← HMS.out, intsB_getD m k hk]
  rfl⟩)
 rw [hx1, hmb, hmc, hsz]
 clear hx1 hmb hmc hbx1
 refine hK.out _ _ (HCE.out _ HBx1.out) (fun hHeld => ?_)
 clear hK K
 try simp only [Act.put, List.setIfInBounds_toArray, List.set_cons_zero, List.set_cons_succ]
 refine wpAnyH_ready (rs := [11]) (by kernel_rfl) (by simp) ?_
 refine AllReadyH.cons rfl (fun K hK => ?_) AllReadyH.nil
 go_simp
 with_reducible refine (HCUT.out x1 HBx1.out mb mc (HM1.out x1 (Below.refl _ _))).mono ?_
 rintro e x2 ⟨⟨v2, rfl⟩, k2, rfl⟩
 refine hK.out _ _ (HCE.out _ (below_drewNv HBx1.out k2)) (fun hHeld => ?_)
 clear hK K
 try simp only [LT, Act.put]
 refine tkH 12 ?_
 simp only [LT, Act.put]
 refine tkH 13 ?_
 simp only [LT, Act.put]
 refine tkH 14 ?_
 simp only [LT, Act.put]
 refine tkH 15 ?_
 simp only [LT, Act.put]
 refine tkH 16 ?_
 simp only [LT, Act.put]
 refine tkH 17 ?_
 simp only [LT, Act.put]
 refine tkH 18 ?_
 simp only [LT, Act.put]
 refine wpAnyH_done (by kernel_rfl) ?_ _
 clear hHeld
 have HS2 := hid (HS.out.keep (below_drewNv HBx1.out k2))
 have HK2 : Hid (Keeps (One B) w (x1.drewN k2)) := hid (keeps_below (below_drewNv HBx1.out k2) _)
 have HE2 : Hid (EnvAt (x1.drewN k2)) := hid (HEnv.out.below (below_drewNv HBx1.out k2))
 obtain ⟨z0, z1⟩ := HCE.out _ (below_drewNv HBx1.out k2)
 generalize (if c = i then a else Option.map (fun x => x.add i) a) = ta
 cases R with
 | none =>
  have HF : Hid (ScOut w B a c l (fun x => .string (strB x)) Q (.panicked [{ v := wrongV 6 n, recovered := false }]) (x1.drewN k2)) := hid (by
   rw [HQ.out]
   unfold upToR
   rw [HS.out.len, HNL.out]
   exact ⟨rfl, HK2.out⟩)
  dsimp only [Option.isSome]
  go_wp2_with fail
  exact ⟨rfl, HF.out⟩
 | some q =>
  dsimp only [Option.isSome]
  obtain ⟨q1, q2⟩ := q
  have hsp := cutS_split m HR.out
  have hlen := HS.out.len
  dsimp only at hsp ⊢
  rw [hsp, List.length_append, List.length_append, HNL.out] at hlen
  obtain ⟨A, hA⟩ : ∃ A, q1.length = A := ⟨_, rfl⟩
  obtain ⟨M, hM⟩ : ∃ M, m.length = M := ⟨_, rfl⟩
  rw [hA, hM] at hlen
  rw [hM] at hsz
  obtain ⟨S1, hS1⟩ : ∃ S1, A + M = S1 := ⟨_, rfl⟩
  obtain ⟨S2, hS2⟩ : ∃ S2, i + S1 = S2 := ⟨_, rfl⟩
  have hadd1 : IntKind.i64.wrap ((A : Int) + (M : Int)) = (S1 : Int) := by rw [← hS1]; exact IntWalk.i64_in _ (by omega)
  have hadd2 : IntKind.i64.wrap ((i : Int) + (S1 : Int)) = (S2 : Int) := by rw [← hS2]; exact IntWalk.i64_in _ (by omega)
  have f1 := unfrozen_of_block HS2.out.blk 1
  have hpl := HS2.out.place (j := S2) (by rw [HNL.out]; omega) (u := q2) (by
   have h1 : t.drop S1 = q2 := by
    rw [hsp, ← List.append_assoc, List.drop_left' (by rw [List.length_append, hA, hM]; exact hS1)]
   rw [← h1, HS.out.left, List.drop_drop, hS2])
  have HS3 := hid hpl.1
  have HK3 : Hid (Keeps (One B) w ((x1.drewN k2).setCell ⟨B, 1, none⟩ (.int .i64 (S2 : Int)))) := hid (HK2.out.trans hpl.2 (fresh_refl _ _))
  have HE3 : Hid (EnvAt ((x1.drewN k2).setCell ⟨B, 1, none⟩ (.int .i64 (S2 : Int)))) := hid (HE2.out.keeps hpl.2 hB)
  have HTX : Hid (t.take A = q1) := hid (by rw [hsp, List.take_left' hA])
  have hcv : ∀ k, (convert 43 9 (.slice (tailA a c i) A (c - i))).run Tryz.prog (((x1.drewN k2).setCell ⟨B, 1, none⟩ (.int .i64 (S2 : Int))).drewN k) = .ok (.string (strB q1)) (((x1.drewN k2).setCell ⟨B, 1, none⟩ (.int .i64 (S2 : Int))).drewN k) := fun k => by
   have := (HS3.out.drawn k).conv i A (c - i) (by rw [HNL.out]; omega)
   rw [← HS.out.left, HTX.out] at this
   exact this
  have hcv0 : (convert 43 9 (.slice (tailA a c i) A (c - i))).run Tryz.prog ((x1.drewN k2).setCell ⟨B, 1, none⟩ (.int .i64 (S2 : Int))) = .ok (.string (strB q1)) ((x1.drewN k2).setCell ⟨B, 1, none⟩ (.int .i64 (S2 : Int))) := hcv 0
  have HLN := hid (lines_calls (strB q1) ((x1.drewN k2).setCell ⟨B, 1, none⟩ (.int .i64 (S2 : Int))) (by show q1.length ≤ _; omega) HE3.out.mx)
  have HF : Hid (∀ w', Below ((x1.drewN k2).setCell ⟨B, 1, none⟩ (.int .i64 (S2 : Int))).heap.size ((x1.drewN k2).setCell ⟨B, 1, none⟩ (.int .i64 (S2 : Int))) w' → ScOut w B a c l (fun x => .string (strB x)) Q (.returned (.string (strB (eols q1)))) w') := hid (fun w' hb => by
   rw [HQ.out]
   unfold upToR
   dsimp only
   rw [hA, hM, Nat.add_assoc, hS1, hS2]
   exact ⟨rfl, HS3.out.keep hb, HK3.out.trans (keeps_below hb Non) (fresh_non _ _)⟩)
  obtain ⟨TA, hTA⟩ : ∃ TA, tailA a c i = TA := ⟨_, rfl⟩
  rw [hTA] at hcv hcv0 ⊢
  rw [hA]
  clear hpl hsp hS1 hS2 hA hM hTA
  go_wp2_with fail
  with_reducible refine HLN.out.mono ?_
  rintro e w3 ⟨rfl, hb3⟩
  have HF2 := hid (HF.out w3 hb3)
  clear hb3
  go_wp2_with fail
  go_ret
  exact HF2.out
end Go.Proofs.YtjpkkflhcjjefaaGreatDoor
