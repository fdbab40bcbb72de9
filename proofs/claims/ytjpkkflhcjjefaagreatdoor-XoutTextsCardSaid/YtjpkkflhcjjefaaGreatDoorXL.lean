/-
 Attributes in a slice of the call's own, and append to it.
-/
import Derived.Test.YtjpkkflhcjjefaaGreatDoorXM
import Derived.Maps.OwnSet
import Derived.Maps.Views
import Derived.StringKeys
import Derived.Test.YtjpkkflhcjjefaaGreatDoorXOk
import Derived.Maps.AppendAt
import Derived.Lib.AppendZerosOnto
import Derived.Lib.SliceRun
namespace Go.Proofs.YtjpkkflhcjjefaaGreatDoor
open Go.RowKit Go.Lib Go.Joins
set_option maxHeartbeats 32000000
set_option maxRecDepth 100000 in
theorem chars9_calls {w : World} {B : Nat} {a : Option Addr} {c : Nat} {l : List UInt8} {i : Nat} {t : List UInt8} (h : ScAt w B a c l i t) (hE : EnvAt w) (hB : 15 ≤ B) : Calls Tryz.prog 102 #[.pointer (some ⟨B, 0, none⟩)] w (ScOut w B a c l (fun x => .string (strB x)) (mixS none i t)) := by
 obtain ⟨Q, hQ⟩ : ∃ Q, mixS none i t = Q := ⟨_, rfl⟩
 rw [hQ]
 have hb : Below w.heap.size w (w.alloc (.cells #[.pointer (some ⟨B, 0, none⟩)] 117)) := (Below.refl _ _).alloc (Nat.le_refl _) _
 have hBl := lt_of_block h.blk
 have hcl : (w.alloc (.cells #[.pointer (some ⟨B, 0, none⟩)] 117)).cell? ⟨w.heap.size, 0, none⟩ = some (.pointer (some ⟨B, 0, none⟩)) := by simp
 have HM := hid (mixC_calls (h.keep hb) (hE.below hb) hB w.heap.size (by omega) hcl)
 rw [hQ] at HM
 obtain ⟨w1, hw1⟩ : ∃ W, w.alloc (.cells #[.pointer (some ⟨B, 0, none⟩)] 117) = W := ⟨_, rfl⟩
 rw [hw1] at HM hb hcl
 have HK := hid (keeps_below hb (One B))
 have HW := hid hw1
 obtain ⟨cb, hcb⟩ : ∃ cb, w.heap.size = cb := ⟨_, rfl⟩
 have HCB := hid hcb
 rw [hcb] at HM hcl
 have he : strB [60] = ⟨#[60]⟩ := rfl
 rw [he] at HM
 clear h hE hQ hb hw1 hBl hcb he
 go_enter Tryz.func102, Tryz.ntmps102
 go_upto_region 1 with (fail)
 rw [HW.out, HCB.out]
 cases Q with
 | no cd p =>
  go_wp2_with fail
  with_reducible refine HM.out.mono ?_
  rintro e w2 ⟨rfl, hk⟩
  have HF : Hid (ScOut w B a c l (fun x => .string (strB x)) (.no cd p) (.panicked [{ v := wrongV cd p, recovered := false }]) w2) := hid ⟨rfl, HK.out.trans hk (fresh_refl _ _)⟩
  clear hk
  go_wp2_with fail
  exact ⟨rfl, HF.out⟩
 | ok x j u =>
  go_wp2_with fail
  with_reducible refine HM.out.mono ?_
  rintro e w2 ⟨rfl, hs, hk⟩
  have HF : Hid (ScOut w B a c l (fun x => .string (strB x)) (.ok x j u) (.returned (.string (strB x))) w2) := hid ⟨rfl, hs, HK.out.trans hk (fresh_refl _ _)⟩
  clear hs hk
  go_wp2_with fail
  go_ret
  exact HF.out
set_option maxRecDepth 100000 in
theorem value9_calls {w : World} {B : Nat} {a : Option Addr} {c : Nat} {l : List UInt8} {i : Nat} {t : List UInt8} (h : ScAt w B a c l i t) (hE : EnvAt w) (hB : 15 ≤ B) : Calls Tryz.prog 163 #[.pointer (some ⟨B, 0, none⟩)] w (ScOut w B a c l (fun x => .string (strB x)) (valueS i t)) := by
 obtain ⟨Q, hQ⟩ : ∃ Q, valueS i t = Q := ⟨_, rfl⟩
 rw [hQ]
 have HS0 := hid h
 have HE0 := hid hE
 have HK0 : Hid (Keeps (One B) w w) := hid (Keeps.refl _ _)
 have HQ0 : Hid (Q = (peekS i t).then fun x _ _ => if x ≠ 34 ∧ x ≠ 39 then .no 2 i else (mixS (some x) (i + 1) (t.drop 1)).then fun u j t => (mustS x j t).then fun _ k t2 => .ok u k t2) := hid (by rw [← hQ]; rfl)
 clear h hE hQ
 go_enter Tryz.func163, Tryz.ntmps163
 obtain ⟨S0, hS0⟩ : ∃ S, peekS i t = S := ⟨_, rfl⟩
 have HC0 := hid (peek_calls HS0.out)
 have hq0 := HQ0.out
 rw [hS0] at HC0 hq0
 cases S0 with
 | no cd p =>
  have HF : Hid (∀ wx, Keeps (One B) w wx → ScOut w B a c l (fun x => .string (strB x)) Q (.panicked [{ v := wrongV cd p, recovered := false }]) wx) := hid (fun wx hk => by
   rw [hq0]
   exact ⟨rfl, HK0.out.trans hk (fresh_refl _ _)⟩)
  clear hq0 hS0
  go_wp2_with fail
  with_reducible refine HC0.out.mono ?_
  rintro e wx ⟨rfl, hk⟩
  have HF1 := hid (HF.out wx hk)
  clear hk
  go_wp2_with fail
  exact ⟨rfl, HF1.out⟩
 | ok x0 j1 u1 =>
  rw [Sx.then_ok] at hq0
  have HQ1 := hid hq0
  have HSS0 := hid hS0
  clear hq0 hS0
  go_wp2_with fail
  with_reducible refine HC0.out.mono ?_
  rintro e w1 ⟨rfl, hs, hk⟩
  have HS1 := hid hs
  have HK1 : Hid (Keeps (One B) w w1) := hid (HK0.out.trans hk (fresh_refl _ _))
  have HE1 : Hid (EnvAt w1) := hid (HE0.out.keeps hk hB)
  clear hs hk
  obtain ⟨rfl, rfl, t', rfl⟩ := peekS_ok HSS0.out
  by_cases hx : x0 = 34
  ·subst hx
   have hd := HS1.out.head
   obtain ⟨jj, hjj⟩ : ∃ jj, j1 + 1 = jj := ⟨_, rfl⟩
   have hadd : IntKind.i64.wrap ((j1 : Int) + 1) = (jj : Int) := by rw [← hjj]; exact IntWalk.i64_in _ (by have := HS1.out.few; omega)
   have f1 := unfrozen_of_block HS1.out.blk 1
   obtain ⟨z0, z1⟩ := HS1.out.cells
   have hp := HS1.out.place (j := jj) (by rw [← hjj]; exact hd.1) (u := t') (by rw [← hjj]; exact hd.2.2)
   have HQ2 : Hid (Q = (mixS (some 34) jj t').then fun u j t => (mustS 34 j t).then fun _ k t2 => .ok u k t2) := hid (by rw [HQ1.out, ← hjj]; rfl)
   have HS2 := hid hp.1
   have HK2 : Hid (Keeps (One B) w (w1.setCell ⟨B, 1, none⟩ (.int .i64 (jj : Int)))) := hid (HK1.out.trans hp.2 (fresh_refl _ _))
   have HE2 : Hid (EnvAt (w1.setCell ⟨B, 1, none⟩ (.int .i64 (jj : Int)))) := hid (HE1.out.keeps hp.2 hB)
   have HMX := hid (mixV_calls HS2.out HE2.out hB 34 (by decide))
   have he : strB [60, 34] = ⟨#[60]⟩ ++ Utf8.encode 34 := by kernel_rfl
   rw [he] at HMX
   obtain ⟨w2, hw2⟩ : ∃ W, w1.setCell ⟨B, 1, none⟩ (.int .i64 (jj : Int)) = W := ⟨_, rfl⟩
   rw [hw2] at HS2 HK2 HE2 HMX
   have HW2 := hid hw2
   clear hd hp he hw2 hjj
   go_upto_region 5 with (fail)
   rw [HW2.out]
   obtain ⟨S2, hS2⟩ : ∃ S, mixS (some 34) jj t' = S := ⟨_, rfl⟩
   have HC2 := hid (HMX.out)
   have hq2 := HQ2.out
   rw [hS2] at HC2 hq2
   cases S2 with
   | no cd p =>
    have HF : Hid (∀ wx, Keeps (One B) w2 wx → ScOut w B a c l (fun x => .string (strB x)) Q (.panicked [{ v := wrongV cd p, recovered := false }]) wx) := hid (fun wx hk => by
     rw [hq2]
     exact ⟨rfl, HK2.out.trans hk (fresh_refl _ _)⟩)
    clear hq2 hS2
    go_wp2_with fail
    with_reducible refine HC2.out.mono ?_
    rintro e wx ⟨rfl, hk⟩
    have HF1 := hid (HF.out wx hk)
    clear hk
    go_wp2_with fail
    exact ⟨rfl, HF1.out⟩
   | ok x2 j3 u3 =>
    rw [Sx.then_ok] at hq2
    have HQ3 := hid hq2
    have HSS2 := hid hS2
    clear hq2 hS2
    go_wp2_with fail
    with_reducible refine HC2.out.mono ?_
    rintro e w3 ⟨rfl, hs, hk⟩
    have HS3 := hid hs
    have HK3 : Hid (Keeps (One B) w w3) := hid (HK2.out.trans hk (fresh_refl _ _))
    have HE3 : Hid (EnvAt w3) := hid (HE2.out.keeps hk hB)
    clear hs hk
    obtain ⟨S3, hS3⟩ : ∃ S, mustS 34 j3 u3 = S := ⟨_, rfl⟩
    have HC3 := hid (must_at HS3.out 34 34 rfl)
    have hq3 := HQ3.out
    rw [hS3] at HC3 hq3
    cases S3 with
    | no cd p =>
     have HF : Hid (∀ wx, Keeps (One B) w3 wx → ScOut w B a c l (fun x => .string (strB x)) Q (.panicked [{ v := wrongV cd p, recovered := false }]) wx) := hid (fun wx hk => by
      rw [hq3]
      exact ⟨rfl, HK3.out.trans hk (fresh_refl _ _)⟩)
     clear hq3 hS3
     go_wp2_with fail
     with_reducible refine HC3.out.mono ?_
     rintro e wx ⟨rfl, hk⟩
     have HF1 := hid (HF.out wx hk)
     clear hk
     go_wp2_with fail
     exact ⟨rfl, HF1.out⟩
    | ok x3 j4 u4 =>
     rw [Sx.then_ok] at hq3
     have HQ4 := hid hq3
     have HSS3 := hid hS3
     clear hq3 hS3
     go_wp2_with fail
     with_reducible refine HC3.out.mono ?_
     rintro e w4 ⟨rfl, hs, hk⟩
     have HS4 := hid hs
     have HK4 : Hid (Keeps (One B) w w4) := hid (HK3.out.trans hk (fresh_refl _ _))
     have HE4 : Hid (EnvAt w4) := hid (HE3.out.keeps hk hB)
     clear hs hk
     have HF : Hid (ScOut w B a c l (fun x => .string (strB x)) Q (.returned (.string (strB x2))) w4) := hid (by
      rw [HQ4.out]
      exact ⟨rfl, HS4.out, HK4.out⟩)
     go_wp2_with fail
     go_ret
     exact HF.out
  ·by_cases hx2 : x0 = 39
   ·have hx := hx2
    subst hx
    have hd := HS1.out.head
    obtain ⟨jj, hjj⟩ : ∃ jj, j1 + 1 = jj := ⟨_, rfl⟩
    have hadd : IntKind.i64.wrap ((j1 : Int) + 1) = (jj : Int) := by rw [← hjj]; exact IntWalk.i64_in _ (by have := HS1.out.few; omega)
    have f1 := unfrozen_of_block HS1.out.blk 1
    obtain ⟨z0, z1⟩ := HS1.out.cells
    have hp := HS1.out.place (j := jj) (by rw [← hjj]; exact hd.1) (u := t') (by rw [← hjj]; exact hd.2.2)
    have HQ2 : Hid (Q = (mixS (some 39) jj t').then fun u j t => (mustS 39 j t).then fun _ k t2 => .ok u k t2) := hid (by rw [HQ1.out, ← hjj]; rfl)
    have HS2 := hid hp.1
    have HK2 : Hid (Keeps (One B) w (w1.setCell ⟨B, 1, none⟩ (.int .i64 (jj : Int)))) := hid (HK1.out.trans hp.2 (fresh_refl _ _))
    have HE2 : Hid (EnvAt (w1.setCell ⟨B, 1, none⟩ (.int .i64 (jj : Int)))) := hid (HE1.out.keeps hp.2 hB)
    have HMX := hid (mixV_calls HS2.out HE2.out hB 39 (by decide))
    have he : strB [60, 39] = ⟨#[60]⟩ ++ Utf8.encode 39 := by kernel_rfl
    rw [he] at HMX
    obtain ⟨w2, hw2⟩ : ∃ W, w1.setCell ⟨B, 1, none⟩ (.int .i64 (jj : Int)) = W := ⟨_, rfl⟩
    rw [hw2] at HS2 HK2 HE2 HMX
    have HW2 := hid hw2
    clear hd hp he hw2 hjj
    go_upto_region 5 with (fail)
    rw [HW2.out]
    obtain ⟨S2, hS2⟩ : ∃ S, mixS (some 39) jj t' = S := ⟨_, rfl⟩
    have HC2 := hid (HMX.out)
    have hq2 := HQ2.out
    rw [hS2] at HC2 hq2
    cases S2 with
    | no cd p =>
     have HF : Hid (∀ wx, Keeps (One B) w2 wx → ScOut w B a c l (fun x => .string (strB x)) Q (.panicked [{ v := wrongV cd p, recovered := false }]) wx) := hid (fun wx hk => by
      rw [hq2]
      exact ⟨rfl, HK2.out.trans hk (fresh_refl _ _)⟩)
     clear hq2 hS2
     go_wp2_with fail
     with_reducible refine HC2.out.mono ?_
     rintro e wx ⟨rfl, hk⟩
     have HF1 := hid (HF.out wx hk)
     clear hk
     go_wp2_with fail
     exact ⟨rfl, HF1.out⟩
    | ok x2 j3 u3 =>
     rw [Sx.then_ok] at hq2
     have HQ3 := hid hq2
     have HSS2 := hid hS2
     clear hq2 hS2
     go_wp2_with fail
     with_reducible refine HC2.out.mono ?_
     rintro e w3 ⟨rfl, hs, hk⟩
     have HS3 := hid hs
     have HK3 : Hid (Keeps (One B) w w3) := hid (HK2.out.trans hk (fresh_refl _ _))
     have HE3 : Hid (EnvAt w3) := hid (HE2.out.keeps hk hB)
     clear hs hk
     obtain ⟨S3, hS3⟩ : ∃ S, mustS 39 j3 u3 = S := ⟨_, rfl⟩
     have HC3 := hid (must_at HS3.out 39 39 rfl)
     have hq3 := HQ3.out
     rw [hS3] at HC3 hq3
     cases S3 with
     | no cd p =>
      have HF : Hid (∀ wx, Keeps (One B) w3 wx → ScOut w B a c l (fun x => .string (strB x)) Q (.panicked [{ v := wrongV cd p, recovered := false }]) wx) := hid (fun wx hk => by
       rw [hq3]
       exact ⟨rfl, HK3.out.trans hk (fresh_refl _ _)⟩)
      clear hq3 hS3
      go_wp2_with fail
      with_reducible refine HC3.out.mono ?_
      rintro e wx ⟨rfl, hk⟩
      have HF1 := hid (HF.out wx hk)
      clear hk
      go_wp2_with fail
      exact ⟨rfl, HF1.out⟩
     | ok x3 j4 u4 =>
      rw [Sx.then_ok] at hq3
      have HQ4 := hid hq3
      have HSS3 := hid hS3
      clear hq3 hS3
      go_wp2_with fail
      with_reducible refine HC3.out.mono ?_
      rintro e w4 ⟨rfl, hs, hk⟩
      have HS4 := hid hs
      have HK4 : Hid (Keeps (One B) w w4) := hid (HK3.out.trans hk (fresh_refl _ _))
      have HE4 : Hid (EnvAt w4) := hid (HE3.out.keeps hk hB)
      clear hs hk
      have HF : Hid (ScOut w B a c l (fun x => .string (strB x)) Q (.returned (.string (strB x2))) w4) := hid (by
       rw [HQ4.out]
       exact ⟨rfl, HS4.out, HK4.out⟩)
      go_wp2_with fail
      go_ret
      exact HF.out
   ·have hz1 : ((x0.toNat : Int) != 34) = true := by
     simp only [bne_iff_ne, ne_eq]
     exact fun h => hx (UInt8.toNat_inj.1 (by have : (34 : UInt8).toNat = 34 := rfl; omega))
    have hz2 : ((x0.toNat : Int) != 39) = true := by
     simp only [bne_iff_ne, ne_eq]
     exact fun h => hx2 (UInt8.toNat_inj.1 (by have : (39 : UInt8).toNat = 39 := rfl; omega))
    obtain ⟨z0, z1⟩ := HS1.out.cells
    have HF : Hid (ScOut w B a c l (fun x => .string (strB x)) Q (.panicked [{ v := wrongV 2 j1, recovered := false }]) w1) := hid (by
     rw [HQ1.out, if_pos ⟨hx, hx2⟩]
     exact ⟨rfl, HK1.out⟩)
    go_wp2_with fail
    exact ⟨rfl, HF.out⟩
def SetAt (w : World) (mb : Nat) (ns : List (List UInt8)) : Prop := ∃ D : DataW Unit, w.ownsMap Tryz.prog 9 unitElem mb ns.length D ∧ ∀ x : List UInt8, Maps.has D (.string x) = decide (x ∈ ns)
theorem SetAt.block {w w' : World} {mb : Nat} {ns : List (List UInt8)} (h : SetAt w mb ns) (hb : w'.heap[mb]? = w.heap[mb]?) : SetAt w' mb ns := by
 obtain ⟨D, ⟨es, clock, h1, h2⟩, h3⟩ := h
 exact ⟨D, ⟨es, clock, hb.trans h1, h2⟩, h3⟩
theorem SetAt.lt {w : World} {mb : Nat} {ns : List (List UInt8)} (h : SetAt w mb ns) : mb < w.heap.size := by
 obtain ⟨D, h1, _⟩ := h
 exact h1.lt
theorem SetAt.keeps {w w' : World} {mb : Nat} {ns : List (List UInt8)} {O : Nat → Prop} (h : SetAt w mb ns) (hk : Keeps O w w') (hb : ¬ O mb) : SetAt w' mb ns := h.block (hk.block mb h.lt hb)
theorem SetAt.made (w : World) : SetAt (w.alloc (.map #[] 0)) w.heap.size [] := ⟨.map [], World.ownsMap_made w Tryz.prog 9 unitElem, fun x => by simp [Maps.has]⟩
def Two (B mb : Nat) : Nat → Prop := fun k => k = B ∨ k = mb
theorem fresh_two (B mb n : Nat) : Fresh (Two B mb) n (One B) := fun _ h => .inl (.inl h)
theorem name_key (s : List UInt8) (hs : s.length ≤ 65536) : keyOf Tryz.prog 9 (.string (strB s)) = some (.string s) := by
 have h := Go.WideMaps.keyOf_string_mk (P := Tryz.prog) (k := 9) Tryz.underlying9 (s := strB s) (by rw [strB_size]; simp only [maxLen]; omega)
 rw [strB_list] at h
 exact h
theorem SetAt.look {w : World} {mb : Nat} {ns : List (List UInt8)} (h : SetAt w mb ns) (s : List UInt8) (hs : s.length ≤ 65536) : (Instr.lookup 194 (.map (some mb)) (.string (strB s)) true).run Tryz.prog w = .ok (.tuple #[.agg #[], .bool (decide (s ∈ ns))]) w := by
 obtain ⟨D, h1, h2⟩ := h
 obtain ⟨v, ps, h3, h4⟩ := h1.look_ok (Maps.string_keyed Tryz.underlying9) Tryz.underlying194 (z := .agg #[]) (by kernel_rfl) unitElem_mk (name_key s hs)
 obtain ⟨rfl, _⟩ := unitElem_inv h4
 rw [h2] at h3
 exact h3
theorem SetAt.put {w : World} {mb : Nat} {ns : List (List UInt8)} (h : SetAt w mb ns) (s : List UInt8) (hs : s.length ≤ 65536) (hn : ns.length ≤ 65536) : ∃ w', (Instr.mapUpdate 194 (.map (some mb)) (.string (strB s)) (.agg #[])).run Tryz.prog w = .ok () w' ∧ SetAt w' mb (ns ++ [s]) ∧ ∀ O : Nat → Prop, O mb → Keeps O w w' := by
 obtain ⟨D, h1, h2⟩ := h
 obtain ⟨w', h3, h4, h5⟩ := h1.store (Maps.string_keyed Tryz.underlying9) Tryz.underlying194 (by simp only [maxLen]; omega) (name_key s hs) unitElem_mk
 refine ⟨w', h3, ⟨D.put (.string s) (.agg []), by rw [List.length_append]; exact h4, fun x => ?_⟩, fun O hO => (Keeps.refl O w).grown h5.grown (fun k hk => by cases hk; exact .inl hO)⟩
 by_cases hx : x = s
 ·subst hx
  rw [Maps.has_put_same h1.isMap (by trivial)]
  simp
 ·rw [Maps.has_put_other (fun h => hx (by injection h)), h2]
  simp [hx]
theorem ScAt.set {w w' : World} {B mb : Nat} {ns : List (List UInt8)} {a : Option Addr} {c : Nat} {l : List UInt8} {i : Nat} {t : List UInt8} (h : ScAt w B a c l i t) (hm : SetAt w mb ns) (hne : mb ≠ B) (hk : Keeps (fun k => k = mb) w w') : ScAt w' B a c l i t where
 blk := (hk.block B (lt_of_block h.blk) (fun e => hne e.symm)).trans h.blk
 row := by
  rcases h.row with h0 | ⟨b, o, h1, h2, h3⟩
  ·exact .inl h0
  ·refine .inr ⟨b, o, h1, h2, fun k hk' => ?_⟩
   have hc := h3 k hk'
   refine (World.cell?_of_block (hk.block b (lt_of_cell hc) (fun e => ?_))).trans hc
   obtain ⟨D, ⟨es, clock, hb, _⟩, _⟩ := hm
   rw [← (show b = mb from e)] at hb
   rw [World.cell?, hb] at hc
   cases hc
 nul := h.nul
 cap := h.cap
 most := h.most
 few := h.few
 fits := h.fits
 left := h.left
def AttrOut (w : World) (B mb : Nat) (ns : List (List UInt8)) (a : Option Addr) (c : Nat) (l : List UInt8) : Sx (List UInt8 × List UInt8) → Ending → World → Prop
 | .ok x i t, e, w' => e = .returned (.agg #[.string (strB x.1), .string (strB x.2)]) ∧ ScAt w' B a c l i t ∧ SetAt w' mb (ns ++ [x.1]) ∧ Keeps (Two B mb) w w'
 | .no cd p, e, w' => e = .panicked [{ v := wrongV cd p, recovered := false }] ∧ Keeps (Two B mb) w w'
theorem nameS_short {i : Nat} {r x : List UInt8} {j : Nat} {t : List UInt8} (h : nameS i r = .ok x j t) : x.length ≤ r.length := by
 unfold nameS at h
 cases hn : nmG r.length true i r with
 | no c p => rw [hn] at h; cases h
 | ok u j2 t2 =>
  rw [hn, Sx.then_ok] at h
  split at h
  ·cases h
  ·cases h
   rw [List.length_take]
   omega
set_option maxRecDepth 100000 in
theorem attr_calls {w : World} {B mb : Nat} {ns : List (List UInt8)} {a : Option Addr} {c : Nat} {l : List UInt8} {i : Nat} {t : List UInt8} (h : ScAt w B a c l i t) (hE : EnvAt w) (hB : 15 ≤ B) (hM : SetAt w mb ns) (hmb : 15 ≤ mb) (hne : mb ≠ B) (hns : ns.length ≤ 65536) : Calls Tryz.prog 139 #[.pointer (some ⟨B, 0, none⟩), .map (some mb)] w (AttrOut w B mb ns a c l (attrS ns i t)) := by
 obtain ⟨Q, hQ⟩ : ∃ Q, attrS ns i t = Q := ⟨_, rfl⟩
 rw [hQ]
 have hQ2 : Q = (nameS i t).then fun nm j t =>
  if nm ∈ ns then .no 4 i
  else (blanksS j t).then fun _ j t => (mustS 61 j t).then fun _ j t => (blanksS j t).then fun _ j t => (valueS j t).then fun v j t => .ok (nm, v) j t := by rw [← hQ]; rfl
 have HQ0 := hid hQ2
 have hlen := h.len
 have hfew := h.few
 have htl : t.length ≤ 65536 := by omega
 have hb0 : Below w.heap.size w (w.alloc (.cells #[.string ⟨#[]⟩, .string ⟨#[]⟩] 47)) := (Below.refl _ _).alloc (Nat.le_refl _) _
 have hrb : (w.alloc (.cells #[.string ⟨#[]⟩, .string ⟨#[]⟩] 47)).heap[w.heap.size]? = some (.cells #[.string ⟨#[]⟩, .string ⟨#[]⟩] 47 (0, 0)) := heap_alloc_new w _
 obtain ⟨rb, hrbe⟩ : ∃ rb, w.heap.size = rb := ⟨_, rfl⟩
 have hBr : B < rb := by rw [← hrbe]; exact lt_of_block h.blk
 have hmr : mb < rb := by rw [← hrbe]; exact hM.lt
 obtain ⟨w0, hw0⟩ : ∃ W, w.alloc (.cells #[.string ⟨#[]⟩, .string ⟨#[]⟩] 47) = W := ⟨_, rfl⟩
 have HRB := hid hrbe
 have HDOC : Hid (∀ b o, a = some ⟨b, o, none⟩ → 0 < l.length → b ≠ rb) := hid (fun b o ha hl e => by
  rcases h.row with h0 | ⟨b', o', h1, _, h3⟩
  ·omega
  ·rw [ha] at h1
   cases h1
   have := lt_of_cell (h3 0 hl)
   omega)
 have HW0 := hid hw0
 rw [hw0] at hb0 hrb
 rw [hrbe] at hrb
 have HS0 : Hid (ScAt w0 B a c l i t) := hid (h.keep hb0)
 have HE0 : Hid (EnvAt w0) := hid (hE.below hb0)
 have HK0 : Hid (Keeps (Two B mb) w w0) := hid (keeps_below hb0 _)
 have HM0 : Hid (SetAt w0 mb ns) := hid (hM.block (hb0.block mb hM.lt))
 have HR0 := hid hrb
 obtain ⟨z0, z1⟩ := HS0.out.cells
 clear h hE hM hQ hQ2 hlen hfew hb0 hrb hrbe hw0
 go_enter Tryz.func139, Tryz.ntmps139
 go_upto_region 1 with (fail)
 rw [HRB.out, HW0.out]
 obtain ⟨S0, hS0⟩ : ∃ S, nameS i t = S := ⟨_, rfl⟩
 have HC0 := hid (name_calls HS0.out HE0.out hB)
 have hq0 := HQ0.out
 rw [hS0] at HC0 hq0
 cases S0 with
 | no cd p =>
  have HF : Hid (∀ wx, Keeps (One B) w0 wx → AttrOut w B mb ns a c l Q (.panicked [{ v := wrongV cd p, recovered := false }]) wx) := hid (fun wx hk => by
   rw [hq0]
   exact ⟨rfl, HK0.out.trans hk (fresh_two B mb _)⟩)
  clear hq0 hS0
  go_wp2_with fail
  with_reducible refine HC0.out.mono ?_
  rintro e wx ⟨rfl, hk⟩
  have HF1 := hid (HF.out wx hk)
  clear hk
  go_wp2_with fail
  exact ⟨rfl, HF1.out⟩
 | ok x0 j1 u1 =>
  rw [Sx.then_ok] at hq0
  have HQ1 := hid hq0
  have HSS0 := hid hS0
  clear hq0 hS0
  go_wp2_with fail
  with_reducible refine HC0.out.mono ?_
  rintro e w1 ⟨rfl, hs, hk⟩
  have HS1 := hid hs
  have HK1 : Hid (Keeps (Two B mb) w w1) := hid (HK0.out.trans hk (fresh_two B mb _))
  have HE1 : Hid (EnvAt w1) := hid (HE0.out.keeps hk hB)
  have HM1 : Hid (SetAt w1 mb ns) := hid (HM0.out.keeps hk (fun h => hne h))
  have HR1 : Hid (w1.heap[rb]? = some (.cells #[.string ⟨#[]⟩, .string ⟨#[]⟩] 47 (0, 0))) := hid (block_keep HR0.out hk (fun h => by have h' : rb = B := h; omega))
  clear hs hk
  have hxl := nameS_short HSS0.out
  have hx65 : x0.length ≤ 65536 := Nat.le_trans hxl htl
  have hlk := HM1.out.look x0 hx65
  obtain ⟨tw, htw⟩ : ∃ tw, decide (x0 ∈ ns) = tw := ⟨_, rfl⟩
  rw [htw] at hlk
  cases tw with
  | true =>
   have hin : x0 ∈ ns := of_decide_eq_true htw
   have HF : Hid (∀ W, Below w1.heap.size w1 W → AttrOut w B mb ns a c l Q (.panicked [{ v := wrongV 4 i, recovered := false }]) W) := hid (fun W hb => by
    rw [HQ1.out, if_pos hin]
    exact ⟨rfl, HK1.out.below hb HK1.out.size⟩)
   clear htw hin
   go_wp2_with fail
   exact ⟨rfl, HF.out _ ((Below.refl _ _).alloc (Nat.le_refl _) _)⟩
  | false =>
   have hin : ¬ x0 ∈ ns := of_decide_eq_false htw
   have HQ2 : Hid (Q = (blanksS j1 u1).then fun _ j t => (mustS 61 j t).then fun _ j t => (blanksS j t).then fun _ j t => (valueS j t).then fun v j t => .ok (x0, v) j t) := hid (by rw [HQ1.out, if_neg hin])
   clear htw hin
   go_upto_region 6 with (fail)
   have hba : Below w1.heap.size w1 (w1.alloc (.cells #[] 217)) := (Below.refl _ _).alloc (Nat.le_refl _) _
   obtain ⟨wa, hwa⟩ : ∃ W, w1.alloc (.cells #[] 217) = W := ⟨_, rfl⟩
   rw [hwa] at hba ⊢
   have hma : SetAt wa mb ns := HM1.out.block (hba.block mb HM1.out.lt)
   obtain ⟨w2, hput, hm2, hk2⟩ := hma.put x0 hx65 hns
   have HS2 : Hid (ScAt w2 B a c l j1 u1) := hid ((HS1.out.keep hba).set hma hne (hk2 _ rfl))
   have HE2 : Hid (EnvAt w2) := hid ((HE1.out.below hba).keeps (B := mb) (hk2 _ rfl) hmb)
   have HM2 := hid hm2
   have HK2 : Hid (Keeps (Two B mb) w w2) := hid ((HK1.out.below hba HK1.out.size).trans (hk2 (Two B mb) (.inr rfl)) (fresh_refl _ _))
   have HR2 : Hid (w2.heap[rb]? = some (.cells #[.string ⟨#[]⟩, .string ⟨#[]⟩] 47 (0, 0))) := hid (((hk2 (fun k => k = mb) rfl).block rb (by have := lt_of_block HR1.out; have := hba.size; omega) (fun h => by have h' : rb = mb := h; omega)).trans ((hba.block rb (lt_of_block HR1.out)).trans HR1.out))
   clear hba hma hm2 hk2 hwa hlk
   go_upto_region 7 with (fail)
   obtain ⟨S2, hS2⟩ : ∃ S, blanksS j1 u1 = S := ⟨_, rfl⟩
   have HC2 := hid (blanks_calls HS2.out)
   have hq2 := HQ2.out
   rw [hS2] at HC2 hq2
   cases S2 with
   | no cd p =>
    have HF : Hid (∀ wx, Keeps (One B) w2 wx → AttrOut w B mb ns a c l Q (.panicked [{ v := wrongV cd p, recovered := false }]) wx) := hid (fun wx hk => by
     rw [hq2]
     exact ⟨rfl, HK2.out.trans hk (fresh_two B mb _)⟩)
    clear hq2 hS2
    go_wp2_with fail
    with_reducible refine HC2.out.mono ?_
    rintro e wx ⟨rfl, hk⟩
    have HF1 := hid (HF.out wx hk)
    clear hk
    go_wp2_with fail
    exact ⟨rfl, HF1.out⟩
   | ok x2 j3 u3 =>
    rw [Sx.then_ok] at hq2
    have HQ3 := hid hq2
    have HSS2 := hid hS2
    clear hq2 hS2
    go_wp2_with fail
    with_reducible refine HC2.out.mono ?_
    rintro e w3 ⟨rfl, hs, hk⟩
    have HS3 := hid hs
    have HK3 : Hid (Keeps (Two B mb) w w3) := hid (HK2.out.trans hk (fresh_two B mb _))
    have HE3 : Hid (EnvAt w3) := hid (HE2.out.keeps hk hB)
    have HM3 : Hid (SetAt w3 mb (ns ++ [x0])) := hid (HM2.out.keeps hk (fun h => hne h))
    have HR3 : Hid (w3.heap[rb]? = some (.cells #[.string ⟨#[]⟩, .string ⟨#[]⟩] 47 (0, 0))) := hid (block_keep HR2.out hk (fun h => by have h' : rb = B := h; omega))
    clear hs hk
    obtain ⟨S3, hS3⟩ : ∃ S, mustS 61 j3 u3 = S := ⟨_, rfl⟩
    have HC3 := hid (must_at HS3.out 61 61 rfl)
    have hq3 := HQ3.out
    rw [hS3] at HC3 hq3
    cases S3 with
    | no cd p =>
     have HF : Hid (∀ wx, Keeps (One B) w3 wx → AttrOut w B mb ns a c l Q (.panicked [{ v := wrongV cd p, recovered := false }]) wx) := hid (fun wx hk => by
      rw [hq3]
      exact ⟨rfl, HK3.out.trans hk (fresh_two B mb _)⟩)
     clear hq3 hS3
     go_wp2_with fail
     with_reducible refine HC3.out.mono ?_
     rintro e wx ⟨rfl, hk⟩
     have HF1 := hid (HF.out wx hk)
     clear hk
     go_wp2_with fail
     exact ⟨rfl, HF1.out⟩
    | ok x3 j4 u4 =>
     rw [Sx.then_ok] at hq3
     have HQ4 := hid hq3
     have HSS3 := hid hS3
     clear hq3 hS3
     go_wp2_with fail
     with_reducible refine HC3.out.mono ?_
     rintro e w4 ⟨rfl, hs, hk⟩
     have HS4 := hid hs
     have HK4 : Hid (Keeps (Two B mb) w w4) := hid (HK3.out.trans hk (fresh_two B mb _))
     have HE4 : Hid (EnvAt w4) := hid (HE3.out.keeps hk hB)
     have HM4 : Hid (SetAt w4 mb (ns ++ [x0])) := hid (HM3.out.keeps hk (fun h => hne h))
     have HR4 : Hid (w4.heap[rb]? = some (.cells #[.string ⟨#[]⟩, .string ⟨#[]⟩] 47 (0, 0))) := hid (block_keep HR3.out hk (fun h => by have h' : rb = B := h; omega))
     clear hs hk
     obtain ⟨S4, hS4⟩ : ∃ S, blanksS j4 u4 = S := ⟨_, rfl⟩
     have HC4 := hid (blanks_calls HS4.out)
     have hq4 := HQ4.out
     rw [hS4] at HC4 hq4
     cases S4 with
     | no cd p =>
      have HF : Hid (∀ wx, Keeps (One B) w4 wx → AttrOut w B mb ns a c l Q (.panicked [{ v := wrongV cd p, recovered := false }]) wx) := hid (fun wx hk => by
       rw [hq4]
       exact ⟨rfl, HK4.out.trans hk (fresh_two B mb _)⟩)
      clear hq4 hS4
      go_wp2_with fail
      with_reducible refine HC4.out.mono ?_
      rintro e wx ⟨rfl, hk⟩
      have HF1 := hid (HF.out wx hk)
      clear hk
      go_wp2_with fail
      exact ⟨rfl, HF1.out⟩
     | ok x4 j5 u5 =>
      rw [Sx.then_ok] at hq4
      have HQ5 := hid hq4
      have HSS4 := hid hS4
      clear hq4 hS4
      go_wp2_with fail
      with_reducible refine HC4.out.mono ?_
      rintro e w5 ⟨rfl, hs, hk⟩
      have HS5 := hid hs
      have HK5 : Hid (Keeps (Two B mb) w w5) := hid (HK4.out.trans hk (fresh_two B mb _))
      have HE5 : Hid (EnvAt w5) := hid (HE4.out.keeps hk hB)
      have HM5 : Hid (SetAt w5 mb (ns ++ [x0])) := hid (HM4.out.keeps hk (fun h => hne h))
      have HR5 : Hid (w5.heap[rb]? = some (.cells #[.string ⟨#[]⟩, .string ⟨#[]⟩] 47 (0, 0))) := hid (block_keep HR4.out hk (fun h => by have h' : rb = B := h; omega))
      clear hs hk
      obtain ⟨S5, hS5⟩ : ∃ S, valueS j5 u5 = S := ⟨_, rfl⟩
      have HC5 := hid (value9_calls HS5.out HE5.out hB)
      have hq5 := HQ5.out
      rw [hS5] at HC5 hq5
      cases S5 with
      | no cd p =>
       have HF : Hid (∀ wx, Keeps (One B) w5 wx → AttrOut w B mb ns a c l Q (.panicked [{ v := wrongV cd p, recovered := false }]) wx) := hid (fun wx hk => by
        rw [hq5]
        exact ⟨rfl, HK5.out.trans hk (fresh_two B mb _)⟩)
       clear hq5 hS5
       go_wp2_with fail
       with_reducible refine HC5.out.mono ?_
       rintro e wx ⟨rfl, hk⟩
       have HF1 := hid (HF.out wx hk)
       clear hk
       go_wp2_with fail
       exact ⟨rfl, HF1.out⟩
      | ok x5 j6 u6 =>
       rw [Sx.then_ok] at hq5
       have HQ6 := hid hq5
       have HSS5 := hid hS5
       clear hq5 hS5
       go_wp2_with fail
       with_reducible refine HC5.out.mono ?_
       rintro e w6 ⟨rfl, hs, hk⟩
       have HS6 := hid hs
       have HK6 : Hid (Keeps (Two B mb) w w6) := hid (HK5.out.trans hk (fresh_two B mb _))
       have HE6 : Hid (EnvAt w6) := hid (HE5.out.keeps hk hB)
       have HM6 : Hid (SetAt w6 mb (ns ++ [x0])) := hid (HM5.out.keeps hk (fun h => hne h))
       have HR6 : Hid (w6.heap[rb]? = some (.cells #[.string ⟨#[]⟩, .string ⟨#[]⟩] 47 (0, 0))) := hid (block_keep HR5.out hk (fun h => by have h' : rb = B := h; omega))
       clear hs hk
       obtain ⟨v0, v1⟩ : w6.cell? ⟨rb, 0, none⟩ = some (.string ⟨#[]⟩) ∧ w6.cell? ⟨rb, 1, none⟩ = some (.string ⟨#[]⟩) := ⟨(cell_of_block HR6.out 0).trans rfl, (cell_of_block HR6.out 1).trans rfl⟩
       have f0 := unfrozen_of_block HR6.out 0
       have f1 := unfrozen_of_block HR6.out 1
       go_wp2_with fail
       have hk7 : Keeps (Two B mb) w ((w6.setCell ⟨rb, 0, none⟩ (.string (strB x0))).setCell ⟨rb, 1, none⟩ (.string (strB x5))) := (HK6.out.setCell (p := ⟨rb, 0, none⟩) (.inr (by rw [← HRB.out]; exact Nat.le_refl _)) _).setCell (p := ⟨rb, 1, none⟩) (.inr (by rw [← HRB.out]; exact Nat.le_refl _)) _
       have hr7 := block_setCell (i := 1) (block_setCell (i := 0) HR6.out (.string (strB x0))) (.string (strB x5))
       have c0 := (cell_of_block hr7 0).trans rfl
       have c1 := (cell_of_block hr7 1).trans rfl
       have hk67 : Keeps (One rb) w6 ((w6.setCell ⟨rb, 0, none⟩ (.string (strB x0))).setCell ⟨rb, 1, none⟩ (.string (strB x5))) := ((Keeps.refl (One rb) w6).setCell (p := ⟨rb, 0, none⟩) (.inl rfl) _).setCell (p := ⟨rb, 1, none⟩) (.inl rfl) _
       have HF : Hid (AttrOut w B mb ns a c l Q (.returned (.agg #[.string (strB x0), .string (strB x5)])) ((w6.setCell ⟨rb, 0, none⟩ (.string (strB x0))).setCell ⟨rb, 1, none⟩ (.string (strB x5)))) := hid (by
        rw [HQ6.out]
        refine ⟨rfl, ?_, HM6.out.keeps hk67 (fun h => by have h' : mb = rb := h; omega), hk7⟩
        have hblk := block_keep HS6.out.blk hk67 (fun h => by have h' : B = rb := h; omega)
        refine ⟨hblk, ?_, HS6.out.nul, HS6.out.cap, HS6.out.most, HS6.out.few, HS6.out.fits, HS6.out.left⟩
        rcases HS0.out.row with h0 | ⟨b, o, h1, h2, h3⟩
        ·exact .inl h0
        ·rcases HS6.out.row with h0 | ⟨b', o', h1', h2', h3'⟩
         ·exact .inl h0
         ·refine .inr ⟨b', o', h1', h2', fun k hk' => ?_⟩
          rw [h1] at h1'
          cases h1'
          refine (World.cell?_of_block (hk67.block b (lt_of_cell (h3' k hk')) (fun e => ?_))).trans (h3' k hk')
          have e' : b = rb := e
          exact HDOC.out b o h1 (by omega) e')
       clear hk7 hr7 hk67
       refine bodyPost_ret (v := .agg #[.string (strB x0), .string (strB x5)]) (by simp [results, Tryz.results139, go_sem, c0, c1]) rfl HF.out
theorem ownsRow_keep {w w' : World} {O : Nat → Prop} {base e size n : Nat} {v : Value} {xs : List Value} (h : w.ownsRow base e size v n xs) (hk : Keeps O w w') (hb : ∀ k, v.ownBlock = some k → ¬ O k) : w'.ownsRow base e size v n xs := by
 refine ⟨h.1, ?_⟩
 rcases h.2 with hn | ⟨g, cap, cur, rfl, h1, h2, h3⟩
 ·exact .inl hn
 ·exact .inr ⟨g, cap, cur, rfl, h1, (hk.block g (lt_of_block h2) (hb g rfl)).trans h2, h3⟩
theorem step_append {P : Program} {ops : Array Oper} {o : Oper} {a : Act} {w w' : World} {K : Act → World → Prop} {Q : Exit → Act → World → Prop} {E : Prop}
  (hg : o.guard = none) (s x : Operand) (t t' : TypeId) (hop : o.op = Op.call { callee := Callee.builtin Builtin.append, args := #[s, x], argTypes := #[t, t'] })
  (vs vx v : Value) (hs : a.eval s = vs) (hx : a.eval x = vx) (hrun : ∀ ty, (Builtin.append_ #[t, t'] ty #[vs, vx]).run P w = .ok v w') (hK : K (a.put o.dst v) w') :
  if Region.wanted o (yielded ops a.tmps) = true then Oper.wp P o a w K Q else E := by
 have hw : Region.wanted o (yielded ops a.tmps) = true := by simp [Region.wanted, hg]
 rw [if_pos hw]
 unfold Oper.wp
 simp [execOp, hop, resolve, invoke, builtin, hs, hx, hrun o.type, Result.andThen]
 exact hK
theorem step_app {P : Program} {ops : Array Oper} {o : Oper} {a : Act} {w w' : World} {K : Act → World → Prop} {Q : Exit → Act → World → Prop} {E : Prop} {t t' : TypeId} {vs vx v : Value}
  (hrun : ∀ ty, (Builtin.append_ #[t, t'] ty #[vs, vx]).run P w = .ok v w') (s x : Operand) (hg : o.guard = none) (hop : o.op = Op.call { callee := Callee.builtin Builtin.append, args := #[s, x], argTypes := #[t, t'] })
  (hs : a.eval s = vs) (hx : a.eval x = vx) (hK : K (a.put o.dst v) w') :
  if Region.wanted o (yielded ops a.tmps) = true then Oper.wp P o a w K Q else E := step_append hg s x t t' hop vs vx v hs hx hrun hK
theorem append_any {w : World} {t e size bytes : Nat} {z : Value} (ht : Tryz.prog.underlying t = some (.slice e)) (hinfo : (Tryz.prog.info? e).map (fun i => (i.zero, i.size, i.bytes)) = some (some z, size, bytes)) (hzs : z.cells.size = size) (hsz : 0 < size)
  {v : Value} {n : Nat} {xs : List Value} (hown : w.ownsRow 0 e size v n xs) {b : Addr} {m c : Nat} {news : List Value} (hl : news.length = m * size) (hnews : ∀ j u, news[j]? = some u → w.cell? (b.add j) = some u) (h1 : ∀ u ∈ news, u.oneCell' = true)
  (hmx : n + m ≤ maxLen) (hbytes : (n + m) * bytes ≤ 140737488355328) :
  ∃ v' w', (∀ ty, (Builtin.append_ #[t, t] ty #[v, .slice (some b) m c]).run Tryz.prog w = .ok v' w') ∧ w'.ownsRow 0 e size v' (n + m) (xs ++ news) ∧ w.grownBy w' v.ownBlock ∧ ∀ k, v'.ownBlock = some k → v.ownBlock = some k ∨ w.heap.size ≤ k := by
 obtain ⟨i5, hi5, hj50, hj51, hj52⟩ := info_parts hinfo
 obtain ⟨v', w', hrun, h2, h3, h4⟩ := run_append_own (P := Tryz.prog) w 0 t t e i5 z size bytes ht hi5 hj50 hj51 hj52 hzs hsz v n xs hown b m c news hl hnews h1 hmx hbytes (Nat.zero_le _)
 refine ⟨v', w', fun ty => ?_, h2, h3, ?_⟩
 ·rw [← hrun]
  rfl
 ·subst hj51
  have h63 : n + m ≤ 9223372036854775807 := by simp only [maxLen] at hmx; omega
  rcases hown.2 with ⟨rfl, rfl⟩ | ⟨g, cap, cur, rfl, hbg, hg, hnc, hcm, hcs, htake⟩
  ·by_cases hm : m = 0
   ·intro k hk
    have := h4.2 ⟨rfl, hm⟩
    rw [this] at hk
    cases hk
   ·have hr2 := run_append_nil (P := Tryz.prog) w t t e i5 z ht hi5 hj50 b m c news hl hnews (by omega) (by omega) (by rw [hj52]; rw [Nat.zero_add] at hbytes; omega)
    rw [hr2] at hrun
    have e := (Result.ok.inj hrun).1
    intro k hk
    rw [← e] at hk
    have : w.heap.size = k := Option.some.inj hk
    exact .inr (by omega)
  ·by_cases hroom : n + m ≤ cap
   ·have hfit : n * i5.size + news.length ≤ cur.size := by rw [hl, hcs, ← Nat.add_mul]; exact Nat.mul_le_mul_right _ hroom
    have hr2 := run_append_room (P := Tryz.prog) w t t e i5 ht hi5 g n cap cur hg b m c news hl hnews h1 hroom hfit
    rw [hr2] at hrun
    have e := (Result.ok.inj hrun).1
    intro k hk
    rw [← e] at hk
    exact .inl hk
   ·have holds : ∀ j u, xs[j]? = some u → w.cell? ((⟨g, 0, none⟩ : Addr).add j) = some u := hown.cells (g := g) rfl
    have hr2 := run_append_grow (P := Tryz.prog) w t t e i5 z ht hi5 hj50 ⟨g, 0, none⟩ n cap xs hown.1 holds b m c news hl hnews (by omega) (by omega) (growslice_fits (by omega) (by rw [hj52]; exact hbytes))
    rw [hr2] at hrun
    have e := (Result.ok.inj hrun).1
    intro k hk
    rw [← e] at hk
    have : w.heap.size = k := Option.some.inj hk
    exact .inr (by omega)
theorem append_any_none {w : World} {t e size : Nat} {z : Value} {bytes : Nat} (ht : Tryz.prog.underlying t = some (.slice e)) (hinfo : (Tryz.prog.info? e).map (fun i => (i.zero, i.size, i.bytes)) = some (some z, size, bytes))
  {v : Value} {n : Nat} {xs : List Value} (hown : w.ownsRow 0 e size v n xs) : ∀ ty, (Builtin.append_ #[t, t] ty #[v, .slice none 0 0]).run Tryz.prog w = .ok v w := by
 obtain ⟨i5, hi5, hj50, hj51, hj52⟩ := info_parts hinfo
 intro ty
 exact run_append_owned_none (P := Tryz.prog) (w := w) 0 t ty e i5 size ht hi5 v n xs hown
def attsC : List (List UInt8 × List UInt8) → List Value
 | [] => []
 | x :: t => .string (strB x.1) :: .string (strB x.2) :: attsC t
theorem attsC_app : ∀ (l m : List (List UInt8 × List UInt8)), attsC (l ++ m) = attsC l ++ attsC m
 | [], _ => rfl
 | x :: t, m => by rw [List.cons_append]; show _ :: _ :: attsC (t ++ m) = _; rw [attsC_app t m]; rfl
theorem attsC_at : ∀ {l : List (List UInt8 × List UInt8)} {i : Nat} {x : List UInt8 × List UInt8}, l[i]? = some x → (attsC l)[i * 2]? = some (.string (strB x.1)) ∧ (attsC l)[i * 2 + 1]? = some (.string (strB x.2))
 | [], _, _, h => by simp at h
 | y :: t, 0, x, h => by
  obtain rfl : y = x := by simpa using h
  exact ⟨rfl, rfl⟩
 | y :: t, i + 1, x, h => by
  rw [List.getElem?_cons_succ] at h
  obtain ⟨h1, h2⟩ := attsC_at h
  rw [show (i + 1) * 2 = i * 2 + 1 + 1 by omega]
  exact ⟨h1, h2⟩
theorem attsC_one : ∀ {l : List (List UInt8 × List UInt8)} {u : Value}, u ∈ attsC l → u.oneCell' = true
 | [], _, h => by cases h
 | x :: t, u, h => by
  have h2 : u = .string (strB x.1) ∨ u = .string (strB x.2) ∨ u ∈ attsC t := by
   have : u ∈ (.string (strB x.1) :: .string (strB x.2) :: attsC t : List Value) := h
   simpa using this
  rcases h2 with rfl | rfl | h2
  ·rfl
  ·rfl
  ·exact attsC_one h2
theorem infoA : (Tryz.prog.info? 47).map (fun i => (i.zero, i.size, i.bytes)) = some (some (.agg #[.string ⟨#[]⟩, .string ⟨#[]⟩]), 2, 32) := by kernel_rfl
structure OwnA (n0 : Nat) (w : World) (v : Value) (l : List (List UInt8 × List UInt8)) : Prop where
 row : w.ownsRow 0 47 2 v l.length (attsC l)
 new : ∀ k, v.ownBlock = some k → n0 ≤ k
theorem OwnA.nil (n0 : Nat) (w : World) : OwnA n0 w (.slice none 0 0) [] := ⟨World.ownsRow_nil _ _ _ _, (fun k e => by cases e)⟩
theorem OwnA.keep {n0 : Nat} {w w' : World} {O : Nat → Prop} {v : Value} {l : List (List UInt8 × List UInt8)} (h : OwnA n0 w v l) (hk : Keeps O w w') (hO : ∀ k, n0 ≤ k → ¬ O k) : OwnA n0 w' v l :=
 ⟨ownsRow_keep h.row hk (fun k e => hO k (h.new k e)), h.new⟩
theorem OwnA.lt {n0 : Nat} {w : World} {v : Value} {l : List (List UInt8 × List UInt8)} (h : OwnA n0 w v l) : ∀ k, v.ownBlock = some k → k < w.heap.size := fun k e => (h.row.lt k e).2
theorem OwnA.older {n0 n1 : Nat} {w : World} {v : Value} {l : List (List UInt8 × List UInt8)} (h : OwnA n1 w v l) (hn : n0 ≤ n1) : OwnA n0 w v l := ⟨h.row, fun k e => Nat.le_trans hn (h.new k e)⟩
theorem OwnA.form {n0 : Nat} {w : World} {v : Value} {l : List (List UInt8 × List UInt8)} (h : OwnA n0 w v l) : ∃ a c, v = .slice a l.length c ∧ l.length ≤ c ∧ c ≤ maxLen ∧ (l = [] ∨ ∃ b, a = some ⟨b, 0, none⟩ ∧ v.ownBlock = some b ∧ ∀ (i : Nat) (x : List UInt8 × List UInt8), l[i]? = some x → w.cell? ⟨b, i * 2, none⟩ = some (.string (strB x.1)) ∧ w.cell? ⟨b, i * 2 + 1, none⟩ = some (.string (strB x.2))) := by
 rcases h.row.2 with ⟨h1, h0⟩ | ⟨g, cap, cur, h1, hg, hgb, hcap, hcm, hcur, htk⟩
 ·exact ⟨none, 0, by rw [h1, h0], by omega, Nat.zero_le _, .inl (List.length_eq_zero_iff.1 h0)⟩
 ·refine ⟨_, cap, h1, hcap, hcm, .inr ⟨g, rfl, by rw [h1]; rfl, fun i x hx => ?_⟩⟩
  have hc := h.row.cells (g := g) (by rw [h1]; rfl)
  obtain ⟨x1, x2⟩ := attsC_at hx
  have y1 := hc _ _ x1
  have y2 := hc _ _ x2
  rw [Addr.add_mid, Nat.zero_add] at y1 y2
  exact ⟨y1, y2⟩
theorem newA_cells (w : World) (l : List Value) (t : TypeId) : ∀ (j : Nat) (x : Value), l[j]? = some x → (w.alloc (.cells l.toArray t)).cell? ((⟨w.heap.size, 0, none⟩ : Addr).add j) = some x := by
 intro j x hj
 rw [Addr.add_mid, Nat.zero_add, World.cell?_alloc_mark w l.toArray t (0, 0) j, List.getElem?_toArray, hj]
theorem OwnA.append {n0 : Nat} {w : World} {v : Value} {l : List (List UInt8 × List UInt8)} (h : OwnA n0 w v l) (x : List UInt8 × List UInt8) (hn : n0 ≤ w.heap.size) (hs : l.length ≤ 1000000) :
  ∃ v' w', (∀ ty, (Builtin.append_ #[23, 23] ty #[v, .slice (some ⟨w.heap.size, 0, none⟩) 1 1]).run Tryz.prog (w.alloc (.cells #[.string (strB x.1), .string (strB x.2)] 47)) = .ok v' w') ∧ OwnA n0 w' v' (l ++ [x]) ∧ Keeps (fun k => v.ownBlock = some k) w w' := by
 obtain ⟨v', w', h1, h2, h3, h4⟩ := append_any (w := w.alloc (.cells #[.string (strB x.1), .string (strB x.2)] 47)) Tryz.underlying23 infoA rfl (by decide) (h.row.alloc _) (b := ⟨w.heap.size, 0, none⟩) (m := 1) (c := 1) (news := attsC [x]) rfl (newA_cells w (attsC [x]) _)
  (fun u hu => attsC_one hu) (by unfold maxLen; omega) (by omega)
 have hk : Keeps (fun k => v.ownBlock = some k) w w' := ((Keeps.refl _ w).alloc _).grown h3 (fun k e => .inl e)
 refine ⟨v', w', h1, ⟨by rw [List.length_append, attsC_app]; exact h2, fun k e => ?_⟩, hk⟩
 rcases h4 k e with h5 | h5
 ·exact h.new k h5
 ·simp at h5; omega
end Go.Proofs.YtjpkkflhcjjefaaGreatDoor
