/-
 A token, told by a document's scan.
-/
import Derived.Test.YtjpkkflhcjjefaaGreatDoorXI2
namespace Go.Proofs.YtjpkkflhcjjefaaGreatDoor
open Go.RowKit Go.Lib Go.Joins
set_option maxHeartbeats 32000000
def tokV (t : Tk) (v : Value) : Value := .agg #[.int .i64 (t.kind : Int), .int .i64 (t.at_ : Int), .string (strB t.name), .string (strB t.text), v]
def TokOut (w : World) (B : Nat) (a : Option Addr) (c : Nat) (l : List UInt8) : Sx Tk → Ending → World → Prop
 | .ok x i t, e, w' => ∃ v, e = .returned (tokV x v) ∧ OwnA w.heap.size w' v x.attrs ∧ ScAt w' B a c l i t ∧ Keeps (One B) w w'
 | .no cd p, e, w' => e = .panicked [{ v := wrongV cd p, recovered := false }] ∧ Keeps (One B) w w'
set_option maxRecDepth 100000 in
theorem token_calls {w : World} {B : Nat} {a : Option Addr} {c : Nat} {l : List UInt8} {i : Nat} {x : UInt8} {t : List UInt8} (h : ScAt w B a c l i (x :: t)) (hE : EnvAt w) (hB : 15 ≤ B) : Calls Tryz.prog 73 #[.pointer (some ⟨B, 0, none⟩)] w (TokOut w B a c l (tokS i (x :: t))) := by
 obtain ⟨Q, hQ⟩ : ∃ Q, tokS i (x :: t) = Q := ⟨_, rfl⟩
 rw [hQ]
 have HQ := hid hQ
 obtain ⟨n, hn⟩ : ∃ n, l.length = n := ⟨_, rfl⟩
 obtain ⟨hlt, hx, _⟩ := h.head
 obtain ⟨y0, y1⟩ := h.cells
 rw [hn] at hlt y0
 obtain ⟨bb, oo, rfl⟩ : ∃ b o, a = some ⟨b, o, none⟩ := by
  rcases h.row with h1 | ⟨b, o, h1, _⟩
  ·omega
  ·exact ⟨b, o, h1⟩
 have HNL := hid hn
 obtain ⟨rb, hrb⟩ : ∃ rb, w.heap.size = rb := ⟨_, rfl⟩
 have HRB := hid hrb
 have hBr : B < rb := by rw [← hrb]; exact lt_of_block h.blk
 have HW := hid h
 -- the two variables
 obtain ⟨wr, hwr⟩ : ∃ W, w.alloc (.cells #[.int .i64 0, .int .i64 0, .string ⟨#[]⟩, .string ⟨#[]⟩, .slice none 0 0] 87) = W := ⟨_, rfl⟩
 have hb1 : Below w.heap.size w wr := by rw [← hwr]; exact (Below.refl _ _).alloc (Nat.le_refl _) _
 have hrz : wr.heap[rb]? = some (.cells #[.int .i64 0, .int .i64 0, .string ⟨#[]⟩, .string ⟨#[]⟩, .slice none 0 0] 87 (0, 0)) := by rw [← hwr, ← hrb]; exact heap_alloc_new w _
 have hsz : wr.heap.size = rb + 1 := by rw [← hwr, ← hrb]; simp
 obtain ⟨tb, htb⟩ : ∃ tb, rb + 1 = tb := ⟨_, rfl⟩
 obtain ⟨w0, hw0⟩ : ∃ W, wr.alloc (.cells #[.int .i64 0, .int .i64 (i : Int), .string ⟨#[]⟩, .string ⟨#[]⟩, .slice none 0 0] 87) = W := ⟨_, rfl⟩
 have hb2 : Below wr.heap.size wr w0 := by rw [← hw0]; exact (Below.refl _ _).alloc (Nat.le_refl _) _
 have htz : w0.heap[tb]? = some (.cells #[.int .i64 0, .int .i64 (i : Int), .string ⟨#[]⟩, .string ⟨#[]⟩, .slice none 0 0] 87 (0, 0)) := by rw [← hw0, ← htb, ← hsz]; exact heap_alloc_new wr _
 have hb : Below w.heap.size w w0 := below_then hb1 hb2
 have hs0 := h.keep hb
 obtain ⟨_, v1⟩ := (h.keep hb1).cells
 have HSZ2 : Hid (wr.heap.size = tb) := hid (hsz.trans htb)
 have HS0 := hid hs0
 have HE0 : Hid (EnvAt w0) := hid (hE.below hb)
 have HK0 : Hid (Keeps (One B) w w0) := hid (keeps_below hb _)
 have HT0 := hid htz
 have HR0 : Hid (w0.heap[rb]? = some (.cells #[.int .i64 0, .int .i64 0, .string ⟨#[]⟩, .string ⟨#[]⟩, .slice none 0 0] 87 (0, 0))) := hid ((hb2.block rb (by omega)).trans hrz)
 have hsz0 : w0.heap.size = tb + 1 := by rw [← hw0, ← htb, ← hsz]; simp
 have hcell : w0.cell? ⟨bb, oo + i, none⟩ = some (.int .u8 (x.toNat : Int)) := by
  rcases hs0.row with h1 | ⟨b, o, h1, _, h3⟩
  ·omega
  ·cases h1
   rw [h3 i (by rw [hn]; exact hlt), hx]
 obtain ⟨z0, z1⟩ := hs0.cells
 rw [hn] at z0
 have HWR := hid hwr
 have HW0 := hid hw0
 have HTB := hid htb
 have HSZ := hid hsz
 clear h hE hQ hn hrb hb1 hrz hsz htb hb2 htz hb hs0 hwr hw0
 go_enter Tryz.func73, Tryz.ntmps73
 go_upto_region 1 with (fail)
 rw [HRB.out, HWR.out]
 go_upto_block 0 with (fail)
 rw [HSZ2.out, HW0.out]
 clear v1
 by_cases hx60 : x = 60
 ·have hz : ((x.toNat : Int) != 60) = false := by rw [hx60]; rfl
  have HQ0 : Hid (Q = ((opensS [60, 33, 45, 45] i (x :: t)).then fun b j t3 => if b = true then ((commentS j t3).then fun u k t2 => .ok ⟨6, i, [], u, []⟩ k t2) else ((opensS [60, 33, 91, 67, 68, 65, 84, 65, 91] i (x :: t)).then fun b j t3 => if b = true then ((upToS [93, 93, 62] j t3).then fun u k t2 => .ok ⟨5, i, [], u, []⟩ k t2) else ((opensS [60, 33] i (x :: t)).then fun b j t3 => if b = true then .no 2 i else ((opensS [60, 63] i (x :: t)).then fun b j t3 => if b = true then ((piS j t3).then fun q k t2 => .ok ⟨7, i, q.1, q.2, []⟩ k t2) else ((opensS [60, 47] i (x :: t)).then fun b j t3 => if b = true then ((endTagS j t3).then fun nm k t2 => .ok ⟨3, i, nm, [], []⟩ k t2) else ((opensS [60] i (x :: t)).then fun b j t3 => if b = true then ((startS j t3).then fun q k t2 => .ok ⟨q.1, i, q.2.1, [], q.2.2⟩ k t2) else (.ok ⟨0, i, [], [], []⟩ i (x :: t) : Sx Tk)))))))) := hid (by
   rw [← HQ.out]
   unfold tokS
   rw [if_neg (fun h => by rw [hx60] at h; cases h)]
   rfl)
  go_wp2_with fail
  go_quiet (fail)
  obtain ⟨w20, hw20⟩ : ∃ W, w0.drewN nq = W := ⟨_, rfl⟩
  rw [hw20]
  have hbq : Below w0.heap.size w0 w20 := by rw [← hw20]; exact ⟨rfl, rfl, rfl, Nat.le_refl _, fun _ _ => rfl⟩
  have HS20 := hid (HS0.out.keep hbq)
  have HE20 := hid (HE0.out.below hbq)
  have HK20 : Hid (Keeps (One B) w w20) := hid (HK0.out.trans (keeps_below hbq Non) (fresh_non _ _))
  have HT20 := hid (block_below hbq HT0.out)
  have HR20 := hid (block_below hbq HR0.out)
  have HQ20 := HQ0
  clear hbq hw20
  obtain ⟨S20, hS20⟩ : ∃ S, opensS [60, 33, 45, 45] i (x :: t) = S := ⟨_, rfl⟩
  have HC20 := hid (opens_at HS20.out [60, 33, 45, 45] ⟨#[60, 33, 45, 45]⟩ rfl (by decide))
  have hq20 := HQ20.out
  rw [hS20] at HC20 hq20
  cases S20 with
  | no cd p =>
   have HF : Hid (∀ wx, Keeps (One B) w20 wx → TokOut w B (some ⟨bb, oo, none⟩) c l Q (.panicked [{ v := wrongV cd p, recovered := false }]) wx) := hid (fun wx hk => by
    rw [hq20]
    exact ⟨rfl, HK20.out.trans hk (fresh_refl _ _)⟩)
   clear hq20 hS20
   go_wp2_with fail
   with_reducible refine HC20.out.mono ?_
   rintro e wx ⟨rfl, hk⟩
   have HF1 := hid (HF.out wx hk)
   clear hk
   go_wp2_with fail
   exact ⟨rfl, HF1.out⟩
  | ok x20 j21 u21 =>
   rw [Sx.then_ok] at hq20
   have HQ21 := hid hq20
   have HSS20 := hid hS20
   clear hq20 hS20
   go_wp2_with fail
   with_reducible refine HC20.out.mono ?_
   rintro e w21 ⟨rfl, hs, hk⟩
   have HS21 := hid hs
   have HK21 : Hid (Keeps (One B) w w21) := hid (HK20.out.trans hk (fresh_refl _ _))
   have HE21 : Hid (EnvAt w21) := hid (HE20.out.keeps hk hB)
   have HT21 : Hid (w21.heap[tb]? = some (.cells #[.int .i64 0, .int .i64 (i : Int), .string ⟨#[]⟩, .string ⟨#[]⟩, .slice none 0 0] 87 (0, 0))) := hid (block_keep HT20.out hk (fun h' => by have h2 : tb = B := h'; have := HTB.out; omega))
   have HR21 : Hid (w21.heap[rb]? = some (.cells #[.int .i64 0, .int .i64 0, .string ⟨#[]⟩, .string ⟨#[]⟩, .slice none 0 0] 87 (0, 0))) := hid (block_keep HR20.out hk (fun h' => by have h2 : rb = B := h'; omega))
   clear hs hk
   cases x20 with
   | true =>
    have HQ21 : Hid (Q = (commentS j21 u21).then fun u k t2 => .ok ⟨6, i, [], u, []⟩ k t2) := hid (by rw [HQ21.out, if_pos rfl])
    obtain ⟨S21, hS21⟩ : ∃ S, commentS j21 u21 = S := ⟨_, rfl⟩
    have HC21 := hid (comment_calls HS21.out HE21.out hB)
    have hq21 := HQ21.out
    rw [hS21] at HC21 hq21
    cases S21 with
    | no cd p =>
     have HF : Hid (∀ wx, Keeps (One B) w21 wx → TokOut w B (some ⟨bb, oo, none⟩) c l Q (.panicked [{ v := wrongV cd p, recovered := false }]) wx) := hid (fun wx hk => by
      rw [hq21]
      exact ⟨rfl, HK21.out.trans hk (fresh_refl _ _)⟩)
     clear hq21 hS21
     go_wp2_with fail
     with_reducible refine HC21.out.mono ?_
     rintro e wx ⟨rfl, hk⟩
     have HF1 := hid (HF.out wx hk)
     clear hk
     go_wp2_with fail
     exact ⟨rfl, HF1.out⟩
    | ok x21 j22 u22 =>
     rw [Sx.then_ok] at hq21
     have HQ22 := hid hq21
     have HSS21 := hid hS21
     clear hq21 hS21
     go_wp2_with fail
     with_reducible refine HC21.out.mono ?_
     rintro e w22 ⟨rfl, hs, hk⟩
     have HS22 := hid hs
     have HK22 : Hid (Keeps (One B) w w22) := hid (HK21.out.trans hk (fresh_refl _ _))
     have HE22 : Hid (EnvAt w22) := hid (HE21.out.keeps hk hB)
     have HT22 : Hid (w22.heap[tb]? = some (.cells #[.int .i64 0, .int .i64 (i : Int), .string ⟨#[]⟩, .string ⟨#[]⟩, .slice none 0 0] 87 (0, 0))) := hid (block_keep HT21.out hk (fun h' => by have h2 : tb = B := h'; have := HTB.out; omega))
     have HR22 : Hid (w22.heap[rb]? = some (.cells #[.int .i64 0, .int .i64 0, .string ⟨#[]⟩, .string ⟨#[]⟩, .slice none 0 0] 87 (0, 0))) := hid (block_keep HR21.out hk (fun h' => by have h2 : rb = B := h'; omega))
     clear hs hk
     have f0 := unfrozen_of_block HT22.out 0
     have f3 := unfrozen_of_block HT22.out 3
     have c0 := (cell_of_block HT22.out 0).trans rfl
     have c1 := (cell_of_block HT22.out 1).trans rfl
     have c2 := (cell_of_block HT22.out 2).trans rfl
     have c3 := (cell_of_block HT22.out 3).trans rfl
     have c4 := (cell_of_block HT22.out 4).trans rfl
     have hty : ((w22.setCell ⟨tb, 0, none⟩ (.int .i64 6)).setCell ⟨tb, 3, none⟩ (.string (strB x21))).heap[tb]? = some (.cells #[.int .i64 6, .int .i64 (i : Int), .string ⟨#[]⟩, .string (strB x21), .slice none 0 0] 87 (0, 0)) := (block_setCell (i := 3) (block_setCell (i := 0) HT22.out (.int .i64 6)) (.string (strB x21)))
     have hkt : Keeps (One tb) w22 ((w22.setCell ⟨tb, 0, none⟩ (.int .i64 6)).setCell ⟨tb, 3, none⟩ (.string (strB x21))) := (((Keeps.refl (One tb) w22).setCell (p := ⟨tb, 0, none⟩) (.inl rfl) (.int .i64 6)).setCell (p := ⟨tb, 3, none⟩) (.inl rfl) (.string (strB x21)))
     have hk1 : Keeps (One B) w ((w22.setCell ⟨tb, 0, none⟩ (.int .i64 6)).setCell ⟨tb, 3, none⟩ (.string (strB x21))) := HK22.out.trans hkt (fun k hk => .inr (by have h' : k = tb := hk; have := HRB.out; have := HTB.out; omega))
     have hs1 := HW.out.under2 HS22.out hk1 hkt (fun h' => by have h2 : B = tb := h'; have := HTB.out; omega)
     have hr1 := block_keep HR22.out hkt (fun h' => by have h2 : rb = tb := h'; have := HTB.out; omega)
     have ho1 : OwnA (tb + 1) ((w22.setCell ⟨tb, 0, none⟩ (.int .i64 6)).setCell ⟨tb, 3, none⟩ (.string (strB x21))) (.slice none 0 0) (⟨6, i, [], x21, []⟩ : Tk).attrs := OwnA.nil _ _
     obtain ⟨wy, hwy⟩ : ∃ W', ((w22.setCell ⟨tb, 0, none⟩ (.int .i64 6)).setCell ⟨tb, 3, none⟩ (.string (strB x21))) = W' := ⟨_, rfl⟩
     rw [hwy] at hty hk1 hs1 hr1 ho1
     have HY := hid hwy
     have HSY := hid hs1
     have HKY := hid hk1
     have HOY := hid ho1
     have hry := hr1
     clear hkt hk1 hs1 hr1 ho1 hwy
     go_upto_region 17 with (fail)
     rw [HY.out]
     clear f0 f3 c0 c1 c2 c3 c4
     obtain ⟨d0, d1, d2, d3, d4⟩ : wy.cell? ⟨tb, 0, none⟩ = some (.int .i64 6) ∧ wy.cell? ⟨tb, 1, none⟩ = some (.int .i64 (i : Int)) ∧ wy.cell? ⟨tb, 2, none⟩ = some (.string ⟨#[]⟩) ∧ wy.cell? ⟨tb, 3, none⟩ = some (.string (strB x21)) ∧ wy.cell? ⟨tb, 4, none⟩ = some (.slice none 0 0) := ⟨(cell_of_block hty 0).trans rfl, (cell_of_block hty 1).trans rfl, (cell_of_block hty 2).trans rfl, (cell_of_block hty 3).trans rfl, (cell_of_block hty 4).trans rfl⟩
     have g0 := unfrozen_of_block hry 0
     have g1 := unfrozen_of_block hry 1
     have g2 := unfrozen_of_block hry 2
     have g3 := unfrozen_of_block hry 3
     have g4 := unfrozen_of_block hry 4
     have b0 := (cell_of_block hry 0).trans rfl
     have b1 := (cell_of_block hry 1).trans rfl
     have b2 := (cell_of_block hry 2).trans rfl
     have b3 := (cell_of_block hry 3).trans rfl
     have b4 := (cell_of_block hry 4).trans rfl
     go_wp2_with fail
     have hkr : Keeps (One rb) wy (((((wy.setCell ⟨rb, 0, none⟩ (.int .i64 6)).setCell ⟨rb, 1, none⟩ (.int .i64 (i : Int))).setCell ⟨rb, 2, none⟩ (.string ⟨#[]⟩)).setCell ⟨rb, 3, none⟩ (.string (strB x21))).setCell ⟨rb, 4, none⟩ (.slice none 0 0)) := ((((((Keeps.refl (One rb) wy).setCell (p := ⟨rb, 0, none⟩) (.inl rfl) (.int .i64 6)).setCell (p := ⟨rb, 1, none⟩) (.inl rfl) (.int .i64 (i : Int))).setCell (p := ⟨rb, 2, none⟩) (.inl rfl) (.string ⟨#[]⟩)).setCell (p := ⟨rb, 3, none⟩) (.inl rfl) (.string (strB x21))).setCell (p := ⟨rb, 4, none⟩) (.inl rfl) (.slice none 0 0))
     have hrr := (block_setCell (i := 4) (block_setCell (i := 3) (block_setCell (i := 2) (block_setCell (i := 1) (block_setCell (i := 0) hry (.int .i64 6)) (.int .i64 (i : Int))) (.string ⟨#[]⟩)) (.string (strB x21))) (.slice none 0 0))
     have e0 := (cell_of_block hrr 0).trans rfl
     have e1 := (cell_of_block hrr 1).trans rfl
     have e2 := (cell_of_block hrr 2).trans rfl
     have e3 := (cell_of_block hrr 3).trans rfl
     have e4 := (cell_of_block hrr 4).trans rfl
     have HF : Hid (TokOut w B (some ⟨bb, oo, none⟩) c l Q (.returned (tokV (⟨6, i, [], x21, []⟩ : Tk) (.slice none 0 0))) (((((wy.setCell ⟨rb, 0, none⟩ (.int .i64 6)).setCell ⟨rb, 1, none⟩ (.int .i64 (i : Int))).setCell ⟨rb, 2, none⟩ (.string ⟨#[]⟩)).setCell ⟨rb, 3, none⟩ (.string (strB x21))).setCell ⟨rb, 4, none⟩ (.slice none 0 0))) := hid (by
      rw [HQ22.out]
      have hk2 : Keeps (One B) w (((((wy.setCell ⟨rb, 0, none⟩ (.int .i64 6)).setCell ⟨rb, 1, none⟩ (.int .i64 (i : Int))).setCell ⟨rb, 2, none⟩ (.string ⟨#[]⟩)).setCell ⟨rb, 3, none⟩ (.string (strB x21))).setCell ⟨rb, 4, none⟩ (.slice none 0 0)) := HKY.out.trans hkr (fun k hk => .inr (by have h' : k = rb := hk; have := HRB.out; omega))
      exact ⟨_, rfl, (HOY.out.keep hkr (fun k hk h' => by have h2 : k = rb := h'; have := HTB.out; omega)).older (by have := HRB.out; have := HTB.out; omega), HW.out.under2 HSY.out hk2 hkr (fun h' => by have h2 : B = rb := h'; omega), hk2⟩)
     clear hkr hrr hty hry d0 d1 d2 d3 d4 g0 g1 g2 g3 g4 b0 b1 b2 b3 b4
     refine bodyPost_ret (v := tokV (⟨6, i, [], x21, []⟩ : Tk) (.slice none 0 0)) (by simp [results, Tryz.results73, tokV, go_sem, e0, e1, e2, e3, e4, show strB [] = ⟨#[]⟩ from rfl]) rfl HF.out
   | false =>
    have hqn21 : Q = ((opensS [60, 33, 91, 67, 68, 65, 84, 65, 91] i (x :: t)).then fun b j t3 => if b = true then ((upToS [93, 93, 62] j t3).then fun u k t2 => .ok ⟨5, i, [], u, []⟩ k t2) else ((opensS [60, 33] i (x :: t)).then fun b j t3 => if b = true then .no 2 i else ((opensS [60, 63] i (x :: t)).then fun b j t3 => if b = true then ((piS j t3).then fun q k t2 => .ok ⟨7, i, q.1, q.2, []⟩ k t2) else ((opensS [60, 47] i (x :: t)).then fun b j t3 => if b = true then ((endTagS j t3).then fun nm k t2 => .ok ⟨3, i, nm, [], []⟩ k t2) else ((opensS [60] i (x :: t)).then fun b j t3 => if b = true then ((startS j t3).then fun q k t2 => .ok ⟨q.1, i, q.2.1, [], q.2.2⟩ k t2) else (.ok ⟨0, i, [], [], []⟩ i (x :: t) : Sx Tk)))))) := by rw [HQ21.out, if_neg Bool.false_ne_true]
    clear HQ21
    have HQ21 := hid hqn21
    clear hqn21
    obtain ⟨hj21, ht21⟩ := opens_no HSS20.out
    have hj21' := hj21.symm
    have ht21' := ht21.symm
    subst hj21' ht21'
    clear hj21 ht21
    obtain ⟨S21, hS21⟩ : ∃ S, opensS [60, 33, 91, 67, 68, 65, 84, 65, 91] i (x :: t) = S := ⟨_, rfl⟩
    have HC21 := hid (opens_at HS21.out [60, 33, 91, 67, 68, 65, 84, 65, 91] ⟨#[60, 33, 91, 67, 68, 65, 84, 65, 91]⟩ rfl (by decide))
    have hq21 := HQ21.out
    rw [hS21] at HC21 hq21
    cases S21 with
    | no cd p =>
     have HF : Hid (∀ wx, Keeps (One B) w21 wx → TokOut w B (some ⟨bb, oo, none⟩) c l Q (.panicked [{ v := wrongV cd p, recovered := false }]) wx) := hid (fun wx hk => by
      rw [hq21]
      exact ⟨rfl, HK21.out.trans hk (fresh_refl _ _)⟩)
     clear hq21 hS21
     go_wp2_with fail
     with_reducible refine HC21.out.mono ?_
     rintro e wx ⟨rfl, hk⟩
     have HF1 := hid (HF.out wx hk)
     clear hk
     go_wp2_with fail
     exact ⟨rfl, HF1.out⟩
    | ok x21 j22 u22 =>
     rw [Sx.then_ok] at hq21
     have HQ22 := hid hq21
     have HSS21 := hid hS21
     clear hq21 hS21
     go_wp2_with fail
     with_reducible refine HC21.out.mono ?_
     rintro e w22 ⟨rfl, hs, hk⟩
     have HS22 := hid hs
     have HK22 : Hid (Keeps (One B) w w22) := hid (HK21.out.trans hk (fresh_refl _ _))
     have HE22 : Hid (EnvAt w22) := hid (HE21.out.keeps hk hB)
     have HT22 : Hid (w22.heap[tb]? = some (.cells #[.int .i64 0, .int .i64 (i : Int), .string ⟨#[]⟩, .string ⟨#[]⟩, .slice none 0 0] 87 (0, 0))) := hid (block_keep HT21.out hk (fun h' => by have h2 : tb = B := h'; have := HTB.out; omega))
     have HR22 : Hid (w22.heap[rb]? = some (.cells #[.int .i64 0, .int .i64 0, .string ⟨#[]⟩, .string ⟨#[]⟩, .slice none 0 0] 87 (0, 0))) := hid (block_keep HR21.out hk (fun h' => by have h2 : rb = B := h'; omega))
     clear hs hk
     cases x21 with
     | true =>
      have HQ22 : Hid (Q = (upToS [93, 93, 62] j22 u22).then fun u k t2 => .ok ⟨5, i, [], u, []⟩ k t2) := hid (by rw [HQ22.out, if_pos rfl])
      obtain ⟨S22, hS22⟩ : ∃ S, upToS [93, 93, 62] j22 u22 = S := ⟨_, rfl⟩
      have HC22 := hid (upTo_at HS22.out HE22.out hB [93, 93, 62] ⟨#[93, 93, 62]⟩ rfl (by decide) (by decide))
      have hq22 := HQ22.out
      rw [hS22] at HC22 hq22
      cases S22 with
      | no cd p =>
       have HF : Hid (∀ wx, Keeps (One B) w22 wx → TokOut w B (some ⟨bb, oo, none⟩) c l Q (.panicked [{ v := wrongV cd p, recovered := false }]) wx) := hid (fun wx hk => by
        rw [hq22]
        exact ⟨rfl, HK22.out.trans hk (fresh_refl _ _)⟩)
       clear hq22 hS22
       go_wp2_with fail
       with_reducible refine HC22.out.mono ?_
       rintro e wx ⟨rfl, hk⟩
       have HF1 := hid (HF.out wx hk)
       clear hk
       go_wp2_with fail
       exact ⟨rfl, HF1.out⟩
      | ok x22 j23 u23 =>
       rw [Sx.then_ok] at hq22
       have HQ23 := hid hq22
       have HSS22 := hid hS22
       clear hq22 hS22
       go_wp2_with fail
       with_reducible refine HC22.out.mono ?_
       rintro e w23 ⟨rfl, hs, hk⟩
       have HS23 := hid hs
       have HK23 : Hid (Keeps (One B) w w23) := hid (HK22.out.trans hk (fresh_refl _ _))
       have HE23 : Hid (EnvAt w23) := hid (HE22.out.keeps hk hB)
       have HT23 : Hid (w23.heap[tb]? = some (.cells #[.int .i64 0, .int .i64 (i : Int), .string ⟨#[]⟩, .string ⟨#[]⟩, .slice none 0 0] 87 (0, 0))) := hid (block_keep HT22.out hk (fun h' => by have h2 : tb = B := h'; have := HTB.out; omega))
       have HR23 : Hid (w23.heap[rb]? = some (.cells #[.int .i64 0, .int .i64 0, .string ⟨#[]⟩, .string ⟨#[]⟩, .slice none 0 0] 87 (0, 0))) := hid (block_keep HR22.out hk (fun h' => by have h2 : rb = B := h'; omega))
       clear hs hk
       have f0 := unfrozen_of_block HT23.out 0
       have f3 := unfrozen_of_block HT23.out 3
       have c0 := (cell_of_block HT23.out 0).trans rfl
       have c1 := (cell_of_block HT23.out 1).trans rfl
       have c2 := (cell_of_block HT23.out 2).trans rfl
       have c3 := (cell_of_block HT23.out 3).trans rfl
       have c4 := (cell_of_block HT23.out 4).trans rfl
       have hty : ((w23.setCell ⟨tb, 0, none⟩ (.int .i64 5)).setCell ⟨tb, 3, none⟩ (.string (strB x22))).heap[tb]? = some (.cells #[.int .i64 5, .int .i64 (i : Int), .string ⟨#[]⟩, .string (strB x22), .slice none 0 0] 87 (0, 0)) := (block_setCell (i := 3) (block_setCell (i := 0) HT23.out (.int .i64 5)) (.string (strB x22)))
       have hkt : Keeps (One tb) w23 ((w23.setCell ⟨tb, 0, none⟩ (.int .i64 5)).setCell ⟨tb, 3, none⟩ (.string (strB x22))) := (((Keeps.refl (One tb) w23).setCell (p := ⟨tb, 0, none⟩) (.inl rfl) (.int .i64 5)).setCell (p := ⟨tb, 3, none⟩) (.inl rfl) (.string (strB x22)))
       have hk1 : Keeps (One B) w ((w23.setCell ⟨tb, 0, none⟩ (.int .i64 5)).setCell ⟨tb, 3, none⟩ (.string (strB x22))) := HK23.out.trans hkt (fun k hk => .inr (by have h' : k = tb := hk; have := HRB.out; have := HTB.out; omega))
       have hs1 := HW.out.under2 HS23.out hk1 hkt (fun h' => by have h2 : B = tb := h'; have := HTB.out; omega)
       have hr1 := block_keep HR23.out hkt (fun h' => by have h2 : rb = tb := h'; have := HTB.out; omega)
       have ho1 : OwnA (tb + 1) ((w23.setCell ⟨tb, 0, none⟩ (.int .i64 5)).setCell ⟨tb, 3, none⟩ (.string (strB x22))) (.slice none 0 0) (⟨5, i, [], x22, []⟩ : Tk).attrs := OwnA.nil _ _
       obtain ⟨wy, hwy⟩ : ∃ W', ((w23.setCell ⟨tb, 0, none⟩ (.int .i64 5)).setCell ⟨tb, 3, none⟩ (.string (strB x22))) = W' := ⟨_, rfl⟩
       rw [hwy] at hty hk1 hs1 hr1 ho1
       have HY := hid hwy
       have HSY := hid hs1
       have HKY := hid hk1
       have HOY := hid ho1
       have hry := hr1
       clear hkt hk1 hs1 hr1 ho1 hwy
       go_upto_region 17 with (fail)
       rw [HY.out]
       clear f0 f3 c0 c1 c2 c3 c4
       obtain ⟨d0, d1, d2, d3, d4⟩ : wy.cell? ⟨tb, 0, none⟩ = some (.int .i64 5) ∧ wy.cell? ⟨tb, 1, none⟩ = some (.int .i64 (i : Int)) ∧ wy.cell? ⟨tb, 2, none⟩ = some (.string ⟨#[]⟩) ∧ wy.cell? ⟨tb, 3, none⟩ = some (.string (strB x22)) ∧ wy.cell? ⟨tb, 4, none⟩ = some (.slice none 0 0) := ⟨(cell_of_block hty 0).trans rfl, (cell_of_block hty 1).trans rfl, (cell_of_block hty 2).trans rfl, (cell_of_block hty 3).trans rfl, (cell_of_block hty 4).trans rfl⟩
       have g0 := unfrozen_of_block hry 0
       have g1 := unfrozen_of_block hry 1
       have g2 := unfrozen_of_block hry 2
       have g3 := unfrozen_of_block hry 3
       have g4 := unfrozen_of_block hry 4
       have b0 := (cell_of_block hry 0).trans rfl
       have b1 := (cell_of_block hry 1).trans rfl
       have b2 := (cell_of_block hry 2).trans rfl
       have b3 := (cell_of_block hry 3).trans rfl
       have b4 := (cell_of_block hry 4).trans rfl
       go_wp2_with fail
       have hkr : Keeps (One rb) wy (((((wy.setCell ⟨rb, 0, none⟩ (.int .i64 5)).setCell ⟨rb, 1, none⟩ (.int .i64 (i : Int))).setCell ⟨rb, 2, none⟩ (.string ⟨#[]⟩)).setCell ⟨rb, 3, none⟩ (.string (strB x22))).setCell ⟨rb, 4, none⟩ (.slice none 0 0)) := ((((((Keeps.refl (One rb) wy).setCell (p := ⟨rb, 0, none⟩) (.inl rfl) (.int .i64 5)).setCell (p := ⟨rb, 1, none⟩) (.inl rfl) (.int .i64 (i : Int))).setCell (p := ⟨rb, 2, none⟩) (.inl rfl) (.string ⟨#[]⟩)).setCell (p := ⟨rb, 3, none⟩) (.inl rfl) (.string (strB x22))).setCell (p := ⟨rb, 4, none⟩) (.inl rfl) (.slice none 0 0))
       have hrr := (block_setCell (i := 4) (block_setCell (i := 3) (block_setCell (i := 2) (block_setCell (i := 1) (block_setCell (i := 0) hry (.int .i64 5)) (.int .i64 (i : Int))) (.string ⟨#[]⟩)) (.string (strB x22))) (.slice none 0 0))
       have e0 := (cell_of_block hrr 0).trans rfl
       have e1 := (cell_of_block hrr 1).trans rfl
       have e2 := (cell_of_block hrr 2).trans rfl
       have e3 := (cell_of_block hrr 3).trans rfl
       have e4 := (cell_of_block hrr 4).trans rfl
       have HF : Hid (TokOut w B (some ⟨bb, oo, none⟩) c l Q (.returned (tokV (⟨5, i, [], x22, []⟩ : Tk) (.slice none 0 0))) (((((wy.setCell ⟨rb, 0, none⟩ (.int .i64 5)).setCell ⟨rb, 1, none⟩ (.int .i64 (i : Int))).setCell ⟨rb, 2, none⟩ (.string ⟨#[]⟩)).setCell ⟨rb, 3, none⟩ (.string (strB x22))).setCell ⟨rb, 4, none⟩ (.slice none 0 0))) := hid (by
        rw [HQ23.out]
        have hk2 : Keeps (One B) w (((((wy.setCell ⟨rb, 0, none⟩ (.int .i64 5)).setCell ⟨rb, 1, none⟩ (.int .i64 (i : Int))).setCell ⟨rb, 2, none⟩ (.string ⟨#[]⟩)).setCell ⟨rb, 3, none⟩ (.string (strB x22))).setCell ⟨rb, 4, none⟩ (.slice none 0 0)) := HKY.out.trans hkr (fun k hk => .inr (by have h' : k = rb := hk; have := HRB.out; omega))
        exact ⟨_, rfl, (HOY.out.keep hkr (fun k hk h' => by have h2 : k = rb := h'; have := HTB.out; omega)).older (by have := HRB.out; have := HTB.out; omega), HW.out.under2 HSY.out hk2 hkr (fun h' => by have h2 : B = rb := h'; omega), hk2⟩)
       clear hkr hrr hty hry d0 d1 d2 d3 d4 g0 g1 g2 g3 g4 b0 b1 b2 b3 b4
       refine bodyPost_ret (v := tokV (⟨5, i, [], x22, []⟩ : Tk) (.slice none 0 0)) (by simp [results, Tryz.results73, tokV, go_sem, e0, e1, e2, e3, e4, show strB [] = ⟨#[]⟩ from rfl]) rfl HF.out
     | false =>
      have hqn22 : Q = ((opensS [60, 33] i (x :: t)).then fun b j t3 => if b = true then .no 2 i else ((opensS [60, 63] i (x :: t)).then fun b j t3 => if b = true then ((piS j t3).then fun q k t2 => .ok ⟨7, i, q.1, q.2, []⟩ k t2) else ((opensS [60, 47] i (x :: t)).then fun b j t3 => if b = true then ((endTagS j t3).then fun nm k t2 => .ok ⟨3, i, nm, [], []⟩ k t2) else ((opensS [60] i (x :: t)).then fun b j t3 => if b = true then ((startS j t3).then fun q k t2 => .ok ⟨q.1, i, q.2.1, [], q.2.2⟩ k t2) else (.ok ⟨0, i, [], [], []⟩ i (x :: t) : Sx Tk))))) := by rw [HQ22.out, if_neg Bool.false_ne_true]
      clear HQ22
      have HQ22 := hid hqn22
      clear hqn22
      obtain ⟨hj22, ht22⟩ := opens_no HSS21.out
      have hj22' := hj22.symm
      have ht22' := ht22.symm
      subst hj22' ht22'
      clear hj22 ht22
      obtain ⟨S22, hS22⟩ : ∃ S, opensS [60, 33] i (x :: t) = S := ⟨_, rfl⟩
      have HC22 := hid (opens_at HS22.out [60, 33] ⟨#[60, 33]⟩ rfl (by decide))
      have hq22 := HQ22.out
      rw [hS22] at HC22 hq22
      cases S22 with
      | no cd p =>
       have HF : Hid (∀ wx, Keeps (One B) w22 wx → TokOut w B (some ⟨bb, oo, none⟩) c l Q (.panicked [{ v := wrongV cd p, recovered := false }]) wx) := hid (fun wx hk => by
        rw [hq22]
        exact ⟨rfl, HK22.out.trans hk (fresh_refl _ _)⟩)
       clear hq22 hS22
       go_wp2_with fail
       with_reducible refine HC22.out.mono ?_
       rintro e wx ⟨rfl, hk⟩
       have HF1 := hid (HF.out wx hk)
       clear hk
       go_wp2_with fail
       exact ⟨rfl, HF1.out⟩
      | ok x22 j23 u23 =>
       rw [Sx.then_ok] at hq22
       have HQ23 := hid hq22
       have HSS22 := hid hS22
       clear hq22 hS22
       go_wp2_with fail
       with_reducible refine HC22.out.mono ?_
       rintro e w23 ⟨rfl, hs, hk⟩
       have HS23 := hid hs
       have HK23 : Hid (Keeps (One B) w w23) := hid (HK22.out.trans hk (fresh_refl _ _))
       have HE23 : Hid (EnvAt w23) := hid (HE22.out.keeps hk hB)
       have HT23 : Hid (w23.heap[tb]? = some (.cells #[.int .i64 0, .int .i64 (i : Int), .string ⟨#[]⟩, .string ⟨#[]⟩, .slice none 0 0] 87 (0, 0))) := hid (block_keep HT22.out hk (fun h' => by have h2 : tb = B := h'; have := HTB.out; omega))
       have HR23 : Hid (w23.heap[rb]? = some (.cells #[.int .i64 0, .int .i64 0, .string ⟨#[]⟩, .string ⟨#[]⟩, .slice none 0 0] 87 (0, 0))) := hid (block_keep HR22.out hk (fun h' => by have h2 : rb = B := h'; omega))
       clear hs hk
       cases x22 with
       | true =>
        have HQ23 : Hid (Q = .no 2 i) := hid (by rw [HQ23.out, if_pos rfl])
        have c1 := (cell_of_block HT23.out 1).trans rfl
        have HF : Hid (TokOut w B (some ⟨bb, oo, none⟩) c l Q (.panicked [{ v := wrongV 2 i, recovered := false }]) w23) := hid (by
         rw [HQ23.out]
         exact ⟨rfl, HK23.out⟩)
        go_wp2_with fail
        exact ⟨rfl, HF.out⟩
       | false =>
        have hqn23 : Q = ((opensS [60, 63] i (x :: t)).then fun b j t3 => if b = true then ((piS j t3).then fun q k t2 => .ok ⟨7, i, q.1, q.2, []⟩ k t2) else ((opensS [60, 47] i (x :: t)).then fun b j t3 => if b = true then ((endTagS j t3).then fun nm k t2 => .ok ⟨3, i, nm, [], []⟩ k t2) else ((opensS [60] i (x :: t)).then fun b j t3 => if b = true then ((startS j t3).then fun q k t2 => .ok ⟨q.1, i, q.2.1, [], q.2.2⟩ k t2) else (.ok ⟨0, i, [], [], []⟩ i (x :: t) : Sx Tk)))) := by rw [HQ23.out, if_neg Bool.false_ne_true]
        clear HQ23
        have HQ23 := hid hqn23
        clear hqn23
        obtain ⟨hj23, ht23⟩ := opens_no HSS22.out
        have hj23' := hj23.symm
        have ht23' := ht23.symm
        subst hj23' ht23'
        clear hj23 ht23
        obtain ⟨S23, hS23⟩ : ∃ S, opensS [60, 63] i (x :: t) = S := ⟨_, rfl⟩
        have HC23 := hid (opens_at HS23.out [60, 63] ⟨#[60, 63]⟩ rfl (by decide))
        have hq23 := HQ23.out
        rw [hS23] at HC23 hq23
        cases S23 with
        | no cd p =>
         have HF : Hid (∀ wx, Keeps (One B) w23 wx → TokOut w B (some ⟨bb, oo, none⟩) c l Q (.panicked [{ v := wrongV cd p, recovered := false }]) wx) := hid (fun wx hk => by
          rw [hq23]
          exact ⟨rfl, HK23.out.trans hk (fresh_refl _ _)⟩)
         clear hq23 hS23
         go_wp2_with fail
         with_reducible refine HC23.out.mono ?_
         rintro e wx ⟨rfl, hk⟩
         have HF1 := hid (HF.out wx hk)
         clear hk
         go_wp2_with fail
         exact ⟨rfl, HF1.out⟩
        | ok x23 j24 u24 =>
         rw [Sx.then_ok] at hq23
         have HQ24 := hid hq23
         have HSS23 := hid hS23
         clear hq23 hS23
         go_wp2_with fail
         with_reducible refine HC23.out.mono ?_
         rintro e w24 ⟨rfl, hs, hk⟩
         have HS24 := hid hs
         have HK24 : Hid (Keeps (One B) w w24) := hid (HK23.out.trans hk (fresh_refl _ _))
         have HE24 : Hid (EnvAt w24) := hid (HE23.out.keeps hk hB)
         have HT24 : Hid (w24.heap[tb]? = some (.cells #[.int .i64 0, .int .i64 (i : Int), .string ⟨#[]⟩, .string ⟨#[]⟩, .slice none 0 0] 87 (0, 0))) := hid (block_keep HT23.out hk (fun h' => by have h2 : tb = B := h'; have := HTB.out; omega))
         have HR24 : Hid (w24.heap[rb]? = some (.cells #[.int .i64 0, .int .i64 0, .string ⟨#[]⟩, .string ⟨#[]⟩, .slice none 0 0] 87 (0, 0))) := hid (block_keep HR23.out hk (fun h' => by have h2 : rb = B := h'; omega))
         clear hs hk
         cases x23 with
         | true =>
          have HQ24 : Hid (Q = (piS j24 u24).then fun q k t2 => .ok ⟨7, i, q.1, q.2, []⟩ k t2) := hid (by rw [HQ24.out, if_pos rfl])
          have f0 := unfrozen_of_block HT24.out 0
          have c0 := (cell_of_block HT24.out 0).trans rfl
          have hkt : Keeps (One tb) w24 (w24.setCell ⟨tb, 0, none⟩ (.int .i64 7)) := (Keeps.refl (One tb) w24).setCell (p := ⟨tb, 0, none⟩) (.inl rfl) _
          have hk1 : Keeps (One B) w (w24.setCell ⟨tb, 0, none⟩ (.int .i64 7)) := HK24.out.trans hkt (fun k hk => .inr (by have h' : k = tb := hk; have := HRB.out; have := HTB.out; omega))
          have HS24a := hid (HW.out.under2 HS24.out hk1 hkt (fun h' => by have h2 : B = tb := h'; have := HTB.out; omega))
          have HT24a : Hid ((w24.setCell ⟨tb, 0, none⟩ (.int .i64 7)).heap[tb]? = some (.cells #[.int .i64 7, .int .i64 (i : Int), .string ⟨#[]⟩, .string ⟨#[]⟩, .slice none 0 0] 87 (0, 0))) := hid (block_setCell (i := 0) HT24.out (.int .i64 7))
          have HR24a := hid (block_keep HR24.out hkt (fun h' => by have h2 : rb = tb := h'; have := HTB.out; omega))
          have HE24a : Hid (EnvAt (w24.setCell ⟨tb, 0, none⟩ (.int .i64 7))) := hid (HE24.out.keeps (B := tb) hkt (by have := HTB.out; omega))
          have HK24a := hid hk1
          obtain ⟨w24a, hwa⟩ : ∃ W, w24.setCell ⟨tb, 0, none⟩ (.int .i64 7) = W := ⟨_, rfl⟩
          rw [hwa] at HS24a HT24a HR24a HE24a HK24a
          have HWA := hid hwa
          have HQ24a := HQ24
          clear hkt hk1 hwa
          go_upto_region 12 with (fail)
          rw [HWA.out]
          clear f0 c0
          obtain ⟨S24, hS24⟩ : ∃ S, piS j24 u24 = S := ⟨_, rfl⟩
          have HC24 := hid (pi_calls HS24a.out HE24a.out hB)
          have hq24 := HQ24a.out
          rw [hS24] at HC24 hq24
          cases S24 with
          | no cd p =>
           have HF : Hid (∀ wx, Keeps (One B) w24a wx → TokOut w B (some ⟨bb, oo, none⟩) c l Q (.panicked [{ v := wrongV cd p, recovered := false }]) wx) := hid (fun wx hk => by
            rw [hq24]
            exact ⟨rfl, HK24a.out.trans hk (fresh_refl _ _)⟩)
           clear hq24 hS24
           go_wp2_with fail
           with_reducible refine HC24.out.mono ?_
           rintro e wx ⟨rfl, hk⟩
           have HF1 := hid (HF.out wx hk)
           clear hk
           go_wp2_with fail
           exact ⟨rfl, HF1.out⟩
          | ok x24 j25 u25 =>
           rw [Sx.then_ok] at hq24
           have HQ25 := hid hq24
           have HSS24 := hid hS24
           clear hq24 hS24
           go_wp2_with fail
           with_reducible refine HC24.out.mono ?_
           rintro e w25 ⟨rfl, hs, hk⟩
           have HS25 := hid hs
           have HK25 : Hid (Keeps (One B) w w25) := hid (HK24a.out.trans hk (fresh_refl _ _))
           have HE25 : Hid (EnvAt w25) := hid (HE24a.out.keeps hk hB)
           have HT25 : Hid (w25.heap[tb]? = some (.cells #[.int .i64 7, .int .i64 (i : Int), .string ⟨#[]⟩, .string ⟨#[]⟩, .slice none 0 0] 87 (0, 0))) := hid (block_keep HT24a.out hk (fun h' => by have h2 : tb = B := h'; have := HTB.out; omega))
           have HR25 : Hid (w25.heap[rb]? = some (.cells #[.int .i64 0, .int .i64 0, .string ⟨#[]⟩, .string ⟨#[]⟩, .slice none 0 0] 87 (0, 0))) := hid (block_keep HR24a.out hk (fun h' => by have h2 : rb = B := h'; omega))
           clear hs hk
           have f2 := unfrozen_of_block HT25.out 2
           have f3 := unfrozen_of_block HT25.out 3
           have c0 := (cell_of_block HT25.out 0).trans rfl
           have c1 := (cell_of_block HT25.out 1).trans rfl
           have c2 := (cell_of_block HT25.out 2).trans rfl
           have c3 := (cell_of_block HT25.out 3).trans rfl
           have c4 := (cell_of_block HT25.out 4).trans rfl
           have hty : ((w25.setCell ⟨tb, 2, none⟩ (.string (strB x24.1))).setCell ⟨tb, 3, none⟩ (.string (strB x24.2))).heap[tb]? = some (.cells #[.int .i64 7, .int .i64 (i : Int), .string (strB x24.1), .string (strB x24.2), .slice none 0 0] 87 (0, 0)) := (block_setCell (i := 3) (block_setCell (i := 2) HT25.out (.string (strB x24.1))) (.string (strB x24.2)))
           have hkt : Keeps (One tb) w25 ((w25.setCell ⟨tb, 2, none⟩ (.string (strB x24.1))).setCell ⟨tb, 3, none⟩ (.string (strB x24.2))) := (((Keeps.refl (One tb) w25).setCell (p := ⟨tb, 2, none⟩) (.inl rfl) (.string (strB x24.1))).setCell (p := ⟨tb, 3, none⟩) (.inl rfl) (.string (strB x24.2)))
           have hk1 : Keeps (One B) w ((w25.setCell ⟨tb, 2, none⟩ (.string (strB x24.1))).setCell ⟨tb, 3, none⟩ (.string (strB x24.2))) := HK25.out.trans hkt (fun k hk => .inr (by have h' : k = tb := hk; have := HRB.out; have := HTB.out; omega))
           have hs1 := HW.out.under2 HS25.out hk1 hkt (fun h' => by have h2 : B = tb := h'; have := HTB.out; omega)
           have hr1 := block_keep HR25.out hkt (fun h' => by have h2 : rb = tb := h'; have := HTB.out; omega)
           have ho1 : OwnA (tb + 1) ((w25.setCell ⟨tb, 2, none⟩ (.string (strB x24.1))).setCell ⟨tb, 3, none⟩ (.string (strB x24.2))) (.slice none 0 0) (⟨7, i, x24.1, x24.2, []⟩ : Tk).attrs := OwnA.nil _ _
           obtain ⟨wy, hwy⟩ : ∃ W', ((w25.setCell ⟨tb, 2, none⟩ (.string (strB x24.1))).setCell ⟨tb, 3, none⟩ (.string (strB x24.2))) = W' := ⟨_, rfl⟩
           rw [hwy] at hty hk1 hs1 hr1 ho1
           have HY := hid hwy
           have HSY := hid hs1
           have HKY := hid hk1
           have HOY := hid ho1
           have hry := hr1
           clear hkt hk1 hs1 hr1 ho1 hwy
           go_upto_region 17 with (fail)
           rw [HY.out]
           clear f2 f3 c0 c1 c2 c3 c4
           obtain ⟨d0, d1, d2, d3, d4⟩ : wy.cell? ⟨tb, 0, none⟩ = some (.int .i64 7) ∧ wy.cell? ⟨tb, 1, none⟩ = some (.int .i64 (i : Int)) ∧ wy.cell? ⟨tb, 2, none⟩ = some (.string (strB x24.1)) ∧ wy.cell? ⟨tb, 3, none⟩ = some (.string (strB x24.2)) ∧ wy.cell? ⟨tb, 4, none⟩ = some (.slice none 0 0) := ⟨(cell_of_block hty 0).trans rfl, (cell_of_block hty 1).trans rfl, (cell_of_block hty 2).trans rfl, (cell_of_block hty 3).trans rfl, (cell_of_block hty 4).trans rfl⟩
           have g0 := unfrozen_of_block hry 0
           have g1 := unfrozen_of_block hry 1
           have g2 := unfrozen_of_block hry 2
           have g3 := unfrozen_of_block hry 3
           have g4 := unfrozen_of_block hry 4
           have b0 := (cell_of_block hry 0).trans rfl
           have b1 := (cell_of_block hry 1).trans rfl
           have b2 := (cell_of_block hry 2).trans rfl
           have b3 := (cell_of_block hry 3).trans rfl
           have b4 := (cell_of_block hry 4).trans rfl
           go_wp2_with fail
           have hkr : Keeps (One rb) wy (((((wy.setCell ⟨rb, 0, none⟩ (.int .i64 7)).setCell ⟨rb, 1, none⟩ (.int .i64 (i : Int))).setCell ⟨rb, 2, none⟩ (.string (strB x24.1))).setCell ⟨rb, 3, none⟩ (.string (strB x24.2))).setCell ⟨rb, 4, none⟩ (.slice none 0 0)) := ((((((Keeps.refl (One rb) wy).setCell (p := ⟨rb, 0, none⟩) (.inl rfl) (.int .i64 7)).setCell (p := ⟨rb, 1, none⟩) (.inl rfl) (.int .i64 (i : Int))).setCell (p := ⟨rb, 2, none⟩) (.inl rfl) (.string (strB x24.1))).setCell (p := ⟨rb, 3, none⟩) (.inl rfl) (.string (strB x24.2))).setCell (p := ⟨rb, 4, none⟩) (.inl rfl) (.slice none 0 0))
           have hrr := (block_setCell (i := 4) (block_setCell (i := 3) (block_setCell (i := 2) (block_setCell (i := 1) (block_setCell (i := 0) hry (.int .i64 7)) (.int .i64 (i : Int))) (.string (strB x24.1))) (.string (strB x24.2))) (.slice none 0 0))
           have e0 := (cell_of_block hrr 0).trans rfl
           have e1 := (cell_of_block hrr 1).trans rfl
           have e2 := (cell_of_block hrr 2).trans rfl
           have e3 := (cell_of_block hrr 3).trans rfl
           have e4 := (cell_of_block hrr 4).trans rfl
           have HF : Hid (TokOut w B (some ⟨bb, oo, none⟩) c l Q (.returned (tokV (⟨7, i, x24.1, x24.2, []⟩ : Tk) (.slice none 0 0))) (((((wy.setCell ⟨rb, 0, none⟩ (.int .i64 7)).setCell ⟨rb, 1, none⟩ (.int .i64 (i : Int))).setCell ⟨rb, 2, none⟩ (.string (strB x24.1))).setCell ⟨rb, 3, none⟩ (.string (strB x24.2))).setCell ⟨rb, 4, none⟩ (.slice none 0 0))) := hid (by
            rw [HQ25.out]
            have hk2 : Keeps (One B) w (((((wy.setCell ⟨rb, 0, none⟩ (.int .i64 7)).setCell ⟨rb, 1, none⟩ (.int .i64 (i : Int))).setCell ⟨rb, 2, none⟩ (.string (strB x24.1))).setCell ⟨rb, 3, none⟩ (.string (strB x24.2))).setCell ⟨rb, 4, none⟩ (.slice none 0 0)) := HKY.out.trans hkr (fun k hk => .inr (by have h' : k = rb := hk; have := HRB.out; omega))
            exact ⟨_, rfl, (HOY.out.keep hkr (fun k hk h' => by have h2 : k = rb := h'; have := HTB.out; omega)).older (by have := HRB.out; have := HTB.out; omega), HW.out.under2 HSY.out hk2 hkr (fun h' => by have h2 : B = rb := h'; omega), hk2⟩)
           clear hkr hrr hty hry d0 d1 d2 d3 d4 g0 g1 g2 g3 g4 b0 b1 b2 b3 b4
           refine bodyPost_ret (v := tokV (⟨7, i, x24.1, x24.2, []⟩ : Tk) (.slice none 0 0)) (by simp [results, Tryz.results73, tokV, go_sem, e0, e1, e2, e3, e4]) rfl HF.out
         | false =>
          have hqn24 : Q = ((opensS [60, 47] i (x :: t)).then fun b j t3 => if b = true then ((endTagS j t3).then fun nm k t2 => .ok ⟨3, i, nm, [], []⟩ k t2) else ((opensS [60] i (x :: t)).then fun b j t3 => if b = true then ((startS j t3).then fun q k t2 => .ok ⟨q.1, i, q.2.1, [], q.2.2⟩ k t2) else (.ok ⟨0, i, [], [], []⟩ i (x :: t) : Sx Tk))) := by rw [HQ24.out, if_neg Bool.false_ne_true]
          clear HQ24
          have HQ24 := hid hqn24
          clear hqn24
          obtain ⟨hj24, ht24⟩ := opens_no HSS23.out
          have hj24' := hj24.symm
          have ht24' := ht24.symm
          subst hj24' ht24'
          clear hj24 ht24
          obtain ⟨S24, hS24⟩ : ∃ S, opensS [60, 47] i (x :: t) = S := ⟨_, rfl⟩
          have HC24 := hid (opens_at HS24.out [60, 47] ⟨#[60, 47]⟩ rfl (by decide))
          have hq24 := HQ24.out
          rw [hS24] at HC24 hq24
          cases S24 with
          | no cd p =>
           have HF : Hid (∀ wx, Keeps (One B) w24 wx → TokOut w B (some ⟨bb, oo, none⟩) c l Q (.panicked [{ v := wrongV cd p, recovered := false }]) wx) := hid (fun wx hk => by
            rw [hq24]
            exact ⟨rfl, HK24.out.trans hk (fresh_refl _ _)⟩)
           clear hq24 hS24
           go_wp2_with fail
           with_reducible refine HC24.out.mono ?_
           rintro e wx ⟨rfl, hk⟩
           have HF1 := hid (HF.out wx hk)
           clear hk
           go_wp2_with fail
           exact ⟨rfl, HF1.out⟩
          | ok x24 j25 u25 =>
           rw [Sx.then_ok] at hq24
           have HQ25 := hid hq24
           have HSS24 := hid hS24
           clear hq24 hS24
           go_wp2_with fail
           with_reducible refine HC24.out.mono ?_
           rintro e w25 ⟨rfl, hs, hk⟩
           have HS25 := hid hs
           have HK25 : Hid (Keeps (One B) w w25) := hid (HK24.out.trans hk (fresh_refl _ _))
           have HE25 : Hid (EnvAt w25) := hid (HE24.out.keeps hk hB)
           have HT25 : Hid (w25.heap[tb]? = some (.cells #[.int .i64 0, .int .i64 (i : Int), .string ⟨#[]⟩, .string ⟨#[]⟩, .slice none 0 0] 87 (0, 0))) := hid (block_keep HT24.out hk (fun h' => by have h2 : tb = B := h'; have := HTB.out; omega))
           have HR25 : Hid (w25.heap[rb]? = some (.cells #[.int .i64 0, .int .i64 0, .string ⟨#[]⟩, .string ⟨#[]⟩, .slice none 0 0] 87 (0, 0))) := hid (block_keep HR24.out hk (fun h' => by have h2 : rb = B := h'; omega))
           clear hs hk
           cases x24 with
           | true =>
            have HQ25 : Hid (Q = (endTagS j25 u25).then fun nm k t2 => .ok ⟨3, i, nm, [], []⟩ k t2) := hid (by rw [HQ25.out, if_pos rfl])
            obtain ⟨S25, hS25⟩ : ∃ S, endTagS j25 u25 = S := ⟨_, rfl⟩
            have HC25 := hid (endTag_calls HS25.out HE25.out hB)
            have hq25 := HQ25.out
            rw [hS25] at HC25 hq25
            cases S25 with
            | no cd p =>
             have HF : Hid (∀ wx, Keeps (One B) w25 wx → TokOut w B (some ⟨bb, oo, none⟩) c l Q (.panicked [{ v := wrongV cd p, recovered := false }]) wx) := hid (fun wx hk => by
              rw [hq25]
              exact ⟨rfl, HK25.out.trans hk (fresh_refl _ _)⟩)
             clear hq25 hS25
             go_wp2_with fail
             with_reducible refine HC25.out.mono ?_
             rintro e wx ⟨rfl, hk⟩
             have HF1 := hid (HF.out wx hk)
             clear hk
             go_wp2_with fail
             exact ⟨rfl, HF1.out⟩
            | ok x25 j26 u26 =>
             rw [Sx.then_ok] at hq25
             have HQ26 := hid hq25
             have HSS25 := hid hS25
             clear hq25 hS25
             go_wp2_with fail
             with_reducible refine HC25.out.mono ?_
             rintro e w26 ⟨rfl, hs, hk⟩
             have HS26 := hid hs
             have HK26 : Hid (Keeps (One B) w w26) := hid (HK25.out.trans hk (fresh_refl _ _))
             have HE26 : Hid (EnvAt w26) := hid (HE25.out.keeps hk hB)
             have HT26 : Hid (w26.heap[tb]? = some (.cells #[.int .i64 0, .int .i64 (i : Int), .string ⟨#[]⟩, .string ⟨#[]⟩, .slice none 0 0] 87 (0, 0))) := hid (block_keep HT25.out hk (fun h' => by have h2 : tb = B := h'; have := HTB.out; omega))
             have HR26 : Hid (w26.heap[rb]? = some (.cells #[.int .i64 0, .int .i64 0, .string ⟨#[]⟩, .string ⟨#[]⟩, .slice none 0 0] 87 (0, 0))) := hid (block_keep HR25.out hk (fun h' => by have h2 : rb = B := h'; omega))
             clear hs hk
             have f0 := unfrozen_of_block HT26.out 0
             have f2 := unfrozen_of_block HT26.out 2
             have c0 := (cell_of_block HT26.out 0).trans rfl
             have c1 := (cell_of_block HT26.out 1).trans rfl
             have c2 := (cell_of_block HT26.out 2).trans rfl
             have c3 := (cell_of_block HT26.out 3).trans rfl
             have c4 := (cell_of_block HT26.out 4).trans rfl
             have hty : ((w26.setCell ⟨tb, 0, none⟩ (.int .i64 3)).setCell ⟨tb, 2, none⟩ (.string (strB x25))).heap[tb]? = some (.cells #[.int .i64 3, .int .i64 (i : Int), .string (strB x25), .string ⟨#[]⟩, .slice none 0 0] 87 (0, 0)) := (block_setCell (i := 2) (block_setCell (i := 0) HT26.out (.int .i64 3)) (.string (strB x25)))
             have hkt : Keeps (One tb) w26 ((w26.setCell ⟨tb, 0, none⟩ (.int .i64 3)).setCell ⟨tb, 2, none⟩ (.string (strB x25))) := (((Keeps.refl (One tb) w26).setCell (p := ⟨tb, 0, none⟩) (.inl rfl) (.int .i64 3)).setCell (p := ⟨tb, 2, none⟩) (.inl rfl) (.string (strB x25)))
             have hk1 : Keeps (One B) w ((w26.setCell ⟨tb, 0, none⟩ (.int .i64 3)).setCell ⟨tb, 2, none⟩ (.string (strB x25))) := HK26.out.trans hkt (fun k hk => .inr (by have h' : k = tb := hk; have := HRB.out; have := HTB.out; omega))
             have hs1 := HW.out.under2 HS26.out hk1 hkt (fun h' => by have h2 : B = tb := h'; have := HTB.out; omega)
             have hr1 := block_keep HR26.out hkt (fun h' => by have h2 : rb = tb := h'; have := HTB.out; omega)
             have ho1 : OwnA (tb + 1) ((w26.setCell ⟨tb, 0, none⟩ (.int .i64 3)).setCell ⟨tb, 2, none⟩ (.string (strB x25))) (.slice none 0 0) (⟨3, i, x25, [], []⟩ : Tk).attrs := OwnA.nil _ _
             obtain ⟨wy, hwy⟩ : ∃ W', ((w26.setCell ⟨tb, 0, none⟩ (.int .i64 3)).setCell ⟨tb, 2, none⟩ (.string (strB x25))) = W' := ⟨_, rfl⟩
             rw [hwy] at hty hk1 hs1 hr1 ho1
             have HY := hid hwy
             have HSY := hid hs1
             have HKY := hid hk1
             have HOY := hid ho1
             have hry := hr1
             clear hkt hk1 hs1 hr1 ho1 hwy
             go_upto_region 17 with (fail)
             rw [HY.out]
             clear f0 f2 c0 c1 c2 c3 c4
             obtain ⟨d0, d1, d2, d3, d4⟩ : wy.cell? ⟨tb, 0, none⟩ = some (.int .i64 3) ∧ wy.cell? ⟨tb, 1, none⟩ = some (.int .i64 (i : Int)) ∧ wy.cell? ⟨tb, 2, none⟩ = some (.string (strB x25)) ∧ wy.cell? ⟨tb, 3, none⟩ = some (.string ⟨#[]⟩) ∧ wy.cell? ⟨tb, 4, none⟩ = some (.slice none 0 0) := ⟨(cell_of_block hty 0).trans rfl, (cell_of_block hty 1).trans rfl, (cell_of_block hty 2).trans rfl, (cell_of_block hty 3).trans rfl, (cell_of_block hty 4).trans rfl⟩
             have g0 := unfrozen_of_block hry 0
             have g1 := unfrozen_of_block hry 1
             have g2 := unfrozen_of_block hry 2
             have g3 := unfrozen_of_block hry 3
             have g4 := unfrozen_of_block hry 4
             have b0 := (cell_of_block hry 0).trans rfl
             have b1 := (cell_of_block hry 1).trans rfl
             have b2 := (cell_of_block hry 2).trans rfl
             have b3 := (cell_of_block hry 3).trans rfl
             have b4 := (cell_of_block hry 4).trans rfl
             go_wp2_with fail
             have hkr : Keeps (One rb) wy (((((wy.setCell ⟨rb, 0, none⟩ (.int .i64 3)).setCell ⟨rb, 1, none⟩ (.int .i64 (i : Int))).setCell ⟨rb, 2, none⟩ (.string (strB x25))).setCell ⟨rb, 3, none⟩ (.string ⟨#[]⟩)).setCell ⟨rb, 4, none⟩ (.slice none 0 0)) := ((((((Keeps.refl (One rb) wy).setCell (p := ⟨rb, 0, none⟩) (.inl rfl) (.int .i64 3)).setCell (p := ⟨rb, 1, none⟩) (.inl rfl) (.int .i64 (i : Int))).setCell (p := ⟨rb, 2, none⟩) (.inl rfl) (.string (strB x25))).setCell (p := ⟨rb, 3, none⟩) (.inl rfl) (.string ⟨#[]⟩)).setCell (p := ⟨rb, 4, none⟩) (.inl rfl) (.slice none 0 0))
             have hrr := (block_setCell (i := 4) (block_setCell (i := 3) (block_setCell (i := 2) (block_setCell (i := 1) (block_setCell (i := 0) hry (.int .i64 3)) (.int .i64 (i : Int))) (.string (strB x25))) (.string ⟨#[]⟩)) (.slice none 0 0))
             have e0 := (cell_of_block hrr 0).trans rfl
             have e1 := (cell_of_block hrr 1).trans rfl
             have e2 := (cell_of_block hrr 2).trans rfl
             have e3 := (cell_of_block hrr 3).trans rfl
             have e4 := (cell_of_block hrr 4).trans rfl
             have HF : Hid (TokOut w B (some ⟨bb, oo, none⟩) c l Q (.returned (tokV (⟨3, i, x25, [], []⟩ : Tk) (.slice none 0 0))) (((((wy.setCell ⟨rb, 0, none⟩ (.int .i64 3)).setCell ⟨rb, 1, none⟩ (.int .i64 (i : Int))).setCell ⟨rb, 2, none⟩ (.string (strB x25))).setCell ⟨rb, 3, none⟩ (.string ⟨#[]⟩)).setCell ⟨rb, 4, none⟩ (.slice none 0 0))) := hid (by
              rw [HQ26.out]
              have hk2 : Keeps (One B) w (((((wy.setCell ⟨rb, 0, none⟩ (.int .i64 3)).setCell ⟨rb, 1, none⟩ (.int .i64 (i : Int))).setCell ⟨rb, 2, none⟩ (.string (strB x25))).setCell ⟨rb, 3, none⟩ (.string ⟨#[]⟩)).setCell ⟨rb, 4, none⟩ (.slice none 0 0)) := HKY.out.trans hkr (fun k hk => .inr (by have h' : k = rb := hk; have := HRB.out; omega))
              exact ⟨_, rfl, (HOY.out.keep hkr (fun k hk h' => by have h2 : k = rb := h'; have := HTB.out; omega)).older (by have := HRB.out; have := HTB.out; omega), HW.out.under2 HSY.out hk2 hkr (fun h' => by have h2 : B = rb := h'; omega), hk2⟩)
             clear hkr hrr hty hry d0 d1 d2 d3 d4 g0 g1 g2 g3 g4 b0 b1 b2 b3 b4
             refine bodyPost_ret (v := tokV (⟨3, i, x25, [], []⟩ : Tk) (.slice none 0 0)) (by simp [results, Tryz.results73, tokV, go_sem, e0, e1, e2, e3, e4, show strB [] = ⟨#[]⟩ from rfl]) rfl HF.out
           | false =>
            have hqn25 : Q = ((opensS [60] i (x :: t)).then fun b j t3 => if b = true then ((startS j t3).then fun q k t2 => .ok ⟨q.1, i, q.2.1, [], q.2.2⟩ k t2) else (.ok ⟨0, i, [], [], []⟩ i (x :: t) : Sx Tk)) := by rw [HQ25.out, if_neg Bool.false_ne_true]
            clear HQ25
            have HQ25 := hid hqn25
            clear hqn25
            obtain ⟨hj25, ht25⟩ := opens_no HSS24.out
            have hj25' := hj25.symm
            have ht25' := ht25.symm
            subst hj25' ht25'
            clear hj25 ht25
            obtain ⟨S25, hS25⟩ : ∃ S, opensS [60] i (x :: t) = S := ⟨_, rfl⟩
            have HC25 := hid (opens_at HS25.out [60] ⟨#[60]⟩ rfl (by decide))
            have hq25 := HQ25.out
            rw [hS25] at HC25 hq25
            cases S25 with
            | no cd p =>
             have HF : Hid (∀ wx, Keeps (One B) w25 wx → TokOut w B (some ⟨bb, oo, none⟩) c l Q (.panicked [{ v := wrongV cd p, recovered := false }]) wx) := hid (fun wx hk => by
              rw [hq25]
              exact ⟨rfl, HK25.out.trans hk (fresh_refl _ _)⟩)
             clear hq25 hS25
             go_wp2_with fail
             with_reducible refine HC25.out.mono ?_
             rintro e wx ⟨rfl, hk⟩
             have HF1 := hid (HF.out wx hk)
             clear hk
             go_wp2_with fail
             exact ⟨rfl, HF1.out⟩
            | ok x25 j26 u26 =>
             rw [Sx.then_ok] at hq25
             have HQ26 := hid hq25
             have HSS25 := hid hS25
             clear hq25 hS25
             go_wp2_with fail
             with_reducible refine HC25.out.mono ?_
             rintro e w26 ⟨rfl, hs, hk⟩
             have HS26 := hid hs
             have HK26 : Hid (Keeps (One B) w w26) := hid (HK25.out.trans hk (fresh_refl _ _))
             have HE26 : Hid (EnvAt w26) := hid (HE25.out.keeps hk hB)
             have HT26 : Hid (w26.heap[tb]? = some (.cells #[.int .i64 0, .int .i64 (i : Int), .string ⟨#[]⟩, .string ⟨#[]⟩, .slice none 0 0] 87 (0, 0))) := hid (block_keep HT25.out hk (fun h' => by have h2 : tb = B := h'; have := HTB.out; omega))
             have HR26 : Hid (w26.heap[rb]? = some (.cells #[.int .i64 0, .int .i64 0, .string ⟨#[]⟩, .string ⟨#[]⟩, .slice none 0 0] 87 (0, 0))) := hid (block_keep HR25.out hk (fun h' => by have h2 : rb = B := h'; omega))
             clear hs hk
             cases x25 with
             | true =>
              have HQ26 : Hid (Q = (startS j26 u26).then fun q k t2 => .ok ⟨q.1, i, q.2.1, [], q.2.2⟩ k t2) := hid (by rw [HQ26.out, if_pos rfl])
              obtain ⟨S26, hS26⟩ : ∃ S, startS j26 u26 = S := ⟨_, rfl⟩
              have HC26 := hid (start_calls HS26.out HE26.out hB)
              have hq26 := HQ26.out
              rw [hS26] at HC26 hq26
              cases S26 with
              | no cd p =>
               have HF : Hid (∀ wx, Keeps (One B) w26 wx → TokOut w B (some ⟨bb, oo, none⟩) c l Q (.panicked [{ v := wrongV cd p, recovered := false }]) wx) := hid (fun wx hk => by
                rw [hq26]
                exact ⟨rfl, HK26.out.trans hk (fresh_refl _ _)⟩)
               clear hq26 hS26
               go_wp2_with fail
               with_reducible refine HC26.out.mono ?_
               rintro e wx ⟨rfl, hk⟩
               have HF1 := hid (HF.out wx hk)
               clear hk
               go_wp2_with fail
               exact ⟨rfl, HF1.out⟩
              | ok xs j27 u27 =>
               obtain ⟨kd, nm, ats⟩ := xs
               rw [Sx.then_ok] at hq26
               have HQ27 := hid hq26
               clear hq26 hS26
               go_wp2_with fail
               with_reducible refine HC26.out.mono ?_
               rintro e w27 ⟨va, rfl, hown, hs, hk⟩
               obtain ⟨va1, vc1, hva, _⟩ := hown.form
               subst hva
               have HS27 := hid hs
               have HK27 : Hid (Keeps (One B) w w27) := hid (HK26.out.trans hk (fresh_refl _ _))
               have HT27 : Hid (w27.heap[tb]? = some (.cells #[.int .i64 0, .int .i64 (i : Int), .string ⟨#[]⟩, .string ⟨#[]⟩, .slice none 0 0] 87 (0, 0))) := hid (block_keep HT26.out hk (fun h' => by have h2 : tb = B := h'; have := HTB.out; omega))
               have HR27 : Hid (w27.heap[rb]? = some (.cells #[.int .i64 0, .int .i64 0, .string ⟨#[]⟩, .string ⟨#[]⟩, .slice none 0 0] 87 (0, 0))) := hid (block_keep HR26.out hk (fun h' => by have h2 : rb = B := h'; omega))
               have hown2 : OwnA (tb + 1) w27 (.slice va1 ats.length vc1) ats := hown.older (by have := lt_of_block HT26.out; omega)
               have HOW := hid hown2
               clear hs hk hown hown2
               have f0 := unfrozen_of_block HT27.out 0
               have f2 := unfrozen_of_block HT27.out 2
               have f4 := unfrozen_of_block HT27.out 4
               have c0 := (cell_of_block HT27.out 0).trans rfl
               have c1 := (cell_of_block HT27.out 1).trans rfl
               have c2 := (cell_of_block HT27.out 2).trans rfl
               have c3 := (cell_of_block HT27.out 3).trans rfl
               have c4 := (cell_of_block HT27.out 4).trans rfl
               have hty : (((w27.setCell ⟨tb, 0, none⟩ (.int .i64 (kd : Int))).setCell ⟨tb, 2, none⟩ (.string (strB nm))).setCell ⟨tb, 4, none⟩ (.slice va1 ats.length vc1)).heap[tb]? = some (.cells #[.int .i64 (kd : Int), .int .i64 (i : Int), .string (strB nm), .string ⟨#[]⟩, .slice va1 ats.length vc1] 87 (0, 0)) := (block_setCell (i := 4) (block_setCell (i := 2) (block_setCell (i := 0) HT27.out (.int .i64 (kd : Int))) (.string (strB nm))) (.slice va1 ats.length vc1))
               have hkt : Keeps (One tb) w27 (((w27.setCell ⟨tb, 0, none⟩ (.int .i64 (kd : Int))).setCell ⟨tb, 2, none⟩ (.string (strB nm))).setCell ⟨tb, 4, none⟩ (.slice va1 ats.length vc1)) := ((((Keeps.refl (One tb) w27).setCell (p := ⟨tb, 0, none⟩) (.inl rfl) (.int .i64 (kd : Int))).setCell (p := ⟨tb, 2, none⟩) (.inl rfl) (.string (strB nm))).setCell (p := ⟨tb, 4, none⟩) (.inl rfl) (.slice va1 ats.length vc1))
               have hk1 : Keeps (One B) w (((w27.setCell ⟨tb, 0, none⟩ (.int .i64 (kd : Int))).setCell ⟨tb, 2, none⟩ (.string (strB nm))).setCell ⟨tb, 4, none⟩ (.slice va1 ats.length vc1)) := HK27.out.trans hkt (fun k hk => .inr (by have h' : k = tb := hk; have := HRB.out; have := HTB.out; omega))
               have hs1 := HW.out.under2 HS27.out hk1 hkt (fun h' => by have h2 : B = tb := h'; have := HTB.out; omega)
               have hr1 := block_keep HR27.out hkt (fun h' => by have h2 : rb = tb := h'; have := HTB.out; omega)
               have ho1 : OwnA (tb + 1) (((w27.setCell ⟨tb, 0, none⟩ (.int .i64 (kd : Int))).setCell ⟨tb, 2, none⟩ (.string (strB nm))).setCell ⟨tb, 4, none⟩ (.slice va1 ats.length vc1)) (.slice va1 ats.length vc1) (⟨kd, i, nm, [], ats⟩ : Tk).attrs := HOW.out.keep hkt (fun k hk h' => by have h2 : k = tb := h'; omega)
               obtain ⟨wy, hwy⟩ : ∃ W', (((w27.setCell ⟨tb, 0, none⟩ (.int .i64 (kd : Int))).setCell ⟨tb, 2, none⟩ (.string (strB nm))).setCell ⟨tb, 4, none⟩ (.slice va1 ats.length vc1)) = W' := ⟨_, rfl⟩
               rw [hwy] at hty hk1 hs1 hr1 ho1
               have HY := hid hwy
               have HSY := hid hs1
               have HKY := hid hk1
               have HOY := hid ho1
               have hry := hr1
               clear hkt hk1 hs1 hr1 ho1 hwy
               go_upto_region 17 with (fail)
               rw [HY.out]
               clear f0 f2 f4 c0 c1 c2 c3 c4
               obtain ⟨d0, d1, d2, d3, d4⟩ : wy.cell? ⟨tb, 0, none⟩ = some (.int .i64 (kd : Int)) ∧ wy.cell? ⟨tb, 1, none⟩ = some (.int .i64 (i : Int)) ∧ wy.cell? ⟨tb, 2, none⟩ = some (.string (strB nm)) ∧ wy.cell? ⟨tb, 3, none⟩ = some (.string ⟨#[]⟩) ∧ wy.cell? ⟨tb, 4, none⟩ = some (.slice va1 ats.length vc1) := ⟨(cell_of_block hty 0).trans rfl, (cell_of_block hty 1).trans rfl, (cell_of_block hty 2).trans rfl, (cell_of_block hty 3).trans rfl, (cell_of_block hty 4).trans rfl⟩
               have g0 := unfrozen_of_block hry 0
               have g1 := unfrozen_of_block hry 1
               have g2 := unfrozen_of_block hry 2
               have g3 := unfrozen_of_block hry 3
               have g4 := unfrozen_of_block hry 4
               have b0 := (cell_of_block hry 0).trans rfl
               have b1 := (cell_of_block hry 1).trans rfl
               have b2 := (cell_of_block hry 2).trans rfl
               have b3 := (cell_of_block hry 3).trans rfl
               have b4 := (cell_of_block hry 4).trans rfl
               go_wp2_with fail
               have hkr : Keeps (One rb) wy (((((wy.setCell ⟨rb, 0, none⟩ (.int .i64 (kd : Int))).setCell ⟨rb, 1, none⟩ (.int .i64 (i : Int))).setCell ⟨rb, 2, none⟩ (.string (strB nm))).setCell ⟨rb, 3, none⟩ (.string ⟨#[]⟩)).setCell ⟨rb, 4, none⟩ (.slice va1 ats.length vc1)) := ((((((Keeps.refl (One rb) wy).setCell (p := ⟨rb, 0, none⟩) (.inl rfl) (.int .i64 (kd : Int))).setCell (p := ⟨rb, 1, none⟩) (.inl rfl) (.int .i64 (i : Int))).setCell (p := ⟨rb, 2, none⟩) (.inl rfl) (.string (strB nm))).setCell (p := ⟨rb, 3, none⟩) (.inl rfl) (.string ⟨#[]⟩)).setCell (p := ⟨rb, 4, none⟩) (.inl rfl) (.slice va1 ats.length vc1))
               have hrr := (block_setCell (i := 4) (block_setCell (i := 3) (block_setCell (i := 2) (block_setCell (i := 1) (block_setCell (i := 0) hry (.int .i64 (kd : Int))) (.int .i64 (i : Int))) (.string (strB nm))) (.string ⟨#[]⟩)) (.slice va1 ats.length vc1))
               have e0 := (cell_of_block hrr 0).trans rfl
               have e1 := (cell_of_block hrr 1).trans rfl
               have e2 := (cell_of_block hrr 2).trans rfl
               have e3 := (cell_of_block hrr 3).trans rfl
               have e4 := (cell_of_block hrr 4).trans rfl
               have HF : Hid (TokOut w B (some ⟨bb, oo, none⟩) c l Q (.returned (tokV (⟨kd, i, nm, [], ats⟩ : Tk) (.slice va1 ats.length vc1))) (((((wy.setCell ⟨rb, 0, none⟩ (.int .i64 (kd : Int))).setCell ⟨rb, 1, none⟩ (.int .i64 (i : Int))).setCell ⟨rb, 2, none⟩ (.string (strB nm))).setCell ⟨rb, 3, none⟩ (.string ⟨#[]⟩)).setCell ⟨rb, 4, none⟩ (.slice va1 ats.length vc1))) := hid (by
                rw [HQ27.out]
                have hk2 : Keeps (One B) w (((((wy.setCell ⟨rb, 0, none⟩ (.int .i64 (kd : Int))).setCell ⟨rb, 1, none⟩ (.int .i64 (i : Int))).setCell ⟨rb, 2, none⟩ (.string (strB nm))).setCell ⟨rb, 3, none⟩ (.string ⟨#[]⟩)).setCell ⟨rb, 4, none⟩ (.slice va1 ats.length vc1)) := HKY.out.trans hkr (fun k hk => .inr (by have h' : k = rb := hk; have := HRB.out; omega))
                exact ⟨_, rfl, (HOY.out.keep hkr (fun k hk h' => by have h2 : k = rb := h'; have := HTB.out; omega)).older (by have := HRB.out; have := HTB.out; omega), HW.out.under2 HSY.out hk2 hkr (fun h' => by have h2 : B = rb := h'; omega), hk2⟩)
               clear hkr hrr hty hry d0 d1 d2 d3 d4 g0 g1 g2 g3 g4 b0 b1 b2 b3 b4
               refine bodyPost_ret (v := tokV (⟨kd, i, nm, [], ats⟩ : Tk) (.slice va1 ats.length vc1)) (by simp [results, Tryz.results73, tokV, go_sem, e0, e1, e2, e3, e4, show strB [] = ⟨#[]⟩ from rfl]) rfl HF.out
             | false =>
              exfalso
              have h := HSS25.out
              unfold opensS at h
              rw [if_neg (by rw [List.length_cons, List.length_cons, List.length_nil]; omega), hx60, if_pos (by rfl)] at h
              cases h
 ·have hz : ((x.toNat : Int) != 60) = true := by
   simp only [bne_iff_ne, ne_eq]
   exact fun h => hx60 (UInt8.toNat_inj.1 (by have : (60 : UInt8).toNat = 60 := rfl; omega))
  have HQ0 : Hid (Q = (mixS none i (x :: t)).then fun u j t => .ok ⟨4, i, [], u, []⟩ j t) := hid (by
   rw [← HQ.out]
   unfold tokS
   rw [if_pos]
   show ((60 : UInt8) == x && true) = false
   rw [beq_eq_false_iff_ne.2 (fun e => hx60 e.symm)]
   rfl)
  go_wp2_with fail
  go_quiet (fail)
  obtain ⟨w20, hw20⟩ : ∃ W, w0.drewN nq = W := ⟨_, rfl⟩
  rw [hw20]
  have hbq : Below w0.heap.size w0 w20 := by rw [← hw20]; exact ⟨rfl, rfl, rfl, Nat.le_refl _, fun _ _ => rfl⟩
  have HS20 := hid (HS0.out.keep hbq)
  have HE20 := hid (HE0.out.below hbq)
  have HK20 : Hid (Keeps (One B) w w20) := hid (HK0.out.trans (keeps_below hbq Non) (fresh_non _ _))
  have HT20 := hid (block_below hbq HT0.out)
  have HR20 := hid (block_below hbq HR0.out)
  have HQ20 := HQ0
  clear hbq hw20
  obtain ⟨S20, hS20⟩ : ∃ S, mixS none i (x :: t) = S := ⟨_, rfl⟩
  have HC20 := hid (chars9_calls HS20.out HE20.out hB)
  have hq20 := HQ20.out
  rw [hS20] at HC20 hq20
  cases S20 with
  | no cd p =>
   have HF : Hid (∀ wx, Keeps (One B) w20 wx → TokOut w B (some ⟨bb, oo, none⟩) c l Q (.panicked [{ v := wrongV cd p, recovered := false }]) wx) := hid (fun wx hk => by
    rw [hq20]
    exact ⟨rfl, HK20.out.trans hk (fresh_refl _ _)⟩)
   clear hq20 hS20
   go_wp2_with fail
   with_reducible refine HC20.out.mono ?_
   rintro e wx ⟨rfl, hk⟩
   have HF1 := hid (HF.out wx hk)
   clear hk
   go_wp2_with fail
   exact ⟨rfl, HF1.out⟩
  | ok x20 j21 u21 =>
   rw [Sx.then_ok] at hq20
   have HQ21 := hid hq20
   have HSS20 := hid hS20
   clear hq20 hS20
   go_wp2_with fail
   with_reducible refine HC20.out.mono ?_
   rintro e w21 ⟨rfl, hs, hk⟩
   have HS21 := hid hs
   have HK21 : Hid (Keeps (One B) w w21) := hid (HK20.out.trans hk (fresh_refl _ _))
   have HE21 : Hid (EnvAt w21) := hid (HE20.out.keeps hk hB)
   have HT21 : Hid (w21.heap[tb]? = some (.cells #[.int .i64 0, .int .i64 (i : Int), .string ⟨#[]⟩, .string ⟨#[]⟩, .slice none 0 0] 87 (0, 0))) := hid (block_keep HT20.out hk (fun h' => by have h2 : tb = B := h'; have := HTB.out; omega))
   have HR21 : Hid (w21.heap[rb]? = some (.cells #[.int .i64 0, .int .i64 0, .string ⟨#[]⟩, .string ⟨#[]⟩, .slice none 0 0] 87 (0, 0))) := hid (block_keep HR20.out hk (fun h' => by have h2 : rb = B := h'; omega))
   clear hs hk
   have f0 := unfrozen_of_block HT21.out 0
   have f3 := unfrozen_of_block HT21.out 3
   have c0 := (cell_of_block HT21.out 0).trans rfl
   have c1 := (cell_of_block HT21.out 1).trans rfl
   have c2 := (cell_of_block HT21.out 2).trans rfl
   have c3 := (cell_of_block HT21.out 3).trans rfl
   have c4 := (cell_of_block HT21.out 4).trans rfl
   have hty : ((w21.setCell ⟨tb, 0, none⟩ (.int .i64 4)).setCell ⟨tb, 3, none⟩ (.string (strB x20))).heap[tb]? = some (.cells #[.int .i64 4, .int .i64 (i : Int), .string ⟨#[]⟩, .string (strB x20), .slice none 0 0] 87 (0, 0)) := (block_setCell (i := 3) (block_setCell (i := 0) HT21.out (.int .i64 4)) (.string (strB x20)))
   have hkt : Keeps (One tb) w21 ((w21.setCell ⟨tb, 0, none⟩ (.int .i64 4)).setCell ⟨tb, 3, none⟩ (.string (strB x20))) := (((Keeps.refl (One tb) w21).setCell (p := ⟨tb, 0, none⟩) (.inl rfl) (.int .i64 4)).setCell (p := ⟨tb, 3, none⟩) (.inl rfl) (.string (strB x20)))
   have hk1 : Keeps (One B) w ((w21.setCell ⟨tb, 0, none⟩ (.int .i64 4)).setCell ⟨tb, 3, none⟩ (.string (strB x20))) := HK21.out.trans hkt (fun k hk => .inr (by have h' : k = tb := hk; have := HRB.out; have := HTB.out; omega))
   have hs1 := HW.out.under2 HS21.out hk1 hkt (fun h' => by have h2 : B = tb := h'; have := HTB.out; omega)
   have hr1 := block_keep HR21.out hkt (fun h' => by have h2 : rb = tb := h'; have := HTB.out; omega)
   have ho1 : OwnA (tb + 1) ((w21.setCell ⟨tb, 0, none⟩ (.int .i64 4)).setCell ⟨tb, 3, none⟩ (.string (strB x20))) (.slice none 0 0) (⟨4, i, [], x20, []⟩ : Tk).attrs := OwnA.nil _ _
   obtain ⟨wy, hwy⟩ : ∃ W', ((w21.setCell ⟨tb, 0, none⟩ (.int .i64 4)).setCell ⟨tb, 3, none⟩ (.string (strB x20))) = W' := ⟨_, rfl⟩
   rw [hwy] at hty hk1 hs1 hr1 ho1
   have HY := hid hwy
   have HSY := hid hs1
   have HKY := hid hk1
   have HOY := hid ho1
   have hry := hr1
   clear hkt hk1 hs1 hr1 ho1 hwy
   go_upto_region 17 with (fail)
   rw [HY.out]
   clear f0 f3 c0 c1 c2 c3 c4
   obtain ⟨d0, d1, d2, d3, d4⟩ : wy.cell? ⟨tb, 0, none⟩ = some (.int .i64 4) ∧ wy.cell? ⟨tb, 1, none⟩ = some (.int .i64 (i : Int)) ∧ wy.cell? ⟨tb, 2, none⟩ = some (.string ⟨#[]⟩) ∧ wy.cell? ⟨tb, 3, none⟩ = some (.string (strB x20)) ∧ wy.cell? ⟨tb, 4, none⟩ = some (.slice none 0 0) := ⟨(cell_of_block hty 0).trans rfl, (cell_of_block hty 1).trans rfl, (cell_of_block hty 2).trans rfl, (cell_of_block hty 3).trans rfl, (cell_of_block hty 4).trans rfl⟩
   have g0 := unfrozen_of_block hry 0
   have g1 := unfrozen_of_block hry 1
   have g2 := unfrozen_of_block hry 2
   have g3 := unfrozen_of_block hry 3
   have g4 := unfrozen_of_block hry 4
   have b0 := (cell_of_block hry 0).trans rfl
   have b1 := (cell_of_block hry 1).trans rfl
   have b2 := (cell_of_block hry 2).trans rfl
   have b3 := (cell_of_block hry 3).trans rfl
   have b4 := (cell_of_block hry 4).trans rfl
   go_wp2_with fail
   have hkr : Keeps (One rb) wy (((((wy.setCell ⟨rb, 0, none⟩ (.int .i64 4)).setCell ⟨rb, 1, none⟩ (.int .i64 (i : Int))).setCell ⟨rb, 2, none⟩ (.string ⟨#[]⟩)).setCell ⟨rb, 3, none⟩ (.string (strB x20))).setCell ⟨rb, 4, none⟩ (.slice none 0 0)) := ((((((Keeps.refl (One rb) wy).setCell (p := ⟨rb, 0, none⟩) (.inl rfl) (.int .i64 4)).setCell (p := ⟨rb, 1, none⟩) (.inl rfl) (.int .i64 (i : Int))).setCell (p := ⟨rb, 2, none⟩) (.inl rfl) (.string ⟨#[]⟩)).setCell (p := ⟨rb, 3, none⟩) (.inl rfl) (.string (strB x20))).setCell (p := ⟨rb, 4, none⟩) (.inl rfl) (.slice none 0 0))
   have hrr := (block_setCell (i := 4) (block_setCell (i := 3) (block_setCell (i := 2) (block_setCell (i := 1) (block_setCell (i := 0) hry (.int .i64 4)) (.int .i64 (i : Int))) (.string ⟨#[]⟩)) (.string (strB x20))) (.slice none 0 0))
   have e0 := (cell_of_block hrr 0).trans rfl
   have e1 := (cell_of_block hrr 1).trans rfl
   have e2 := (cell_of_block hrr 2).trans rfl
   have e3 := (cell_of_block hrr 3).trans rfl
   have e4 := (cell_of_block hrr 4).trans rfl
   have HF : Hid (TokOut w B (some ⟨bb, oo, none⟩) c l Q (.returned (tokV (⟨4, i, [], x20, []⟩ : Tk) (.slice none 0 0))) (((((wy.setCell ⟨rb, 0, none⟩ (.int .i64 4)).setCell ⟨rb, 1, none⟩ (.int .i64 (i : Int))).setCell ⟨rb, 2, none⟩ (.string ⟨#[]⟩)).setCell ⟨rb, 3, none⟩ (.string (strB x20))).setCell ⟨rb, 4, none⟩ (.slice none 0 0))) := hid (by
    rw [HQ21.out]
    have hk2 : Keeps (One B) w (((((wy.setCell ⟨rb, 0, none⟩ (.int .i64 4)).setCell ⟨rb, 1, none⟩ (.int .i64 (i : Int))).setCell ⟨rb, 2, none⟩ (.string ⟨#[]⟩)).setCell ⟨rb, 3, none⟩ (.string (strB x20))).setCell ⟨rb, 4, none⟩ (.slice none 0 0)) := HKY.out.trans hkr (fun k hk => .inr (by have h' : k = rb := hk; have := HRB.out; omega))
    exact ⟨_, rfl, (HOY.out.keep hkr (fun k hk h' => by have h2 : k = rb := h'; have := HTB.out; omega)).older (by have := HRB.out; have := HTB.out; omega), HW.out.under2 HSY.out hk2 hkr (fun h' => by have h2 : B = rb := h'; omega), hk2⟩)
   clear hkr hrr hty hry d0 d1 d2 d3 d4 g0 g1 g2 g3 g4 b0 b1 b2 b3 b4
   refine bodyPost_ret (v := tokV (⟨4, i, [], x20, []⟩ : Tk) (.slice none 0 0)) (by simp [results, Tryz.results73, tokV, go_sem, e0, e1, e2, e3, e4, show strB [] = ⟨#[]⟩ from rfl]) rfl HF.out
end Go.Proofs.YtjpkkflhcjjefaaGreatDoor
