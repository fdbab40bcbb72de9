/-
 An instruction, told by a document's scan.
-/
import Derived.Test.YtjpkkflhcjjefaaGreatDoorXL
import Derived.ScopeJumps
import Derived.WalkMore
import Derived.Lib.Fold
import Derived.Laws.RangeAny
import Derived.Lib.DecodeN
namespace Go.Proofs.YtjpkkflhcjjefaaGreatDoor
open Go.RowKit Go.Lib Go.Joins
set_option maxHeartbeats 32000000
def StartOut (w : World) (B : Nat) (a : Option Addr) (c : Nat) (l : List UInt8) : Sx (Nat × List UInt8 × List (List UInt8 × List UInt8)) → Ending → World → Prop
 | .ok x i t, e, w' => ∃ v, e = .returned (.tuple #[.int .i64 (x.1 : Int), .string (strB x.2.1), v]) ∧ OwnA w.heap.size w' v x.2.2 ∧ ScAt w' B a c l i t ∧ Keeps (One B) w w'
 | .no cd p, e, w' => e = .panicked [{ v := wrongV cd p, recovered := false }] ∧ Keeps (One B) w w'
theorem Sx.then_then {α β γ : Type} (s : Sx α) (f : α → Nat → List UInt8 → Sx β) (g : β → Nat → List UInt8 → Sx γ) : (s.then f).then g = s.then fun x i r => (f x i r).then g := by cases s <;> rfl
theorem ScAt.under2 {w w1 w2 : World} {B : Nat} {a : Option Addr} {c : Nat} {l : List UInt8} {i j : Nat} {t u : List UInt8} {O : Nat → Prop} (h0 : ScAt w B a c l i t) (h1 : ScAt w1 B a c l j u) (hk2 : Keeps (One B) w w2) (hk : Keeps O w1 w2) (hO : ¬ O B) : ScAt w2 B a c l j u :=
 h0.moved hk2 j ((hk.block B (lt_of_block h1.blk) hO).trans h1.blk) h1.fits u h1.left
set_option maxRecDepth 100000 in
theorem start_calls {w : World} {B : Nat} {a : Option Addr} {c : Nat} {l : List UInt8} {i : Nat} {t : List UInt8} (h : ScAt w B a c l i t) (hE : EnvAt w) (hB : 15 ≤ B) : Calls Tryz.prog 107 #[.pointer (some ⟨B, 0, none⟩)] w (StartOut w B a c l (startS i t)) := by
 obtain ⟨Q, hQ⟩ : ∃ Q, startS i t = Q := ⟨_, rfl⟩
 rw [hQ]
 have hQ2 : Q = (nameS i t).then fun nm j t => (tagG (t.length + 1) [] j t).then fun q k t2 => .ok (q.1, nm, q.2) k t2 := by rw [← hQ]; rfl
 have HQ0 := hid hQ2
 have HS0 := hid h
 have HE0 := hid hE
 have HK0 : Hid (Keeps (One B) w w) := hid (Keeps.refl _ _)
 clear h hE hQ hQ2
 go_enter Tryz.func107, Tryz.ntmps107
 obtain ⟨S0, hS0⟩ : ∃ S, nameS i t = S := ⟨_, rfl⟩
 have HC0 := hid (name_calls HS0.out HE0.out hB)
 have hq0 := HQ0.out
 rw [hS0] at HC0 hq0
 cases S0 with
 | no cd p =>
  have HF : Hid (∀ wx, Keeps (One B) w wx → StartOut w B a c l Q (.panicked [{ v := wrongV cd p, recovered := false }]) wx) := hid (fun wx hk => by
   rw [hq0]
   exact ⟨rfl, HK0.out.trans hk (fresh_refl _ _)⟩)
  clear hq0 hS0
  go_wp2_with fail
  with_reducible refine HC0.out.mono ?_
  rintro e wx ⟨rfl, hk⟩
  have HF1 := hid (HF.out wx hk)
  clear hk
  go_wp2_with fail
  exact ⟨rfl, HF1.out⟩
 | ok x0 j1 u1 =>
  rw [Sx.then_ok] at hq0
  have HQ1 := hid hq0
  have HSS0 := hid hS0
  clear hq0 hS0
  go_wp2_with fail
  with_reducible refine HC0.out.mono ?_
  rintro e w1 ⟨rfl, hs, hk⟩
  have HS1 := hid hs
  have HK1 : Hid (Keeps (One B) w w1) := hid (HK0.out.trans hk (fresh_refl _ _))
  have HE1 : Hid (EnvAt w1) := hid (HE0.out.keeps hk hB)
  clear hs hk
  have hmk : (Instr.makeMap 194 none).run Tryz.prog w1 = .ok (.map (some w1.heap.size)) (w1.alloc (.map #[] 0)) := by kernel_rfl
  go_upto_block 0 with (fail)
  clear hmk
  obtain ⟨mb, hmb⟩ : ∃ mb, w1.heap.size = mb := ⟨_, rfl⟩
  have hba : Below w1.heap.size w1 (w1.alloc (.map #[] 0)) := (Below.refl _ _).alloc (Nat.le_refl _) _
  have hmd := SetAt.made w1
  have hsz : (w1.alloc (.map #[] 0)).heap.size = mb + 1 := by rw [← hmb]; simp
  obtain ⟨w2, hw2⟩ : ∃ W, w1.alloc (.map #[] 0) = W := ⟨_, rfl⟩
  rw [hw2] at hba hmd hsz ⊢
  rw [hmb] at hmd ⊢
  have hn0 : w.heap.size ≤ mb := by rw [← hmb]; exact HK1.out.size
  have hBn : B < w.heap.size := lt_of_block HS0.out.blk
  have hmbB : mb ≠ B := by omega
  have hmb15 : 15 ≤ mb := by omega
  have hfr2 : Fresh (One B) w.heap.size (Two B mb) := fun k hk => by rcases hk with h' | h'; exact .inl h'; exact .inr (by omega)
  have HS2 := hid (HS1.out.keep hba)
  have HK2 : Hid (Keeps (One B) w w2) := hid (HK1.out.trans (keeps_below hba Non) (fresh_non _ _))
  have HM2 := hid hmd
  obtain ⟨G, hG⟩ : ∃ G, u1.length = G := ⟨_, rfl⟩
  have hG65 : G ≤ 65536 := by have := HS1.out.len; have := HS1.out.few; omega
  have HG := hid hG
  have HW2S := hid hsz
  clear hba hmd hsz hmb hw2 hG
  go_wp2_with fail
  go_loopg [5, 7] (G + 1) (fun gk s5 s7 wr => ∃ ats j u v, s5 = .int .i64 1 ∧ v = s7 ∧ u.length + 1 ≤ gk ∧ ats.length + gk ≤ G + 1 ∧ Q = ((tagG gk ats j u).then fun q k t2 => .ok (q.1, x0, q.2) k t2) ∧ OwnA (mb + 1) wr v ats ∧ SetAt wr mb (ats.map Prod.fst) ∧ ScAt wr B a c l j u ∧ Keeps (One B) w wr)
  case atStart => exact ⟨[], j1, u1, _, rfl, rfl, by rw [HG.out]; exact Nat.le_refl _, by show 0 + (G + 1) ≤ _; omega, by rw [← HG.out]; exact HQ1.out, OwnA.nil _ _, HM2.out, HS2.out, HK2.out⟩
  case round =>
   obtain ⟨ats, j4, u4, v7, rfl, rfl, hg, hats, hq, hown, hset, hs, hk⟩ := hrel
   obtain ⟨g, rfl⟩ : ∃ g, gk = g + 1 := ⟨gk - 1, by omega⟩
   have HQ4 : Hid (Q = (blanksS j4 u4).then fun apart j t => (peekS j t).then fun x _ _ =>
     (if x = 47 then (mustS 62 (j + 1) (t.drop 1)).then fun _ k t2 => .ok (2, ats) k t2
     else if x = 62 then (mustS 62 j t).then fun _ k t2 => .ok (1, ats) k t2
     else if apart = false then .no 2 j
     else (attrS (ats.map Prod.fst) j t).then fun a k t2 => tagG g (ats ++ [a]) k t2).then fun q k t2 => .ok (q.1, x0, q.2) k t2) := hid (by
    rw [hq, tagG]
    simp only [Sx.then_then])
   have HS4 := hid hs
   have HK4 := hid hk
   have HE4 : Hid (EnvAt wr) := hid (HE0.out.keeps hk hB)
   have HM4 := hid hset
   have HO4 := hid hown
   clear hq hs hk hset hown
   obtain ⟨S4, hS4⟩ : ∃ S, blanksS j4 u4 = S := ⟨_, rfl⟩
   have HC4 := hid (blanks_calls HS4.out)
   have hq4 := HQ4.out
   rw [hS4] at HC4 hq4
   cases S4 with
   | no cd p =>
    have HF : Hid (∀ wx, Keeps (One B) wr wx → StartOut w B a c l Q (.panicked [{ v := wrongV cd p, recovered := false }]) wx) := hid (fun wx hk => by
     rw [hq4]
     exact ⟨rfl, HK4.out.trans hk (fresh_refl _ _)⟩)
    clear hq4 hS4
    go_wp2_with fail
    with_reducible refine HC4.out.mono ?_
    rintro e wx ⟨rfl, hk⟩
    have HF1 := hid (HF.out wx hk)
    clear hk
    go_wp2_with fail
    exact ⟨rfl, HF1.out⟩
   | ok x4 j5 u5 =>
    rw [Sx.then_ok] at hq4
    have HQ5 := hid hq4
    have HSS4 := hid hS4
    clear hq4 hS4
    go_wp2_with fail
    with_reducible refine HC4.out.mono ?_
    rintro e w5 ⟨rfl, hs, hk⟩
    have HS5 := hid hs
    have HK5 : Hid (Keeps (One B) w w5) := hid (HK4.out.trans hk (fresh_refl _ _))
    have HE5 : Hid (EnvAt w5) := hid (HE4.out.keeps hk hB)
    have HO5 : Hid (OwnA (mb + 1) w5 v7 ats) := hid (HO4.out.keep hk (fun k hk' hB' => by have h' : k = B := hB'; omega))
    have HM5 : Hid (SetAt w5 mb (ats.map Prod.fst)) := hid (HM4.out.keeps hk (fun h' => hmbB h'))
    clear hs hk
    obtain ⟨S5, hS5⟩ : ∃ S, peekS j5 u5 = S := ⟨_, rfl⟩
    have HC5 := hid (peek_calls HS5.out)
    have hq5 := HQ5.out
    rw [hS5] at HC5 hq5
    cases S5 with
    | no cd p =>
     have HF : Hid (∀ wx, Keeps (One B) w5 wx → StartOut w B a c l Q (.panicked [{ v := wrongV cd p, recovered := false }]) wx) := hid (fun wx hk => by
      rw [hq5]
      exact ⟨rfl, HK5.out.trans hk (fresh_refl _ _)⟩)
     clear hq5 hS5
     go_wp2_with fail
     with_reducible refine HC5.out.mono ?_
     rintro e wx ⟨rfl, hk⟩
     have HF1 := hid (HF.out wx hk)
     clear hk
     go_wp2_with fail
     exact ⟨rfl, HF1.out⟩
    | ok x5 j6 u6 =>
     rw [Sx.then_ok] at hq5
     have HQ6 := hid hq5
     have HSS5 := hid hS5
     clear hq5 hS5
     go_wp2_with fail
     with_reducible refine HC5.out.mono ?_
     rintro e w6 ⟨rfl, hs, hk⟩
     have HS6 := hid hs
     have HK6 : Hid (Keeps (One B) w w6) := hid (HK5.out.trans hk (fresh_refl _ _))
     have HE6 : Hid (EnvAt w6) := hid (HE5.out.keeps hk hB)
     have HO6 : Hid (OwnA (mb + 1) w6 v7 ats) := hid (HO5.out.keep hk (fun k hk' hB' => by have h' : k = B := hB'; omega))
     have HM6 : Hid (SetAt w6 mb (ats.map Prod.fst)) := hid (HM5.out.keeps hk (fun h' => hmbB h'))
     clear hs hk
     obtain ⟨rfl, rfl, t', rfl⟩ := peekS_ok HSS5.out
     have HSh := HS6.out.head
     by_cases hx47 : x5 = 47
     ·have hz1 : ((x5.toNat : Int) == 47) = true := by rw [hx47]; rfl
      obtain ⟨z0, z1⟩ := HS6.out.cells
      obtain ⟨jj, hjj⟩ : ∃ jj, j6 + 1 = jj := ⟨_, rfl⟩
      have hadd : IntKind.i64.wrap ((j6 : Int) + 1) = (jj : Int) := by rw [← hjj]; exact IntWalk.i64_in _ (by have := HS6.out.few; omega)
      have f1 := unfrozen_of_block HS6.out.blk 1
      have hp := HS6.out.place (j := jj) (by rw [← hjj]; exact HSh.1) (u := t') (by rw [← hjj]; exact HSh.2.2)
      have HQ9 : Hid (Q = ((mustS 62 jj t').then fun _ k t2 => .ok (2, ats) k t2).then fun q k t2 => .ok (q.1, x0, q.2) k t2) := hid (by rw [HQ6.out, if_pos hx47, hjj]; rfl)
      have HS8 := hid hp.1
      have HO8 := hid (HO6.out.keep hp.2 (fun k hk' hB' => by have h' : k = B := hB'; omega))
      have HK8 : Hid (Keeps (One B) w (w6.setCell ⟨B, 1, none⟩ (.int .i64 (jj : Int)))) := hid (HK6.out.trans hp.2 (fresh_refl _ _))
      obtain ⟨w8, hw8⟩ : ∃ W, w6.setCell ⟨B, 1, none⟩ (.int .i64 (jj : Int)) = W := ⟨_, rfl⟩
      rw [hw8] at HS8 HK8 HO8
      have HW8 := hid hw8
      clear hp hjj hw8 HSh
      go_upto_region 10 with (fail)
      rw [HW8.out]
      obtain ⟨S9, hS9⟩ : ∃ S, mustS 62 jj t' = S := ⟨_, rfl⟩
      have HC9 := hid (must_at HS8.out 62 62 rfl)
      rw [hS9] at HC9
      have hq9 := HQ9.out
      rw [hS9] at hq9
      cases S9 with
      | no cd p =>
       have HF : Hid (∀ wx, Keeps (One B) w8 wx → StartOut w B a c l Q (.panicked [{ v := wrongV cd p, recovered := false }]) wx) := hid (fun wx hk => by
        rw [hq9]
        exact ⟨rfl, HK8.out.trans hk (fresh_refl _ _)⟩)
       clear hq9 hS9
       go_wp2_with fail
       with_reducible refine HC9.out.mono ?_
       rintro e wx ⟨rfl, hk⟩
       have HF1 := hid (HF.out wx hk)
       clear hk
       go_wp2_with fail
       exact ⟨rfl, HF1.out⟩
      | ok x9 j9 u9 =>
       have HF : Hid (∀ wx, ScAt wx B a c l j9 u9 → Keeps (One B) w8 wx → StartOut w B a c l Q (.returned (.tuple #[.int .i64 2, .string (strB x0), v7])) wx) := hid (fun wx hs hk => by
        rw [hq9]
        exact ⟨v7, rfl, (HO8.out.keep hk (fun k hk' hB' => by have h' : k = B := hB'; omega)).older (by omega), hs, HK8.out.trans hk (fresh_refl _ _)⟩)
       clear hq9 hS9
       go_wp2_with fail
       with_reducible refine HC9.out.mono ?_
       rintro e wx ⟨rfl, hs, hk⟩
       have HF1 := hid (HF.out wx hs hk)
       clear hs hk
       go_wp2_with fail
       refine bodyPost_ret (v := .tuple #[.int .i64 2, .string (strB x0), v7]) (by simp [results, Tryz.results107, go_sem]) rfl HF1.out
     ·have hz1 : ((x5.toNat : Int) == 47) = false := by
       simp only [beq_eq_false_iff_ne, ne_eq]
       exact fun h => hx47 (UInt8.toNat_inj.1 (by have : (47 : UInt8).toNat = 47 := rfl; omega))
      by_cases hx62 : x5 = 62
      ·have hz2 : ((x5.toNat : Int) == 62) = true := by rw [hx62]; rfl
       have HQ9 : Hid (Q = ((mustS 62 j6 (x5 :: t')).then fun _ k t2 => .ok (1, ats) k t2).then fun q k t2 => .ok (q.1, x0, q.2) k t2) := hid (by rw [HQ6.out, if_neg hx47, if_pos hx62])
       clear HSh
       obtain ⟨S9, hS9⟩ : ∃ S, mustS 62 j6 (x5 :: t') = S := ⟨_, rfl⟩
       have HC9 := hid (must_at HS6.out 62 62 rfl)
       rw [hS9] at HC9
       have hq9 := HQ9.out
       rw [hS9] at hq9
       cases S9 with
       | no cd p =>
        have HF : Hid (∀ wx, Keeps (One B) w6 wx → StartOut w B a c l Q (.panicked [{ v := wrongV cd p, recovered := false }]) wx) := hid (fun wx hk => by
         rw [hq9]
         exact ⟨rfl, HK6.out.trans hk (fresh_refl _ _)⟩)
        clear hq9 hS9
        go_wp2_with fail
        with_reducible refine HC9.out.mono ?_
        rintro e wx ⟨rfl, hk⟩
        have HF1 := hid (HF.out wx hk)
        clear hk
        go_wp2_with fail
        exact ⟨rfl, HF1.out⟩
       | ok x9 j9 u9 =>
        have HF : Hid (∀ wx, ScAt wx B a c l j9 u9 → Keeps (One B) w6 wx → StartOut w B a c l Q (.returned (.tuple #[.int .i64 1, .string (strB x0), v7])) wx) := hid (fun wx hs hk => by
         rw [hq9]
         exact ⟨v7, rfl, (HO6.out.keep hk (fun k hk' hB' => by have h' : k = B := hB'; omega)).older (by omega), hs, HK6.out.trans hk (fresh_refl _ _)⟩)
        clear hq9 hS9
        go_wp2_with fail
        with_reducible refine HC9.out.mono ?_
        rintro e wx ⟨rfl, hs, hk⟩
        have HF1 := hid (HF.out wx hs hk)
        clear hs hk
        go_wp2_with fail
        refine bodyPost_ret (v := .tuple #[.int .i64 1, .string (strB x0), v7]) (by simp [results, Tryz.results107, go_sem]) rfl HF1.out
      ·have hz2 : ((x5.toNat : Int) == 62) = false := by
        simp only [beq_eq_false_iff_ne, ne_eq]
        exact fun h => hx62 (UInt8.toNat_inj.1 (by have : (62 : UInt8).toNat = 62 := rfl; omega))
       obtain ⟨z0, z1⟩ := HS6.out.cells
       cases x4 with
       | false =>
        have HF : Hid (StartOut w B a c l Q (.panicked [{ v := wrongV 2 j6, recovered := false }]) w6) := hid (by
         rw [HQ6.out, if_neg hx47, if_neg hx62, if_pos rfl]
         exact ⟨rfl, HK6.out⟩)
        clear HSh
        go_wp2_with fail
        exact ⟨rfl, HF.out⟩
       | true =>
        have HQ7 : Hid (Q = (attrS (ats.map Prod.fst) j6 (x5 :: t')).then fun b k t2 => (tagG g (ats ++ [b]) k t2).then fun q k t2 => .ok (q.1, x0, q.2) k t2) := hid (by
         rw [HQ6.out, if_neg hx47, if_neg hx62, if_neg (by decide)]
         cases attrS (ats.map Prod.fst) j6 (x5 :: t') <;> rfl)
        obtain ⟨S7, hS7⟩ : ∃ S, attrS (ats.map Prod.fst) j6 (x5 :: t') = S := ⟨_, rfl⟩
        have HC7 := hid (attr_calls HS6.out HE6.out hB HM6.out hmb15 hmbB (by rw [List.length_map]; omega))
        have hq7 := HQ7.out
        rw [hS7] at HC7 hq7
        cases S7 with
        | no cd p =>
         have HF : Hid (∀ wx, Keeps (Two B mb) w6 wx → StartOut w B a c l Q (.panicked [{ v := wrongV cd p, recovered := false }]) wx) := hid (fun wx hk => by
          rw [hq7]
          exact ⟨rfl, HK6.out.trans hk hfr2⟩)
         clear hq7 hS7 HSh
         go_wp2_with fail
         with_reducible refine HC7.out.mono ?_
         rintro e wx ⟨rfl, hk⟩
         have HF1 := hid (HF.out wx hk)
         clear hk
         go_wp2_with fail
         exact ⟨rfl, HF1.out⟩
        | ok x7 j8 u8 =>
         have hsh := (attrS_fwd1 (ats.map Prod.fst) j6 (x5 :: t')).shorter hS7
         have hbl : (x5 :: t').length ≤ u4.length := by
          obtain ⟨p, hp1, _⟩ := blanksS_fwd j4 u4 _ _ _ HSS4.out
          rw [hp1, List.length_append]
          omega
         rw [Sx.then_ok] at hq7
         have HQ8 := hid hq7
         clear hq7 hS7 HSh
         go_wp2_with fail
         with_reducible refine HC7.out.mono ?_
         rintro e w7 ⟨rfl, hs, hset, hk⟩
         have hown7 := HO6.out.keep hk (O := Two B mb) (fun k hk' hB' => by have h2 : k = B ∨ k = mb := hB'; omega)
         have hk07 : Keeps (One B) w w7 := HK6.out.trans hk hfr2
         obtain ⟨v8, w8, hrun, hown8, hkk⟩ := hown7.append x7 (by have := hset.lt; omega) (by omega)
         have hob : ∀ k, v7.ownBlock = some k → mb + 1 ≤ k := fun k hk' => hown7.new k hk'
         have hk08 : Keeps (One B) w w8 := hk07.trans hkk (fun k hk' => .inr (by have := hob k hk'; omega))
         have HS8 := hid (HS0.out.under2 hs hk08 hkk (fun h' => by have := hob B h'; omega))
         have HM8 : Hid (SetAt w8 mb ((ats ++ [x7]).map Prod.fst)) := hid (by
          rw [List.map_append]
          exact hset.keeps hkk (fun h' => by have := hob mb h'; omega))
         have HO8 := hid hown8
         have HK8 := hid hk08
         have HRUN := hid hrun
         clear hs hset hk hown7 hk07 hrun hown8 hkk hob hk08
         go_wp2_with (at_builtin; refine wpList_step (fun K hK => step_app HRUN.out (.tmp 41) (.tmp 45) rfl rfl rfl rfl (hK _ _ ?_)))
         go_roundg g
         case measure => omega
         case rel => exact ⟨ats ++ [x7], j8, u8, _, rfl, rfl, by omega, by rw [List.length_append, List.length_cons, List.length_nil]; omega, HQ8.out, HO8.out, HM8.out, HS8.out, HK8.out⟩
end Go.Proofs.YtjpkkflhcjjefaaGreatDoor
namespace Go.Proofs.YtjpkkflhcjjefaaGreatDoor
open Go.RowKit Go.Lib Go.Joins
set_option maxHeartbeats 32000000
theorem wp_scope_once {P : Program} {a : Act} {w : World} {Q : Exit → Act → World → Prop} {c rest : Code} (l : Nat) (hf : findLabel c l = some rest)
  (h : c.wp P (Exit.jump l (fun a w => rest.wp P (Exit.jump l (fun _ _ => False) Q) a w) Q) a w) : (Code.scope c).wp P Q a w := by
 refine wp_scope_jumps l (fun a w => rest.wp P (Exit.jump l (fun _ _ => False) Q) a w) (fun _ _ => 0) hf h (fun a w hJ => Code.wp_mono (fun e a w hq => ?_) hJ)
 cases e with
 | goto l' => exact hq.2.elim
 | normal => exact hq
 | exit id => exact hq
 | ret => exact hq
 | panic ch => exact hq
 | outgrown => exact hq
set_option maxRecDepth 100000 in
theorem fold_ascii (i : Nat) (hi : i < 128) (W : World) (hE : EnvAt W) : Calls Tryz.prog 118 #[.int .i32 (i : Int)] W fun e w' => e = .returned (.int .i32 (foldN i : Int)) ∧ w' = W := by
 have hc := hE.fold i hi
 have hf : foldN i < 16384 := by
  unfold foldN; repeat' split
  all_goals omega
 obtain ⟨z, hz⟩ : ∃ z, foldN i = z := ⟨_, rfl⟩
 rw [hz] at hc hf ⊢
 have h1 : ¬ ((i : Int) < 0) := by omega
 have h2 : ¬ ((1114111 : Int) < (i : Int)) := by omega
 have hd1 : decide ((i : Int) < 0) = false := decide_eq_false h1
 have hd2 : decide ((1114111 : Int) < (i : Int)) = false := decide_eq_false h2
 have hw : IntKind.i64.wrap (i : Int) = (i : Int) := IntWalk.i64_in _ (by omega)
 have hw2 : IntKind.i32.wrap (z : Int) = (z : Int) := IntWalk.i32_in _ (by omega)
 have h3 : (i : Int) < 128 := by omega
 have h0 : (0 : Int) ≤ (i : Int) := by omega
 clear hz hE
 go_enter Tryz.func118, Tryz.ntmps118
 go_wp2_with fail
 go_ret
 exact ⟨rfl, rfl⟩
set_option maxRecDepth 100000 in
theorem decodeS_ascii (s : ByteArray) (x : UInt8) (t : List UInt8) (hs : s.data.toList = x :: t) (hx : x.toNat < 128) (W : World) : Calls Tryz.prog 117 #[.string s] W fun e w' => e = .returned (.tuple #[.int .i32 (x.toNat : Int), .int .i64 1]) ∧ w' = W := by
 have hsz : 0 < s.size := by rw [Lib.size_eq, hs]; exact Nat.succ_pos _
 have hg : s[0]'hsz = x := by
  have h := Lib.data_getElem? s 0 hsz
  rw [hs] at h
  exact (Option.some.inj h).symm
 have hne : s.toList.isEmpty = false := by rw [Go.Lib.toList_data, hs]; rfl
 have hz0 : (0 : Int) < (s.size : Int) := by omega
 have hd : decide ((x.toNat : Int) < 128) = true := decide_eq_true (by omega)
 have hw : IntKind.i32.wrap (x.toNat : Int) = (x.toNat : Int) := IntWalk.i32_in _ (by omega)
 clear hs
 go_enter Tryz.func117, Tryz.ntmps117
 go_wp2_with fail
 go_ret2
 exact ⟨rfl, rfl⟩
theorem foldEq_small (x : UInt8) : ∀ y, y ∈ ([120, 109, 108, 117, 116, 102, 45, 56] : List UInt8) → Lib.foldEq x y = (smallS x == y) := by
 intro y hy
 have h : ((List.range 256).all fun n => ([120, 109, 108, 117, 116, 102, 45, 56] : List UInt8).all fun y => Lib.foldEq (UInt8.ofNat n) y == (smallS (UInt8.ofNat n) == y)) = true := by decide +kernel
 have h1 := List.all_eq_true.1 (List.all_eq_true.1 h x.toNat (List.mem_range.2 x.toNat_lt)) y hy
 rw [UInt8.ofNat_toNat] at h1
 exact beq_iff_eq.1 h1
theorem equal_same : ∀ (s m : List UInt8), (∀ y, y ∈ m → y ∈ ([120, 109, 108, 117, 116, 102, 45, 56] : List UInt8)) → Lib.equalFold s m = sameS s m
 | [], [], _ => rfl
 | [], y :: t, _ => rfl
 | x :: s, [], _ => rfl
 | x :: s, y :: t, h => by
  rw [Lib.equalFold, foldEq_small x y (h y (List.mem_cons_self ..)), equal_same s t (fun z hz => h z (List.mem_cons_of_mem _ hz))]
  rfl
end Go.Proofs.YtjpkkflhcjjefaaGreatDoor
namespace Go.Proofs.YtjpkkflhcjjefaaGreatDoor
open Go.RowKit Go.Lib Go.Joins
def goodM : List UInt8 := [120, 109, 108, 117, 116, 102, 45, 56]
set_option maxRecDepth 100000 in
theorem fold_high (ms ts : ByteArray) (m : List UInt8) (hts : ts.data.toList = m) (hm : ∀ y, y ∈ m → y ∈ goodM) (W : World) (hE : EnvAt W) (hs : ms.size ≤ 1073741824) (_ht : ts.size ≤ 10) (hhigh : ∃ (j : Nat) (b : UInt8), ms.data.toList[j]? = some b ∧ 128 ≤ b.toNat) : Calls Tryz.prog 87 #[.string ms, .string ts] W (Leaves (.bool false) W) := by
 have HH := hid hhigh
 have HT := hid (show ∀ (j : Nat) b, ts.data.toList[j]? = some b → b ∈ goodM from fun j b hj => hm b (by rw [← hts]; exact List.mem_of_getElem? hj))
 have HE := hid hE
 obtain ⟨M, hM⟩ : ∃ M : Nat, min (ms.size : Int) (ts.size : Int) = (M : Int) := ⟨min ms.size ts.size, by omega⟩
 have hMs : M ≤ ms.size := by omega
 have hMt : M ≤ ts.size := by omega
 have hMe : M = ms.size ∨ M = ts.size := by omega
 clear hhigh hts hm hE
 go_enter Tryz.func87, Tryz.ntmps87
 go_wp2_with fail
 refine wp_scope_once 0 rfl ?_
 go_wp2_with fail
 go_loopg [5] M (fun g s5 wx => wx = W ∧ ∃ i : Nat, i + g = M ∧ s5 = .int .i64 (i : Int) ∧ ∀ (j : Nat) (b : UInt8), j < i → ms.data.toList[j]? = some b → b.toNat < 128)
 case atStart => exact ⟨rfl, 0, by omega, rfl, fun j b hj => by omega⟩
 case round =>
  obtain ⟨rfl, i, hig, rfl, hinv⟩ := hrel
  have HI := hid hinv
  clear hinv hM
  cases gk with
  | zero =>
   have hiM : ¬ ((i : Int) < (M : Int)) := by omega
   obtain rfl : i = M := by omega
   have hne : ms.size ≠ ts.size := by
    intro he
    obtain ⟨j, b, hj, hb⟩ := HH.out
    have hjl : j < ms.data.toList.length := (List.getElem?_eq_some_iff.1 hj).1
    have := HI.out j b (by rw [← Lib.size_eq] at hjl; omega) hj
    omega
   have hb : ((ms.size : Int) == (ts.size : Int)) = false := beq_eq_false_iff_ne.2 (by omega)
   go_wp2_with fail
   go_ret
   exact ⟨rfl, Below.refl _ _⟩
  | succ g =>
   have hiM : (i : Int) < (M : Int) := by omega
   have hisz : (i : Int) < (ms.size : Int) := by omega
   have hitz : (i : Int) < (ts.size : Int) := by omega
   obtain ⟨x, hx⟩ : ∃ x : UInt8, ms[i]'(by omega) = x := ⟨_, rfl⟩
   obtain ⟨y, hy⟩ : ∃ y : UInt8, ts[i]'(by omega) = y := ⟨_, rfl⟩
   have hxl : ms.data.toList[i]? = some x := by rw [← hx]; exact Lib.data_getElem? ms i (by omega)
   have hyl : ts.data.toList[i]? = some y := by rw [← hy]; exact Lib.data_getElem? ts i (by omega)
   have hyg := HT.out i y hyl
   have hy128 : y.toNat < 128 := by
    have h : ∀ z, z ∈ goodM → z.toNat < 128 := by decide
    exact h y hyg
   have hor : bits .or .u8 (x.toNat : Int) (y.toNat : Int) = ((x.toNat ||| y.toNat : Nat) : Int) := u8_or_nat _ _ x.toNat_lt (by omega)
   have hadd : IntKind.i64.wrap ((i : Int) + 1) = ((i + 1 : Nat) : Int) := IntWalk.i64_in _ (by omega)
   have HX := hid hxl
   have HY := hid hyl
   have HYG := hid hyg
   clear hxl hyl hyg
   by_cases hx128 : x.toNat < 128
   ·have hor128 : ¬ ((128 : Int) ≤ ((x.toNat ||| y.toNat : Nat) : Int)) := by have := Nat.or_lt_two_pow (n := 7) hx128 hy128; omega
    go_wp2_with fail
    all_goals (try simp only [beq_iff_eq, beq_eq_false_iff_ne, ne_eq] at *)
    all_goals first
     | (go_roundg g
        case measure => omega
        case rel => exact ⟨rfl, i + 1, by omega, by first | rfl | simp, fun j b hj hb => by
         by_cases hji : j = i
         ·subst hji
          have := HX.out
          rw [hb] at this
          cases this
          exact hx128
         ·exact HI.out j b (by omega) hb⟩)
     | (go_ret
        exact ⟨rfl, Below.refl _ _⟩)
   ·have hor128 : (128 : Int) ≤ ((x.toNat ||| y.toNat : Nat) : Int) := by have := Nat.left_le_or (n := x.toNat) (m := y.toNat); omega
    obtain ⟨s2, hs2⟩ : ∃ z, ms.extract i ms.size = z := ⟨_, rfl⟩
    obtain ⟨t2, ht2⟩ : ∃ z, ts.extract i ts.size = z := ⟨_, rfl⟩
    have hext : ∀ (b : ByteArray) (j : Nat) (z : UInt8), b.data.toList[j]? = some z → (b.extract j b.size).data.toList = z :: b.data.toList.drop (j + 1) := by
     intro b j z hz
     have hlt := (List.getElem?_eq_some_iff.1 hz).1
     have h1 : (b.extract j b.size).data.toList = b.data.toList.drop j := by
      rw [ByteArray.data_extract, Array.toList_extract, List.extract_eq_take_drop]
      exact List.take_of_length_le (by rw [List.length_drop, Lib.size_eq]; omega)
     rw [h1, List.drop_eq_getElem_cons hlt]
     rw [List.getElem?_eq_getElem hlt] at hz
     rw [Option.some.inj hz]
    have hs2l := hext ms i x HX.out
    have ht2l := hext ts i y HY.out
    rw [hs2] at hs2l
    rw [ht2] at ht2l
    have hs2z : 0 < s2.size := by rw [Lib.size_eq, hs2l]; exact Nat.succ_pos _
    have ht2z : 1 ≤ t2.size := by rw [Lib.size_eq, ht2l]; exact Nat.succ_pos _
    have ht2i : (1 : Int) ≤ (t2.size : Int) := by omega
    have ht2e : ((t2.size : Int) == 0) = false := beq_eq_false_iff_ne.2 (by omega)
    have hD : 128 ≤ (Utf8.decode s2 0).1 := by
     rw [Lib.decode_at]
     refine decodeN_high _ _ _ _ _ ?_
     have : s2.get! 0 = x := by
      have h := Lib.data_getElem? s2 0 hs2z
      rw [hs2l] at h
      have h2 : s2[0]'hs2z = x := (Option.some.inj h).symm
      rw [← h2]
      exact getElem!_pos s2.data 0 hs2z
     rw [this]
     omega
    have HDE := hid (fun w => decodeS_ascii t2 y _ ht2l hy128 w)
    have hfold : foldN y.toNat = y.toNat ∨ (foldN y.toNat ≠ y.toNat ∧ foldN y.toNat < 128 ∧ foldN (foldN y.toNat) = y.toNat) := by
     have h : ∀ z, z ∈ goodM → (foldN z.toNat = z.toNat ∨ (foldN z.toNat ≠ z.toNat ∧ foldN z.toNat < 128 ∧ foldN (foldN z.toNat) = z.toNat)) := by decide
     exact h y HYG.out
    have hin0 : (0 : Int) ≤ (i : Int) := by omega
    have hin1 : (i : Int) ≤ (ms.size : Int) := by omega
    have hin2 : (i : Int) ≤ (ts.size : Int) := by omega
    have hF0 := fun w (hw : EnvAt w) => fold_ascii y.toNat hy128 w hw
    have hF1 := fun w (hw : EnvAt w) (h : foldN y.toNat < 128) => fold_ascii (foldN y.toNat) h w hw
    obtain ⟨D, hDD⟩ : ∃ D, (Utf8.decode s2 0).1 = D := ⟨_, rfl⟩
    have hnx := fun ty => run_next_any (P := Tryz.prog) wr s2 0 ty hs2z
    rw [hDD] at hnx hD
    have HB1 : Hid (Below wr.heap.size wr (wr.iter s2 (0 + (Utf8.decode s2 0).2))) := hid ((Below.refl _ _).alloc (Nat.le_refl _) _)
    obtain ⟨w1, hw1⟩ : ∃ z, wr.iter s2 (0 + (Utf8.decode s2 0).2) = z := ⟨_, rfl⟩
    rw [hw1] at hnx HB1
    obtain ⟨yn, hyn⟩ : ∃ z, y.toNat = z := ⟨_, rfl⟩
    rw [hyn] at hfold hF0 hF1 hy128 HDE hor hor128
    have hne1 : ((yn : Int) == (D : Int)) = false := beq_eq_false_iff_ne.2 (by omega)
    have hlt1 : (yn : Int) < (D : Int) := by omega
    have hge1 : ¬ ((D : Int) < 128) := by omega
    obtain ⟨fn, hfn⟩ : ∃ z, foldN yn = z := ⟨_, rfl⟩
    rw [hfn] at hfold hF0 hF1
    have HF0 := hid hF0
    have HF1 := hid hF1
    clear hF0 hF1 hfn hw1 hDD hext hs2l ht2l
    go_wp2_with fail
    go_step3
    refine ⟨rfl, ?_⟩
    go_wp2_with fail
    refine wp_loop_rounds 1 ?_
    rw [rounds_succ]
    go_wp2_with fail
    with_reducible refine (HDE.out _).mono ?_
    rintro e wy ⟨rfl, hw⟩
    have hw' := hw.symm
    subst hw'
    clear hw
    go_wp2_with fail
    have HEW : Hid (EnvAt w1) := hid (HE.out.below HB1.out)
    with_reducible refine (HF0.out _ HEW.out).mono ?_
    rintro e wz ⟨rfl, hw⟩
    have hw' := hw.symm
    subst hw'
    clear hw
    rcases hfold with he | ⟨he1, he2, he3⟩
    ·have hq1 : ((fn : Int) != (yn : Int)) = false := by rw [he]; exact bne_self_eq_false _
     have hq2 : ((fn : Int) == (D : Int)) = false := by rw [he]; exact hne1
     clear he
     go_wp2_with fail
     refine wp_loop_rounds 1 ?_
     rw [rounds_succ]
     go_wp2_with fail
     go_ret
     exact ⟨rfl, HB1.out⟩
    ·have hq1 : ((fn : Int) != (yn : Int)) = true := by rw [bne_iff_ne]; omega
     have hq2 : (fn : Int) < (D : Int) := by omega
     have hq4 : ((yn : Int) != (yn : Int)) = false := bne_self_eq_false _
     have HF2 := hid (HF1.out _ HEW.out he2)
     rw [he3] at HF2
     clear he1 he2 he3
     go_wp2_with fail
     refine wp_loop_rounds 2 ?_
     rw [rounds_succ]
     go_wp2_with fail
     with_reducible refine HF2.out.mono ?_
     rintro e wz ⟨rfl, hw⟩
     have hw' := hw.symm
     subst hw'
     clear hw
     go_wp2_with fail
     rw [rounds_succ]
     go_wp2_with fail
     go_ret
     exact ⟨rfl, HB1.out⟩
theorem sameS_low {s m : List UInt8} (hm : ∀ y, y ∈ m → y ∈ goodM) (h : sameS s m = true) : ∀ b, b ∈ s → b.toNat < 128 := by
 intro b hb
 have h2 : s.map smallS = m := beq_iff_eq.1 h
 have h3 : smallS b ∈ m := by rw [← h2]; exact List.mem_map_of_mem hb
 have h4 : ∀ z, z ∈ goodM → z.toNat < 128 := by decide
 have h5 := h4 _ (hm _ h3)
 unfold smallS at h5
 split at h5
 ·rename_i hr
  have := UInt8.le_iff_toNat_le.1 hr.2
  have h90 : (90 : UInt8).toNat = 90 := rfl
  omega
 ·exact h5
theorem fold_calls (ms : ByteArray) (m : List UInt8) (hm : m = [120, 109, 108] ∨ m = [117, 116, 102, 45, 56]) (W : World) (hE : EnvAt W) (hs : ms.size ≤ 1073741824) : Calls Tryz.prog 87 #[.string ms, .string (strB m)] W (Leaves (.bool (sameS ms.data.toList m)) W) := by
 have hg : ∀ y, y ∈ m → y ∈ goodM := by
  rcases hm with rfl | rfl <;> decide
 by_cases hh : ∃ (j : Nat) (b : UInt8), ms.data.toList[j]? = some b ∧ 128 ≤ b.toNat
 ·have hf : sameS ms.data.toList m = false := by
   cases hc : sameS ms.data.toList m with
   | false => rfl
   | true =>
    obtain ⟨j, b, hj, hb⟩ := hh
    have := sameS_low hg hc b (List.mem_of_getElem? hj)
    omega
  rw [hf]
  exact fold_high ms (strB m) m (strB_list m) hg W hE hs (by rw [strB_size]; rcases hm with rfl | rfl <;> decide) hh
 ·have hlow : ∀ (j : Nat) b, ms.data.toList[j]? = some b → b.toNat < 128 := fun j b hj => by
   rcases Nat.lt_or_ge b.toNat 128 with h | h
   ·exact h
   ·exact absurd ⟨j, b, hj, h⟩ hh
  have h := Tryz.strings_EqualFold ms (strB m) W (by omega) hlow (fun j b hj => by
   rw [strB_list] at hj
   have h4 : ∀ z, z ∈ goodM → z.toNat < 128 := by decide
   exact h4 _ (hg _ (List.mem_of_getElem? hj)))
  rw [strB_list, equal_same _ _ (fun y hy => hg y hy)] at h
  refine h.mono ?_
  rintro e w' ⟨rfl, rfl⟩
  exact ⟨rfl, Below.refl _ _⟩
end Go.Proofs.YtjpkkflhcjjefaaGreatDoor
namespace Go.Proofs.YtjpkkflhcjjefaaGreatDoor
open Go.RowKit Go.Lib Go.Joins
set_option maxHeartbeats 32000000
set_option maxRecDepth 100000 in
theorem pi_calls {w : World} {B : Nat} {a : Option Addr} {c : Nat} {l : List UInt8} {i : Nat} {t : List UInt8} (h : ScAt w B a c l i t) (hE : EnvAt w) (hB : 15 ≤ B) : Calls Tryz.prog 105 #[.pointer (some ⟨B, 0, none⟩)] w (ScOut w B a c l (fun x : List UInt8 × List UInt8 => .tuple #[.string (strB x.1), .string (strB x.2)]) (piS i t)) := by
 obtain ⟨Q, hQ⟩ : ∃ Q, piS i t = Q := ⟨_, rfl⟩
 rw [hQ]
 have HS0 := hid h
 have HE0 := hid hE
 have HK0 : Hid (Keeps (One B) w w) := hid (Keeps.refl _ _)
 have HQ0 : Hid (Q = (nameS i t).then fun nm j t =>
  if sameS nm [120, 109, 108] = true then .no 2 i
  else (blanksS j t).then fun b j t =>
   if b = true then (upToS [63, 62] j t).then fun u k t2 => .ok (nm, u) k t2
   else (mustS 63 j t).then fun _ j t => (mustS 62 j t).then fun _ k t2 => .ok (nm, []) k t2) := hid (by rw [← hQ]; rfl)
 obtain ⟨z0, z1⟩ := h.cells
 clear h hE hQ
 go_enter Tryz.func105, Tryz.ntmps105
 obtain ⟨S0, hS0⟩ : ∃ S, nameS i t = S := ⟨_, rfl⟩
 have HC0 := hid (name_calls HS0.out HE0.out hB)
 have hq0 := HQ0.out
 rw [hS0] at HC0 hq0
 cases S0 with
 | no cd p =>
  have HF : Hid (∀ wx, Keeps (One B) w wx → ScOut w B a c l (fun x : List UInt8 × List UInt8 => .tuple #[.string (strB x.1), .string (strB x.2)]) Q (.panicked [{ v := wrongV cd p, recovered := false }]) wx) := hid (fun wx hk => by
   rw [hq0]
   exact ⟨rfl, HK0.out.trans hk (fresh_refl _ _)⟩)
  clear hq0 hS0
  go_wp2_with fail
  with_reducible refine HC0.out.mono ?_
  rintro e wx ⟨rfl, hk⟩
  have HF1 := hid (HF.out wx hk)
  clear hk
  go_wp2_with fail
  exact ⟨rfl, HF1.out⟩
 | ok x0 j1 u1 =>
  rw [Sx.then_ok] at hq0
  have HQ1 := hid hq0
  have HSS0 := hid hS0
  clear hq0 hS0
  go_wp2_with fail
  with_reducible refine HC0.out.mono ?_
  rintro e w1 ⟨rfl, hs, hk⟩
  have HS1 := hid hs
  have HK1 : Hid (Keeps (One B) w w1) := hid (HK0.out.trans hk (fresh_refl _ _))
  have HE1 : Hid (EnvAt w1) := hid (HE0.out.keeps hk hB)
  clear hs hk
  have HL := HS1.out.len
  have hxl := nameS_short HSS0.out
  have h0 := HS0.out.len
  have h1 := HS0.out.few
  have HFD := hid (fold_calls (strB x0) [120, 109, 108] (.inl rfl) w1 HE1.out (by rw [strB_size]; omega))
  rw [strB_list] at HFD
  have he : strB [120, 109, 108] = ⟨#[120, 109, 108]⟩ := rfl
  rw [he] at HFD
  clear he hxl h0 h1 HL
  obtain ⟨sm, hsm⟩ : ∃ s, sameS x0 [120, 109, 108] = s := ⟨_, rfl⟩
  rw [hsm] at HFD
  cases sm with
  | true =>
   have HF : Hid (∀ wx, Below w1.heap.size w1 wx → ScOut w B a c l (fun x : List UInt8 × List UInt8 => .tuple #[.string (strB x.1), .string (strB x.2)]) Q (.panicked [{ v := wrongV 2 i, recovered := false }]) wx) := hid (fun wx hb => by
    rw [HQ1.out, if_pos hsm]
    exact ⟨rfl, HK1.out.trans (keeps_below hb Non) (fresh_non _ _)⟩)
   clear hsm
   go_wp2_with fail
   with_reducible refine HFD.out.mono ?_
   rintro e wx ⟨rfl, hb⟩
   have HF1 := hid (HF.out wx hb)
   clear hb
   go_wp2_with fail
   exact ⟨rfl, HF1.out⟩
  | false =>
   have HQ2 : Hid (Q = (blanksS j1 u1).then fun b j t =>
     if b = true then (upToS [63, 62] j t).then fun u k t2 => .ok (x0, u) k t2
     else (mustS 63 j t).then fun _ j t => (mustS 62 j t).then fun _ k t2 => .ok (x0, []) k t2) := hid (by
    rw [HQ1.out, if_neg (by rw [hsm]; decide)])
   clear hsm
   go_wp2_with fail
   with_reducible refine HFD.out.mono ?_
   rintro e w2 ⟨rfl, hb⟩
   have HS2 := hid (HS1.out.keep hb)
   have HE2 := hid (HE1.out.below hb)
   have HK2 : Hid (Keeps (One B) w w2) := hid (HK1.out.trans (keeps_below hb Non) (fresh_non _ _))
   clear hb
   obtain ⟨S2, hS2⟩ : ∃ S, blanksS j1 u1 = S := ⟨_, rfl⟩
   have HC2 := hid (blanks_calls HS2.out)
   have hq2 := HQ2.out
   rw [hS2] at HC2 hq2
   cases S2 with
   | no cd p =>
    have HF : Hid (∀ wx, Keeps (One B) w2 wx → ScOut w B a c l (fun x : List UInt8 × List UInt8 => .tuple #[.string (strB x.1), .string (strB x.2)]) Q (.panicked [{ v := wrongV cd p, recovered := false }]) wx) := hid (fun wx hk => by
     rw [hq2]
     exact ⟨rfl, HK2.out.trans hk (fresh_refl _ _)⟩)
    clear hq2 hS2
    go_wp2_with fail
    with_reducible refine HC2.out.mono ?_
    rintro e wx ⟨rfl, hk⟩
    have HF1 := hid (HF.out wx hk)
    clear hk
    go_wp2_with fail
    exact ⟨rfl, HF1.out⟩
   | ok x2 j3 u3 =>
    rw [Sx.then_ok] at hq2
    have HQ3 := hid hq2
    have HSS2 := hid hS2
    clear hq2 hS2
    go_wp2_with fail
    with_reducible refine HC2.out.mono ?_
    rintro e w3 ⟨rfl, hs, hk⟩
    have HS3 := hid hs
    have HK3 : Hid (Keeps (One B) w w3) := hid (HK2.out.trans hk (fresh_refl _ _))
    have HE3 : Hid (EnvAt w3) := hid (HE2.out.keeps hk hB)
    clear hs hk
    cases x2 with
    | true =>
     have HQ3 : Hid (Q = (upToS [63, 62] j3 u3).then fun u k t2 => .ok (x0, u) k t2) := hid (by rw [HQ3.out, if_pos rfl])
     obtain ⟨S3, hS3⟩ : ∃ S, upToS [63, 62] j3 u3 = S := ⟨_, rfl⟩
     have HC3 := hid (upTo_at HS3.out HE3.out hB [63, 62] ⟨#[63, 62]⟩ rfl (by decide) (by decide))
     have hq3 := HQ3.out
     rw [hS3] at HC3 hq3
     cases S3 with
     | no cd p =>
      have HF : Hid (∀ wx, Keeps (One B) w3 wx → ScOut w B a c l (fun x : List UInt8 × List UInt8 => .tuple #[.string (strB x.1), .string (strB x.2)]) Q (.panicked [{ v := wrongV cd p, recovered := false }]) wx) := hid (fun wx hk => by
       rw [hq3]
       exact ⟨rfl, HK3.out.trans hk (fresh_refl _ _)⟩)
      clear hq3 hS3
      go_wp2_with fail
      with_reducible refine HC3.out.mono ?_
      rintro e wx ⟨rfl, hk⟩
      have HF1 := hid (HF.out wx hk)
      clear hk
      go_wp2_with fail
      exact ⟨rfl, HF1.out⟩
     | ok x3 j4 u4 =>
      rw [Sx.then_ok] at hq3
      have HQ4 := hid hq3
      have HSS3 := hid hS3
      clear hq3 hS3
      go_wp2_with fail
      with_reducible refine HC3.out.mono ?_
      rintro e w4 ⟨rfl, hs, hk⟩
      have HS4 := hid hs
      have HK4 : Hid (Keeps (One B) w w4) := hid (HK3.out.trans hk (fresh_refl _ _))
      have HE4 : Hid (EnvAt w4) := hid (HE3.out.keeps hk hB)
      clear hs hk
      have HF : Hid (ScOut w B a c l (fun x : List UInt8 × List UInt8 => .tuple #[.string (strB x.1), .string (strB x.2)]) Q (.returned (.tuple #[.string (strB x0), .string (strB x3)])) w4) := hid (by
       rw [HQ4.out]
       exact ⟨rfl, HS4.out, HK4.out⟩)
      go_wp2_with fail
      go_ret2
      exact HF.out
    | false =>
     have HQ3 : Hid (Q = (mustS 63 j3 u3).then fun _ j t => (mustS 62 j t).then fun _ k t2 => .ok (x0, []) k t2) := hid (by rw [HQ3.out, if_neg (by decide)])
     obtain ⟨S3, hS3⟩ : ∃ S, mustS 63 j3 u3 = S := ⟨_, rfl⟩
     have HC3 := hid (must_at HS3.out 63 63 rfl)
     have hq3 := HQ3.out
     rw [hS3] at HC3 hq3
     cases S3 with
     | no cd p =>
      have HF : Hid (∀ wx, Keeps (One B) w3 wx → ScOut w B a c l (fun x : List UInt8 × List UInt8 => .tuple #[.string (strB x.1), .string (strB x.2)]) Q (.panicked [{ v := wrongV cd p, recovered := false }]) wx) := hid (fun wx hk => by
       rw [hq3]
       exact ⟨rfl, HK3.out.trans hk (fresh_refl _ _)⟩)
      clear hq3 hS3
      go_wp2_with fail
      with_reducible refine HC3.out.mono ?_
      rintro e wx ⟨rfl, hk⟩
      have HF1 := hid (HF.out wx hk)
      clear hk
      go_wp2_with fail
      exact ⟨rfl, HF1.out⟩
     | ok x3 j4 u4 =>
      rw [Sx.then_ok] at hq3
      have HQ4 := hid hq3
      have HSS3 := hid hS3
      clear hq3 hS3
      go_wp2_with fail
      with_reducible refine HC3.out.mono ?_
      rintro e w4 ⟨rfl, hs, hk⟩
      have HS4 := hid hs
      have HK4 : Hid (Keeps (One B) w w4) := hid (HK3.out.trans hk (fresh_refl _ _))
      have HE4 : Hid (EnvAt w4) := hid (HE3.out.keeps hk hB)
      clear hs hk
      obtain ⟨S4, hS4⟩ : ∃ S, mustS 62 j4 u4 = S := ⟨_, rfl⟩
      have HC4 := hid (must_at HS4.out 62 62 rfl)
      have hq4 := HQ4.out
      rw [hS4] at HC4 hq4
      cases S4 with
      | no cd p =>
       have HF : Hid (∀ wx, Keeps (One B) w4 wx → ScOut w B a c l (fun x : List UInt8 × List UInt8 => .tuple #[.string (strB x.1), .string (strB x.2)]) Q (.panicked [{ v := wrongV cd p, recovered := false }]) wx) := hid (fun wx hk => by
        rw [hq4]
        exact ⟨rfl, HK4.out.trans hk (fresh_refl _ _)⟩)
       clear hq4 hS4
       go_wp2_with fail
       with_reducible refine HC4.out.mono ?_
       rintro e wx ⟨rfl, hk⟩
       have HF1 := hid (HF.out wx hk)
       clear hk
       go_wp2_with fail
       exact ⟨rfl, HF1.out⟩
      | ok x4 j5 u5 =>
       rw [Sx.then_ok] at hq4
       have HQ5 := hid hq4
       have HSS4 := hid hS4
       clear hq4 hS4
       go_wp2_with fail
       with_reducible refine HC4.out.mono ?_
       rintro e w5 ⟨rfl, hs, hk⟩
       have HS5 := hid hs
       have HK5 : Hid (Keeps (One B) w w5) := hid (HK4.out.trans hk (fresh_refl _ _))
       have HE5 : Hid (EnvAt w5) := hid (HE4.out.keeps hk hB)
       clear hs hk
       have HF : Hid (ScOut w B a c l (fun x : List UInt8 × List UInt8 => .tuple #[.string (strB x.1), .string (strB x.2)]) Q (.returned (.tuple #[.string (strB x0), .string ⟨#[]⟩])) w5) := hid (by
        rw [HQ5.out]
        exact ⟨rfl, HS5.out, HK5.out⟩)
       go_wp2_with fail
       go_ret2
       exact HF.out
end Go.Proofs.YtjpkkflhcjjefaaGreatDoor
