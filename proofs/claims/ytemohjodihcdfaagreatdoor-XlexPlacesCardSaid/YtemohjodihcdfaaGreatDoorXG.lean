/-
  A start tag or an empty one, told by a document's scan. Conditions: the laid variables hold what their initialisers lay; the scan lies in memory, in a block behind theirs.
-/
import Derived.Test.YtemohjodihcdfaaGreatDoorXL
namespace Go.Proofs.YtemohjodihcdfaaGreatDoor
open Go.RowKit Go.Lib Go.Joins

/-- What a start tag's step leaves: its attributes lie in a slice that is new. -/
def StartOut (w : World) (B : Nat) (a : Option Addr) (c : Nat) (l : List UInt8) : Sx (Nat × List UInt8 × List (List UInt8 × List UInt8)) → Ending → World → Prop
  | .ok x i t, e, w' => ∃ v, e = .returned (.tuple #[.int .i64 (x.1 : Int), .string (strB x.2.1), v]) ∧ OwnA w.heap.size w' v x.2.2 ∧ ScAt w' B a c l i t ∧ Keeps (One B) w w'
  | .no cd p, e, w' => e = .panicked [{ v := wrongV cd p, recovered := false }] ∧ Keeps (One B) w w'
theorem Sx.then_then {α β γ : Type} (s : Sx α) (f : α → Nat → List UInt8 → Sx β) (g : β → Nat → List UInt8 → Sx γ) : (s.then f).then g = s.then fun x i r => (f x i r).then g := by cases s <;> rfl
theorem ScAt.under2 {w w1 w2 : World} {B : Nat} {a : Option Addr} {c : Nat} {l : List UInt8} {i j : Nat} {t u : List UInt8} {O : Nat → Prop} (h0 : ScAt w B a c l i t) (h1 : ScAt w1 B a c l j u) (hk2 : Keeps (One B) w w2) (hk : Keeps O w1 w2) (hO : ¬ O B) : ScAt w2 B a c l j u :=
  h0.moved hk2 j ((hk.block B (lt_of_block h1.blk) hO).trans h1.blk) h1.fits u h1.left

set_option maxRecDepth 100000 in
set_option maxHeartbeats 16000000 in
theorem start_calls {w : World} {B : Nat} {a : Option Addr} {c : Nat} {l : List UInt8} {i : Nat} {t : List UInt8} (h : ScAt w B a c l i t) (hE : EnvAt w) (hB : 15 ≤ B) : Calls Tryz.prog 64 #[.pointer (some ⟨B, 0, none⟩)] w (StartOut w B a c l (startS i t)) := by
  obtain ⟨Q, hQ⟩ : ∃ Q, startS i t = Q := ⟨_, rfl⟩
  rw [hQ]
  have hQ2 : Q = (nameS i t).then fun nm j t => (tagG (t.length + 1) [] j t).then fun q k t2 => .ok (q.1, nm, q.2) k t2 := by rw [← hQ]; rfl
  have HQ0 := Lib.hid hQ2
  have HS0 := Lib.hid h
  have HE0 := Lib.hid hE
  have HK0 : Hid (Keeps (One B) w w) := Lib.hid (Keeps.refl _ _)
  clear h hE hQ hQ2
  go_enter Tryz.func64, Tryz.ntmps64
  obtain ⟨S0, hS0⟩ : ∃ S, nameS i t = S := ⟨_, rfl⟩
  have HC0 := Lib.hid (name_calls HS0.out HE0.out hB)
  have hq0 := HQ0.out
  rw [hS0] at HC0 hq0
  cases S0 with
  | no cd p =>
    have HF : Hid (∀ wx, Keeps (One B) w wx → StartOut w B a c l Q (.panicked [{ v := wrongV cd p, recovered := false }]) wx) := Lib.hid (fun wx hk => by
      rw [hq0]
      exact ⟨rfl, HK0.out.trans hk (fresh_refl _ _)⟩)
    clear hq0 hS0
    go_wp2_with fail
    with_reducible refine HC0.out.mono ?_
    rintro e wx ⟨rfl, hk⟩
    have HF1 := Lib.hid (HF.out wx hk)
    clear hk
    go_wp2_with fail
    exact ⟨rfl, HF1.out⟩
  | ok x0 j1 u1 =>
    rw [Sx.then_ok] at hq0
    have HQ1 := Lib.hid hq0
    have HSS0 := Lib.hid hS0
    clear hq0 hS0
    go_wp2_with fail
    with_reducible refine HC0.out.mono ?_
    rintro e w1 ⟨rfl, hs, hk⟩
    have HS1 := Lib.hid hs
    have HK1 : Hid (Keeps (One B) w w1) := Lib.hid (HK0.out.trans hk (fresh_refl _ _))
    have HE1 : Hid (EnvAt w1) := Lib.hid (HE0.out.keeps hk hB)

    clear hs hk
    have hmk : (Instr.makeMap 117 none).run Tryz.prog w1 = .ok (.map (some w1.heap.size)) (w1.alloc (.map #[] 0)) := by kernel_rfl
    go_upto_block 0 with (fail)
    clear hmk
    obtain ⟨mb, hmb⟩ : ∃ mb, w1.heap.size = mb := ⟨_, rfl⟩
    have hba : Below w1.heap.size w1 (w1.alloc (.map #[] 0)) := (Below.refl _ _).alloc (Nat.le_refl _) _
    have hmd := SetAt.made w1
    have hsz : (w1.alloc (.map #[] 0)).heap.size = mb + 1 := by rw [← hmb]; simp
    obtain ⟨w2, hw2⟩ : ∃ W, w1.alloc (.map #[] 0) = W := ⟨_, rfl⟩
    rw [hw2] at hba hmd hsz ⊢
    rw [hmb] at hmd ⊢
    have hn0 : w.heap.size ≤ mb := by rw [← hmb]; exact HK1.out.size
    have hBn : B < w.heap.size := lt_of_block HS0.out.blk
    have hmbB : mb ≠ B := by omega
    have hmb15 : 15 ≤ mb := by omega
    have hfr2 : Fresh (One B) w.heap.size (Two B mb) := fun k hk => by rcases hk with h' | h'; exact .inl h'; exact .inr (by omega)
    have HS2 := Lib.hid (HS1.out.keep hba)
    have HK2 : Hid (Keeps (One B) w w2) := Lib.hid (HK1.out.trans (keeps_below hba Non) (fresh_non _ _))
    have HM2 := Lib.hid hmd
    obtain ⟨G, hG⟩ : ∃ G, u1.length = G := ⟨_, rfl⟩
    have hG65 : G ≤ 65536 := by have := HS1.out.len; have := HS1.out.few; omega
    have HG := Lib.hid hG
    have HW2S := Lib.hid hsz
    clear hba hmd hsz hmb hw2 hG
    go_wp2_with fail
    go_loopg [5, 7] (G + 1) (fun gk s5 s7 wr => ∃ ats j u v, s5 = .int .i64 1 ∧ v = s7 ∧ u.length + 1 ≤ gk ∧ ats.length + gk ≤ G + 1 ∧ Q = ((tagG gk ats j u).then fun q k t2 => .ok (q.1, x0, q.2) k t2) ∧ OwnA (mb + 1) wr v ats ∧ SetAt wr mb (ats.map Prod.fst) ∧ ScAt wr B a c l j u ∧ Keeps (One B) w wr)
    case atStart => exact ⟨[], j1, u1, _, rfl, rfl, by rw [HG.out]; exact Nat.le_refl _, by show 0 + (G + 1) ≤ _; omega, by rw [← HG.out]; exact HQ1.out, OwnA.nil _ _, HM2.out, HS2.out, HK2.out⟩
    case round =>
      obtain ⟨ats, j4, u4, v7, rfl, rfl, hg, hats, hq, hown, hset, hs, hk⟩ := hrel
      obtain ⟨g, rfl⟩ : ∃ g, gk = g + 1 := ⟨gk - 1, by omega⟩
      have HQ4 : Hid (Q = (blanksS j4 u4).then fun apart j t => (peekS j t).then fun x _ _ =>
          (if x = 47 then (mustS 62 (j + 1) (t.drop 1)).then fun _ k t2 => .ok (2, ats) k t2
          else if x = 62 then (mustS 62 j t).then fun _ k t2 => .ok (1, ats) k t2
          else if apart = false then .no 2 j
          else (attrS (ats.map Prod.fst) j t).then fun a k t2 => tagG g (ats ++ [a]) k t2).then fun q k t2 => .ok (q.1, x0, q.2) k t2) := Lib.hid (by
        rw [hq, tagG]
        simp only [Sx.then_then])
      have HS4 := Lib.hid hs
      have HK4 := Lib.hid hk
      have HE4 : Hid (EnvAt wr) := Lib.hid (HE0.out.keeps hk hB)
      have HM4 := Lib.hid hset
      have HO4 := Lib.hid hown
      clear hq hs hk hset hown
      obtain ⟨S4, hS4⟩ : ∃ S, blanksS j4 u4 = S := ⟨_, rfl⟩
      have HC4 := Lib.hid (blanks_calls HS4.out)
      have hq4 := HQ4.out
      rw [hS4] at HC4 hq4
      cases S4 with
      | no cd p =>
        have HF : Hid (∀ wx, Keeps (One B) wr wx → StartOut w B a c l Q (.panicked [{ v := wrongV cd p, recovered := false }]) wx) := Lib.hid (fun wx hk => by
          rw [hq4]
          exact ⟨rfl, HK4.out.trans hk (fresh_refl _ _)⟩)
        clear hq4 hS4
        go_wp2_with fail
        with_reducible refine HC4.out.mono ?_
        rintro e wx ⟨rfl, hk⟩
        have HF1 := Lib.hid (HF.out wx hk)
        clear hk
        go_wp2_with fail
        exact ⟨rfl, HF1.out⟩
      | ok x4 j5 u5 =>
        rw [Sx.then_ok] at hq4
        have HQ5 := Lib.hid hq4
        have HSS4 := Lib.hid hS4
        clear hq4 hS4
        go_wp2_with fail
        with_reducible refine HC4.out.mono ?_
        rintro e w5 ⟨rfl, hs, hk⟩
        have HS5 := Lib.hid hs
        have HK5 : Hid (Keeps (One B) w w5) := Lib.hid (HK4.out.trans hk (fresh_refl _ _))
        have HE5 : Hid (EnvAt w5) := Lib.hid (HE4.out.keeps hk hB)
        have HO5 : Hid (OwnA (mb + 1) w5 v7 ats) := Lib.hid (HO4.out.keep hk (fun k hk' hB' => by have h' : k = B := hB'; omega))
        have HM5 : Hid (SetAt w5 mb (ats.map Prod.fst)) := Lib.hid (HM4.out.keeps hk (fun h' => hmbB h'))
        clear hs hk
        obtain ⟨S5, hS5⟩ : ∃ S, peekS j5 u5 = S := ⟨_, rfl⟩
        have HC5 := Lib.hid (peek_calls HS5.out)
        have hq5 := HQ5.out
        rw [hS5] at HC5 hq5
        cases S5 with
        | no cd p =>
          have HF : Hid (∀ wx, Keeps (One B) w5 wx → StartOut w B a c l Q (.panicked [{ v := wrongV cd p, recovered := false }]) wx) := Lib.hid (fun wx hk => by
            rw [hq5]
            exact ⟨rfl, HK5.out.trans hk (fresh_refl _ _)⟩)
          clear hq5 hS5
          go_wp2_with fail
          with_reducible refine HC5.out.mono ?_
          rintro e wx ⟨rfl, hk⟩
          have HF1 := Lib.hid (HF.out wx hk)
          clear hk
          go_wp2_with fail
          exact ⟨rfl, HF1.out⟩
        | ok x5 j6 u6 =>
          rw [Sx.then_ok] at hq5
          have HQ6 := Lib.hid hq5
          have HSS5 := Lib.hid hS5
          clear hq5 hS5
          go_wp2_with fail
          with_reducible refine HC5.out.mono ?_
          rintro e w6 ⟨rfl, hs, hk⟩
          have HS6 := Lib.hid hs
          have HK6 : Hid (Keeps (One B) w w6) := Lib.hid (HK5.out.trans hk (fresh_refl _ _))
          have HE6 : Hid (EnvAt w6) := Lib.hid (HE5.out.keeps hk hB)
          have HO6 : Hid (OwnA (mb + 1) w6 v7 ats) := Lib.hid (HO5.out.keep hk (fun k hk' hB' => by have h' : k = B := hB'; omega))
          have HM6 : Hid (SetAt w6 mb (ats.map Prod.fst)) := Lib.hid (HM5.out.keeps hk (fun h' => hmbB h'))
          clear hs hk
          obtain ⟨rfl, rfl, t', rfl⟩ := peekS_ok HSS5.out
          have HSh := HS6.out.head
          by_cases hx47 : x5 = 47
          · have hz1 : ((x5.toNat : Int) == 47) = true := by rw [hx47]; rfl
            obtain ⟨z0, z1⟩ := HS6.out.cells
            obtain ⟨jj, hjj⟩ : ∃ jj, j6 + 1 = jj := ⟨_, rfl⟩
            have hadd : IntKind.i64.wrap ((j6 : Int) + 1) = (jj : Int) := by rw [← hjj]; exact IntWalk.i64_in _ (by have := HS6.out.few; omega)
            have f1 := unfrozen_of_block HS6.out.blk 1
            have hp := HS6.out.place (j := jj) (by rw [← hjj]; exact HSh.1) (u := t') (by rw [← hjj]; exact HSh.2.2)
            have HQ9 : Hid (Q = ((mustS 62 jj t').then fun _ k t2 => .ok (2, ats) k t2).then fun q k t2 => .ok (q.1, x0, q.2) k t2) := Lib.hid (by rw [HQ6.out, if_pos hx47, hjj]; rfl)
            have HS8 := Lib.hid hp.1
            have HO8 := Lib.hid (HO6.out.keep hp.2 (fun k hk' hB' => by have h' : k = B := hB'; omega))
            have HK8 : Hid (Keeps (One B) w (w6.setCell ⟨B, 1, none⟩ (.int .i64 (jj : Int)))) := Lib.hid (HK6.out.trans hp.2 (fresh_refl _ _))
            obtain ⟨w8, hw8⟩ : ∃ W, w6.setCell ⟨B, 1, none⟩ (.int .i64 (jj : Int)) = W := ⟨_, rfl⟩
            rw [hw8] at HS8 HK8 HO8
            have HW8 := Lib.hid hw8
            clear hp hjj hw8 HSh
            go_upto_region 10 with (fail)
            rw [HW8.out]
            obtain ⟨S9, hS9⟩ : ∃ S, mustS 62 jj t' = S := ⟨_, rfl⟩
            have HC9 := Lib.hid (must_at HS8.out 62 62 rfl)
            rw [hS9] at HC9
            have hq9 := HQ9.out
            rw [hS9] at hq9
            cases S9 with
            | no cd p =>
              have HF : Hid (∀ wx, Keeps (One B) w8 wx → StartOut w B a c l Q (.panicked [{ v := wrongV cd p, recovered := false }]) wx) := Lib.hid (fun wx hk => by
                rw [hq9]
                exact ⟨rfl, HK8.out.trans hk (fresh_refl _ _)⟩)
              clear hq9 hS9
              go_wp2_with fail
              with_reducible refine HC9.out.mono ?_
              rintro e wx ⟨rfl, hk⟩
              have HF1 := Lib.hid (HF.out wx hk)
              clear hk
              go_wp2_with fail
              exact ⟨rfl, HF1.out⟩
            | ok x9 j9 u9 =>
              have HF : Hid (∀ wx, ScAt wx B a c l j9 u9 → Keeps (One B) w8 wx → StartOut w B a c l Q (.returned (.tuple #[.int .i64 2, .string (strB x0), v7])) wx) := Lib.hid (fun wx hs hk => by
                rw [hq9]
                exact ⟨v7, rfl, (HO8.out.keep hk (fun k hk' hB' => by have h' : k = B := hB'; omega)).older (by omega), hs, HK8.out.trans hk (fresh_refl _ _)⟩)
              clear hq9 hS9
              go_wp2_with fail
              with_reducible refine HC9.out.mono ?_
              rintro e wx ⟨rfl, hs, hk⟩
              have HF1 := Lib.hid (HF.out wx hs hk)
              clear hs hk
              go_wp2_with fail
              refine bodyPost_ret (v := .tuple #[.int .i64 2, .string (strB x0), v7]) (by simp [results, Tryz.results64, go_sem]) rfl HF1.out
          · have hz1 : ((x5.toNat : Int) == 47) = false := by
              simp only [beq_eq_false_iff_ne, ne_eq]
              exact fun h => hx47 (UInt8.toNat_inj.1 (by have : (47 : UInt8).toNat = 47 := rfl; omega))
            by_cases hx62 : x5 = 62
            · have hz2 : ((x5.toNat : Int) == 62) = true := by rw [hx62]; rfl
              have HQ9 : Hid (Q = ((mustS 62 j6 (x5 :: t')).then fun _ k t2 => .ok (1, ats) k t2).then fun q k t2 => .ok (q.1, x0, q.2) k t2) := Lib.hid (by rw [HQ6.out, if_neg hx47, if_pos hx62])
              clear HSh
              obtain ⟨S9, hS9⟩ : ∃ S, mustS 62 j6 (x5 :: t') = S := ⟨_, rfl⟩
              have HC9 := Lib.hid (must_at HS6.out 62 62 rfl)
              rw [hS9] at HC9
              have hq9 := HQ9.out
              rw [hS9] at hq9
              cases S9 with
              | no cd p =>
                have HF : Hid (∀ wx, Keeps (One B) w6 wx → StartOut w B a c l Q (.panicked [{ v := wrongV cd p, recovered := false }]) wx) := Lib.hid (fun wx hk => by
                  rw [hq9]
                  exact ⟨rfl, HK6.out.trans hk (fresh_refl _ _)⟩)
                clear hq9 hS9
                go_wp2_with fail
                with_reducible refine HC9.out.mono ?_
                rintro e wx ⟨rfl, hk⟩
                have HF1 := Lib.hid (HF.out wx hk)
                clear hk
                go_wp2_with fail
                exact ⟨rfl, HF1.out⟩
              | ok x9 j9 u9 =>
                have HF : Hid (∀ wx, ScAt wx B a c l j9 u9 → Keeps (One B) w6 wx → StartOut w B a c l Q (.returned (.tuple #[.int .i64 1, .string (strB x0), v7])) wx) := Lib.hid (fun wx hs hk => by
                  rw [hq9]
                  exact ⟨v7, rfl, (HO6.out.keep hk (fun k hk' hB' => by have h' : k = B := hB'; omega)).older (by omega), hs, HK6.out.trans hk (fresh_refl _ _)⟩)
                clear hq9 hS9
                go_wp2_with fail
                with_reducible refine HC9.out.mono ?_
                rintro e wx ⟨rfl, hs, hk⟩
                have HF1 := Lib.hid (HF.out wx hs hk)
                clear hs hk
                go_wp2_with fail
                refine bodyPost_ret (v := .tuple #[.int .i64 1, .string (strB x0), v7]) (by simp [results, Tryz.results64, go_sem]) rfl HF1.out
            · have hz2 : ((x5.toNat : Int) == 62) = false := by
                simp only [beq_eq_false_iff_ne, ne_eq]
                exact fun h => hx62 (UInt8.toNat_inj.1 (by have : (62 : UInt8).toNat = 62 := rfl; omega))
              obtain ⟨z0, z1⟩ := HS6.out.cells
              cases x4 with
              | false =>
                have HF : Hid (StartOut w B a c l Q (.panicked [{ v := wrongV 2 j6, recovered := false }]) w6) := Lib.hid (by
                  rw [HQ6.out, if_neg hx47, if_neg hx62, if_pos rfl]
                  exact ⟨rfl, HK6.out⟩)
                clear HSh
                go_wp2_with fail
                exact ⟨rfl, HF.out⟩
              | true =>
                have HQ7 : Hid (Q = (attrS (ats.map Prod.fst) j6 (x5 :: t')).then fun b k t2 => (tagG g (ats ++ [b]) k t2).then fun q k t2 => .ok (q.1, x0, q.2) k t2) := Lib.hid (by
                  rw [HQ6.out, if_neg hx47, if_neg hx62, if_neg (by decide)]
                  cases attrS (ats.map Prod.fst) j6 (x5 :: t') <;> rfl)
                obtain ⟨S7, hS7⟩ : ∃ S, attrS (ats.map Prod.fst) j6 (x5 :: t') = S := ⟨_, rfl⟩
                have HC7 := Lib.hid (attr_calls HS6.out HE6.out hB HM6.out hmb15 hmbB (by rw [List.length_map]; omega))
                have hq7 := HQ7.out
                rw [hS7] at HC7 hq7
                cases S7 with
                | no cd p =>
                  have HF : Hid (∀ wx, Keeps (Two B mb) w6 wx → StartOut w B a c l Q (.panicked [{ v := wrongV cd p, recovered := false }]) wx) := Lib.hid (fun wx hk => by
                    rw [hq7]
                    exact ⟨rfl, HK6.out.trans hk hfr2⟩)
                  clear hq7 hS7 HSh
                  go_wp2_with fail
                  with_reducible refine HC7.out.mono ?_
                  rintro e wx ⟨rfl, hk⟩
                  have HF1 := Lib.hid (HF.out wx hk)
                  clear hk
                  go_wp2_with fail
                  exact ⟨rfl, HF1.out⟩
                | ok x7 j8 u8 =>
                  have hsh := (attrS_fwd1 (ats.map Prod.fst) j6 (x5 :: t')).shorter hS7
                  have hbl : (x5 :: t').length ≤ u4.length := by
                    obtain ⟨p, hp1, _⟩ := blanksS_fwd j4 u4 _ _ _ HSS4.out
                    rw [hp1, List.length_append]
                    omega
                  rw [Sx.then_ok] at hq7
                  have HQ8 := Lib.hid hq7
                  clear hq7 hS7 HSh
                  go_wp2_with fail
                  with_reducible refine HC7.out.mono ?_
                  rintro e w7 ⟨rfl, hs, hset, hk⟩
                  have hown7 := HO6.out.keep hk (O := Two B mb) (fun k hk' hB' => by have h2 : k = B ∨ k = mb := hB'; omega)
                  have hk07 : Keeps (One B) w w7 := HK6.out.trans hk hfr2
                  obtain ⟨v8, w8, hrun, hown8, hkk⟩ := hown7.append x7 (by have := hset.lt; omega) (by omega)
                  have hob : ∀ k, v7.ownBlock = some k → mb + 1 ≤ k := fun k hk' => hown7.new k hk'
                  have hk08 : Keeps (One B) w w8 := hk07.trans hkk (fun k hk' => .inr (by have := hob k hk'; omega))
                  have HS8 := Lib.hid (HS0.out.under2 hs hk08 hkk (fun h' => by have := hob B h'; omega))
                  have HM8 : Hid (SetAt w8 mb ((ats ++ [x7]).map Prod.fst)) := Lib.hid (by
                    rw [List.map_append]
                    exact hset.keeps hkk (fun h' => by have := hob mb h'; omega))
                  have HO8 := Lib.hid hown8
                  have HK8 := Lib.hid hk08
                  have HRUN := Lib.hid hrun
                  clear hs hset hk hown7 hk07 hrun hown8 hkk hob hk08
                  go_wp2_with (at_builtin; refine wpList_step (fun K hK => step_app HRUN.out (.tmp 41) (.tmp 45) rfl rfl rfl rfl (hK _ _ ?_)))
                  go_roundg g
                  case measure => omega
                  case rel => exact ⟨ats ++ [x7], j8, u8, _, rfl, rfl, by omega, by rw [List.length_append, List.length_cons, List.length_nil]; omega, HQ8.out, HO8.out, HM8.out, HS8.out, HK8.out⟩

end Go.Proofs.YtemohjodihcdfaaGreatDoor
