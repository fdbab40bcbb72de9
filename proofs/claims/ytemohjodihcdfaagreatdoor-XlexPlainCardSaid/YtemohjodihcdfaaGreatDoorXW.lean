/-
  Characters, and a value in quotes, told by a document's scan. Conditions: the laid variables hold what their initialisers lay; the scan lies in memory, in a block behind theirs.
-/
import Derived.Test.YtemohjodihcdfaaGreatDoorXM
namespace Go.Proofs.YtemohjodihcdfaaGreatDoor
open Go.RowKit Go.Lib Go.Joins

set_option maxRecDepth 100000 in
set_option maxHeartbeats 8000000 in
theorem chars9_calls {w : World} {B : Nat} {a : Option Addr} {c : Nat} {l : List UInt8} {i : Nat} {t : List UInt8} (h : ScAt w B a c l i t) (hE : EnvAt w) (hB : 15 ≤ B) : Calls Tryz.prog 59 #[.pointer (some ⟨B, 0, none⟩)] w (ScOut w B a c l (fun x => .string (strB x)) (mixS none i t)) := by
  obtain ⟨Q, hQ⟩ : ∃ Q, mixS none i t = Q := ⟨_, rfl⟩
  rw [hQ]
  have hb : Below w.heap.size w (w.alloc (.cells #[.pointer (some ⟨B, 0, none⟩)] 66)) := (Below.refl _ _).alloc (Nat.le_refl _) _
  have hBl := lt_of_block h.blk
  have hcl : (w.alloc (.cells #[.pointer (some ⟨B, 0, none⟩)] 66)).cell? ⟨w.heap.size, 0, none⟩ = some (.pointer (some ⟨B, 0, none⟩)) := by simp
  have HM := Lib.hid (mixC_calls (h.keep hb) (hE.below hb) hB w.heap.size (by omega) hcl)
  rw [hQ] at HM
  obtain ⟨w1, hw1⟩ : ∃ W, w.alloc (.cells #[.pointer (some ⟨B, 0, none⟩)] 66) = W := ⟨_, rfl⟩
  rw [hw1] at HM hb hcl
  have HK := Lib.hid (keeps_below hb (One B))
  have HW := Lib.hid hw1
  obtain ⟨cb, hcb⟩ : ∃ cb, w.heap.size = cb := ⟨_, rfl⟩
  have HCB := Lib.hid hcb
  rw [hcb] at HM hcl
  have he : strB [60] = ⟨#[60]⟩ := rfl
  rw [he] at HM
  clear h hE hQ hb hw1 hBl hcb he
  go_enter Tryz.func59, Tryz.ntmps59
  go_upto_region 1 with (fail)
  rw [HW.out, HCB.out]
  cases Q with
  | no cd p =>
    go_wp2_with fail
    with_reducible refine HM.out.mono ?_
    rintro e w2 ⟨rfl, hk⟩
    have HF : Hid (ScOut w B a c l (fun x => .string (strB x)) (.no cd p) (.panicked [{ v := wrongV cd p, recovered := false }]) w2) := Lib.hid ⟨rfl, HK.out.trans hk (fresh_refl _ _)⟩
    clear hk
    go_wp2_with fail
    exact ⟨rfl, HF.out⟩
  | ok x j u =>
    go_wp2_with fail
    with_reducible refine HM.out.mono ?_
    rintro e w2 ⟨rfl, hs, hk⟩
    have HF : Hid (ScOut w B a c l (fun x => .string (strB x)) (.ok x j u) (.returned (.string (strB x))) w2) := Lib.hid ⟨rfl, hs, HK.out.trans hk (fresh_refl _ _)⟩
    clear hs hk
    go_wp2_with fail
    go_ret
    exact HF.out

set_option maxRecDepth 100000 in
set_option maxHeartbeats 8000000 in
theorem value9_calls {w : World} {B : Nat} {a : Option Addr} {c : Nat} {l : List UInt8} {i : Nat} {t : List UInt8} (h : ScAt w B a c l i t) (hE : EnvAt w) (hB : 15 ≤ B) : Calls Tryz.prog 116 #[.pointer (some ⟨B, 0, none⟩)] w (ScOut w B a c l (fun x => .string (strB x)) (valueS i t)) := by
  obtain ⟨Q, hQ⟩ : ∃ Q, valueS i t = Q := ⟨_, rfl⟩
  rw [hQ]
  have HS0 := Lib.hid h
  have HE0 := Lib.hid hE
  have HK0 : Hid (Keeps (One B) w w) := Lib.hid (Keeps.refl _ _)
  have HQ0 : Hid (Q = (peekS i t).then fun x _ _ => if x ≠ 34 ∧ x ≠ 39 then .no 2 i else (mixS (some x) (i + 1) (t.drop 1)).then fun u j t => (mustS x j t).then fun _ k t2 => .ok u k t2) := Lib.hid (by rw [← hQ]; rfl)
  clear h hE hQ
  go_enter Tryz.func116, Tryz.ntmps116
  obtain ⟨S0, hS0⟩ : ∃ S, peekS i t = S := ⟨_, rfl⟩
  have HC0 := Lib.hid (peek_calls HS0.out)
  have hq0 := HQ0.out
  rw [hS0] at HC0 hq0
  cases S0 with
  | no cd p =>
    have HF : Hid (∀ wx, Keeps (One B) w wx → ScOut w B a c l (fun x => .string (strB x)) Q (.panicked [{ v := wrongV cd p, recovered := false }]) wx) := Lib.hid (fun wx hk => by
      rw [hq0]
      exact ⟨rfl, HK0.out.trans hk (fresh_refl _ _)⟩)
    clear hq0 hS0
    go_wp2_with fail
    with_reducible refine HC0.out.mono ?_
    rintro e wx ⟨rfl, hk⟩
    have HF1 := Lib.hid (HF.out wx hk)
    clear hk
    go_wp2_with fail
    exact ⟨rfl, HF1.out⟩
  | ok x0 j1 u1 =>
    rw [Sx.then_ok] at hq0
    have HQ1 := Lib.hid hq0
    have HSS0 := Lib.hid hS0
    clear hq0 hS0
    go_wp2_with fail
    with_reducible refine HC0.out.mono ?_
    rintro e w1 ⟨rfl, hs, hk⟩
    have HS1 := Lib.hid hs
    have HK1 : Hid (Keeps (One B) w w1) := Lib.hid (HK0.out.trans hk (fresh_refl _ _))
    have HE1 : Hid (EnvAt w1) := Lib.hid (HE0.out.keeps hk hB)
    clear hs hk
    obtain ⟨rfl, rfl, t', rfl⟩ := peekS_ok HSS0.out
    by_cases hx : x0 = 34
    · subst hx
      have hd := HS1.out.head
      obtain ⟨jj, hjj⟩ : ∃ jj, j1 + 1 = jj := ⟨_, rfl⟩
      have hadd : IntKind.i64.wrap ((j1 : Int) + 1) = (jj : Int) := by rw [← hjj]; exact IntWalk.i64_in _ (by have := HS1.out.few; omega)
      have f1 := unfrozen_of_block HS1.out.blk 1
      obtain ⟨z0, z1⟩ := HS1.out.cells
      have hp := HS1.out.place (j := jj) (by rw [← hjj]; exact hd.1) (u := t') (by rw [← hjj]; exact hd.2.2)
      have HQ2 : Hid (Q = (mixS (some 34) jj t').then fun u j t => (mustS 34 j t).then fun _ k t2 => .ok u k t2) := Lib.hid (by rw [HQ1.out, ← hjj]; rfl)
      have HS2 := Lib.hid hp.1
      have HK2 : Hid (Keeps (One B) w (w1.setCell ⟨B, 1, none⟩ (.int .i64 (jj : Int)))) := Lib.hid (HK1.out.trans hp.2 (fresh_refl _ _))
      have HE2 : Hid (EnvAt (w1.setCell ⟨B, 1, none⟩ (.int .i64 (jj : Int)))) := Lib.hid (HE1.out.keeps hp.2 hB)
      have HMX := Lib.hid (mixV_calls HS2.out HE2.out hB 34 (by decide))
      have he : strB [60, 34] = ⟨#[60]⟩ ++ Utf8.encode 34 := by kernel_rfl
      rw [he] at HMX
      obtain ⟨w2, hw2⟩ : ∃ W, w1.setCell ⟨B, 1, none⟩ (.int .i64 (jj : Int)) = W := ⟨_, rfl⟩
      rw [hw2] at HS2 HK2 HE2 HMX
      have HW2 := Lib.hid hw2
      clear hd hp he hw2 hjj
      go_upto_region 5 with (fail)
      rw [HW2.out]
      obtain ⟨S2, hS2⟩ : ∃ S, mixS (some 34) jj t' = S := ⟨_, rfl⟩
      have HC2 := Lib.hid (HMX.out)
      have hq2 := HQ2.out
      rw [hS2] at HC2 hq2
      cases S2 with
      | no cd p =>
        have HF : Hid (∀ wx, Keeps (One B) w2 wx → ScOut w B a c l (fun x => .string (strB x)) Q (.panicked [{ v := wrongV cd p, recovered := false }]) wx) := Lib.hid (fun wx hk => by
          rw [hq2]
          exact ⟨rfl, HK2.out.trans hk (fresh_refl _ _)⟩)
        clear hq2 hS2
        go_wp2_with fail
        with_reducible refine HC2.out.mono ?_
        rintro e wx ⟨rfl, hk⟩
        have HF1 := Lib.hid (HF.out wx hk)
        clear hk
        go_wp2_with fail
        exact ⟨rfl, HF1.out⟩
      | ok x2 j3 u3 =>
        rw [Sx.then_ok] at hq2
        have HQ3 := Lib.hid hq2
        have HSS2 := Lib.hid hS2
        clear hq2 hS2
        go_wp2_with fail
        with_reducible refine HC2.out.mono ?_
        rintro e w3 ⟨rfl, hs, hk⟩
        have HS3 := Lib.hid hs
        have HK3 : Hid (Keeps (One B) w w3) := Lib.hid (HK2.out.trans hk (fresh_refl _ _))
        have HE3 : Hid (EnvAt w3) := Lib.hid (HE2.out.keeps hk hB)
        clear hs hk
        obtain ⟨S3, hS3⟩ : ∃ S, mustS 34 j3 u3 = S := ⟨_, rfl⟩
        have HC3 := Lib.hid (must_at HS3.out 34 34 rfl)
        have hq3 := HQ3.out
        rw [hS3] at HC3 hq3
        cases S3 with
        | no cd p =>
          have HF : Hid (∀ wx, Keeps (One B) w3 wx → ScOut w B a c l (fun x => .string (strB x)) Q (.panicked [{ v := wrongV cd p, recovered := false }]) wx) := Lib.hid (fun wx hk => by
            rw [hq3]
            exact ⟨rfl, HK3.out.trans hk (fresh_refl _ _)⟩)
          clear hq3 hS3
          go_wp2_with fail
          with_reducible refine HC3.out.mono ?_
          rintro e wx ⟨rfl, hk⟩
          have HF1 := Lib.hid (HF.out wx hk)
          clear hk
          go_wp2_with fail
          exact ⟨rfl, HF1.out⟩
        | ok x3 j4 u4 =>
          rw [Sx.then_ok] at hq3
          have HQ4 := Lib.hid hq3
          have HSS3 := Lib.hid hS3
          clear hq3 hS3
          go_wp2_with fail
          with_reducible refine HC3.out.mono ?_
          rintro e w4 ⟨rfl, hs, hk⟩
          have HS4 := Lib.hid hs
          have HK4 : Hid (Keeps (One B) w w4) := Lib.hid (HK3.out.trans hk (fresh_refl _ _))
          have HE4 : Hid (EnvAt w4) := Lib.hid (HE3.out.keeps hk hB)
          clear hs hk
          have HF : Hid (ScOut w B a c l (fun x => .string (strB x)) Q (.returned (.string (strB x2))) w4) := Lib.hid (by
            rw [HQ4.out]
            exact ⟨rfl, HS4.out, HK4.out⟩)
          go_wp2_with fail
          go_ret
          exact HF.out
    · by_cases hx2 : x0 = 39
      · have hx := hx2
        subst hx
        have hd := HS1.out.head
        obtain ⟨jj, hjj⟩ : ∃ jj, j1 + 1 = jj := ⟨_, rfl⟩
        have hadd : IntKind.i64.wrap ((j1 : Int) + 1) = (jj : Int) := by rw [← hjj]; exact IntWalk.i64_in _ (by have := HS1.out.few; omega)
        have f1 := unfrozen_of_block HS1.out.blk 1
        obtain ⟨z0, z1⟩ := HS1.out.cells
        have hp := HS1.out.place (j := jj) (by rw [← hjj]; exact hd.1) (u := t') (by rw [← hjj]; exact hd.2.2)
        have HQ2 : Hid (Q = (mixS (some 39) jj t').then fun u j t => (mustS 39 j t).then fun _ k t2 => .ok u k t2) := Lib.hid (by rw [HQ1.out, ← hjj]; rfl)
        have HS2 := Lib.hid hp.1
        have HK2 : Hid (Keeps (One B) w (w1.setCell ⟨B, 1, none⟩ (.int .i64 (jj : Int)))) := Lib.hid (HK1.out.trans hp.2 (fresh_refl _ _))
        have HE2 : Hid (EnvAt (w1.setCell ⟨B, 1, none⟩ (.int .i64 (jj : Int)))) := Lib.hid (HE1.out.keeps hp.2 hB)
        have HMX := Lib.hid (mixV_calls HS2.out HE2.out hB 39 (by decide))
        have he : strB [60, 39] = ⟨#[60]⟩ ++ Utf8.encode 39 := by kernel_rfl
        rw [he] at HMX
        obtain ⟨w2, hw2⟩ : ∃ W, w1.setCell ⟨B, 1, none⟩ (.int .i64 (jj : Int)) = W := ⟨_, rfl⟩
        rw [hw2] at HS2 HK2 HE2 HMX
        have HW2 := Lib.hid hw2
        clear hd hp he hw2 hjj
        go_upto_region 5 with (fail)
        rw [HW2.out]
        obtain ⟨S2, hS2⟩ : ∃ S, mixS (some 39) jj t' = S := ⟨_, rfl⟩
        have HC2 := Lib.hid (HMX.out)
        have hq2 := HQ2.out
        rw [hS2] at HC2 hq2
        cases S2 with
        | no cd p =>
          have HF : Hid (∀ wx, Keeps (One B) w2 wx → ScOut w B a c l (fun x => .string (strB x)) Q (.panicked [{ v := wrongV cd p, recovered := false }]) wx) := Lib.hid (fun wx hk => by
            rw [hq2]
            exact ⟨rfl, HK2.out.trans hk (fresh_refl _ _)⟩)
          clear hq2 hS2
          go_wp2_with fail
          with_reducible refine HC2.out.mono ?_
          rintro e wx ⟨rfl, hk⟩
          have HF1 := Lib.hid (HF.out wx hk)
          clear hk
          go_wp2_with fail
          exact ⟨rfl, HF1.out⟩
        | ok x2 j3 u3 =>
          rw [Sx.then_ok] at hq2
          have HQ3 := Lib.hid hq2
          have HSS2 := Lib.hid hS2
          clear hq2 hS2
          go_wp2_with fail
          with_reducible refine HC2.out.mono ?_
          rintro e w3 ⟨rfl, hs, hk⟩
          have HS3 := Lib.hid hs
          have HK3 : Hid (Keeps (One B) w w3) := Lib.hid (HK2.out.trans hk (fresh_refl _ _))
          have HE3 : Hid (EnvAt w3) := Lib.hid (HE2.out.keeps hk hB)
          clear hs hk
          obtain ⟨S3, hS3⟩ : ∃ S, mustS 39 j3 u3 = S := ⟨_, rfl⟩
          have HC3 := Lib.hid (must_at HS3.out 39 39 rfl)
          have hq3 := HQ3.out
          rw [hS3] at HC3 hq3
          cases S3 with
          | no cd p =>
            have HF : Hid (∀ wx, Keeps (One B) w3 wx → ScOut w B a c l (fun x => .string (strB x)) Q (.panicked [{ v := wrongV cd p, recovered := false }]) wx) := Lib.hid (fun wx hk => by
              rw [hq3]
              exact ⟨rfl, HK3.out.trans hk (fresh_refl _ _)⟩)
            clear hq3 hS3
            go_wp2_with fail
            with_reducible refine HC3.out.mono ?_
            rintro e wx ⟨rfl, hk⟩
            have HF1 := Lib.hid (HF.out wx hk)
            clear hk
            go_wp2_with fail
            exact ⟨rfl, HF1.out⟩
          | ok x3 j4 u4 =>
            rw [Sx.then_ok] at hq3
            have HQ4 := Lib.hid hq3
            have HSS3 := Lib.hid hS3
            clear hq3 hS3
            go_wp2_with fail
            with_reducible refine HC3.out.mono ?_
            rintro e w4 ⟨rfl, hs, hk⟩
            have HS4 := Lib.hid hs
            have HK4 : Hid (Keeps (One B) w w4) := Lib.hid (HK3.out.trans hk (fresh_refl _ _))
            have HE4 : Hid (EnvAt w4) := Lib.hid (HE3.out.keeps hk hB)
            clear hs hk
            have HF : Hid (ScOut w B a c l (fun x => .string (strB x)) Q (.returned (.string (strB x2))) w4) := Lib.hid (by
              rw [HQ4.out]
              exact ⟨rfl, HS4.out, HK4.out⟩)
            go_wp2_with fail
            go_ret
            exact HF.out
      · have hz1 : ((x0.toNat : Int) != 34) = true := by
          simp only [bne_iff_ne, ne_eq]
          exact fun h => hx (UInt8.toNat_inj.1 (by have : (34 : UInt8).toNat = 34 := rfl; omega))
        have hz2 : ((x0.toNat : Int) != 39) = true := by
          simp only [bne_iff_ne, ne_eq]
          exact fun h => hx2 (UInt8.toNat_inj.1 (by have : (39 : UInt8).toNat = 39 := rfl; omega))
        obtain ⟨z0, z1⟩ := HS1.out.cells
        have HF : Hid (ScOut w B a c l (fun x => .string (strB x)) Q (.panicked [{ v := wrongV 2 j1, recovered := false }]) w1) := Lib.hid (by
          rw [HQ1.out, if_pos ⟨hx, hx2⟩]
          exact ⟨rfl, HK1.out⟩)
        go_wp2_with fail
        exact ⟨rfl, HF.out⟩

end Go.Proofs.YtemohjodihcdfaaGreatDoor
