/-
  A comment, and an end tag, told by a document's scan. Conditions: the laid variables hold what their initialisers lay; the scan lies in memory, in a block behind theirs.
-/
import Derived.Test.YtjappbfldjflnaaGreatDoorXO
namespace Go.Proofs.YtjappbfldjflnaaGreatDoor
open Go.RowKit Go.Lib Go.Joins

theorem peek_calls {w : World} {B : Nat} {a : Option Addr} {c : Nat} {l : List UInt8} {i : Nat} {t : List UInt8} (h : ScAt w B a c l i t) : Calls Tryz.prog 73 #[.pointer (some ⟨B, 0, none⟩)] w (ScOut w B a c l (fun x : UInt8 => .int .u8 (x.toNat : Int)) (peekS i t)) := by
  cases t with
  | nil =>
    refine (peek_end h).mono ?_
    rintro e w' ⟨rfl, k, rfl⟩
    exact ⟨rfl, (Keeps.refl _ _).drewN k⟩
  | cons x t =>
    refine (peek_ok h).mono ?_
    rintro e w' ⟨rfl, k, rfl⟩
    exact ⟨rfl, h.drawn k, (Keeps.refl _ _).drewN k⟩
theorem peekS_ok {i : Nat} {t : List UInt8} {x : UInt8} {j : Nat} {u : List UInt8} (h : peekS i t = .ok x j u) : j = i ∧ u = t ∧ ∃ t', t = x :: t' := by
  cases t with
  | nil => cases h
  | cons y t => cases h; exact ⟨rfl, rfl, _, rfl⟩
theorem upTo_at {w : World} {B : Nat} {a : Option Addr} {c : Nat} {l : List UInt8} {i : Nat} {t : List UInt8} (h : ScAt w B a c l i t) (hE : EnvAt w) (hB : 15 ≤ B) (m : List UInt8) (ms : ByteArray) (hms : strB m = ms) (hm : m ≠ []) (hml : m.length ≤ 1000) : Calls Tryz.prog 42 #[.pointer (some ⟨B, 0, none⟩), .string ms] w (ScOut w B a c l (fun x => .string (strB x)) (upToS m i t)) := by
  rw [← hms]
  exact upTo_calls h hE hB m hm hml
theorem opens_at {w : World} {B : Nat} {a : Option Addr} {c : Nat} {l : List UInt8} {i : Nat} {t : List UInt8} (h : ScAt w B a c l i t) (m : List UInt8) (ms : ByteArray) (hms : strB m = ms) (hml : m.length ≤ 1000) : Calls Tryz.prog 44 #[.pointer (some ⟨B, 0, none⟩), .string ms] w (ScOut w B a c l (fun x : Bool => .bool x) (opensS m i t)) := by
  rw [← hms]
  exact opens_calls h m hml
theorem upToS_place {m : List UInt8} {i : Nat} {t x : List UInt8} {j : Nat} {u : List UInt8} (h : upToS m i t = .ok x j u) : i + m.length ≤ j := by
  unfold upToS at h
  cases hc : cutS m t with
  | none => rw [hc] at h; cases h
  | some q => rw [hc] at h; cases h; omega
theorem must_at {w : World} {B : Nat} {a : Option Addr} {c : Nat} {l : List UInt8} {i : Nat} {t : List UInt8} (h : ScAt w B a c l i t) (b : UInt8) (y : Int) (hy : (b.toNat : Int) = y) : Calls Tryz.prog 76 #[.pointer (some ⟨B, 0, none⟩), .int .u8 y] w (ScOut w B a c l (fun _ : Unit => .tuple #[]) (mustS b i t)) := by
  rw [← hy]
  exact must_calls h b

set_option maxRecDepth 100000 in
set_option maxHeartbeats 8000000 in
theorem endTag_calls {w : World} {B : Nat} {a : Option Addr} {c : Nat} {l : List UInt8} {i : Nat} {t : List UInt8} (h : ScAt w B a c l i t) (hE : EnvAt w) (hB : 15 ≤ B) : Calls Tryz.prog 47 #[.pointer (some ⟨B, 0, none⟩)] w (ScOut w B a c l (fun x => .string (strB x)) (endTagS i t)) := by
  obtain ⟨Q, hQ⟩ : ∃ Q, endTagS i t = Q := ⟨_, rfl⟩
  rw [hQ]
  have HS0 := Lib.hid h
  have HE0 := Lib.hid hE
  have HK0 : Hid (Keeps (One B) w w) := Lib.hid (Keeps.refl _ _)
  have HQ0 : Hid (Q = (nameS i t).then fun nm j t => (blanksS j t).then fun _ j t => (mustS 62 j t).then fun _ k t2 => .ok nm k t2) := Lib.hid (by rw [← hQ]; rfl)
  clear h hE hQ
  go_enter Tryz.func47, Tryz.ntmps47
  obtain ⟨S0, hS0⟩ : ∃ S, nameS i t = S := ⟨_, rfl⟩
  have HC0 := Lib.hid (name_calls HS0.out HE0.out hB)
  have hq0 := HQ0.out
  rw [hS0] at HC0 hq0
  cases S0 with
  | no cd p =>
    have HF : Hid (∀ wx, Keeps (One B) w wx → ScOut w B a c l (fun x => .string (strB x)) Q (.panicked [{ v := wrongV cd p, recovered := false }]) wx) := Lib.hid (fun wx hk => by
      rw [hq0]
      exact ⟨rfl, HK0.out.trans hk (fresh_refl _ _)⟩)
    clear hq0 hS0
    go_wp2_with fail
    with_reducible refine HC0.out.mono ?_
    rintro e wx ⟨rfl, hk⟩
    have HF1 := Lib.hid (HF.out wx hk)
    clear hk
    go_wp2_with fail
    exact ⟨rfl, HF1.out⟩
  | ok x0 j1 u1 =>
    rw [Sx.then_ok] at hq0
    have HQ1 := Lib.hid hq0
    have HSS0 := Lib.hid hS0
    clear hq0 hS0
    go_wp2_with fail
    with_reducible refine HC0.out.mono ?_
    rintro e w1 ⟨rfl, hs, hk⟩
    have HS1 := Lib.hid hs
    have HK1 : Hid (Keeps (One B) w w1) := Lib.hid (HK0.out.trans hk (fresh_refl _ _))
    have HE1 : Hid (EnvAt w1) := Lib.hid (HE0.out.keeps hk hB)
    clear hs hk
    obtain ⟨S1, hS1⟩ : ∃ S, blanksS j1 u1 = S := ⟨_, rfl⟩
    have HC1 := Lib.hid (blanks_calls HS1.out)
    have hq1 := HQ1.out
    rw [hS1] at HC1 hq1
    cases S1 with
    | no cd p =>
      have HF : Hid (∀ wx, Keeps (One B) w1 wx → ScOut w B a c l (fun x => .string (strB x)) Q (.panicked [{ v := wrongV cd p, recovered := false }]) wx) := Lib.hid (fun wx hk => by
        rw [hq1]
        exact ⟨rfl, HK1.out.trans hk (fresh_refl _ _)⟩)
      clear hq1 hS1
      go_wp2_with fail
      with_reducible refine HC1.out.mono ?_
      rintro e wx ⟨rfl, hk⟩
      have HF1 := Lib.hid (HF.out wx hk)
      clear hk
      go_wp2_with fail
      exact ⟨rfl, HF1.out⟩
    | ok x1 j2 u2 =>
      rw [Sx.then_ok] at hq1
      have HQ2 := Lib.hid hq1
      have HSS1 := Lib.hid hS1
      clear hq1 hS1
      go_wp2_with fail
      with_reducible refine HC1.out.mono ?_
      rintro e w2 ⟨rfl, hs, hk⟩
      have HS2 := Lib.hid hs
      have HK2 : Hid (Keeps (One B) w w2) := Lib.hid (HK1.out.trans hk (fresh_refl _ _))
      have HE2 : Hid (EnvAt w2) := Lib.hid (HE1.out.keeps hk hB)
      clear hs hk
      obtain ⟨S2, hS2⟩ : ∃ S, mustS 62 j2 u2 = S := ⟨_, rfl⟩
      have HC2 := Lib.hid (must_at HS2.out 62 62 rfl)
      have hq2 := HQ2.out
      rw [hS2] at HC2 hq2
      cases S2 with
      | no cd p =>
        have HF : Hid (∀ wx, Keeps (One B) w2 wx → ScOut w B a c l (fun x => .string (strB x)) Q (.panicked [{ v := wrongV cd p, recovered := false }]) wx) := Lib.hid (fun wx hk => by
          rw [hq2]
          exact ⟨rfl, HK2.out.trans hk (fresh_refl _ _)⟩)
        clear hq2 hS2
        go_wp2_with fail
        with_reducible refine HC2.out.mono ?_
        rintro e wx ⟨rfl, hk⟩
        have HF1 := Lib.hid (HF.out wx hk)
        clear hk
        go_wp2_with fail
        exact ⟨rfl, HF1.out⟩
      | ok x2 j3 u3 =>
        rw [Sx.then_ok] at hq2
        have HQ3 := Lib.hid hq2
        have HSS2 := Lib.hid hS2
        clear hq2 hS2
        go_wp2_with fail
        with_reducible refine HC2.out.mono ?_
        rintro e w3 ⟨rfl, hs, hk⟩
        have HS3 := Lib.hid hs
        have HK3 : Hid (Keeps (One B) w w3) := Lib.hid (HK2.out.trans hk (fresh_refl _ _))
        have HE3 : Hid (EnvAt w3) := Lib.hid (HE2.out.keeps hk hB)
        clear hs hk
        have HF : Hid (ScOut w B a c l (fun x => .string (strB x)) Q (.returned (.string (strB x0))) w3) := Lib.hid (by
          rw [HQ3.out]
          exact ⟨rfl, HS3.out, HK3.out⟩)
        go_wp2_with fail
        go_ret
        exact HF.out

set_option maxRecDepth 100000 in
set_option maxHeartbeats 8000000 in
theorem comment_calls {w : World} {B : Nat} {a : Option Addr} {c : Nat} {l : List UInt8} {i : Nat} {t : List UInt8} (h : ScAt w B a c l i t) (hE : EnvAt w) (hB : 15 ≤ B) : Calls Tryz.prog 45 #[.pointer (some ⟨B, 0, none⟩)] w (ScOut w B a c l (fun x => .string (strB x)) (commentS i t)) := by
  obtain ⟨Q, hQ⟩ : ∃ Q, commentS i t = Q := ⟨_, rfl⟩
  rw [hQ]
  have HS0 := Lib.hid h
  have HE0 := Lib.hid hE
  have HK0 : Hid (Keeps (One B) w w) := Lib.hid (Keeps.refl _ _)
  have HQ0 : Hid (Q = (upToS [45, 45] i t).then fun u j t => (peekS j t).then fun x _ _ => if x ≠ 62 then .no 2 (j - 2) else .ok u (j + 1) (t.drop 1)) := Lib.hid (by rw [← hQ]; rfl)
  clear h hE hQ
  go_enter Tryz.func45, Tryz.ntmps45
  obtain ⟨S0, hS0⟩ : ∃ S, upToS [45, 45] i t = S := ⟨_, rfl⟩
  have HC0 := Lib.hid (upTo_at HS0.out HE0.out hB [45, 45] ⟨#[45, 45]⟩ rfl (by decide) (by decide))
  have hq0 := HQ0.out
  rw [hS0] at HC0 hq0
  cases S0 with
  | no cd p =>
    have HF : Hid (∀ wx, Keeps (One B) w wx → ScOut w B a c l (fun x => .string (strB x)) Q (.panicked [{ v := wrongV cd p, recovered := false }]) wx) := Lib.hid (fun wx hk => by
      rw [hq0]
      exact ⟨rfl, HK0.out.trans hk (fresh_refl _ _)⟩)
    clear hq0 hS0
    go_wp2_with fail
    with_reducible refine HC0.out.mono ?_
    rintro e wx ⟨rfl, hk⟩
    have HF1 := Lib.hid (HF.out wx hk)
    clear hk
    go_wp2_with fail
    exact ⟨rfl, HF1.out⟩
  | ok x0 j1 u1 =>
    rw [Sx.then_ok] at hq0
    have HQ1 := Lib.hid hq0
    have HSS0 := Lib.hid hS0
    clear hq0 hS0
    go_wp2_with fail
    with_reducible refine HC0.out.mono ?_
    rintro e w1 ⟨rfl, hs, hk⟩
    have HS1 := Lib.hid hs
    have HK1 : Hid (Keeps (One B) w w1) := Lib.hid (HK0.out.trans hk (fresh_refl _ _))
    have HE1 : Hid (EnvAt w1) := Lib.hid (HE0.out.keeps hk hB)
    clear hs hk
    obtain ⟨S1, hS1⟩ : ∃ S, peekS j1 u1 = S := ⟨_, rfl⟩
    have HC1 := Lib.hid (peek_calls HS1.out)
    have hq1 := HQ1.out
    rw [hS1] at HC1 hq1
    cases S1 with
    | no cd p =>
      have HF : Hid (∀ wx, Keeps (One B) w1 wx → ScOut w B a c l (fun x => .string (strB x)) Q (.panicked [{ v := wrongV cd p, recovered := false }]) wx) := Lib.hid (fun wx hk => by
        rw [hq1]
        exact ⟨rfl, HK1.out.trans hk (fresh_refl _ _)⟩)
      clear hq1 hS1
      go_wp2_with fail
      with_reducible refine HC1.out.mono ?_
      rintro e wx ⟨rfl, hk⟩
      have HF1 := Lib.hid (HF.out wx hk)
      clear hk
      go_wp2_with fail
      exact ⟨rfl, HF1.out⟩
    | ok x1 j2 u2 =>
      rw [Sx.then_ok] at hq1
      have HQ2 := Lib.hid hq1
      have HSS1 := Lib.hid hS1
      clear hq1 hS1
      go_wp2_with fail
      with_reducible refine HC1.out.mono ?_
      rintro e w2 ⟨rfl, hs, hk⟩
      have HS2 := Lib.hid hs
      have HK2 : Hid (Keeps (One B) w w2) := Lib.hid (HK1.out.trans hk (fresh_refl _ _))
      have HE2 : Hid (EnvAt w2) := Lib.hid (HE1.out.keeps hk hB)
      clear hs hk
      obtain ⟨rfl, rfl, t', rfl⟩ := peekS_ok HSS1.out
      obtain ⟨z0, z1⟩ := HS2.out.cells
      have hpl := upToS_place HSS0.out
      have hfit := HS2.out.fits
      have hfew := HS2.out.few
      by_cases hx : x1 = 62
      · have hz : ((x1.toNat : Int) != 62) = false := by simp [hx]
        have hd := HS2.out.head
        have hadd : IntKind.i64.wrap ((j2 : Int) + 1) = ((j2 + 1 : Nat) : Int) := IntWalk.i64_in _ (by omega)
        have f1 := unfrozen_of_block HS2.out.blk 1
        have hp := HS2.out.place (j := j2 + 1) hd.1 (u := t') hd.2.2
        have HF : Hid (ScOut w B a c l (fun x => .string (strB x)) Q (.returned (.string (strB x0))) (w2.setCell ⟨B, 1, none⟩ (.int .i64 ((j2 + 1 : Nat) : Int)))) := Lib.hid (by
          rw [HQ2.out, if_neg (fun h => h hx)]
          exact ⟨rfl, hp.1, HK2.out.trans hp.2 (fresh_refl _ _)⟩)
        clear hp hd hx hpl
        go_wp2_with fail
        go_ret
        exact HF.out
      · have hz : ((x1.toNat : Int) != 62) = true := by
          simp only [bne_iff_ne, ne_eq]
          exact fun h => hx (UInt8.toNat_inj.1 (by have : (62 : UInt8).toNat = 62 := rfl; omega))
        have hsub : IntKind.i64.wrap ((j2 : Int) - 2) = ((j2 - 2 : Nat) : Int) := by
          have h2 : ([45, 45] : List UInt8).length = 2 := rfl
          rw [IntWalk.i64_in _ (by omega)]
          omega
        have HF : Hid (ScOut w B a c l (fun x => .string (strB x)) Q (.panicked [{ v := wrongV 2 (j2 - 2), recovered := false }]) w2) := Lib.hid (by
          rw [HQ2.out, if_pos hx]
          exact ⟨rfl, HK2.out⟩)
        clear hx hpl
        go_wp2_with fail
        exact ⟨rfl, HF.out⟩

end Go.Proofs.YtjappbfldjflnaaGreatDoor
