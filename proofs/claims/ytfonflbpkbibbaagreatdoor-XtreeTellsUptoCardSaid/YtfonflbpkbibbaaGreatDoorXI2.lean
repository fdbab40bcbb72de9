/-
  An instruction, told by a document's scan. Conditions: the laid variables hold what their initialisers lay; the scan lies in memory, in a block behind theirs.
-/
import Derived.Test.YtfonflbpkbibbaaGreatDoorXF
namespace Go.Proofs.YtfonflbpkbibbaaGreatDoor
open Go.RowKit Go.Lib Go.Joins

set_option maxRecDepth 100000 in
set_option maxHeartbeats 8000000 in
theorem pi_calls {w : World} {B : Nat} {a : Option Addr} {c : Nat} {l : List UInt8} {i : Nat} {t : List UInt8} (h : ScAt w B a c l i t) (hE : EnvAt w) (hB : 15 ≤ B) : Calls Tryz.prog 97 #[.pointer (some ⟨B, 0, none⟩)] w (ScOut w B a c l (fun x : List UInt8 × List UInt8 => .tuple #[.string (strB x.1), .string (strB x.2)]) (piS i t)) := by
  obtain ⟨Q, hQ⟩ : ∃ Q, piS i t = Q := ⟨_, rfl⟩
  rw [hQ]
  have HS0 := Lib.hid h
  have HE0 := Lib.hid hE
  have HK0 : Hid (Keeps (One B) w w) := Lib.hid (Keeps.refl _ _)
  have HQ0 : Hid (Q = (nameS i t).then fun nm j t =>
    if sameS nm [120, 109, 108] = true then .no 2 i
    else (blanksS j t).then fun b j t =>
      if b = true then (upToS [63, 62] j t).then fun u k t2 => .ok (nm, u) k t2
      else (mustS 63 j t).then fun _ j t => (mustS 62 j t).then fun _ k t2 => .ok (nm, []) k t2) := Lib.hid (by rw [← hQ]; rfl)
  obtain ⟨z0, z1⟩ := h.cells
  clear h hE hQ
  go_enter Tryz.func97, Tryz.ntmps97
  obtain ⟨S0, hS0⟩ : ∃ S, nameS i t = S := ⟨_, rfl⟩
  have HC0 := Lib.hid (name_calls HS0.out HE0.out hB)
  have hq0 := HQ0.out
  rw [hS0] at HC0 hq0
  cases S0 with
  | no cd p =>
    have HF : Hid (∀ wx, Keeps (One B) w wx → ScOut w B a c l (fun x : List UInt8 × List UInt8 => .tuple #[.string (strB x.1), .string (strB x.2)]) Q (.panicked [{ v := wrongV cd p, recovered := false }]) wx) := Lib.hid (fun wx hk => by
      rw [hq0]
      exact ⟨rfl, HK0.out.trans hk (fresh_refl _ _)⟩)
    clear hq0 hS0
    go_wp2_with fail
    with_reducible refine HC0.out.mono ?_
    rintro e wx ⟨rfl, hk⟩
    have HF1 := Lib.hid (HF.out wx hk)
    clear hk
    go_wp2_with fail
    exact ⟨rfl, HF1.out⟩
  | ok x0 j1 u1 =>
    rw [Sx.then_ok] at hq0
    have HQ1 := Lib.hid hq0
    have HSS0 := Lib.hid hS0
    clear hq0 hS0
    go_wp2_with fail
    with_reducible refine HC0.out.mono ?_
    rintro e w1 ⟨rfl, hs, hk⟩
    have HS1 := Lib.hid hs
    have HK1 : Hid (Keeps (One B) w w1) := Lib.hid (HK0.out.trans hk (fresh_refl _ _))
    have HE1 : Hid (EnvAt w1) := Lib.hid (HE0.out.keeps hk hB)
    clear hs hk
    have HL := HS1.out.len
    have hxl := nameS_short HSS0.out
    have h0 := HS0.out.len
    have h1 := HS0.out.few
    have HFD := Lib.hid (fold_calls (strB x0) [120, 109, 108] (.inl rfl) w1 HE1.out (by rw [strB_size]; omega))
    rw [strB_list] at HFD
    have he : strB [120, 109, 108] = ⟨#[120, 109, 108]⟩ := rfl
    rw [he] at HFD
    clear he hxl h0 h1 HL
    obtain ⟨sm, hsm⟩ : ∃ s, sameS x0 [120, 109, 108] = s := ⟨_, rfl⟩
    rw [hsm] at HFD
    cases sm with
    | true =>
      have HF : Hid (∀ wx, Below w1.heap.size w1 wx → ScOut w B a c l (fun x : List UInt8 × List UInt8 => .tuple #[.string (strB x.1), .string (strB x.2)]) Q (.panicked [{ v := wrongV 2 i, recovered := false }]) wx) := Lib.hid (fun wx hb => by
        rw [HQ1.out, if_pos hsm]
        exact ⟨rfl, HK1.out.trans (keeps_below hb Non) (fresh_non _ _)⟩)
      clear hsm
      go_wp2_with fail
      with_reducible refine HFD.out.mono ?_
      rintro e wx ⟨rfl, hb⟩
      have HF1 := Lib.hid (HF.out wx hb)
      clear hb
      go_wp2_with fail
      exact ⟨rfl, HF1.out⟩
    | false =>
      have HQ2 : Hid (Q = (blanksS j1 u1).then fun b j t =>
          if b = true then (upToS [63, 62] j t).then fun u k t2 => .ok (x0, u) k t2
          else (mustS 63 j t).then fun _ j t => (mustS 62 j t).then fun _ k t2 => .ok (x0, []) k t2) := Lib.hid (by
        rw [HQ1.out, if_neg (by rw [hsm]; decide)])
      clear hsm
      go_wp2_with fail
      with_reducible refine HFD.out.mono ?_
      rintro e w2 ⟨rfl, hb⟩
      have HS2 := Lib.hid (HS1.out.keep hb)
      have HE2 := Lib.hid (HE1.out.below hb)
      have HK2 : Hid (Keeps (One B) w w2) := Lib.hid (HK1.out.trans (keeps_below hb Non) (fresh_non _ _))
      clear hb
      obtain ⟨S2, hS2⟩ : ∃ S, blanksS j1 u1 = S := ⟨_, rfl⟩
      have HC2 := Lib.hid (blanks_calls HS2.out)
      have hq2 := HQ2.out
      rw [hS2] at HC2 hq2
      cases S2 with
      | no cd p =>
        have HF : Hid (∀ wx, Keeps (One B) w2 wx → ScOut w B a c l (fun x : List UInt8 × List UInt8 => .tuple #[.string (strB x.1), .string (strB x.2)]) Q (.panicked [{ v := wrongV cd p, recovered := false }]) wx) := Lib.hid (fun wx hk => by
          rw [hq2]
          exact ⟨rfl, HK2.out.trans hk (fresh_refl _ _)⟩)
        clear hq2 hS2
        go_wp2_with fail
        with_reducible refine HC2.out.mono ?_
        rintro e wx ⟨rfl, hk⟩
        have HF1 := Lib.hid (HF.out wx hk)
        clear hk
        go_wp2_with fail
        exact ⟨rfl, HF1.out⟩
      | ok x2 j3 u3 =>
        rw [Sx.then_ok] at hq2
        have HQ3 := Lib.hid hq2
        have HSS2 := Lib.hid hS2
        clear hq2 hS2
        go_wp2_with fail
        with_reducible refine HC2.out.mono ?_
        rintro e w3 ⟨rfl, hs, hk⟩
        have HS3 := Lib.hid hs
        have HK3 : Hid (Keeps (One B) w w3) := Lib.hid (HK2.out.trans hk (fresh_refl _ _))
        have HE3 : Hid (EnvAt w3) := Lib.hid (HE2.out.keeps hk hB)
        clear hs hk
        cases x2 with
        | true =>
          have HQ3 : Hid (Q = (upToS [63, 62] j3 u3).then fun u k t2 => .ok (x0, u) k t2) := Lib.hid (by rw [HQ3.out, if_pos rfl])
          obtain ⟨S3, hS3⟩ : ∃ S, upToS [63, 62] j3 u3 = S := ⟨_, rfl⟩
          have HC3 := Lib.hid (upTo_at HS3.out HE3.out hB [63, 62] ⟨#[63, 62]⟩ rfl (by decide) (by decide))
          have hq3 := HQ3.out
          rw [hS3] at HC3 hq3
          cases S3 with
          | no cd p =>
            have HF : Hid (∀ wx, Keeps (One B) w3 wx → ScOut w B a c l (fun x : List UInt8 × List UInt8 => .tuple #[.string (strB x.1), .string (strB x.2)]) Q (.panicked [{ v := wrongV cd p, recovered := false }]) wx) := Lib.hid (fun wx hk => by
              rw [hq3]
              exact ⟨rfl, HK3.out.trans hk (fresh_refl _ _)⟩)
            clear hq3 hS3
            go_wp2_with fail
            with_reducible refine HC3.out.mono ?_
            rintro e wx ⟨rfl, hk⟩
            have HF1 := Lib.hid (HF.out wx hk)
            clear hk
            go_wp2_with fail
            exact ⟨rfl, HF1.out⟩
          | ok x3 j4 u4 =>
            rw [Sx.then_ok] at hq3
            have HQ4 := Lib.hid hq3
            have HSS3 := Lib.hid hS3
            clear hq3 hS3
            go_wp2_with fail
            with_reducible refine HC3.out.mono ?_
            rintro e w4 ⟨rfl, hs, hk⟩
            have HS4 := Lib.hid hs
            have HK4 : Hid (Keeps (One B) w w4) := Lib.hid (HK3.out.trans hk (fresh_refl _ _))
            have HE4 : Hid (EnvAt w4) := Lib.hid (HE3.out.keeps hk hB)
            clear hs hk
            have HF : Hid (ScOut w B a c l (fun x : List UInt8 × List UInt8 => .tuple #[.string (strB x.1), .string (strB x.2)]) Q (.returned (.tuple #[.string (strB x0), .string (strB x3)])) w4) := Lib.hid (by
              rw [HQ4.out]
              exact ⟨rfl, HS4.out, HK4.out⟩)
            go_wp2_with fail
            go_ret2
            exact HF.out
        | false =>
          have HQ3 : Hid (Q = (mustS 63 j3 u3).then fun _ j t => (mustS 62 j t).then fun _ k t2 => .ok (x0, []) k t2) := Lib.hid (by rw [HQ3.out, if_neg (by decide)])
          obtain ⟨S3, hS3⟩ : ∃ S, mustS 63 j3 u3 = S := ⟨_, rfl⟩
          have HC3 := Lib.hid (must_at HS3.out 63 63 rfl)
          have hq3 := HQ3.out
          rw [hS3] at HC3 hq3
          cases S3 with
          | no cd p =>
            have HF : Hid (∀ wx, Keeps (One B) w3 wx → ScOut w B a c l (fun x : List UInt8 × List UInt8 => .tuple #[.string (strB x.1), .string (strB x.2)]) Q (.panicked [{ v := wrongV cd p, recovered := false }]) wx) := Lib.hid (fun wx hk => by
              rw [hq3]
              exact ⟨rfl, HK3.out.trans hk (fresh_refl _ _)⟩)
            clear hq3 hS3
            go_wp2_with fail
            with_reducible refine HC3.out.mono ?_
            rintro e wx ⟨rfl, hk⟩
            have HF1 := Lib.hid (HF.out wx hk)
            clear hk
            go_wp2_with fail
            exact ⟨rfl, HF1.out⟩
          | ok x3 j4 u4 =>
            rw [Sx.then_ok] at hq3
            have HQ4 := Lib.hid hq3
            have HSS3 := Lib.hid hS3
            clear hq3 hS3
            go_wp2_with fail
            with_reducible refine HC3.out.mono ?_
            rintro e w4 ⟨rfl, hs, hk⟩
            have HS4 := Lib.hid hs
            have HK4 : Hid (Keeps (One B) w w4) := Lib.hid (HK3.out.trans hk (fresh_refl _ _))
            have HE4 : Hid (EnvAt w4) := Lib.hid (HE3.out.keeps hk hB)
            clear hs hk
            obtain ⟨S4, hS4⟩ : ∃ S, mustS 62 j4 u4 = S := ⟨_, rfl⟩
            have HC4 := Lib.hid (must_at HS4.out 62 62 rfl)
            have hq4 := HQ4.out
            rw [hS4] at HC4 hq4
            cases S4 with
            | no cd p =>
              have HF : Hid (∀ wx, Keeps (One B) w4 wx → ScOut w B a c l (fun x : List UInt8 × List UInt8 => .tuple #[.string (strB x.1), .string (strB x.2)]) Q (.panicked [{ v := wrongV cd p, recovered := false }]) wx) := Lib.hid (fun wx hk => by
                rw [hq4]
                exact ⟨rfl, HK4.out.trans hk (fresh_refl _ _)⟩)
              clear hq4 hS4
              go_wp2_with fail
              with_reducible refine HC4.out.mono ?_
              rintro e wx ⟨rfl, hk⟩
              have HF1 := Lib.hid (HF.out wx hk)
              clear hk
              go_wp2_with fail
              exact ⟨rfl, HF1.out⟩
            | ok x4 j5 u5 =>
              rw [Sx.then_ok] at hq4
              have HQ5 := Lib.hid hq4
              have HSS4 := Lib.hid hS4
              clear hq4 hS4
              go_wp2_with fail
              with_reducible refine HC4.out.mono ?_
              rintro e w5 ⟨rfl, hs, hk⟩
              have HS5 := Lib.hid hs
              have HK5 : Hid (Keeps (One B) w w5) := Lib.hid (HK4.out.trans hk (fresh_refl _ _))
              have HE5 : Hid (EnvAt w5) := Lib.hid (HE4.out.keeps hk hB)
              clear hs hk
              have HF : Hid (ScOut w B a c l (fun x : List UInt8 × List UInt8 => .tuple #[.string (strB x.1), .string (strB x.2)]) Q (.returned (.tuple #[.string (strB x0), .string ⟨#[]⟩])) w5) := Lib.hid (by
                rw [HQ5.out]
                exact ⟨rfl, HS5.out, HK5.out⟩)
              go_wp2_with fail
              go_ret2
              exact HF.out

end Go.Proofs.YtfonflbpkbibbaaGreatDoor
