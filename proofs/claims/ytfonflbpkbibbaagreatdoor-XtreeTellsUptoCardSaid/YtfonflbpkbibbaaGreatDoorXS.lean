/-
  Characters, and a value in quotes, told by a document's scan. Conditions: the laid variables hold what their initialisers lay; the scan lies in memory, in a block behind theirs. An attribute, told by a document's scan, its name put into a set of names. Conditions: the laid variables hold what their initialisers lay; the scan lies in memory, in a block behind theirs, the set in another block behind theirs.
-/
import Derived.Test.YtfonflbpkbibbaaGreatDoorXM
import Derived.Maps.OwnSet
import Derived.Maps.Views
import Derived.StringKeys
namespace Go.Proofs.YtfonflbpkbibbaaGreatDoor
open Go.RowKit Go.Lib Go.Joins

set_option maxRecDepth 100000 in
set_option maxHeartbeats 8000000 in
theorem chars9_calls {w : World} {B : Nat} {a : Option Addr} {c : Nat} {l : List UInt8} {i : Nat} {t : List UInt8} (h : ScAt w B a c l i t) (hE : EnvAt w) (hB : 15 ≤ B) : Calls Tryz.prog 94 #[.pointer (some ⟨B, 0, none⟩)] w (ScOut w B a c l (fun x => .string (strB x)) (mixS none i t)) := by
  obtain ⟨Q, hQ⟩ : ∃ Q, mixS none i t = Q := ⟨_, rfl⟩
  rw [hQ]
  have hb : Below w.heap.size w (w.alloc (.cells #[.pointer (some ⟨B, 0, none⟩)] 104)) := (Below.refl _ _).alloc (Nat.le_refl _) _
  have hBl := lt_of_block h.blk
  have hcl : (w.alloc (.cells #[.pointer (some ⟨B, 0, none⟩)] 104)).cell? ⟨w.heap.size, 0, none⟩ = some (.pointer (some ⟨B, 0, none⟩)) := by simp
  have HM := Lib.hid (mixC_calls (h.keep hb) (hE.below hb) hB w.heap.size (by omega) hcl)
  rw [hQ] at HM
  obtain ⟨w1, hw1⟩ : ∃ W, w.alloc (.cells #[.pointer (some ⟨B, 0, none⟩)] 104) = W := ⟨_, rfl⟩
  rw [hw1] at HM hb hcl
  have HK := Lib.hid (keeps_below hb (One B))
  have HW := Lib.hid hw1
  obtain ⟨cb, hcb⟩ : ∃ cb, w.heap.size = cb := ⟨_, rfl⟩
  have HCB := Lib.hid hcb
  rw [hcb] at HM hcl
  have he : strB [60] = ⟨#[60]⟩ := rfl
  rw [he] at HM
  clear h hE hQ hb hw1 hBl hcb he
  go_enter Tryz.func94, Tryz.ntmps94
  go_upto_region 1 with (fail)
  rw [HW.out, HCB.out]
  cases Q with
  | no cd p =>
    go_wp2_with fail
    with_reducible refine HM.out.mono ?_
    rintro e w2 ⟨rfl, hk⟩
    have HF : Hid (ScOut w B a c l (fun x => .string (strB x)) (.no cd p) (.panicked [{ v := wrongV cd p, recovered := false }]) w2) := Lib.hid ⟨rfl, HK.out.trans hk (fresh_refl _ _)⟩
    clear hk
    go_wp2_with fail
    exact ⟨rfl, HF.out⟩
  | ok x j u =>
    go_wp2_with fail
    with_reducible refine HM.out.mono ?_
    rintro e w2 ⟨rfl, hs, hk⟩
    have HF : Hid (ScOut w B a c l (fun x => .string (strB x)) (.ok x j u) (.returned (.string (strB x))) w2) := Lib.hid ⟨rfl, hs, HK.out.trans hk (fresh_refl _ _)⟩
    clear hs hk
    go_wp2_with fail
    go_ret
    exact HF.out

set_option maxRecDepth 100000 in
set_option maxHeartbeats 8000000 in
theorem value9_calls {w : World} {B : Nat} {a : Option Addr} {c : Nat} {l : List UInt8} {i : Nat} {t : List UInt8} (h : ScAt w B a c l i t) (hE : EnvAt w) (hB : 15 ≤ B) : Calls Tryz.prog 162 #[.pointer (some ⟨B, 0, none⟩)] w (ScOut w B a c l (fun x => .string (strB x)) (valueS i t)) := by
  obtain ⟨Q, hQ⟩ : ∃ Q, valueS i t = Q := ⟨_, rfl⟩
  rw [hQ]
  have HS0 := Lib.hid h
  have HE0 := Lib.hid hE
  have HK0 : Hid (Keeps (One B) w w) := Lib.hid (Keeps.refl _ _)
  have HQ0 : Hid (Q = (peekS i t).then fun x _ _ => if x ≠ 34 ∧ x ≠ 39 then .no 2 i else (mixS (some x) (i + 1) (t.drop 1)).then fun u j t => (mustS x j t).then fun _ k t2 => .ok u k t2) := Lib.hid (by rw [← hQ]; rfl)
  clear h hE hQ
  go_enter Tryz.func162, Tryz.ntmps162
  obtain ⟨S0, hS0⟩ : ∃ S, peekS i t = S := ⟨_, rfl⟩
  have HC0 := Lib.hid (peek_calls HS0.out)
  have hq0 := HQ0.out
  rw [hS0] at HC0 hq0
  cases S0 with
  | no cd p =>
    have HF : Hid (∀ wx, Keeps (One B) w wx → ScOut w B a c l (fun x => .string (strB x)) Q (.panicked [{ v := wrongV cd p, recovered := false }]) wx) := Lib.hid (fun wx hk => by
      rw [hq0]
      exact ⟨rfl, HK0.out.trans hk (fresh_refl _ _)⟩)
    clear hq0 hS0
    go_wp2_with fail
    with_reducible refine HC0.out.mono ?_
    rintro e wx ⟨rfl, hk⟩
    have HF1 := Lib.hid (HF.out wx hk)
    clear hk
    go_wp2_with fail
    exact ⟨rfl, HF1.out⟩
  | ok x0 j1 u1 =>
    rw [Sx.then_ok] at hq0
    have HQ1 := Lib.hid hq0
    have HSS0 := Lib.hid hS0
    clear hq0 hS0
    go_wp2_with fail
    with_reducible refine HC0.out.mono ?_
    rintro e w1 ⟨rfl, hs, hk⟩
    have HS1 := Lib.hid hs
    have HK1 : Hid (Keeps (One B) w w1) := Lib.hid (HK0.out.trans hk (fresh_refl _ _))
    have HE1 : Hid (EnvAt w1) := Lib.hid (HE0.out.keeps hk hB)
    clear hs hk
    obtain ⟨rfl, rfl, t', rfl⟩ := peekS_ok HSS0.out
    by_cases hx : x0 = 34
    · subst hx
      have hd := HS1.out.head
      obtain ⟨jj, hjj⟩ : ∃ jj, j1 + 1 = jj := ⟨_, rfl⟩
      have hadd : IntKind.i64.wrap ((j1 : Int) + 1) = (jj : Int) := by rw [← hjj]; exact IntWalk.i64_in _ (by have := HS1.out.few; omega)
      have f1 := unfrozen_of_block HS1.out.blk 1
      obtain ⟨z0, z1⟩ := HS1.out.cells
      have hp := HS1.out.place (j := jj) (by rw [← hjj]; exact hd.1) (u := t') (by rw [← hjj]; exact hd.2.2)
      have HQ2 : Hid (Q = (mixS (some 34) jj t').then fun u j t => (mustS 34 j t).then fun _ k t2 => .ok u k t2) := Lib.hid (by rw [HQ1.out, ← hjj]; rfl)
      have HS2 := Lib.hid hp.1
      have HK2 : Hid (Keeps (One B) w (w1.setCell ⟨B, 1, none⟩ (.int .i64 (jj : Int)))) := Lib.hid (HK1.out.trans hp.2 (fresh_refl _ _))
      have HE2 : Hid (EnvAt (w1.setCell ⟨B, 1, none⟩ (.int .i64 (jj : Int)))) := Lib.hid (HE1.out.keeps hp.2 hB)
      have HMX := Lib.hid (mixV_calls HS2.out HE2.out hB 34 (by decide))
      have he : strB [60, 34] = ⟨#[60]⟩ ++ Utf8.encode 34 := by kernel_rfl
      rw [he] at HMX
      obtain ⟨w2, hw2⟩ : ∃ W, w1.setCell ⟨B, 1, none⟩ (.int .i64 (jj : Int)) = W := ⟨_, rfl⟩
      rw [hw2] at HS2 HK2 HE2 HMX
      have HW2 := Lib.hid hw2
      clear hd hp he hw2 hjj
      go_upto_region 5 with (fail)
      rw [HW2.out]
      obtain ⟨S2, hS2⟩ : ∃ S, mixS (some 34) jj t' = S := ⟨_, rfl⟩
      have HC2 := Lib.hid (HMX.out)
      have hq2 := HQ2.out
      rw [hS2] at HC2 hq2
      cases S2 with
      | no cd p =>
        have HF : Hid (∀ wx, Keeps (One B) w2 wx → ScOut w B a c l (fun x => .string (strB x)) Q (.panicked [{ v := wrongV cd p, recovered := false }]) wx) := Lib.hid (fun wx hk => by
          rw [hq2]
          exact ⟨rfl, HK2.out.trans hk (fresh_refl _ _)⟩)
        clear hq2 hS2
        go_wp2_with fail
        with_reducible refine HC2.out.mono ?_
        rintro e wx ⟨rfl, hk⟩
        have HF1 := Lib.hid (HF.out wx hk)
        clear hk
        go_wp2_with fail
        exact ⟨rfl, HF1.out⟩
      | ok x2 j3 u3 =>
        rw [Sx.then_ok] at hq2
        have HQ3 := Lib.hid hq2
        have HSS2 := Lib.hid hS2
        clear hq2 hS2
        go_wp2_with fail
        with_reducible refine HC2.out.mono ?_
        rintro e w3 ⟨rfl, hs, hk⟩
        have HS3 := Lib.hid hs
        have HK3 : Hid (Keeps (One B) w w3) := Lib.hid (HK2.out.trans hk (fresh_refl _ _))
        have HE3 : Hid (EnvAt w3) := Lib.hid (HE2.out.keeps hk hB)
        clear hs hk
        obtain ⟨S3, hS3⟩ : ∃ S, mustS 34 j3 u3 = S := ⟨_, rfl⟩
        have HC3 := Lib.hid (must_at HS3.out 34 34 rfl)
        have hq3 := HQ3.out
        rw [hS3] at HC3 hq3
        cases S3 with
        | no cd p =>
          have HF : Hid (∀ wx, Keeps (One B) w3 wx → ScOut w B a c l (fun x => .string (strB x)) Q (.panicked [{ v := wrongV cd p, recovered := false }]) wx) := Lib.hid (fun wx hk => by
            rw [hq3]
            exact ⟨rfl, HK3.out.trans hk (fresh_refl _ _)⟩)
          clear hq3 hS3
          go_wp2_with fail
          with_reducible refine HC3.out.mono ?_
          rintro e wx ⟨rfl, hk⟩
          have HF1 := Lib.hid (HF.out wx hk)
          clear hk
          go_wp2_with fail
          exact ⟨rfl, HF1.out⟩
        | ok x3 j4 u4 =>
          rw [Sx.then_ok] at hq3
          have HQ4 := Lib.hid hq3
          have HSS3 := Lib.hid hS3
          clear hq3 hS3
          go_wp2_with fail
          with_reducible refine HC3.out.mono ?_
          rintro e w4 ⟨rfl, hs, hk⟩
          have HS4 := Lib.hid hs
          have HK4 : Hid (Keeps (One B) w w4) := Lib.hid (HK3.out.trans hk (fresh_refl _ _))
          have HE4 : Hid (EnvAt w4) := Lib.hid (HE3.out.keeps hk hB)
          clear hs hk
          have HF : Hid (ScOut w B a c l (fun x => .string (strB x)) Q (.returned (.string (strB x2))) w4) := Lib.hid (by
            rw [HQ4.out]
            exact ⟨rfl, HS4.out, HK4.out⟩)
          go_wp2_with fail
          go_ret
          exact HF.out
    · by_cases hx2 : x0 = 39
      · have hx := hx2
        subst hx
        have hd := HS1.out.head
        obtain ⟨jj, hjj⟩ : ∃ jj, j1 + 1 = jj := ⟨_, rfl⟩
        have hadd : IntKind.i64.wrap ((j1 : Int) + 1) = (jj : Int) := by rw [← hjj]; exact IntWalk.i64_in _ (by have := HS1.out.few; omega)
        have f1 := unfrozen_of_block HS1.out.blk 1
        obtain ⟨z0, z1⟩ := HS1.out.cells
        have hp := HS1.out.place (j := jj) (by rw [← hjj]; exact hd.1) (u := t') (by rw [← hjj]; exact hd.2.2)
        have HQ2 : Hid (Q = (mixS (some 39) jj t').then fun u j t => (mustS 39 j t).then fun _ k t2 => .ok u k t2) := Lib.hid (by rw [HQ1.out, ← hjj]; rfl)
        have HS2 := Lib.hid hp.1
        have HK2 : Hid (Keeps (One B) w (w1.setCell ⟨B, 1, none⟩ (.int .i64 (jj : Int)))) := Lib.hid (HK1.out.trans hp.2 (fresh_refl _ _))
        have HE2 : Hid (EnvAt (w1.setCell ⟨B, 1, none⟩ (.int .i64 (jj : Int)))) := Lib.hid (HE1.out.keeps hp.2 hB)
        have HMX := Lib.hid (mixV_calls HS2.out HE2.out hB 39 (by decide))
        have he : strB [60, 39] = ⟨#[60]⟩ ++ Utf8.encode 39 := by kernel_rfl
        rw [he] at HMX
        obtain ⟨w2, hw2⟩ : ∃ W, w1.setCell ⟨B, 1, none⟩ (.int .i64 (jj : Int)) = W := ⟨_, rfl⟩
        rw [hw2] at HS2 HK2 HE2 HMX
        have HW2 := Lib.hid hw2
        clear hd hp he hw2 hjj
        go_upto_region 5 with (fail)
        rw [HW2.out]
        obtain ⟨S2, hS2⟩ : ∃ S, mixS (some 39) jj t' = S := ⟨_, rfl⟩
        have HC2 := Lib.hid (HMX.out)
        have hq2 := HQ2.out
        rw [hS2] at HC2 hq2
        cases S2 with
        | no cd p =>
          have HF : Hid (∀ wx, Keeps (One B) w2 wx → ScOut w B a c l (fun x => .string (strB x)) Q (.panicked [{ v := wrongV cd p, recovered := false }]) wx) := Lib.hid (fun wx hk => by
            rw [hq2]
            exact ⟨rfl, HK2.out.trans hk (fresh_refl _ _)⟩)
          clear hq2 hS2
          go_wp2_with fail
          with_reducible refine HC2.out.mono ?_
          rintro e wx ⟨rfl, hk⟩
          have HF1 := Lib.hid (HF.out wx hk)
          clear hk
          go_wp2_with fail
          exact ⟨rfl, HF1.out⟩
        | ok x2 j3 u3 =>
          rw [Sx.then_ok] at hq2
          have HQ3 := Lib.hid hq2
          have HSS2 := Lib.hid hS2
          clear hq2 hS2
          go_wp2_with fail
          with_reducible refine HC2.out.mono ?_
          rintro e w3 ⟨rfl, hs, hk⟩
          have HS3 := Lib.hid hs
          have HK3 : Hid (Keeps (One B) w w3) := Lib.hid (HK2.out.trans hk (fresh_refl _ _))
          have HE3 : Hid (EnvAt w3) := Lib.hid (HE2.out.keeps hk hB)
          clear hs hk
          obtain ⟨S3, hS3⟩ : ∃ S, mustS 39 j3 u3 = S := ⟨_, rfl⟩
          have HC3 := Lib.hid (must_at HS3.out 39 39 rfl)
          have hq3 := HQ3.out
          rw [hS3] at HC3 hq3
          cases S3 with
          | no cd p =>
            have HF : Hid (∀ wx, Keeps (One B) w3 wx → ScOut w B a c l (fun x => .string (strB x)) Q (.panicked [{ v := wrongV cd p, recovered := false }]) wx) := Lib.hid (fun wx hk => by
              rw [hq3]
              exact ⟨rfl, HK3.out.trans hk (fresh_refl _ _)⟩)
            clear hq3 hS3
            go_wp2_with fail
            with_reducible refine HC3.out.mono ?_
            rintro e wx ⟨rfl, hk⟩
            have HF1 := Lib.hid (HF.out wx hk)
            clear hk
            go_wp2_with fail
            exact ⟨rfl, HF1.out⟩
          | ok x3 j4 u4 =>
            rw [Sx.then_ok] at hq3
            have HQ4 := Lib.hid hq3
            have HSS3 := Lib.hid hS3
            clear hq3 hS3
            go_wp2_with fail
            with_reducible refine HC3.out.mono ?_
            rintro e w4 ⟨rfl, hs, hk⟩
            have HS4 := Lib.hid hs
            have HK4 : Hid (Keeps (One B) w w4) := Lib.hid (HK3.out.trans hk (fresh_refl _ _))
            have HE4 : Hid (EnvAt w4) := Lib.hid (HE3.out.keeps hk hB)
            clear hs hk
            have HF : Hid (ScOut w B a c l (fun x => .string (strB x)) Q (.returned (.string (strB x2))) w4) := Lib.hid (by
              rw [HQ4.out]
              exact ⟨rfl, HS4.out, HK4.out⟩)
            go_wp2_with fail
            go_ret
            exact HF.out
      · have hz1 : ((x0.toNat : Int) != 34) = true := by
          simp only [bne_iff_ne, ne_eq]
          exact fun h => hx (UInt8.toNat_inj.1 (by have : (34 : UInt8).toNat = 34 := rfl; omega))
        have hz2 : ((x0.toNat : Int) != 39) = true := by
          simp only [bne_iff_ne, ne_eq]
          exact fun h => hx2 (UInt8.toNat_inj.1 (by have : (39 : UInt8).toNat = 39 := rfl; omega))
        obtain ⟨z0, z1⟩ := HS1.out.cells
        have HF : Hid (ScOut w B a c l (fun x => .string (strB x)) Q (.panicked [{ v := wrongV 2 j1, recovered := false }]) w1) := Lib.hid (by
          rw [HQ1.out, if_pos ⟨hx, hx2⟩]
          exact ⟨rfl, HK1.out⟩)
        go_wp2_with fail
        exact ⟨rfl, HF.out⟩

end Go.Proofs.YtfonflbpkbibbaaGreatDoor
namespace Go.Proofs.YtfonflbpkbibbaaGreatDoor
open Go.RowKit Go.Lib Go.Joins

/-- A set of names in a block. -/
def SetAt (w : World) (mb : Nat) (ns : List (List UInt8)) : Prop := ∃ D : DataW Unit, w.ownsMap Tryz.prog 9 unitElem mb ns.length D ∧ ∀ x : List UInt8, Maps.has D (.string x) = decide (x ∈ ns)
theorem SetAt.block {w w' : World} {mb : Nat} {ns : List (List UInt8)} (h : SetAt w mb ns) (hb : w'.heap[mb]? = w.heap[mb]?) : SetAt w' mb ns := by
  obtain ⟨D, ⟨es, clock, h1, h2⟩, h3⟩ := h
  exact ⟨D, ⟨es, clock, hb.trans h1, h2⟩, h3⟩
theorem SetAt.lt {w : World} {mb : Nat} {ns : List (List UInt8)} (h : SetAt w mb ns) : mb < w.heap.size := by
  obtain ⟨D, h1, _⟩ := h
  exact h1.lt
theorem SetAt.keeps {w w' : World} {mb : Nat} {ns : List (List UInt8)} {O : Nat → Prop} (h : SetAt w mb ns) (hk : Keeps O w w') (hb : ¬ O mb) : SetAt w' mb ns := h.block (hk.block mb h.lt hb)
theorem SetAt.made (w : World) : SetAt (w.alloc (.map #[] 0)) w.heap.size [] := ⟨.map [], World.ownsMap_made w Tryz.prog 9 unitElem, fun x => by simp [Maps.has]⟩
/-- Two blocks alone. -/
def Two (B mb : Nat) : Nat → Prop := fun k => k = B ∨ k = mb
theorem fresh_two (B mb n : Nat) : Fresh (Two B mb) n (One B) := fun _ h => .inl (.inl h)
theorem name_key (s : List UInt8) (hs : s.length ≤ 65536) : keyOf Tryz.prog 9 (.string (strB s)) = some (.string s) := by
  have h := Go.WideMaps.keyOf_string_mk (P := Tryz.prog) (k := 9) Tryz.underlying9 (s := strB s) (by rw [strB_size]; simp only [maxLen]; omega)
  rw [strB_list] at h
  exact h
theorem SetAt.look {w : World} {mb : Nat} {ns : List (List UInt8)} (h : SetAt w mb ns) (s : List UInt8) (hs : s.length ≤ 65536) : (Instr.lookup 164 (.map (some mb)) (.string (strB s)) true).run Tryz.prog w = .ok (.tuple #[.agg #[], .bool (decide (s ∈ ns))]) w := by
  obtain ⟨D, h1, h2⟩ := h
  obtain ⟨v, ps, h3, h4⟩ := h1.look_ok (Maps.string_keyed Tryz.underlying9) Tryz.underlying164 (z := .agg #[]) (by kernel_rfl) unitElem_mk (name_key s hs)
  obtain ⟨rfl, _⟩ := unitElem_inv h4
  rw [h2] at h3
  exact h3
theorem SetAt.put {w : World} {mb : Nat} {ns : List (List UInt8)} (h : SetAt w mb ns) (s : List UInt8) (hs : s.length ≤ 65536) (hn : ns.length ≤ 65536) : ∃ w', (Instr.mapUpdate 164 (.map (some mb)) (.string (strB s)) (.agg #[])).run Tryz.prog w = .ok () w' ∧ SetAt w' mb (ns ++ [s]) ∧ ∀ O : Nat → Prop, O mb → Keeps O w w' := by
  obtain ⟨D, h1, h2⟩ := h
  obtain ⟨w', h3, h4, h5⟩ := h1.store (Maps.string_keyed Tryz.underlying9) Tryz.underlying164 (by simp only [maxLen]; omega) (name_key s hs) unitElem_mk
  refine ⟨w', h3, ⟨D.put (.string s) (.agg []), by rw [List.length_append]; exact h4, fun x => ?_⟩, fun O hO => (Keeps.refl O w).grown h5.grown (fun k hk => by cases hk; exact .inl hO)⟩
  by_cases hx : x = s
  · subst hx
    rw [Maps.has_put_same h1.isMap (by trivial)]
    simp
  · rw [Maps.has_put_other (fun h => hx (by injection h)), h2]
    simp [hx]

theorem nmG_len : ∀ (g : Nat) (fb : Bool) (i : Nat) (r : List UInt8) {j : Nat} {t : List UInt8}, nmG g fb i r = .ok () j t → i ≤ j
  | 0, _, _, _, _, _, h => by cases h
  | g + 1, fb, i, r, j, t, h => by
    rw [nmG] at h
    split at h
    · cases h
    · split at h
      · have := nmG_len g false _ _ h
        omega
      · cases h; exact Nat.le_refl _
theorem ScAt.set {w w' : World} {B mb : Nat} {ns : List (List UInt8)} {a : Option Addr} {c : Nat} {l : List UInt8} {i : Nat} {t : List UInt8} (h : ScAt w B a c l i t) (hm : SetAt w mb ns) (hne : mb ≠ B) (hk : Keeps (fun k => k = mb) w w') : ScAt w' B a c l i t where
  blk := (hk.block B (lt_of_block h.blk) (fun e => hne e.symm)).trans h.blk
  row := by
    rcases h.row with h0 | ⟨b, o, h1, h2, h3⟩
    · exact .inl h0
    · refine .inr ⟨b, o, h1, h2, fun k hk' => ?_⟩
      have hc := h3 k hk'
      refine (World.cell?_of_block (hk.block b (lt_of_cell hc) (fun e => ?_))).trans hc
      obtain ⟨D, ⟨es, clock, hb, _⟩, _⟩ := hm
      rw [← (show b = mb from e)] at hb
      rw [World.cell?, hb] at hc
      cases hc
  nul := h.nul
  cap := h.cap
  most := h.most
  few := h.few
  fits := h.fits
  left := h.left
/-- What an attribute's step leaves: the set has its name. -/
def AttrOut (w : World) (B mb : Nat) (ns : List (List UInt8)) (a : Option Addr) (c : Nat) (l : List UInt8) : Sx (List UInt8 × List UInt8) → Ending → World → Prop
  | .ok x i t, e, w' => e = .returned (.agg #[.string (strB x.1), .string (strB x.2)]) ∧ ScAt w' B a c l i t ∧ SetAt w' mb (ns ++ [x.1]) ∧ Keeps (Two B mb) w w'
  | .no cd p, e, w' => e = .panicked [{ v := wrongV cd p, recovered := false }] ∧ Keeps (Two B mb) w w'

theorem nameS_short {i : Nat} {r x : List UInt8} {j : Nat} {t : List UInt8} (h : nameS i r = .ok x j t) : x.length ≤ r.length := by
  unfold nameS at h
  cases hn : nmG r.length true i r with
  | no c p => rw [hn] at h; cases h
  | ok u j2 t2 =>
    rw [hn, Sx.then_ok] at h
    split at h
    · cases h
    · cases h
      rw [List.length_take]
      omega

set_option maxRecDepth 100000 in
set_option maxHeartbeats 16000000 in
theorem attr_calls {w : World} {B mb : Nat} {ns : List (List UInt8)} {a : Option Addr} {c : Nat} {l : List UInt8} {i : Nat} {t : List UInt8} (h : ScAt w B a c l i t) (hE : EnvAt w) (hB : 15 ≤ B) (hM : SetAt w mb ns) (hmb : 15 ≤ mb) (hne : mb ≠ B) (hns : ns.length ≤ 65536) : Calls Tryz.prog 134 #[.pointer (some ⟨B, 0, none⟩), .map (some mb)] w (AttrOut w B mb ns a c l (attrS ns i t)) := by
  obtain ⟨Q, hQ⟩ : ∃ Q, attrS ns i t = Q := ⟨_, rfl⟩
  rw [hQ]
  have hQ2 : Q = (nameS i t).then fun nm j t =>
    if nm ∈ ns then .no 4 i
    else (blanksS j t).then fun _ j t => (mustS 61 j t).then fun _ j t => (blanksS j t).then fun _ j t => (valueS j t).then fun v j t => .ok (nm, v) j t := by rw [← hQ]; rfl
  have HQ0 := Lib.hid hQ2
  have hlen := h.len
  have hfew := h.few
  have htl : t.length ≤ 65536 := by omega
  have hb0 : Below w.heap.size w (w.alloc (.cells #[.string ⟨#[]⟩, .string ⟨#[]⟩] 52)) := (Below.refl _ _).alloc (Nat.le_refl _) _
  have hrb : (w.alloc (.cells #[.string ⟨#[]⟩, .string ⟨#[]⟩] 52)).heap[w.heap.size]? = some (.cells #[.string ⟨#[]⟩, .string ⟨#[]⟩] 52 (0, 0)) := heap_alloc_new w _
  obtain ⟨rb, hrbe⟩ : ∃ rb, w.heap.size = rb := ⟨_, rfl⟩
  have hBr : B < rb := by rw [← hrbe]; exact lt_of_block h.blk
  have hmr : mb < rb := by rw [← hrbe]; exact hM.lt
  obtain ⟨w0, hw0⟩ : ∃ W, w.alloc (.cells #[.string ⟨#[]⟩, .string ⟨#[]⟩] 52) = W := ⟨_, rfl⟩
  have HRB := Lib.hid hrbe
  have HDOC : Hid (∀ b o, a = some ⟨b, o, none⟩ → 0 < l.length → b ≠ rb) := Lib.hid (fun b o ha hl e => by
    rcases h.row with h0 | ⟨b', o', h1, _, h3⟩
    · omega
    · rw [ha] at h1
      cases h1
      have := lt_of_cell (h3 0 hl)
      omega)
  have HW0 := Lib.hid hw0
  rw [hw0] at hb0 hrb
  rw [hrbe] at hrb
  have HS0 : Hid (ScAt w0 B a c l i t) := Lib.hid (h.keep hb0)
  have HE0 : Hid (EnvAt w0) := Lib.hid (hE.below hb0)
  have HK0 : Hid (Keeps (Two B mb) w w0) := Lib.hid (keeps_below hb0 _)
  have HM0 : Hid (SetAt w0 mb ns) := Lib.hid (hM.block (hb0.block mb hM.lt))
  have HR0 := Lib.hid hrb
  obtain ⟨z0, z1⟩ := HS0.out.cells
  clear h hE hM hQ hQ2 hlen hfew hb0 hrb hrbe hw0
  go_enter Tryz.func134, Tryz.ntmps134
  go_upto_region 1 with (fail)
  rw [HRB.out, HW0.out]
  obtain ⟨S0, hS0⟩ : ∃ S, nameS i t = S := ⟨_, rfl⟩
  have HC0 := Lib.hid (name_calls HS0.out HE0.out hB)
  have hq0 := HQ0.out
  rw [hS0] at HC0 hq0
  cases S0 with
  | no cd p =>
    have HF : Hid (∀ wx, Keeps (One B) w0 wx → AttrOut w B mb ns a c l Q (.panicked [{ v := wrongV cd p, recovered := false }]) wx) := Lib.hid (fun wx hk => by
      rw [hq0]
      exact ⟨rfl, HK0.out.trans hk (fresh_two B mb _)⟩)
    clear hq0 hS0
    go_wp2_with fail
    with_reducible refine HC0.out.mono ?_
    rintro e wx ⟨rfl, hk⟩
    have HF1 := Lib.hid (HF.out wx hk)
    clear hk
    go_wp2_with fail
    exact ⟨rfl, HF1.out⟩
  | ok x0 j1 u1 =>
    rw [Sx.then_ok] at hq0
    have HQ1 := Lib.hid hq0
    have HSS0 := Lib.hid hS0
    clear hq0 hS0
    go_wp2_with fail
    with_reducible refine HC0.out.mono ?_
    rintro e w1 ⟨rfl, hs, hk⟩
    have HS1 := Lib.hid hs
    have HK1 : Hid (Keeps (Two B mb) w w1) := Lib.hid (HK0.out.trans hk (fresh_two B mb _))
    have HE1 : Hid (EnvAt w1) := Lib.hid (HE0.out.keeps hk hB)
    have HM1 : Hid (SetAt w1 mb ns) := Lib.hid (HM0.out.keeps hk (fun h => hne h))
    have HR1 : Hid (w1.heap[rb]? = some (.cells #[.string ⟨#[]⟩, .string ⟨#[]⟩] 52 (0, 0))) := Lib.hid (block_keep HR0.out hk (fun h => by have h' : rb = B := h; omega))
    clear hs hk
    have hxl := nameS_short HSS0.out
    have hx65 : x0.length ≤ 65536 := Nat.le_trans hxl htl
    have hlk := HM1.out.look x0 hx65
    obtain ⟨tw, htw⟩ : ∃ tw, decide (x0 ∈ ns) = tw := ⟨_, rfl⟩
    rw [htw] at hlk
    cases tw with
    | true =>
      have hin : x0 ∈ ns := of_decide_eq_true htw
      have HF : Hid (∀ W, Below w1.heap.size w1 W → AttrOut w B mb ns a c l Q (.panicked [{ v := wrongV 4 i, recovered := false }]) W) := Lib.hid (fun W hb => by
        rw [HQ1.out, if_pos hin]
        exact ⟨rfl, HK1.out.below hb HK1.out.size⟩)
      clear htw hin
      go_wp2_with fail
      exact ⟨rfl, HF.out _ ((Below.refl _ _).alloc (Nat.le_refl _) _)⟩
    | false =>
      have hin : ¬ x0 ∈ ns := of_decide_eq_false htw
      have HQ2 : Hid (Q = (blanksS j1 u1).then fun _ j t => (mustS 61 j t).then fun _ j t => (blanksS j t).then fun _ j t => (valueS j t).then fun v j t => .ok (x0, v) j t) := Lib.hid (by rw [HQ1.out, if_neg hin])
      clear htw hin
      go_upto_region 6 with (fail)
      have hba : Below w1.heap.size w1 (w1.alloc (.cells #[] 209)) := (Below.refl _ _).alloc (Nat.le_refl _) _
      obtain ⟨wa, hwa⟩ : ∃ W, w1.alloc (.cells #[] 209) = W := ⟨_, rfl⟩
      rw [hwa] at hba ⊢
      have hma : SetAt wa mb ns := HM1.out.block (hba.block mb HM1.out.lt)
      obtain ⟨w2, hput, hm2, hk2⟩ := hma.put x0 hx65 hns
      have HS2 : Hid (ScAt w2 B a c l j1 u1) := Lib.hid ((HS1.out.keep hba).set hma hne (hk2 _ rfl))
      have HE2 : Hid (EnvAt w2) := Lib.hid ((HE1.out.below hba).keeps (B := mb) (hk2 _ rfl) hmb)
      have HM2 := Lib.hid hm2
      have HK2 : Hid (Keeps (Two B mb) w w2) := Lib.hid ((HK1.out.below hba HK1.out.size).trans (hk2 (Two B mb) (.inr rfl)) (fresh_refl _ _))
      have HR2 : Hid (w2.heap[rb]? = some (.cells #[.string ⟨#[]⟩, .string ⟨#[]⟩] 52 (0, 0))) := Lib.hid (((hk2 (fun k => k = mb) rfl).block rb (by have := lt_of_block HR1.out; have := hba.size; omega) (fun h => by have h' : rb = mb := h; omega)).trans ((hba.block rb (lt_of_block HR1.out)).trans HR1.out))
      clear hba hma hm2 hk2 hwa hlk
      go_upto_region 7 with (fail)
      obtain ⟨S2, hS2⟩ : ∃ S, blanksS j1 u1 = S := ⟨_, rfl⟩
      have HC2 := Lib.hid (blanks_calls HS2.out)
      have hq2 := HQ2.out
      rw [hS2] at HC2 hq2
      cases S2 with
      | no cd p =>
        have HF : Hid (∀ wx, Keeps (One B) w2 wx → AttrOut w B mb ns a c l Q (.panicked [{ v := wrongV cd p, recovered := false }]) wx) := Lib.hid (fun wx hk => by
          rw [hq2]
          exact ⟨rfl, HK2.out.trans hk (fresh_two B mb _)⟩)
        clear hq2 hS2
        go_wp2_with fail
        with_reducible refine HC2.out.mono ?_
        rintro e wx ⟨rfl, hk⟩
        have HF1 := Lib.hid (HF.out wx hk)
        clear hk
        go_wp2_with fail
        exact ⟨rfl, HF1.out⟩
      | ok x2 j3 u3 =>
        rw [Sx.then_ok] at hq2
        have HQ3 := Lib.hid hq2
        have HSS2 := Lib.hid hS2
        clear hq2 hS2
        go_wp2_with fail
        with_reducible refine HC2.out.mono ?_
        rintro e w3 ⟨rfl, hs, hk⟩
        have HS3 := Lib.hid hs
        have HK3 : Hid (Keeps (Two B mb) w w3) := Lib.hid (HK2.out.trans hk (fresh_two B mb _))
        have HE3 : Hid (EnvAt w3) := Lib.hid (HE2.out.keeps hk hB)
        have HM3 : Hid (SetAt w3 mb (ns ++ [x0])) := Lib.hid (HM2.out.keeps hk (fun h => hne h))
        have HR3 : Hid (w3.heap[rb]? = some (.cells #[.string ⟨#[]⟩, .string ⟨#[]⟩] 52 (0, 0))) := Lib.hid (block_keep HR2.out hk (fun h => by have h' : rb = B := h; omega))
        clear hs hk
        obtain ⟨S3, hS3⟩ : ∃ S, mustS 61 j3 u3 = S := ⟨_, rfl⟩
        have HC3 := Lib.hid (must_at HS3.out 61 61 rfl)
        have hq3 := HQ3.out
        rw [hS3] at HC3 hq3
        cases S3 with
        | no cd p =>
          have HF : Hid (∀ wx, Keeps (One B) w3 wx → AttrOut w B mb ns a c l Q (.panicked [{ v := wrongV cd p, recovered := false }]) wx) := Lib.hid (fun wx hk => by
            rw [hq3]
            exact ⟨rfl, HK3.out.trans hk (fresh_two B mb _)⟩)
          clear hq3 hS3
          go_wp2_with fail
          with_reducible refine HC3.out.mono ?_
          rintro e wx ⟨rfl, hk⟩
          have HF1 := Lib.hid (HF.out wx hk)
          clear hk
          go_wp2_with fail
          exact ⟨rfl, HF1.out⟩
        | ok x3 j4 u4 =>
          rw [Sx.then_ok] at hq3
          have HQ4 := Lib.hid hq3
          have HSS3 := Lib.hid hS3
          clear hq3 hS3
          go_wp2_with fail
          with_reducible refine HC3.out.mono ?_
          rintro e w4 ⟨rfl, hs, hk⟩
          have HS4 := Lib.hid hs
          have HK4 : Hid (Keeps (Two B mb) w w4) := Lib.hid (HK3.out.trans hk (fresh_two B mb _))
          have HE4 : Hid (EnvAt w4) := Lib.hid (HE3.out.keeps hk hB)
          have HM4 : Hid (SetAt w4 mb (ns ++ [x0])) := Lib.hid (HM3.out.keeps hk (fun h => hne h))
          have HR4 : Hid (w4.heap[rb]? = some (.cells #[.string ⟨#[]⟩, .string ⟨#[]⟩] 52 (0, 0))) := Lib.hid (block_keep HR3.out hk (fun h => by have h' : rb = B := h; omega))
          clear hs hk
          obtain ⟨S4, hS4⟩ : ∃ S, blanksS j4 u4 = S := ⟨_, rfl⟩
          have HC4 := Lib.hid (blanks_calls HS4.out)
          have hq4 := HQ4.out
          rw [hS4] at HC4 hq4
          cases S4 with
          | no cd p =>
            have HF : Hid (∀ wx, Keeps (One B) w4 wx → AttrOut w B mb ns a c l Q (.panicked [{ v := wrongV cd p, recovered := false }]) wx) := Lib.hid (fun wx hk => by
              rw [hq4]
              exact ⟨rfl, HK4.out.trans hk (fresh_two B mb _)⟩)
            clear hq4 hS4
            go_wp2_with fail
            with_reducible refine HC4.out.mono ?_
            rintro e wx ⟨rfl, hk⟩
            have HF1 := Lib.hid (HF.out wx hk)
            clear hk
            go_wp2_with fail
            exact ⟨rfl, HF1.out⟩
          | ok x4 j5 u5 =>
            rw [Sx.then_ok] at hq4
            have HQ5 := Lib.hid hq4
            have HSS4 := Lib.hid hS4
            clear hq4 hS4
            go_wp2_with fail
            with_reducible refine HC4.out.mono ?_
            rintro e w5 ⟨rfl, hs, hk⟩
            have HS5 := Lib.hid hs
            have HK5 : Hid (Keeps (Two B mb) w w5) := Lib.hid (HK4.out.trans hk (fresh_two B mb _))
            have HE5 : Hid (EnvAt w5) := Lib.hid (HE4.out.keeps hk hB)
            have HM5 : Hid (SetAt w5 mb (ns ++ [x0])) := Lib.hid (HM4.out.keeps hk (fun h => hne h))
            have HR5 : Hid (w5.heap[rb]? = some (.cells #[.string ⟨#[]⟩, .string ⟨#[]⟩] 52 (0, 0))) := Lib.hid (block_keep HR4.out hk (fun h => by have h' : rb = B := h; omega))
            clear hs hk
            obtain ⟨S5, hS5⟩ : ∃ S, valueS j5 u5 = S := ⟨_, rfl⟩
            have HC5 := Lib.hid (value9_calls HS5.out HE5.out hB)
            have hq5 := HQ5.out
            rw [hS5] at HC5 hq5
            cases S5 with
            | no cd p =>
              have HF : Hid (∀ wx, Keeps (One B) w5 wx → AttrOut w B mb ns a c l Q (.panicked [{ v := wrongV cd p, recovered := false }]) wx) := Lib.hid (fun wx hk => by
                rw [hq5]
                exact ⟨rfl, HK5.out.trans hk (fresh_two B mb _)⟩)
              clear hq5 hS5
              go_wp2_with fail
              with_reducible refine HC5.out.mono ?_
              rintro e wx ⟨rfl, hk⟩
              have HF1 := Lib.hid (HF.out wx hk)
              clear hk
              go_wp2_with fail
              exact ⟨rfl, HF1.out⟩
            | ok x5 j6 u6 =>
              rw [Sx.then_ok] at hq5
              have HQ6 := Lib.hid hq5
              have HSS5 := Lib.hid hS5
              clear hq5 hS5
              go_wp2_with fail
              with_reducible refine HC5.out.mono ?_
              rintro e w6 ⟨rfl, hs, hk⟩
              have HS6 := Lib.hid hs
              have HK6 : Hid (Keeps (Two B mb) w w6) := Lib.hid (HK5.out.trans hk (fresh_two B mb _))
              have HE6 : Hid (EnvAt w6) := Lib.hid (HE5.out.keeps hk hB)
              have HM6 : Hid (SetAt w6 mb (ns ++ [x0])) := Lib.hid (HM5.out.keeps hk (fun h => hne h))
              have HR6 : Hid (w6.heap[rb]? = some (.cells #[.string ⟨#[]⟩, .string ⟨#[]⟩] 52 (0, 0))) := Lib.hid (block_keep HR5.out hk (fun h => by have h' : rb = B := h; omega))
              clear hs hk
              obtain ⟨v0, v1⟩ : w6.cell? ⟨rb, 0, none⟩ = some (.string ⟨#[]⟩) ∧ w6.cell? ⟨rb, 1, none⟩ = some (.string ⟨#[]⟩) := ⟨(cell_of_block HR6.out 0).trans rfl, (cell_of_block HR6.out 1).trans rfl⟩
              have f0 := unfrozen_of_block HR6.out 0
              have f1 := unfrozen_of_block HR6.out 1
              go_wp2_with fail
              have hk7 : Keeps (Two B mb) w ((w6.setCell ⟨rb, 0, none⟩ (.string (strB x0))).setCell ⟨rb, 1, none⟩ (.string (strB x5))) := (HK6.out.setCell (p := ⟨rb, 0, none⟩) (.inr (by rw [← HRB.out]; exact Nat.le_refl _)) _).setCell (p := ⟨rb, 1, none⟩) (.inr (by rw [← HRB.out]; exact Nat.le_refl _)) _
              have hr7 := block_setCell (i := 1) (block_setCell (i := 0) HR6.out (.string (strB x0))) (.string (strB x5))
              have c0 := (cell_of_block hr7 0).trans rfl
              have c1 := (cell_of_block hr7 1).trans rfl
              have hk67 : Keeps (One rb) w6 ((w6.setCell ⟨rb, 0, none⟩ (.string (strB x0))).setCell ⟨rb, 1, none⟩ (.string (strB x5))) := ((Keeps.refl (One rb) w6).setCell (p := ⟨rb, 0, none⟩) (.inl rfl) _).setCell (p := ⟨rb, 1, none⟩) (.inl rfl) _
              have HF : Hid (AttrOut w B mb ns a c l Q (.returned (.agg #[.string (strB x0), .string (strB x5)])) ((w6.setCell ⟨rb, 0, none⟩ (.string (strB x0))).setCell ⟨rb, 1, none⟩ (.string (strB x5)))) := Lib.hid (by
                rw [HQ6.out]
                refine ⟨rfl, ?_, HM6.out.keeps hk67 (fun h => by have h' : mb = rb := h; omega), hk7⟩
                have hblk := block_keep HS6.out.blk hk67 (fun h => by have h' : B = rb := h; omega)
                refine ⟨hblk, ?_, HS6.out.nul, HS6.out.cap, HS6.out.most, HS6.out.few, HS6.out.fits, HS6.out.left⟩
                rcases HS0.out.row with h0 | ⟨b, o, h1, h2, h3⟩
                · exact .inl h0
                · rcases HS6.out.row with h0 | ⟨b', o', h1', h2', h3'⟩
                  · exact .inl h0
                  · refine .inr ⟨b', o', h1', h2', fun k hk' => ?_⟩
                    rw [h1] at h1'
                    cases h1'
                    refine (World.cell?_of_block (hk67.block b (lt_of_cell (h3' k hk')) (fun e => ?_))).trans (h3' k hk')
                    have e' : b = rb := e
                    exact HDOC.out b o h1 (by omega) e')
              clear hk7 hr7 hk67
              refine bodyPost_ret (v := .agg #[.string (strB x0), .string (strB x5)]) (by simp [results, Tryz.results134, go_sem, c0, c1]) rfl HF.out

end Go.Proofs.YtfonflbpkbibbaaGreatDoor
