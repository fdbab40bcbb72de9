/-
  The answers that the document fixes are the program's; whether a byte is in a text. Conditions: the tables, the library's bound, the arrays of signs and the handle are laid.
-/
import Derived.Test.YtkpgbcackphdbaaDoorQK
import Derived.Deep.DeepCutAuto
import Derived.Deep.Cut
namespace Go.Proofs.YtkpgbcackphdbaaDoor
open Go.RowKit Go.Lib Go.Joins

def awA : List UInt8 := [97, 32, 42, 32, 42]
def awB : List UInt8 := [97, 32, 98]
def awC : List UInt8 := [39, 120]
theorem awA_all : allQ awA = .ok [⟨1, 0, [97]⟩, ⟨5, 2, [42]⟩, ⟨1, 4, [42]⟩] := by kernel_rfl
theorem awB_all : allQ awB = .error (61, 2) := by kernel_rfl
theorem awC_all : allQ awC = .error (60, 0) := by kernel_rfl

/-- What the laws' calls ask of memory. -/
structure AwE (w : World) : Prop where
  env : QEnv w
  handle : Handle w
theorem AwE.below {w w' : World} (h : AwE w) (hb : Below w.heap.size w w') : AwE w' := ⟨h.env.below hb, cell_below hb h.handle⟩

set_option maxRecDepth 100000 in
set_option maxHeartbeats 8000000 in
theorem awake_calls (w : World) (hE : AwE w) : Calls Tryd.prog 6 #[] w (Leaves (.bool true) w) := by
  have HP1 := Lib.hid (all_calls awA w (by decide) hE.env)
  have HP2 := Lib.hid (fun (W : World) (hb : Below w.heap.size w W) => all_calls awB W (by decide) (hE.env.below hb))
  have HP3 := Lib.hid (fun (W : World) (hb : Below w.heap.size w W) => all_calls awC W (by decide) (hE.env.below hb))
  unfold AllOut at HP1 HP2 HP3
  have e1 : strB awA = { data := #[97, 32, 42, 32, 42] } := rfl
  have e2 : strB awB = { data := #[97, 32, 98] } := rfl
  have e3 : strB awC = { data := #[39, 120] } := rfl
  rw [e1] at HP1
  rw [e2] at HP2
  rw [e3] at HP3
  have HE := Lib.hid hE
  clear hE e1 e2 e3
  go_enter Tryd.func6, Tryd.ntmps6
  go_wp2_with fail
  with_reducible refine HP1.out.mono ?_
  rintro e w1 ⟨v, ev, rfl, hb1, ⟨l, hl, hin, rfl⟩ | ⟨c, n, hl, _⟩⟩
  case inr => rw [awA_all] at hl; cases hl
  rw [awA_all] at hl
  injection hl with hl
  subst hl
  obtain ⟨a, c, rfl, _, _⟩ := hin.form
  have hin2 : TkIn w1 (.slice a 3 c) [⟨1, 0, [97]⟩, ⟨5, 2, [42]⟩, ⟨1, 4, [42]⟩] := hin
  have HB1 := Lib.hid hb1
  have HIN := Lib.hid hin2
  have HP2b := Lib.hid (HP2.out w1 hb1)
  have hlen : ([⟨1, 0, [97]⟩, ⟨5, 2, [42]⟩, ⟨1, 4, [42]⟩] : List Tk).length = 3 := rfl
  rw [hlen]
  clear hb1 hin hin2 HP1 HP2 hlen
  go_wp2_with fail
  with_reducible refine HP2b.out.mono ?_
  rintro e w2 ⟨v2, ev2, rfl, hb2, ⟨l, hl, _, _⟩ | ⟨cc, n, hl, rfl, he⟩⟩
  case inl => rw [awB_all] at hl; cases hl
  rw [awB_all] at hl
  injection hl with hl
  injection hl with hl1 hl2
  subst hl1 hl2
  have HB2 := Lib.hid (below_then HB1.out hb2)
  have HIN2 := Lib.hid (HIN.out.below hb2)
  have HER := Lib.hid he
  have HP3b := Lib.hid (HP3.out w2 HB2.out)
  obtain ⟨eb, rfl⟩ : ∃ eb, ev2 = .iface 61 (.pointer (some ⟨eb, 0, none⟩)) := by
    rcases he with ⟨h0, _⟩ | ⟨_, eb, h1, _⟩
    · exact absurd h0 (by decide)
    · exact ⟨eb, h1⟩
  clear hb2 he HP2b HIN HB1 HP3
  go_wp2_with fail
  with_reducible refine HP3b.out.mono ?_
  rintro e w3 ⟨v3, ev3, rfl, hb3, ⟨l, hl, _, _⟩ | ⟨cc, n, hl, rfl, he⟩⟩
  case inl => rw [awC_all] at hl; cases hl
  rw [awC_all] at hl
  injection hl with hl
  injection hl with hl1 hl2
  subst hl1 hl2
  have HB3 := Lib.hid (below_then HB2.out hb3)
  have HIN3 := Lib.hid (HIN2.out.below hb3)
  have HER2 := Lib.hid (HER.out.below hb3)
  have HER3 := Lib.hid he
  obtain ⟨eb3, rfl⟩ : ∃ eb, ev3 = .iface 61 (.pointer (some ⟨eb, 0, none⟩)) := by
    rcases he with ⟨h0, _⟩ | ⟨_, eb, h1, _⟩
    · exact absurd h0 (by decide)
    · exact ⟨eb, h1⟩
  clear hb3 he HP3b HIN2 HER
  obtain ⟨b, o, rfl, c1, _, _⟩ := HIN3.out.at (i := 1) (x := ⟨5, 2, [42]⟩) rfl
  obtain ⟨b', o', hbo, c2, _, _⟩ := HIN3.out.at (i := 2) (x := ⟨1, 4, [42]⟩) rfl
  injection hbo with hbo
  injection hbo with hbo1 hbo2 _
  subst hbo1 hbo2
  have c1' : w3.cell? ⟨b, o + 3, none⟩ = some (.int .i64 5) := c1
  have c2' : w3.cell? ⟨b, o + 6, none⟩ = some (.int .i64 1) := c2
  have hc2 : ∀ W : World, Below w3.heap.size w3 W → Calls Tryd.prog 8 #[.iface 61 (.pointer (some ⟨eb, 0, none⟩))] W (Leaves1 (.int .i64 61) W) ∧ Calls Tryd.prog 11 #[.iface 61 (.pointer (some ⟨eb, 0, none⟩))] W (Leaves1 (.int .i64 2) W) ∧ Calls Tryd.prog 8 #[.iface 61 (.pointer (some ⟨eb3, 0, none⟩))] W (Leaves1 (.int .i64 60) W) := fun W hb =>
    ⟨code_calls 61 2 _ W (HER2.out.below hb) (HE.out.handle.below (below_then HB3.out hb)), at_calls 61 2 _ W (HER2.out.below hb) (HE.out.handle.below (below_then HB3.out hb)), code_calls 60 0 _ W (HER3.out.below hb) (HE.out.handle.below (below_then HB3.out hb))⟩
  have HCC := Lib.hid hc2
  clear c1 c2 hc2
  have HC1 := Lib.hid (HCC.out w3 (Below.refl _ _)).1
  go_wp2_with fail
  with_reducible refine HC1.out.mono ?_
  rintro e w4 ⟨rfl, hb4⟩
  have HB4 := Lib.hid hb4
  have HC2 := Lib.hid (HCC.out w4 hb4).2.1
  clear hb4 HC1
  go_wp2_with fail
  with_reducible refine HC2.out.mono ?_
  rintro e w5 ⟨rfl, hb5⟩
  have HB5 := Lib.hid (below_then HB4.out hb5)
  have HC3 := Lib.hid (HCC.out w5 HB5.out).2.2
  clear hb5 HC2
  go_wp2_with fail
  with_reducible refine HC3.out.mono ?_
  rintro e w6 ⟨rfl, hb6⟩
  have HB6 := Lib.hid (below_then HB3.out (below_then HB5.out hb6))
  clear hb6
  go_wp2
  go_ret
  exact ⟨rfl, HB6.out⟩

set_option maxRecDepth 100000 in
set_option maxHeartbeats 4000000 in
theorem has_calls (l : List UInt8) (c : UInt8) (w : World) (hl : l.length ≤ 1073741824) : Calls Tryd.prog 9 #[.string (strB l), .int .u8 (c.toNat : Int)] w (Leaves (.bool (l.contains c)) w) := by
  have hs1 := strB_size l
  have hget : ∀ (i : Nat) (h : i < (strB l).size), ∃ h2 : i < l.length, (strB l)[i]'h = l[i]'h2 := fun i h => ⟨by omega, rfl⟩
  obtain ⟨q, hq⟩ : ∃ q, l.contains c = q := ⟨_, rfl⟩
  rw [hq]
  obtain ⟨s, hs⟩ : ∃ s, strB l = s := ⟨_, rfl⟩
  rw [hs] at hs1 hget ⊢
  have HGET := Lib.hid hget
  have HQ : Hid ((l.drop 0).contains c = q) := Lib.hid hq
  obtain ⟨X, hX⟩ : ∃ X : Int, (c.toNat : Int) = X := ⟨_, rfl⟩
  rw [hX]
  have HX := Lib.hid hX
  have HS := Lib.hid hs1
  clear hget hq hs hX hs1
  go_enter Tryd.func9, Tryd.ntmps9
  go_wp2
  go_loopg [5] s.size (fun g v wr => ∃ i : Nat, v = .int .i64 i ∧ g + i = s.size ∧ (l.drop i).contains c = q ∧ wr = w)
  case atStart => exact ⟨0, rfl, rfl, HQ.out, rfl⟩
  case round =>
    obtain ⟨i, rfl, hg, hi, rfl⟩ := hrel
    have HG := Lib.hid hg
    have HI := Lib.hid hi
    clear hg hi
    by_cases hlt : i < s.size
    · have hd : decide ((i : Int) < (s.size : Int)) = true := by simp; omega
      have hii : (i : Int) < (s.size : Int) := by omega
      obtain ⟨h2, hgi⟩ := HGET.out i hlt
      have hdr := List.drop_eq_getElem_cons h2
      obtain ⟨x, hxi⟩ : ∃ x, s[i]'hlt = x := ⟨_, rfl⟩
      rw [hxi] at hgi
      rw [← hgi] at hdr
      have hst : (x :: l.drop (i + 1)).contains c = q := by rw [← hdr]; exact HI.out
      rw [List.contains_cons] at hst
      have HST := Lib.hid hst
      have lx := x.toNat_lt
      have lc := c.toNat_lt
      obtain ⟨Y, hY⟩ : ∃ Y : Int, (x.toNat : Int) = Y := ⟨_, rfl⟩
      have hcmp : (Y == X) = (c == x) := by
        rw [← hY, ← HX.out, Bool.eq_iff_iff, beq_iff_eq, beq_iff_eq, ← UInt8.toNat_inj]
        omega
      have HCMP := Lib.hid hcmp
      clear hgi hdr hst hcmp HI
      cases hcx : (c == x) with
      | true =>
        have e1 : (Y == X) = true := by rw [HCMP.out, hcx]
        have e2 : Y = X := by simpa using e1
        rw [hcx] at HST
        obtain rfl : q = true := HST.out.symm
        clear hcx
        go_wp2_with fail
        go_ret
        exact ⟨rfl, Below.refl _ _⟩
      | false =>
        have e1 : (Y == X) = false := by rw [HCMP.out, hcx]
        have e2 : ¬ Y = X := by simpa using e1
        rw [hcx] at HST
        have HN : Hid ((l.drop (i + 1)).contains c = q) := HST
        clear hcx HST
        go_wp2_with fail
        go_roundg (gk - 1)
        case measure => have := HG.out; omega
        case rel => exact ⟨i + 1, by go_num, by have := HG.out; omega, HN.out, rfl⟩
    · have hd : decide ((i : Int) < (s.size : Int)) = false := by simp; omega
      have hq : q = false := by
        rw [← HI.out, List.drop_eq_nil_of_le (by have := HS.out; omega)]
        rfl
      subst hq
      go_wp2_with fail
      go_ret
      exact ⟨rfl, Below.refl _ _⟩
/-- The walk of a region that only reads, of which the kernel sees no further than the next operation. -/
structure QW (P : Program) (ops : Array Oper) (C : World → Prop) (Q : Act → Prop) (rest : List Oper) (a : Act) : Prop where
  out : wpQuiet P ops C Q rest a
theorem QW.nil {P : Program} {ops : Array Oper} {C : World → Prop} {Q : Act → Prop} {a : Act} (h : Q a) : QW P ops C Q [] a := ⟨h⟩
theorem QW.step {P : Program} {ops : Array Oper} {C : World → Prop} {Q : Act → Prop} {a : Act} {o : Oper} {rest : List Oper}
    (h : ∀ K : Act → Prop, (∀ a, QW P ops C Q rest a → K a) → if Region.wanted o (yielded ops a.tmps) then o.quiet P a C K else K (a.put o.dst undef)) : QW P ops C Q (o :: rest) a :=
  ⟨h _ (fun _ h => h.out)⟩
end Go.Proofs.YtkpgbcackphdbaaDoor
