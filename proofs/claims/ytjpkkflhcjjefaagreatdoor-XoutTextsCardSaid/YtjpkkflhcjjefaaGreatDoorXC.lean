/-
 A run between references, turned: in a value, and in characters.
-/
import Derived.Test.YtjpkkflhcjjefaaGreatDoorXT
import Derived.Test.YtjpkkflhcjjefaaGreatDoorXE
import Derived.Lib.SlBytesConst
namespace Go.Proofs.YtjpkkflhcjjefaaGreatDoor
open Go.RowKit Go.Lib Go.Joins
set_option maxRecDepth 100000
set_option maxHeartbeats 32000000
theorem numS_eq (b : Nat) (s : List UInt8) : numS b s = if s = [] then none else belowS (digsS b 0 s) := rfl
def ParOut (q : Option Nat) (w : World) (e : Ending) (w' : World) : Prop :=
 (match q with
  | some v => e = .returned (.tuple #[.int .u64 (v : Int), .nilIface])
  | none => ∃ u T p, e = .returned (.tuple #[.int .u64 u, .iface T p])) ∧ Below w.heap.size w w'
theorem strB_size (s : List UInt8) : (strB s).size = s.length := rfl
theorem strB_list (s : List UInt8) : (strB s).data.toList = s := rfl
theorem strB_data (t : ByteArray) : strB t.data.toList = t := by cases t; rfl
theorem parse10_calls (t : ByteArray) (w : World) (hmax : t.size ≤ 1073741824) (hE : EnvAt w) : Calls Tryz.prog 194 #[.string t, .int .i64 10, .int .i64 31] w (ParOut (numS 10 t.data.toList) w) := by
 obtain ⟨es, hes, hesv⟩ := hE.es
 by_cases hne : t.size = 0
 ·have ht : t = ⟨#[]⟩ := by
   cases t with
   | mk d =>
    have : d = #[] := Array.eq_empty_of_size_eq_zero hne
    rw [this]
  subst ht
  have HF : Hid (∀ u T p w', Below w.heap.size w w' → ParOut (numS 10 (⟨#[]⟩ : ByteArray).data.toList) w (.returned (.tuple #[.int .u64 u, .iface T p])) w') := hid (fun u T p w' hb => ⟨⟨u, T, p, rfl⟩, hb⟩)
  have HI := hid (Tryz.internal_strconv_ParseUint_empty 10 31 w)
  have HT := hid (Tryz.strconv_toError_syntax ⟨#[80, 97, 114, 115, 101, 85, 105, 110, 116]⟩ ⟨#[]⟩ 10 31 es w (by decide) hes hesv)
  clear hes hesv hne hmax hE
  go_enter Tryz.func194, Tryz.ntmps194
  go_wp2_with fail
  with_reducible refine HI.out.mono ?_
  rintro e w1 ⟨rfl, rfl⟩
  go_wp2_with fail
  with_reducible refine HT.out.mono ?_
  rintro e w2 ⟨N, rfl, _, _, hb⟩
  have HB := hid hb
  clear hb
  go_wp2_with fail
  go_ret2
  exact HF.out _ _ _ _ HB.out
 ·have HI := hid (inner10_calls t hne hmax w)
  have hnn : numS 10 t.data.toList = belowS (digsS 10 0 t.data.toList) := by
   rw [numS_eq, if_neg]
   intro h
   exact hne (by rw [Lib.size_eq, h]; rfl)
  rw [hnn]
  have HE := hid hE
  have HM := hid hmax
  obtain ⟨q, hq⟩ : ∃ q, belowS (digsS 10 0 t.data.toList) = q := ⟨_, rfl⟩
  rw [hq] at HI ⊢
  clear hes hesv hne hmax hE hnn hq
  cases q with
  | some v =>
   have HF : Hid (∀ w', Below w.heap.size w w' → ParOut (some v) w (.returned (.tuple #[.int .u64 (v : Int), .nilIface])) w') := hid (fun w' hb => ⟨rfl, hb⟩)
   go_enter Tryz.func194, Tryz.ntmps194
   go_wp2_with fail
   with_reducible refine HI.out.mono ?_
   rintro e w1 ⟨he, hb⟩
   dsimp only at he
   subst he
   have HF1 := hid (HF.out w1 hb)
   clear hb
   go_wp2_with fail
   go_ret2
   exact HF1.out
  | none =>
   have HF : Hid (∀ u T p w', Below w.heap.size w w' → ParOut none w (.returned (.tuple #[.int .u64 u, .iface T p])) w') := hid (fun u T p w' hb => ⟨⟨u, T, p, rfl⟩, hb⟩)
   go_enter Tryz.func194, Tryz.ntmps194
   go_wp2_with fail
   with_reducible refine HI.out.mono ?_
   rintro e w1 ⟨⟨u, k, rfl, hk⟩, hb⟩
   have HB := hid hb
   obtain ⟨es, hes, hesv⟩ := (HE.out.below hb).es
   obtain ⟨er, her, herv⟩ := (HE.out.below hb).er
   have HS := hid (Tryz.strconv_toError_syntax ⟨#[80, 97, 114, 115, 101, 85, 105, 110, 116]⟩ t 10 31 es w1 (by have := HM.out; omega) hes hesv)
   have HR := hid (Tryz.strconv_toError_range ⟨#[80, 97, 114, 115, 101, 85, 105, 110, 116]⟩ t 10 31 er w1 (by have := HM.out; omega) her herv)
   clear hb hes hesv her herv
   rcases hk with rfl | rfl
   ·go_wp2_with fail
    with_reducible refine HR.out.mono ?_
    rintro e w2 ⟨N, rfl, _, _, hb⟩
    have HB2 := hid (below_then HB.out hb)
    clear hb
    go_wp2_with fail
    go_ret2
    exact HF.out _ _ _ _ HB2.out
   ·go_wp2_with fail
    with_reducible refine HS.out.mono ?_
    rintro e w2 ⟨N, rfl, _, _, hb⟩
    have HB2 := hid (below_then HB.out hb)
    clear hb
    go_wp2_with fail
    go_ret2
    exact HF.out _ _ _ _ HB2.out
theorem parse16_calls (t : ByteArray) (w : World) (hmax : t.size ≤ 1073741824) (hE : EnvAt w) : Calls Tryz.prog 194 #[.string t, .int .i64 16, .int .i64 31] w (ParOut (numS 16 t.data.toList) w) := by
 obtain ⟨es, hes, hesv⟩ := hE.es
 by_cases hne : t.size = 0
 ·have ht : t = ⟨#[]⟩ := by
   cases t with
   | mk d =>
    have : d = #[] := Array.eq_empty_of_size_eq_zero hne
    rw [this]
  subst ht
  have HF : Hid (∀ u T p w', Below w.heap.size w w' → ParOut (numS 16 (⟨#[]⟩ : ByteArray).data.toList) w (.returned (.tuple #[.int .u64 u, .iface T p])) w') := hid (fun u T p w' hb => ⟨⟨u, T, p, rfl⟩, hb⟩)
  have HI := hid (Tryz.internal_strconv_ParseUint_empty 16 31 w)
  have HT := hid (Tryz.strconv_toError_syntax ⟨#[80, 97, 114, 115, 101, 85, 105, 110, 116]⟩ ⟨#[]⟩ 16 31 es w (by decide) hes hesv)
  clear hes hesv hne hmax hE
  go_enter Tryz.func194, Tryz.ntmps194
  go_wp2_with fail
  with_reducible refine HI.out.mono ?_
  rintro e w1 ⟨rfl, rfl⟩
  go_wp2_with fail
  with_reducible refine HT.out.mono ?_
  rintro e w2 ⟨N, rfl, _, _, hb⟩
  have HB := hid hb
  clear hb
  go_wp2_with fail
  go_ret2
  exact HF.out _ _ _ _ HB.out
 ·have HI := hid (inner16_calls t hne hmax w)
  have hnn : numS 16 t.data.toList = belowS (digsS 16 0 t.data.toList) := by
   rw [numS_eq, if_neg]
   intro h
   exact hne (by rw [Lib.size_eq, h]; rfl)
  rw [hnn]
  have HE := hid hE
  have HM := hid hmax
  obtain ⟨q, hq⟩ : ∃ q, belowS (digsS 16 0 t.data.toList) = q := ⟨_, rfl⟩
  rw [hq] at HI ⊢
  clear hes hesv hne hmax hE hnn hq
  cases q with
  | some v =>
   have HF : Hid (∀ w', Below w.heap.size w w' → ParOut (some v) w (.returned (.tuple #[.int .u64 (v : Int), .nilIface])) w') := hid (fun w' hb => ⟨rfl, hb⟩)
   go_enter Tryz.func194, Tryz.ntmps194
   go_wp2_with fail
   with_reducible refine HI.out.mono ?_
   rintro e w1 ⟨he, hb⟩
   dsimp only at he
   subst he
   have HF1 := hid (HF.out w1 hb)
   clear hb
   go_wp2_with fail
   go_ret2
   exact HF1.out
  | none =>
   have HF : Hid (∀ u T p w', Below w.heap.size w w' → ParOut none w (.returned (.tuple #[.int .u64 u, .iface T p])) w') := hid (fun u T p w' hb => ⟨⟨u, T, p, rfl⟩, hb⟩)
   go_enter Tryz.func194, Tryz.ntmps194
   go_wp2_with fail
   with_reducible refine HI.out.mono ?_
   rintro e w1 ⟨⟨u, k, rfl, hk⟩, hb⟩
   have HB := hid hb
   obtain ⟨es, hes, hesv⟩ := (HE.out.below hb).es
   obtain ⟨er, her, herv⟩ := (HE.out.below hb).er
   have HS := hid (Tryz.strconv_toError_syntax ⟨#[80, 97, 114, 115, 101, 85, 105, 110, 116]⟩ t 16 31 es w1 (by have := HM.out; omega) hes hesv)
   have HR := hid (Tryz.strconv_toError_range ⟨#[80, 97, 114, 115, 101, 85, 105, 110, 116]⟩ t 16 31 er w1 (by have := HM.out; omega) her herv)
   clear hb hes hesv her herv
   rcases hk with rfl | rfl
   ·go_wp2_with fail
    with_reducible refine HR.out.mono ?_
    rintro e w2 ⟨N, rfl, _, _, hb⟩
    have HB2 := hid (below_then HB.out hb)
    clear hb
    go_wp2_with fail
    go_ret2
    exact HF.out _ _ _ _ HB2.out
   ·go_wp2_with fail
    with_reducible refine HS.out.mono ?_
    rintro e w2 ⟨N, rfl, _, _, hb⟩
    have HB2 := hid (below_then HB.out hb)
    clear hb
    go_wp2_with fail
    go_ret2
    exact HF.out _ _ _ _ HB2.out
def ToldOut (q : Option Nat) (w : World) (e : Ending) (w' : World) : Prop :=
 (match q with
  | some v => e = .returned (.tuple #[.int .i32 (v : Int), .bool true])
  | none => e = .returned (.tuple #[.int .i32 0, .bool false])) ∧ Below w.heap.size w w'
theorem numS_lt {b : Nat} {s : List UInt8} {v : Nat} (h : numS b s = some v) : v < 2147483648 := by
 rw [numS_eq] at h
 by_cases hs : s = []
 ·rw [if_pos hs] at h; cases h
 ·rw [if_neg hs] at h
  cases hd : digsS b 0 s with
  | none => rw [hd] at h; cases h
  | some x =>
   rw [hd] at h
   change (if x < 2147483648 then some x else none) = some v at h
   by_cases hx : x < 2147483648
   ·rw [if_pos hx] at h; cases h; exact hx
   ·rw [if_neg hx] at h; cases h
theorem told_calls (ms : ByteArray) (w : World) (hmax : ms.size ≤ 1073741824) (hE : EnvAt w) : Calls Tryz.prog 181 #[.string ms] w (ToldOut (toldS ms.data.toList) w) := by
 have hsl : ms.toList = ms.data.toList := Go.Lib.toList_data ms
 obtain ⟨s, hs⟩ : ∃ s, ms.data.toList = s := ⟨_, rfl⟩
 have hlen : s.length ≤ 1073741824 := by rw [← hs, ← Lib.size_eq]; exact hmax
 rw [hs]
 rw [hs] at hsl
 have HSL := hid hsl
 have HS := hid hs
 have HLEN := hid hlen
 have HE := hid hE
 clear hsl hs hlen hmax hE
 cases h0 : (ms.toList == [97, 109, 112]) with
 | true =>
  have hs : s = [97, 109, 112] := by rw [HSL.out] at h0; exact LawfulBEq.eq_of_beq h0
  have HF : Hid (ToldOut (toldS s) w (.returned (.tuple #[.int .i32 38, .bool true])) w) := hid (by
   rw [hs]
   exact ⟨rfl, Below.refl _ _⟩)
  clear hs
  go_enter Tryz.func181, Tryz.ntmps181
  go_wp2_with fail
  go_ret2
  exact HF.out
 | false =>
  have n0 : ¬ s = [97, 109, 112] := by
   intro h
   rw [HSL.out, h] at h0
   exact absurd h0 (by decide)
  cases h1 : (ms.toList == [108, 116]) with
  | true =>
   have hs : s = [108, 116] := by rw [HSL.out] at h1; exact LawfulBEq.eq_of_beq h1
   have HF : Hid (ToldOut (toldS s) w (.returned (.tuple #[.int .i32 60, .bool true])) w) := hid (by
    rw [hs]
    exact ⟨rfl, Below.refl _ _⟩)
   clear hs
   go_enter Tryz.func181, Tryz.ntmps181
   go_wp2_with fail
   go_ret2
   exact HF.out
  | false =>
   have n1 : ¬ s = [108, 116] := by
    intro h
    rw [HSL.out, h] at h1
    exact absurd h1 (by decide)
   cases h2 : (ms.toList == [103, 116]) with
   | true =>
    have hs : s = [103, 116] := by rw [HSL.out] at h2; exact LawfulBEq.eq_of_beq h2
    have HF : Hid (ToldOut (toldS s) w (.returned (.tuple #[.int .i32 62, .bool true])) w) := hid (by
     rw [hs]
     exact ⟨rfl, Below.refl _ _⟩)
    clear hs
    go_enter Tryz.func181, Tryz.ntmps181
    go_wp2_with fail
    go_ret2
    exact HF.out
   | false =>
    have n2 : ¬ s = [103, 116] := by
     intro h
     rw [HSL.out, h] at h2
     exact absurd h2 (by decide)
    cases h3 : (ms.toList == [113, 117, 111, 116]) with
    | true =>
     have hs : s = [113, 117, 111, 116] := by rw [HSL.out] at h3; exact LawfulBEq.eq_of_beq h3
     have HF : Hid (ToldOut (toldS s) w (.returned (.tuple #[.int .i32 34, .bool true])) w) := hid (by
      rw [hs]
      exact ⟨rfl, Below.refl _ _⟩)
     clear hs
     go_enter Tryz.func181, Tryz.ntmps181
     go_wp2_with fail
     go_ret2
     exact HF.out
    | false =>
     have n3 : ¬ s = [113, 117, 111, 116] := by
      intro h
      rw [HSL.out, h] at h3
      exact absurd h3 (by decide)
     cases h4 : (ms.toList == [97, 112, 111, 115]) with
     | true =>
      have hs : s = [97, 112, 111, 115] := by rw [HSL.out] at h4; exact LawfulBEq.eq_of_beq h4
      have HF : Hid (ToldOut (toldS s) w (.returned (.tuple #[.int .i32 39, .bool true])) w) := hid (by
       rw [hs]
       exact ⟨rfl, Below.refl _ _⟩)
      clear hs
      go_enter Tryz.func181, Tryz.ntmps181
      go_wp2_with fail
      go_ret2
      exact HF.out
     | false =>
      have n4 : ¬ s = [97, 112, 111, 115] := by
       intro h
       rw [HSL.out, h] at h4
       exact absurd h4 (by decide)
      have ht : toldS s = if [35, 120].isPrefixOf s = true then charS (numS 16 (s.drop 2)) else if [35].isPrefixOf s = true then charS (numS 10 (s.drop 1)) else none := by
       unfold toldS
       rw [if_neg n0, if_neg n1, if_neg n2, if_neg n3, if_neg n4]
      have HC1 := hid (Tryz.strings_CutPrefix ms ⟨#[35, 120]⟩ w)
      have HC2 := hid (Tryz.strings_CutPrefix ms ⟨#[35]⟩ w)
      have hp1 : Lib.hasPrefix s [35, 120] = [35, 120].isPrefixOf s := rfl
      have hp2 : Lib.hasPrefix s [35] = [35].isPrefixOf s := rfl
      have ht1 : Lib.trimPrefix s [35, 120] = if [35, 120].isPrefixOf s = true then s.drop 2 else s := rfl
      have ht2 : Lib.trimPrefix s [35] = if [35].isPrefixOf s = true then s.drop 1 else s := rfl
      have hl1 : (⟨#[35, 120]⟩ : ByteArray).data.toList = [35, 120] := rfl
      have hl2 : (⟨#[35]⟩ : ByteArray).data.toList = [35] := rfl
      rw [HS.out, hl1, hp1, ht1] at HC1
      rw [HS.out, hl2, hp2, ht2] at HC2
      clear n0 n1 n2 n3 n4 hp1 hp2 ht1 ht2 hl1 hl2
      cases hb1 : [35, 120].isPrefixOf s with
      | true =>
       rw [hb1, if_pos rfl] at ht HC1
       have hd : (s.drop 2).length ≤ 1073741824 := by rw [List.length_drop]; have := HLEN.out; omega
       have HP := hid (parse16_calls (strB (s.drop 2)) w (by rw [strB_size]; exact hd) HE.out)
       rw [strB_list] at HP
       obtain ⟨ds, hds⟩ : ∃ ds, strB (s.drop 2) = ds := ⟨_, rfl⟩
       rw [hds] at HP
       have hds2 : (⟨(s.drop 2).toArray⟩ : ByteArray) = ds := hds
       rw [hds2] at HC1
       obtain ⟨q, hq⟩ : ∃ q, numS 16 (s.drop 2) = q := ⟨_, rfl⟩
       rw [hq] at HP
       rw [hq] at ht
       clear hds hds2 hd hb1
       cases q with
       | none =>
        have HF : Hid (∀ w', Below w.heap.size w w' → ToldOut (toldS s) w (.returned (.tuple #[.int .i32 0, .bool false])) w') := hid (fun w' hb => by
         rw [ht]
         exact ⟨rfl, hb⟩)
        clear hq ht
        go_enter Tryz.func181, Tryz.ntmps181
        go_wp2_with fail
        with_reducible refine HC1.out.mono ?_
        rintro e w1 ⟨rfl, rfl⟩
        go_wp2_with fail
        with_reducible refine HP.out.mono ?_
        rintro e w1 ⟨⟨u, T, p, rfl⟩, hb⟩
        have HF1 := hid (HF.out w1 hb)
        clear hb
        go_wp2_with fail
        go_ret2
        exact HF1.out
       | some v =>
        have hv := numS_lt hq
        have hi32 : IntKind.i32.wrap (v : Int) = (v : Int) := IntWalk.i32_in _ (by omega)
        have HCH := hid (fun W (hb : Below w.heap.size w W) => chars_calls (v : Int) W (HE.out.below hb).laid.2.1)
        obtain ⟨cb, hcb⟩ : ∃ cb, inTab charsT (v : Int) = cb := ⟨_, rfl⟩
        rw [show charS (some v) = if inTab charsT (v : Int) = true then some v else none from rfl, hcb] at ht
        simp only [hcb] at HCH
        cases cb with
        | true =>
         have HF : Hid (∀ w', Below w.heap.size w w' → ToldOut (toldS s) w (.returned (.tuple #[.int .i32 (v : Int), .bool true])) w') := hid (fun w' hb => by
          rw [ht, if_pos rfl]
          exact ⟨rfl, hb⟩)
         clear hq ht hcb
         go_enter Tryz.func181, Tryz.ntmps181
         go_wp2_with fail
         with_reducible refine HC1.out.mono ?_
         rintro e w1 ⟨rfl, rfl⟩
         go_wp2_with fail
         with_reducible refine HP.out.mono ?_
         rintro e w1 ⟨he, hb⟩
         dsimp only at he
         subst he
         have HB := hid hb
         have HCH1 := hid (HCH.out w1 hb)
         clear hb
         go_wp2_with fail
         with_reducible refine HCH1.out.mono ?_
         rintro e w2 ⟨rfl, hb⟩
         have HF1 := hid (HF.out w2 (below_then HB.out hb))
         clear hb
         go_wp2_with fail
         go_ret2
         exact HF1.out
        | false =>
         have HF : Hid (∀ w', Below w.heap.size w w' → ToldOut (toldS s) w (.returned (.tuple #[.int .i32 0, .bool false])) w') := hid (fun w' hb => by
          rw [ht, if_neg Bool.false_ne_true]
          exact ⟨rfl, hb⟩)
         clear hq ht hcb
         go_enter Tryz.func181, Tryz.ntmps181
         go_wp2_with fail
         with_reducible refine HC1.out.mono ?_
         rintro e w1 ⟨rfl, rfl⟩
         go_wp2_with fail
         with_reducible refine HP.out.mono ?_
         rintro e w1 ⟨he, hb⟩
         dsimp only at he
         subst he
         have HB := hid hb
         have HCH1 := hid (HCH.out w1 hb)
         clear hb
         go_wp2_with fail
         with_reducible refine HCH1.out.mono ?_
         rintro e w2 ⟨rfl, hb⟩
         have HF1 := hid (HF.out w2 (below_then HB.out hb))
         clear hb
         go_wp2_with fail
         go_ret2
         exact HF1.out
      | false =>
       rw [hb1, if_neg Bool.false_ne_true] at ht HC1
       cases hb2 : [35].isPrefixOf s with
       | true =>
        rw [hb2, if_pos rfl] at ht HC2
        have hd : (s.drop 1).length ≤ 1073741824 := by rw [List.length_drop]; have := HLEN.out; omega
        have HP := hid (parse10_calls (strB (s.drop 1)) w (by rw [strB_size]; exact hd) HE.out)
        rw [strB_list] at HP
        obtain ⟨ds, hds⟩ : ∃ ds, strB (s.drop 1) = ds := ⟨_, rfl⟩
        rw [hds] at HP
        have hds2 : (⟨(s.drop 1).toArray⟩ : ByteArray) = ds := hds
        rw [hds2] at HC2
        obtain ⟨q, hq⟩ : ∃ q, numS 10 (s.drop 1) = q := ⟨_, rfl⟩
        rw [hq] at HP
        rw [hq] at ht
        clear hds hds2 hd hb1 hb2
        cases q with
        | none =>
         have HF : Hid (∀ w', Below w.heap.size w w' → ToldOut (toldS s) w (.returned (.tuple #[.int .i32 0, .bool false])) w') := hid (fun w' hb => by
          rw [ht]
          exact ⟨rfl, hb⟩)
         clear hq ht
         go_enter Tryz.func181, Tryz.ntmps181
         go_wp2_with fail
         with_reducible refine HC1.out.mono ?_
         rintro e w1 ⟨rfl, rfl⟩
         go_wp2_with fail
         with_reducible refine HC2.out.mono ?_
         rintro e w1 ⟨rfl, rfl⟩
         go_wp2_with fail
         with_reducible refine HP.out.mono ?_
         rintro e w1 ⟨⟨u, T, p, rfl⟩, hb⟩
         have HF1 := hid (HF.out w1 hb)
         clear hb
         go_wp2_with fail
         go_ret2
         exact HF1.out
        | some v =>
         have hv := numS_lt hq
         have hi32 : IntKind.i32.wrap (v : Int) = (v : Int) := IntWalk.i32_in _ (by omega)
         have HCH := hid (fun W (hb : Below w.heap.size w W) => chars_calls (v : Int) W (HE.out.below hb).laid.2.1)
         obtain ⟨cb, hcb⟩ : ∃ cb, inTab charsT (v : Int) = cb := ⟨_, rfl⟩
         rw [show charS (some v) = if inTab charsT (v : Int) = true then some v else none from rfl, hcb] at ht
         simp only [hcb] at HCH
         cases cb with
         | true =>
          have HF : Hid (∀ w', Below w.heap.size w w' → ToldOut (toldS s) w (.returned (.tuple #[.int .i32 (v : Int), .bool true])) w') := hid (fun w' hb => by
           rw [ht, if_pos rfl]
           exact ⟨rfl, hb⟩)
          clear hq ht hcb
          go_enter Tryz.func181, Tryz.ntmps181
          go_wp2_with fail
          with_reducible refine HC1.out.mono ?_
          rintro e w1 ⟨rfl, rfl⟩
          go_wp2_with fail
          with_reducible refine HC2.out.mono ?_
          rintro e w1 ⟨rfl, rfl⟩
          go_wp2_with fail
          with_reducible refine HP.out.mono ?_
          rintro e w1 ⟨he, hb⟩
          dsimp only at he
          subst he
          have HB := hid hb
          have HCH1 := hid (HCH.out w1 hb)
          clear hb
          go_wp2_with fail
          with_reducible refine HCH1.out.mono ?_
          rintro e w2 ⟨rfl, hb⟩
          have HF1 := hid (HF.out w2 (below_then HB.out hb))
          clear hb
          go_wp2_with fail
          go_ret2
          exact HF1.out
         | false =>
          have HF : Hid (∀ w', Below w.heap.size w w' → ToldOut (toldS s) w (.returned (.tuple #[.int .i32 0, .bool false])) w') := hid (fun w' hb => by
           rw [ht, if_neg Bool.false_ne_true]
           exact ⟨rfl, hb⟩)
          clear hq ht hcb
          go_enter Tryz.func181, Tryz.ntmps181
          go_wp2_with fail
          with_reducible refine HC1.out.mono ?_
          rintro e w1 ⟨rfl, rfl⟩
          go_wp2_with fail
          with_reducible refine HC2.out.mono ?_
          rintro e w1 ⟨rfl, rfl⟩
          go_wp2_with fail
          with_reducible refine HP.out.mono ?_
          rintro e w1 ⟨he, hb⟩
          dsimp only at he
          subst he
          have HB := hid hb
          have HCH1 := hid (HCH.out w1 hb)
          clear hb
          go_wp2_with fail
          with_reducible refine HCH1.out.mono ?_
          rintro e w2 ⟨rfl, hb⟩
          have HF1 := hid (HF.out w2 (below_then HB.out hb))
          clear hb
          go_wp2_with fail
          go_ret2
          exact HF1.out
       | false =>
        rw [hb2, if_neg Bool.false_ne_true] at ht HC2
        have hd : s.length ≤ 1073741824 := HLEN.out
        have HP := hid (parse10_calls (strB (s)) w (by rw [strB_size]; exact hd) HE.out)
        rw [strB_list] at HP
        obtain ⟨ds, hds⟩ : ∃ ds, strB (s) = ds := ⟨_, rfl⟩
        rw [hds] at HP
        have hds2 : (⟨(s).toArray⟩ : ByteArray) = ds := hds
        rw [hds2] at HC2
        obtain ⟨q, hq⟩ : ∃ q, numS 10 (s) = q := ⟨_, rfl⟩
        rw [hq] at HP
        have HF : Hid (∀ w', Below w.heap.size w w' → ToldOut (toldS s) w (.returned (.tuple #[.int .i32 0, .bool false])) w') := hid (fun w' hb => by
         rw [ht]
         exact ⟨rfl, hb⟩)
        clear hq ht hds hds2 hd hb1 hb2
        cases q with
        | none =>
         go_enter Tryz.func181, Tryz.ntmps181
         go_wp2_with fail
         with_reducible refine HC1.out.mono ?_
         rintro e w1 ⟨rfl, rfl⟩
         go_wp2_with fail
         with_reducible refine HC2.out.mono ?_
         rintro e w1 ⟨rfl, rfl⟩
         go_wp2_with fail
         with_reducible refine HP.out.mono ?_
         rintro e w1 ⟨⟨u, T, p, rfl⟩, hb⟩
         have HF1 := hid (HF.out w1 hb)
         clear hb
         go_wp2_with fail
         go_ret2
         exact HF1.out
        | some v =>
         go_enter Tryz.func181, Tryz.ntmps181
         go_wp2_with fail
         with_reducible refine HC1.out.mono ?_
         rintro e w1 ⟨rfl, rfl⟩
         go_wp2_with fail
         with_reducible refine HC2.out.mono ?_
         rintro e w1 ⟨rfl, rfl⟩
         go_wp2_with fail
         with_reducible refine HP.out.mono ?_
         rintro e w1 ⟨he, hb⟩
         dsimp only at he
         subst he
         have HF1 := hid (HF.out w1 hb)
         clear hb
         go_wp2_with fail
         go_ret2
         exact HF1.out
def refR (i : Nat) : Option (List UInt8 × List UInt8) → Sx Nat
 | none => .no 5 i
 | some q => match toldS q.1 with
  | none => .no 5 i
  | some n => .ok n (i + (1 + q.1.length + 1)) q.2
theorem refS_eq (i : Nat) (x : UInt8) (t : List UInt8) : refS i (x :: t) = refR i (cutS [59] t) := by
 unfold refS
 rw [show (x :: t).drop 1 = t from rfl]
 cases cutS [59] t with
 | none => rfl
 | some q => rfl
theorem ref_calls {w : World} {B : Nat} {a : Option Addr} {c : Nat} {l : List UInt8} {i : Nat} {x : UInt8} {t : List UInt8} (h : ScAt w B a c l i (x :: t)) (hE : EnvAt w) (_hB : 15 ≤ B) : Calls Tryz.prog 161 #[.pointer (some ⟨B, 0, none⟩)] w (ScOut w B a c l (fun v : Nat => .int .i32 (v : Int)) (refS i (x :: t))) := by
 obtain ⟨e0, e1⟩ := h.cells
 have hfew := h.few
 have hcap := h.cap
 obtain ⟨hlt, _, ht⟩ := h.head
 obtain ⟨n, hn⟩ : ∃ n, l.length = n := ⟨_, rfl⟩
 have hlen := h.len
 rw [hn] at e0 hfew hcap hlt hlen
 rw [List.length_cons] at hlen
 obtain ⟨i1, hi1⟩ : ∃ i1, i + 1 = i1 := ⟨_, rfl⟩
 rw [hi1] at ht
 have HS := hid h
 have HEnv := hid hE
 have HNL := hid hn
 have HT := hid ht
 have HI1 := hid hi1
 have HLE := hid hlen
 have hadd1 : IntKind.i64.wrap ((i : Int) + 1) = (i1 : Int) := by rw [← hi1]; exact IntWalk.i64_in _ (by omega)
 have hq0 : (0 : Int) ≤ (i1 : Int) := by omega
 have hq1 : (i1 : Int) ≤ (n : Int) := by omega
 have hq2 : i1 ≤ n := by omega
 obtain ⟨R, hR⟩ : ∃ R, cutS [59] t = R := ⟨_, rfl⟩
 obtain ⟨Q, hQ⟩ : ∃ Q, refS i (x :: t) = Q := ⟨_, rfl⟩
 have HQ : Hid (Q = refR i R) := hid (by rw [← hQ, refS_eq, hR])
 have HR := hid hR
 rw [hQ]
 have HCV : Hid (∀ W : World, (convert 43 43 (.slice (some ⟨W.heap.size, 0, none⟩) 1 1)).run Tryz.prog (W.alloc (.cells #[.int .u8 59] 5)) = .ok (.slice (some ⟨W.heap.size, 0, none⟩) 1 1) (W.alloc (.cells #[.int .u8 59] 5 (1, 2)))) := hid (fun W => Lib.run_convert_bytes_const W 43 5 #[.int .u8 59] 1 1 Tryz.underlying43 Tryz.underlying5)
 have HCUT : Hid (∀ W, Below w.heap.size w W → ∀ mb, Lib.BytesIn W (some ⟨mb, 0, none⟩) 1 (intsB [59]) → Calls Tryz.prog 130 #[.slice (if c = i1 then a else Option.map (fun x => x.add i1) a) (n - i1) (c - i1), .slice (some ⟨mb, 0, none⟩) 1 1] W (cutOut (tailA a c i1) (n - i1) (c - i1) R W)) := hid (fun W hb mb h2 => by
  have h := cut_calls (HS.out.keep hb) (HEnv.out.below hb).mx i1 (by rw [HNL.out]; exact hq2) (some ⟨mb, 0, none⟩) 1 [59] (by decide) (by decide) h2
  rw [HNL.out, ← HT.out, HR.out] at h
  exact h)
 have HCE : Hid (∀ W, Below w.heap.size w W → W.cell? ⟨B, 0, none⟩ = some (.slice a n c) ∧ W.cell? ⟨B, 1, none⟩ = some (.int .i64 (i : Int))) := hid (fun W hb => by
  obtain ⟨z0, z1⟩ := (HS.out.keep hb).cells
  rw [HNL.out] at z0
  exact ⟨z0, z1⟩)
 clear h hn hE hR hQ ht hi1 hlen
 go_enter Tryz.func161, Tryz.ntmps161
 go_upto_region 1 with (fail)
 obtain ⟨x0, hx0⟩ : ∃ W, w.drew = W := ⟨_, rfl⟩
 have hbx0 : Below w.heap.size w x0 := by rw [← hx0]; exact ⟨rfl, rfl, rfl, Nat.le_refl _, fun _ _ => rfl⟩
 have HBx0 := hid hbx0
 refine wp_region_held_drew (S := fun W => W.cell? ⟨B, 0, none⟩ = some (.slice a n c) ∧ W.cell? ⟨B, 1, none⟩ = some (.int .i64 (i : Int))) (by kernel_rfl) (by rw [hx0]; exact HCE.out _ hbx0) (fun hHeld => ?_)
 rw [hx0] at hHeld ⊢
 clear hx0 hbx0
 refine tkH 0 ?_
 simp only [LT, Act.put]
 refine tkH 1 ?_
 simp only [LT, Act.put]
 refine tkH 2 ?_
 simp only [LT, Act.put]
 refine tkH 3 ?_
 simp only [LT, Act.put]
 refine tkH 4 ?_
 simp only [LT, Act.put]
 refine tkH 5 ?_
 simp only [LT, Act.put]
 refine tkH 6 ?_
 simp only [LT, Act.put]
 refine tkH 7 ?_
 simp only [LT, Act.put]
 refine tkH 8 ?_
 simp only [LT, Act.put]
 refine tkH 9 ?_
 simp only [LT, Act.put]
 refine wpAnyH_ready (rs := [10]) (by kernel_rfl) (by simp) ?_
 refine AllReadyH.cons rfl (fun K hK => ?_) AllReadyH.nil
 go_simp
 refine hK.out _ _ (HCE.out _ (HBx0.out.alloc HBx0.out.size _)) (fun hHeld => ?_)
 clear hK K
 try simp only [LT, Act.put]
 refine wpAnyH_ready (rs := [11]) (by kernel_rfl) (by simp) ?_
 refine AllReadyH.cons rfl (fun K hK => ?_) AllReadyH.nil
 go_simp
 rw [HCV.out]
 simp only [Result.andThen, Oper.upon_value]
 obtain ⟨mb, hmb⟩ : ∃ b, x0.heap.size = b := ⟨_, rfl⟩
 obtain ⟨x1, hx1⟩ : ∃ W, x0.alloc (.cells #[.int .u8 59] 5 (1, 2)) = W := ⟨_, rfl⟩
 have hbx1 : Below w.heap.size w x1 := by rw [← hx1]; exact HBx0.out.alloc HBx0.out.size _
 have HBx1 := hid hbx1
 have HM1 : Hid (Lib.BytesIn x1 (some ⟨mb, 0, none⟩) 1 (intsB [59])) := hid (fun _ => ⟨mb, 0, rfl, fun k hk => by
  have : k = 0 := by omega
  subst this
  rw [← hx1, ← hmb, World.cell?_alloc_mark]
  rfl⟩)
 rw [hx1, hmb]
 clear hx1 hmb hbx1
 refine hK.out _ _ (HCE.out _ HBx1.out) (fun hHeld => ?_)
 clear hK K
 try simp only [Act.put, List.setIfInBounds_toArray, List.set_cons_zero, List.set_cons_succ]
 refine wpAnyH_ready (rs := [12]) (by kernel_rfl) (by simp) ?_
 refine AllReadyH.cons rfl (fun K hK => ?_) AllReadyH.nil
 go_simp
 with_reducible refine (HCUT.out x1 HBx1.out mb HM1.out).mono ?_
 rintro e x2 ⟨⟨v2, rfl⟩, k2, rfl⟩
 refine hK.out _ _ (HCE.out _ (below_drewNv HBx1.out k2)) (fun hHeld => ?_)
 clear hK K
 try simp only [LT, Act.put]
 refine tkH 13 ?_
 simp only [LT, Act.put]
 refine tkH 14 ?_
 simp only [LT, Act.put]
 refine tkH 15 ?_
 simp only [LT, Act.put]
 refine tkH 16 ?_
 simp only [LT, Act.put]
 refine tkH 17 ?_
 simp only [LT, Act.put]
 refine tkH 18 ?_
 simp only [LT, Act.put]
 refine tkH 19 ?_
 simp only [LT, Act.put]
 refine wpAnyH_done (by kernel_rfl) ?_ _
 clear hHeld
 have HS2 := hid (HS.out.keep (below_drewNv HBx1.out k2))
 have HK2 : Hid (Keeps (One B) w (x1.drewN k2)) := hid (keeps_below (below_drewNv HBx1.out k2) _)
 have HE2 : Hid (EnvAt (x1.drewN k2)) := hid (HEnv.out.below (below_drewNv HBx1.out k2))
 obtain ⟨z0, z1⟩ := HCE.out _ (below_drewNv HBx1.out k2)
 obtain ⟨x2, hx2⟩ : ∃ W, x1.drewN k2 = W := ⟨_, rfl⟩
 rw [hx2] at HS2 HK2 HE2 z0 z1 ⊢
 clear hx2 HBx1 HM1 HBx0 HCUT HCV
 generalize (if c = i1 then a else Option.map (fun x => x.add i1) a) = ta
 have HCONV : Hid (∀ A, A ≤ n - i1 → (convert 43 9 (.slice (tailA a c i1) A (c - i1))).run Tryz.prog x2 = .ok (.string (strB (t.take A))) x2) := hid (fun A hA => by
  have := HS2.out.conv i1 A (c - i1) (by rw [HNL.out]; omega)
  rw [← HT.out] at this
  exact this)
 cases R with
 | none =>
  dsimp only [Option.isSome]
  have hcv := HCONV.out (n - i1) (Nat.le_refl _)
  rw [List.take_of_length_le (by have := HLE.out; have := HI1.out; omega)] at hcv
  have HTD := hid (told_calls (strB t) x2 (by rw [strB_size]; have := HLE.out; omega) HE2.out)
  rw [strB_list] at HTD
  obtain ⟨TA, hTA⟩ : ∃ TA, tailA a c i1 = TA := ⟨_, rfl⟩
  rw [hTA] at hcv ⊢
  clear hTA
  have HF : Hid (∀ W, Below x2.heap.size x2 W → ScOut w B a c l (fun v : Nat => .int .i32 (v : Int)) Q (.panicked [{ v := wrongV 5 i, recovered := false }]) W) := hid (fun W hb => by
   rw [HQ.out]
   exact ⟨rfl, HK2.out.trans (keeps_below hb Non) (fresh_non _ _)⟩)
  obtain ⟨q, hq⟩ : ∃ q, toldS t = q := ⟨_, rfl⟩
  rw [hq] at HTD
  clear hq
  cases q with
  | none =>
   go_wp2_with fail
   with_reducible refine HTD.out.mono ?_
   rintro e x3 ⟨he, hb⟩
   dsimp only at he
   subst he
   have HF1 := hid (HF.out x3 hb)
   have hz := (hb.cell (p := ⟨B, 1, none⟩) (lt_of_cell z1)).trans z1
   clear hb
   go_wp2_with fail
   exact ⟨rfl, HF1.out⟩
  | some v =>
   go_wp2_with fail
   with_reducible refine HTD.out.mono ?_
   rintro e x3 ⟨he, hb⟩
   dsimp only at he
   subst he
   have HF1 := hid (HF.out x3 hb)
   have hz := (hb.cell (p := ⟨B, 1, none⟩) (lt_of_cell z1)).trans z1
   clear hb
   go_wp2_with fail
   exact ⟨rfl, HF1.out⟩
 | some q =>
  dsimp only [Option.isSome]
  obtain ⟨q1, q2⟩ := q
  have hsp := cutS_split [59] HR.out
  dsimp only at hsp ⊢
  have hlen := HLE.out
  rw [hsp, List.length_append, List.length_append] at hlen
  have h59 : ([59] : List UInt8).length = 1 := rfl
  rw [h59] at hlen
  obtain ⟨A, hA⟩ : ∃ A, q1.length = A := ⟨_, rfl⟩
  rw [hA] at hlen
  have hAn : A ≤ n - i1 := by have := HI1.out; omega
  have hcv := HCONV.out A hAn
  rw [show t.take A = q1 from by rw [hsp, List.take_left' hA]] at hcv
  have HTD := hid (told_calls (strB q1) x2 (by rw [strB_size, hA]; omega) HE2.out)
  rw [strB_list] at HTD
  obtain ⟨TA, hTA⟩ : ∃ TA, tailA a c i1 = TA := ⟨_, rfl⟩
  rw [hTA] at hcv ⊢
  rw [hA]
  have HQ3 : Hid (Q = match toldS q1 with | none => .no 5 i | some n => .ok n (i + (1 + A + 1)) q2) := hid (by rw [HQ.out, ← hA]; rfl)
  obtain ⟨q, hq⟩ : ∃ q, toldS q1 = q := ⟨_, rfl⟩
  rw [hq] at HTD HQ3
  clear hq hTA
  cases q with
  | none =>
   have HF : Hid (∀ W, Below x2.heap.size x2 W → ScOut w B a c l (fun v : Nat => .int .i32 (v : Int)) Q (.panicked [{ v := wrongV 5 i, recovered := false }]) W) := hid (fun W hb => by
    rw [HQ3.out]
    exact ⟨rfl, HK2.out.trans (keeps_below hb Non) (fresh_non _ _)⟩)
   clear hsp hA
   go_wp2_with fail
   with_reducible refine HTD.out.mono ?_
   rintro e x3 ⟨he, hb⟩
   dsimp only at he
   subst he
   have HF1 := hid (HF.out x3 hb)
   have hz := (hb.cell (p := ⟨B, 1, none⟩) (lt_of_cell z1)).trans z1
   clear hb
   go_wp2_with fail
   exact ⟨rfl, HF1.out⟩
  | some v =>
   obtain ⟨S1, hS1⟩ : ∃ S1, 1 + A = S1 := ⟨_, rfl⟩
   obtain ⟨S2, hS2⟩ : ∃ S2, S1 + 1 = S2 := ⟨_, rfl⟩
   obtain ⟨S3, hS3⟩ : ∃ S3, i + S2 = S3 := ⟨_, rfl⟩
   have ha1 : IntKind.i64.wrap (1 + (A : Int)) = (S1 : Int) := by rw [← hS1]; exact (IntWalk.i64_in _ (by omega)).trans (by omega)
   have ha2 : IntKind.i64.wrap ((S1 : Int) + 1) = (S2 : Int) := by rw [← hS2]; exact IntWalk.i64_in _ (by omega)
   have ha3 : IntKind.i64.wrap ((i : Int) + (S2 : Int)) = (S3 : Int) := by rw [← hS3]; exact IntWalk.i64_in _ (by omega)
   have HF : Hid (∀ W, Below x2.heap.size x2 W → W.frozen? ⟨B, 1, none⟩ = false ∧ ScOut w B a c l (fun v : Nat => .int .i32 (v : Int)) Q (.returned (.int .i32 (v : Int))) (W.setCell ⟨B, 1, none⟩ (.int .i64 (S3 : Int)))) := hid (fun W hb => by
    have hpl := (HS2.out.keep hb).place (j := S3) (by rw [HNL.out]; omega) (u := q2) (by
     have h1 : t.drop (A + 1) = q2 := by
      rw [hsp, ← List.append_assoc, List.drop_left' (by rw [List.length_append, hA, h59])]
     rw [← h1, HT.out, List.drop_drop]
     congr 1
     have := HI1.out
     omega)
    refine ⟨unfrozen_of_block (HS2.out.keep hb).blk 1, ?_⟩
    rw [HQ3.out]
    show ScOut w B a c l _ (.ok v (i + (1 + A + 1)) q2) _ _
    rw [hS1, hS2, hS3]
    exact ⟨rfl, hpl.1, (HK2.out.trans (keeps_below hb Non) (fresh_non _ _)).trans hpl.2 (fresh_refl _ _)⟩)
   clear hsp hA hS1 hS2 hS3
   go_wp2_with fail
   with_reducible refine HTD.out.mono ?_
   rintro e x3 ⟨he, hb⟩
   dsimp only at he
   subst he
   obtain ⟨f1, hf1⟩ := HF.out x3 hb
   have HF1 := hid hf1
   have hz := (hb.cell (p := ⟨B, 1, none⟩) (lt_of_cell z1)).trans z1
   clear hb hf1
   go_wp2_with fail
   go_ret
   exact HF1.out
theorem one_gone (c d : UInt8) : ∀ (n : Nat) (l : List UInt8) (g : Nat), l.length ≤ n → l.length < g → replaceK [c] [d] (countFrom [c] g l) l = l.map (fun b => if b = c then d else b)
 | _, [], g, _, _ => by rw [replaceK_nil _ _ rfl]; rfl
 | 0, b :: t, _, h, _ => by simp at h
 | n + 1, b :: t, g, hn, hg => by
  obtain ⟨g', rfl⟩ : ∃ g', g = g' + 1 := ⟨g - 1, by omega⟩
  simp only [List.length_cons] at hn hg
  cases hp : ([c] : List UInt8).isPrefixOf (b :: t) with
  | false =>
   have hb : ¬ b = c := fun h => by subst h; simp [List.isPrefixOf] at hp
   rw [count_skip hp, replaceK_skip hp, one_gone c d n t (g' + 1) (by omega) (by omega), List.map_cons, if_neg hb]
  | true =>
   have hb : c = b := by simpa [List.isPrefixOf] using hp
   subst hb
   rw [count_here hp, Nat.add_comm 1, replaceK_here hp]
   simp only [List.length_cons, List.length_nil, Nat.reduceAdd, List.drop_succ_cons, List.drop_zero]
   rw [one_gone c d n t g' (by omega) (by omega)]
   simp
theorem all_one (c d : UInt8) (hcd : ([c] == [d]) = false) (l : List UInt8) : replaceAll l [c] [d] = l.map (fun b => if b = c then d else b) := by
 unfold replaceAll replace replaceNum
 rw [if_neg (by rw [hcd]; exact Bool.false_ne_true), if_pos (Or.inl (by decide))]
 exact one_gone c d l.length l (l.length + 1) (Nat.le_refl _) (by omega)
theorem eols_le : ∀ l : List UInt8, (eols l).length ≤ l.length
 | [] => Nat.le_refl _
 | b :: t => by
  have ih := eols_le t
  unfold eols
  split
  ·split
   ·rw [List.length_cons]; omega
   ·rw [List.length_cons, List.length_cons]; omega
  ·rw [List.length_cons, List.length_cons]; omega
theorem flatS_eq (l : List UInt8) : ((eols l).map (fun b => if b = 10 then 32 else b)).map (fun b => if b = 9 then 32 else b) = flatS l := by
 unfold flatS
 rw [List.map_map]
 apply List.map_congr_left
 intro x _
 show (if (if x = 10 then (32 : UInt8) else x) = 9 then 32 else (if x = 10 then 32 else x)) = _
 by_cases h1 : x = 10
 ·subst h1; decide
 ·rw [if_neg h1]
  by_cases h2 : x = 9
  ·rw [if_pos h2, if_pos (.inr h2)]
  ·rw [if_neg h2, if_neg (fun h => by rcases h with h | h; exact h1 h; exact h2 h)]
theorem turnV_calls (run : List UInt8) (w : World) (hr : run.length ≤ 1073741824) (hE : EnvAt w) : Calls Tryz.prog 182 #[.string (strB run)] w (Leaves (.string (strB (flatS run))) w) := by
 obtain ⟨m, hm⟩ := hE.mx
 have h1 := eols_le run
 have HL := hid (lines_calls (strB run) w (by rw [strB_size]; exact hr) hE.mx)
 rw [strB_list] at HL
 obtain ⟨u1, hu1⟩ : ∃ u, eols run = u := ⟨_, rfl⟩
 obtain ⟨u2, hu2⟩ : ∃ u, u1.map (fun b => if b = 10 then (32 : UInt8) else b) = u := ⟨_, rfl⟩
 have hl2 : u2.length = u1.length := by rw [← hu2, List.length_map]
 rw [hu1] at HL h1
 have HR1 : Hid (∀ W, Below w.heap.size w W → Calls Tryz.prog 158 #[.string (strB u1), .string ⟨#[10]⟩, .string ⟨#[32]⟩] W (Leaves (.string (strB u2)) W)) := hid (fun W hb => by
  have := Tryz.strings_ReplaceAll (strB u1) ⟨#[10]⟩ ⟨#[32]⟩ m W (by rw [strB_size]; omega) (cell_below hb hm) (by decide) (by
   have c2 := countB_le ⟨#[10]⟩ (by decide) (strB u1).size (strB u1) (Nat.le_refl _)
   show (strB u1).size + countB (strB u1) ⟨#[10]⟩ * 1 ≤ _
   rw [strB_size] at c2 ⊢
   omega)
  rw [strB_list, show (⟨#[10]⟩ : ByteArray).data.toList = [10] from rfl, show (⟨#[32]⟩ : ByteArray).data.toList = [32] from rfl, all_one 10 32 (by decide), hu2] at this
  exact this)
 have HR2 : Hid (∀ W, Below w.heap.size w W → Calls Tryz.prog 158 #[.string (strB u2), .string ⟨#[9]⟩, .string ⟨#[32]⟩] W (Leaves (.string (strB (flatS run))) W)) := hid (fun W hb => by
  have := Tryz.strings_ReplaceAll (strB u2) ⟨#[9]⟩ ⟨#[32]⟩ m W (by rw [strB_size]; omega) (cell_below hb hm) (by decide) (by
   have c2 := countB_le ⟨#[9]⟩ (by decide) (strB u2).size (strB u2) (Nat.le_refl _)
   show (strB u2).size + countB (strB u2) ⟨#[9]⟩ * 1 ≤ _
   rw [strB_size] at c2 ⊢
   omega)
  rw [strB_list, show (⟨#[9]⟩ : ByteArray).data.toList = [9] from rfl, show (⟨#[32]⟩ : ByteArray).data.toList = [32] from rfl, all_one 9 32 (by decide), ← hu2, ← hu1, flatS_eq] at this
  rw [← hu2, ← hu1]
  exact this)
 have h0 : (⟨u1.toArray⟩ : ByteArray) = strB u1 := rfl
 rw [h0] at HL
 obtain ⟨s1, hs1⟩ : ∃ s, strB u1 = s := ⟨_, rfl⟩
 obtain ⟨s2, hs2⟩ : ∃ s, strB u2 = s := ⟨_, rfl⟩
 obtain ⟨s3, hs3⟩ : ∃ s, strB (flatS run) = s := ⟨_, rfl⟩
 obtain ⟨s0, hs0⟩ : ∃ s, strB run = s := ⟨_, rfl⟩
 rw [hs1] at HL HR1
 rw [hs2] at HR1 HR2
 rw [hs3] at HR2 ⊢
 rw [hs0] at HL ⊢
 clear hs1 hs2 hs3 hs0 h0 hl2 hu1 hu2 h1 hm hE
 go_enter Tryz.func182, Tryz.ntmps182
 go_wp2_with fail
 with_reducible refine HL.out.mono ?_
 rintro e w1 ⟨rfl, hb⟩
 have HB1 := hid hb
 have H1 := hid (HR1.out w1 hb)
 clear hb
 go_wp2_with fail
 with_reducible refine H1.out.mono ?_
 rintro e w2 ⟨rfl, hb⟩
 have HB2 := hid (below_then HB1.out hb)
 have H2 := hid (HR2.out w2 HB2.out)
 clear hb
 go_wp2_with fail
 with_reducible refine H2.out.mono ?_
 rintro e w3 ⟨rfl, hb⟩
 have HB3 := hid (below_then HB2.out hb)
 clear hb
 go_wp2_with fail
 go_ret
 exact ⟨rfl, HB3.out⟩
def TurnOut (r : Except Nat (List UInt8)) (w : World) (e : Ending) (w' : World) : Prop :=
 (match r with
  | .ok t => e = .returned (.string (strB t))
  | .error p => e = .panicked [{ v := wrongV 2 p, recovered := false }]) ∧ Below w.heap.size w w'
def turnR (i : Nat) (run : List UInt8) : Option Nat → Except Nat (List UInt8)
 | some k => .error (i + k)
 | none => .ok (eols run)
theorem turnS_none (i : Nat) (run : List UInt8) : turnS none i run = turnR i run (atS [93, 93, 62] run) := by
 unfold turnS
 dsimp only
 cases atS [93, 93, 62] run <;> rfl
theorem turnC_calls (run : List UInt8) (w : World) (cb B i : Nat) (hr : run.length ≤ 65536) (hi : i ≤ 65536) (hE : EnvAt w) (hc : w.cell? ⟨cb, 0, none⟩ = some (.pointer (some ⟨B, 0, none⟩))) (hp : w.cell? ⟨B, 1, none⟩ = some (.int .i64 (i : Int))) : Calls Tryz.prog 133 #[.string (strB run), .pointer (some ⟨cb, 0, none⟩)] w (TurnOut (turnS none i run) w) := by
 obtain ⟨m, hm⟩ := hE.mx
 have hin := index_cutS [93, 93, 62] (by decide) run
 have HI := hid (Tryz.strings_Index (strB run) ⟨#[93, 93, 62]⟩ m w (by rw [strB_size]; omega) hm)
 rw [strB_list, show (⟨#[93, 93, 62]⟩ : ByteArray).data.toList = [93, 93, 62] from rfl, hin] at HI
 have HL := hid (lines_calls (strB run) w (by rw [strB_size]; omega) hE.mx)
 rw [strB_list] at HL
 rw [turnS_none]
 obtain ⟨q, hq⟩ : ∃ q, cutS [93, 93, 62] run = q := ⟨_, rfl⟩
 have ha : atS [93, 93, 62] run = q.map fun q => q.1.length := by unfold atS; rw [hq]
 rw [ha]
 rw [hq] at HI
 cases q with
 | none =>
  have HF : Hid (∀ w', Below w.heap.size w w' → TurnOut (turnR i run none) w (.returned (.string ⟨(eols run).toArray⟩)) w') := hid (fun w' hb => ⟨rfl, hb⟩)
  rw [show Option.map (fun q : List UInt8 × List UInt8 => q.1.length) none = none from rfl]
  dsimp only at HI
  clear hin hq ha hE hm
  go_enter Tryz.func133, Tryz.ntmps133
  go_wp2_with fail
  with_reducible refine HI.out.mono ?_
  rintro e w1 ⟨rfl, rfl⟩
  go_wp2_with fail
  with_reducible refine HL.out.mono ?_
  rintro e w1 ⟨rfl, hb⟩
  have HF1 := hid (HF.out w1 hb)
  clear hb
  go_wp2_with fail
  go_ret
  exact HF1.out
 | some q =>
  obtain ⟨q1, q2⟩ := q
  have hsp := cutS_split [93, 93, 62] hq
  have hl : q1.length ≤ 65536 := by
   have := congrArg List.length hsp
   rw [List.length_append] at this
   dsimp only at this
   omega
  dsimp only at HI
  obtain ⟨k, hk⟩ : ∃ k, q1.length = k := ⟨_, rfl⟩
  rw [hk] at HI hl
  have hge : decide ((k : Int) ≥ 0) = true := by simp
  have hadd : IntKind.i64.wrap ((i : Int) + (k : Int)) = ((i + k : Nat) : Int) := IntWalk.i64_in _ (by omega)
  have HF : Hid (TurnOut (turnR i run (some k)) w (.panicked [{ v := wrongV 2 (i + k), recovered := false }]) w) := hid ⟨rfl, Below.refl _ _⟩
  rw [show Option.map (fun q : List UInt8 × List UInt8 => q.1.length) (some (q1, q2)) = some q1.length from rfl, hk]
  clear hin hq ha hE hm hsp hk
  go_enter Tryz.func133, Tryz.ntmps133
  go_wp2_with fail
  with_reducible refine HI.out.mono ?_
  rintro e w1 ⟨rfl, rfl⟩
  go_wp2_with fail
  exact ⟨rfl, HF.out⟩
end Go.Proofs.YtjpkkflhcjjefaaGreatDoor
