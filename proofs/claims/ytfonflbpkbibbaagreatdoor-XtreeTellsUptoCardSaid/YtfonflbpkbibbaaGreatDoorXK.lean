/-
  strconv.ParseUint at 31 bits, and what stands between & and ; of a reference. Conditions: the laid variables hold what their initialisers lay; a text of no more than 2^30 bytes.
-/
import Derived.Test.YtfonflbpkbibbaaGreatDoorXT
import Derived.Test.YtfonflbpkbibbaaGreatDoorXE
namespace Go.Proofs.YtfonflbpkbibbaaGreatDoor
open Go.RowKit Go.Lib Go.Joins

theorem numS_eq (b : Nat) (s : List UInt8) : numS b s = if s = [] then none else belowS (digsS b 0 s) := rfl
/-- What ParseUint answers. -/
def ParOut (q : Option Nat) (w : World) (e : Ending) (w' : World) : Prop :=
  (match q with
    | some v => e = .returned (.tuple #[.int .u64 (v : Int), .nilIface])
    | none => ∃ u T p, e = .returned (.tuple #[.int .u64 u, .iface T p])) ∧ Below w.heap.size w w'
theorem strB_size (s : List UInt8) : (strB s).size = s.length := rfl
theorem strB_list (s : List UInt8) : (strB s).data.toList = s := rfl
theorem strB_data (t : ByteArray) : strB t.data.toList = t := by cases t; rfl

set_option maxRecDepth 100000 in
set_option maxHeartbeats 4000000 in
theorem parse10_calls (t : ByteArray) (w : World) (hmax : t.size ≤ 1073741824) (hE : EnvAt w) : Calls Tryz.prog 199 #[.string t, .int .i64 10, .int .i64 31] w (ParOut (numS 10 t.data.toList) w) := by
  obtain ⟨es, hes, hesv⟩ := hE.es
  by_cases hne : t.size = 0
  · have ht : t = ⟨#[]⟩ := by
      cases t with
      | mk d =>
        have : d = #[] := Array.eq_empty_of_size_eq_zero hne
        rw [this]
    subst ht
    have HF : Hid (∀ u T p w', Below w.heap.size w w' → ParOut (numS 10 (⟨#[]⟩ : ByteArray).data.toList) w (.returned (.tuple #[.int .u64 u, .iface T p])) w') := Lib.hid (fun u T p w' hb => ⟨⟨u, T, p, rfl⟩, hb⟩)
    have HI := Lib.hid (Tryz.internal_strconv_ParseUint_empty 10 31 w)
    have HT := Lib.hid (Tryz.strconv_toError_syntax ⟨#[80, 97, 114, 115, 101, 85, 105, 110, 116]⟩ ⟨#[]⟩ 10 31 es w (by decide) hes hesv)
    clear hes hesv hne hmax hE
    go_enter Tryz.func199, Tryz.ntmps199
    go_wp2_with fail
    with_reducible refine HI.out.mono ?_
    rintro e w1 ⟨rfl, rfl⟩
    go_wp2_with fail
    with_reducible refine HT.out.mono ?_
    rintro e w2 ⟨N, rfl, _, _, hb⟩
    have HB := Lib.hid hb
    clear hb
    go_wp2_with fail
    go_ret2
    exact HF.out _ _ _ _ HB.out
  · have HI := Lib.hid (inner10_calls t hne hmax w)
    have hnn : numS 10 t.data.toList = belowS (digsS 10 0 t.data.toList) := by
      rw [numS_eq, if_neg]
      intro h
      exact hne (by rw [Lib.size_eq, h]; rfl)
    rw [hnn]
    have HE := Lib.hid hE
    have HM := Lib.hid hmax
    obtain ⟨q, hq⟩ : ∃ q, belowS (digsS 10 0 t.data.toList) = q := ⟨_, rfl⟩
    rw [hq] at HI ⊢
    clear hes hesv hne hmax hE hnn hq
    cases q with
    | some v =>
      have HF : Hid (∀ w', Below w.heap.size w w' → ParOut (some v) w (.returned (.tuple #[.int .u64 (v : Int), .nilIface])) w') := Lib.hid (fun w' hb => ⟨rfl, hb⟩)
      go_enter Tryz.func199, Tryz.ntmps199
      go_wp2_with fail
      with_reducible refine HI.out.mono ?_
      rintro e w1 ⟨he, hb⟩
      dsimp only at he
      subst he
      have HF1 := Lib.hid (HF.out w1 hb)
      clear hb
      go_wp2_with fail
      go_ret2
      exact HF1.out
    | none =>
      have HF : Hid (∀ u T p w', Below w.heap.size w w' → ParOut none w (.returned (.tuple #[.int .u64 u, .iface T p])) w') := Lib.hid (fun u T p w' hb => ⟨⟨u, T, p, rfl⟩, hb⟩)
      go_enter Tryz.func199, Tryz.ntmps199
      go_wp2_with fail
      with_reducible refine HI.out.mono ?_
      rintro e w1 ⟨⟨u, k, rfl, hk⟩, hb⟩
      have HB := Lib.hid hb
      obtain ⟨es, hes, hesv⟩ := (HE.out.below hb).es
      obtain ⟨er, her, herv⟩ := (HE.out.below hb).er
      have HS := Lib.hid (Tryz.strconv_toError_syntax ⟨#[80, 97, 114, 115, 101, 85, 105, 110, 116]⟩ t 10 31 es w1 (by have := HM.out; omega) hes hesv)
      have HR := Lib.hid (Tryz.strconv_toError_range ⟨#[80, 97, 114, 115, 101, 85, 105, 110, 116]⟩ t 10 31 er w1 (by have := HM.out; omega) her herv)
      clear hb hes hesv her herv
      rcases hk with rfl | rfl
      · go_wp2_with fail
        with_reducible refine HR.out.mono ?_
        rintro e w2 ⟨N, rfl, _, _, hb⟩
        have HB2 := Lib.hid (below_then HB.out hb)
        clear hb
        go_wp2_with fail
        go_ret2
        exact HF.out _ _ _ _ HB2.out
      · go_wp2_with fail
        with_reducible refine HS.out.mono ?_
        rintro e w2 ⟨N, rfl, _, _, hb⟩
        have HB2 := Lib.hid (below_then HB.out hb)
        clear hb
        go_wp2_with fail
        go_ret2
        exact HF.out _ _ _ _ HB2.out

set_option maxRecDepth 100000 in
set_option maxHeartbeats 4000000 in
theorem parse16_calls (t : ByteArray) (w : World) (hmax : t.size ≤ 1073741824) (hE : EnvAt w) : Calls Tryz.prog 199 #[.string t, .int .i64 16, .int .i64 31] w (ParOut (numS 16 t.data.toList) w) := by
  obtain ⟨es, hes, hesv⟩ := hE.es
  by_cases hne : t.size = 0
  · have ht : t = ⟨#[]⟩ := by
      cases t with
      | mk d =>
        have : d = #[] := Array.eq_empty_of_size_eq_zero hne
        rw [this]
    subst ht
    have HF : Hid (∀ u T p w', Below w.heap.size w w' → ParOut (numS 16 (⟨#[]⟩ : ByteArray).data.toList) w (.returned (.tuple #[.int .u64 u, .iface T p])) w') := Lib.hid (fun u T p w' hb => ⟨⟨u, T, p, rfl⟩, hb⟩)
    have HI := Lib.hid (Tryz.internal_strconv_ParseUint_empty 16 31 w)
    have HT := Lib.hid (Tryz.strconv_toError_syntax ⟨#[80, 97, 114, 115, 101, 85, 105, 110, 116]⟩ ⟨#[]⟩ 16 31 es w (by decide) hes hesv)
    clear hes hesv hne hmax hE
    go_enter Tryz.func199, Tryz.ntmps199
    go_wp2_with fail
    with_reducible refine HI.out.mono ?_
    rintro e w1 ⟨rfl, rfl⟩
    go_wp2_with fail
    with_reducible refine HT.out.mono ?_
    rintro e w2 ⟨N, rfl, _, _, hb⟩
    have HB := Lib.hid hb
    clear hb
    go_wp2_with fail
    go_ret2
    exact HF.out _ _ _ _ HB.out
  · have HI := Lib.hid (inner16_calls t hne hmax w)
    have hnn : numS 16 t.data.toList = belowS (digsS 16 0 t.data.toList) := by
      rw [numS_eq, if_neg]
      intro h
      exact hne (by rw [Lib.size_eq, h]; rfl)
    rw [hnn]
    have HE := Lib.hid hE
    have HM := Lib.hid hmax
    obtain ⟨q, hq⟩ : ∃ q, belowS (digsS 16 0 t.data.toList) = q := ⟨_, rfl⟩
    rw [hq] at HI ⊢
    clear hes hesv hne hmax hE hnn hq
    cases q with
    | some v =>
      have HF : Hid (∀ w', Below w.heap.size w w' → ParOut (some v) w (.returned (.tuple #[.int .u64 (v : Int), .nilIface])) w') := Lib.hid (fun w' hb => ⟨rfl, hb⟩)
      go_enter Tryz.func199, Tryz.ntmps199
      go_wp2_with fail
      with_reducible refine HI.out.mono ?_
      rintro e w1 ⟨he, hb⟩
      dsimp only at he
      subst he
      have HF1 := Lib.hid (HF.out w1 hb)
      clear hb
      go_wp2_with fail
      go_ret2
      exact HF1.out
    | none =>
      have HF : Hid (∀ u T p w', Below w.heap.size w w' → ParOut none w (.returned (.tuple #[.int .u64 u, .iface T p])) w') := Lib.hid (fun u T p w' hb => ⟨⟨u, T, p, rfl⟩, hb⟩)
      go_enter Tryz.func199, Tryz.ntmps199
      go_wp2_with fail
      with_reducible refine HI.out.mono ?_
      rintro e w1 ⟨⟨u, k, rfl, hk⟩, hb⟩
      have HB := Lib.hid hb
      obtain ⟨es, hes, hesv⟩ := (HE.out.below hb).es
      obtain ⟨er, her, herv⟩ := (HE.out.below hb).er
      have HS := Lib.hid (Tryz.strconv_toError_syntax ⟨#[80, 97, 114, 115, 101, 85, 105, 110, 116]⟩ t 16 31 es w1 (by have := HM.out; omega) hes hesv)
      have HR := Lib.hid (Tryz.strconv_toError_range ⟨#[80, 97, 114, 115, 101, 85, 105, 110, 116]⟩ t 16 31 er w1 (by have := HM.out; omega) her herv)
      clear hb hes hesv her herv
      rcases hk with rfl | rfl
      · go_wp2_with fail
        with_reducible refine HR.out.mono ?_
        rintro e w2 ⟨N, rfl, _, _, hb⟩
        have HB2 := Lib.hid (below_then HB.out hb)
        clear hb
        go_wp2_with fail
        go_ret2
        exact HF.out _ _ _ _ HB2.out
      · go_wp2_with fail
        with_reducible refine HS.out.mono ?_
        rintro e w2 ⟨N, rfl, _, _, hb⟩
        have HB2 := Lib.hid (below_then HB.out hb)
        clear hb
        go_wp2_with fail
        go_ret2
        exact HF.out _ _ _ _ HB2.out

def ToldOut (q : Option Nat) (w : World) (e : Ending) (w' : World) : Prop :=
  (match q with
    | some v => e = .returned (.tuple #[.int .i32 (v : Int), .bool true])
    | none => e = .returned (.tuple #[.int .i32 0, .bool false])) ∧ Below w.heap.size w w'
theorem numS_lt {b : Nat} {s : List UInt8} {v : Nat} (h : numS b s = some v) : v < 2147483648 := by
  rw [numS_eq] at h
  by_cases hs : s = []
  · rw [if_pos hs] at h; cases h
  · rw [if_neg hs] at h
    cases hd : digsS b 0 s with
    | none => rw [hd] at h; cases h
    | some x =>
      rw [hd] at h
      change (if x < 2147483648 then some x else none) = some v at h
      by_cases hx : x < 2147483648
      · rw [if_pos hx] at h; cases h; exact hx
      · rw [if_neg hx] at h; cases h
set_option maxRecDepth 100000 in
set_option maxHeartbeats 8000000 in
theorem told_calls (ms : ByteArray) (w : World) (hmax : ms.size ≤ 1073741824) (hE : EnvAt w) : Calls Tryz.prog 188 #[.string ms] w (ToldOut (toldS ms.data.toList) w) := by
  have hsl : ms.toList = ms.data.toList := Go.Lib.toList_data ms
  obtain ⟨s, hs⟩ : ∃ s, ms.data.toList = s := ⟨_, rfl⟩
  have hlen : s.length ≤ 1073741824 := by rw [← hs, ← Lib.size_eq]; exact hmax
  rw [hs]
  rw [hs] at hsl
  have HSL := Lib.hid hsl
  have HS := Lib.hid hs
  have HLEN := Lib.hid hlen
  have HE := Lib.hid hE
  clear hsl hs hlen hmax hE
  cases h0 : (ms.toList == [97, 109, 112]) with
  | true =>
    have hs : s = [97, 109, 112] := by rw [HSL.out] at h0; exact LawfulBEq.eq_of_beq h0
    have HF : Hid (ToldOut (toldS s) w (.returned (.tuple #[.int .i32 38, .bool true])) w) := Lib.hid (by
      rw [hs]
      exact ⟨rfl, Below.refl _ _⟩)
    clear hs
    go_enter Tryz.func188, Tryz.ntmps188
    go_wp2_with fail
    go_ret2
    exact HF.out
  | false =>
    have n0 : ¬ s = [97, 109, 112] := by
      intro h
      rw [HSL.out, h] at h0
      exact absurd h0 (by decide)
    cases h1 : (ms.toList == [108, 116]) with
    | true =>
      have hs : s = [108, 116] := by rw [HSL.out] at h1; exact LawfulBEq.eq_of_beq h1
      have HF : Hid (ToldOut (toldS s) w (.returned (.tuple #[.int .i32 60, .bool true])) w) := Lib.hid (by
        rw [hs]
        exact ⟨rfl, Below.refl _ _⟩)
      clear hs
      go_enter Tryz.func188, Tryz.ntmps188
      go_wp2_with fail
      go_ret2
      exact HF.out
    | false =>
      have n1 : ¬ s = [108, 116] := by
        intro h
        rw [HSL.out, h] at h1
        exact absurd h1 (by decide)
      cases h2 : (ms.toList == [103, 116]) with
      | true =>
        have hs : s = [103, 116] := by rw [HSL.out] at h2; exact LawfulBEq.eq_of_beq h2
        have HF : Hid (ToldOut (toldS s) w (.returned (.tuple #[.int .i32 62, .bool true])) w) := Lib.hid (by
          rw [hs]
          exact ⟨rfl, Below.refl _ _⟩)
        clear hs
        go_enter Tryz.func188, Tryz.ntmps188
        go_wp2_with fail
        go_ret2
        exact HF.out
      | false =>
        have n2 : ¬ s = [103, 116] := by
          intro h
          rw [HSL.out, h] at h2
          exact absurd h2 (by decide)
        cases h3 : (ms.toList == [113, 117, 111, 116]) with
        | true =>
          have hs : s = [113, 117, 111, 116] := by rw [HSL.out] at h3; exact LawfulBEq.eq_of_beq h3
          have HF : Hid (ToldOut (toldS s) w (.returned (.tuple #[.int .i32 34, .bool true])) w) := Lib.hid (by
            rw [hs]
            exact ⟨rfl, Below.refl _ _⟩)
          clear hs
          go_enter Tryz.func188, Tryz.ntmps188
          go_wp2_with fail
          go_ret2
          exact HF.out
        | false =>
          have n3 : ¬ s = [113, 117, 111, 116] := by
            intro h
            rw [HSL.out, h] at h3
            exact absurd h3 (by decide)
          cases h4 : (ms.toList == [97, 112, 111, 115]) with
          | true =>
            have hs : s = [97, 112, 111, 115] := by rw [HSL.out] at h4; exact LawfulBEq.eq_of_beq h4
            have HF : Hid (ToldOut (toldS s) w (.returned (.tuple #[.int .i32 39, .bool true])) w) := Lib.hid (by
              rw [hs]
              exact ⟨rfl, Below.refl _ _⟩)
            clear hs
            go_enter Tryz.func188, Tryz.ntmps188
            go_wp2_with fail
            go_ret2
            exact HF.out
          | false =>
            have n4 : ¬ s = [97, 112, 111, 115] := by
              intro h
              rw [HSL.out, h] at h4
              exact absurd h4 (by decide)
            have ht : toldS s = if [35, 120].isPrefixOf s = true then charS (numS 16 (s.drop 2)) else if [35].isPrefixOf s = true then charS (numS 10 (s.drop 1)) else none := by
              unfold toldS
              rw [if_neg n0, if_neg n1, if_neg n2, if_neg n3, if_neg n4]
            have HC1 := Lib.hid (Tryz.strings_CutPrefix ms ⟨#[35, 120]⟩ w)
            have HC2 := Lib.hid (Tryz.strings_CutPrefix ms ⟨#[35]⟩ w)
            have hp1 : Lib.hasPrefix s [35, 120] = [35, 120].isPrefixOf s := rfl
            have hp2 : Lib.hasPrefix s [35] = [35].isPrefixOf s := rfl
            have ht1 : Lib.trimPrefix s [35, 120] = if [35, 120].isPrefixOf s = true then s.drop 2 else s := rfl
            have ht2 : Lib.trimPrefix s [35] = if [35].isPrefixOf s = true then s.drop 1 else s := rfl
            have hl1 : (⟨#[35, 120]⟩ : ByteArray).data.toList = [35, 120] := rfl
            have hl2 : (⟨#[35]⟩ : ByteArray).data.toList = [35] := rfl
            rw [HS.out, hl1, hp1, ht1] at HC1
            rw [HS.out, hl2, hp2, ht2] at HC2
            clear n0 n1 n2 n3 n4 hp1 hp2 ht1 ht2 hl1 hl2
            cases hb1 : [35, 120].isPrefixOf s with
            | true =>
              rw [hb1, if_pos rfl] at ht HC1
              have hd : (s.drop 2).length ≤ 1073741824 := by rw [List.length_drop]; have := HLEN.out; omega
              have HP := Lib.hid (parse16_calls (strB (s.drop 2)) w (by rw [strB_size]; exact hd) HE.out)
              rw [strB_list] at HP
              obtain ⟨ds, hds⟩ : ∃ ds, strB (s.drop 2) = ds := ⟨_, rfl⟩
              rw [hds] at HP
              have hds2 : (⟨(s.drop 2).toArray⟩ : ByteArray) = ds := hds
              rw [hds2] at HC1
              obtain ⟨q, hq⟩ : ∃ q, numS 16 (s.drop 2) = q := ⟨_, rfl⟩
              rw [hq] at HP
              rw [hq] at ht
              clear hds hds2 hd hb1
              cases q with
              | none =>
                have HF : Hid (∀ w', Below w.heap.size w w' → ToldOut (toldS s) w (.returned (.tuple #[.int .i32 0, .bool false])) w') := Lib.hid (fun w' hb => by
                  rw [ht]
                  exact ⟨rfl, hb⟩)
                clear hq ht
                go_enter Tryz.func188, Tryz.ntmps188
                go_wp2_with fail
                with_reducible refine HC1.out.mono ?_
                rintro e w1 ⟨rfl, rfl⟩
                go_wp2_with fail
                with_reducible refine HP.out.mono ?_
                rintro e w1 ⟨⟨u, T, p, rfl⟩, hb⟩
                have HF1 := Lib.hid (HF.out w1 hb)
                clear hb
                go_wp2_with fail
                go_ret2
                exact HF1.out
              | some v =>
                have hv := numS_lt hq
                have hi32 : IntKind.i32.wrap (v : Int) = (v : Int) := IntWalk.i32_in _ (by omega)
                have HCH := Lib.hid (fun W (hb : Below w.heap.size w W) => chars_calls (v : Int) W (HE.out.below hb).laid.2.1)
                obtain ⟨cb, hcb⟩ : ∃ cb, inTab charsT (v : Int) = cb := ⟨_, rfl⟩
                rw [show charS (some v) = if inTab charsT (v : Int) = true then some v else none from rfl, hcb] at ht
                simp only [hcb] at HCH
                cases cb with
                | true =>
                  have HF : Hid (∀ w', Below w.heap.size w w' → ToldOut (toldS s) w (.returned (.tuple #[.int .i32 (v : Int), .bool true])) w') := Lib.hid (fun w' hb => by
                    rw [ht, if_pos rfl]
                    exact ⟨rfl, hb⟩)
                  clear hq ht hcb
                  go_enter Tryz.func188, Tryz.ntmps188
                  go_wp2_with fail
                  with_reducible refine HC1.out.mono ?_
                  rintro e w1 ⟨rfl, rfl⟩
                  go_wp2_with fail
                  with_reducible refine HP.out.mono ?_
                  rintro e w1 ⟨he, hb⟩
                  dsimp only at he
                  subst he
                  have HB := Lib.hid hb
                  have HCH1 := Lib.hid (HCH.out w1 hb)
                  clear hb
                  go_wp2_with fail
                  with_reducible refine HCH1.out.mono ?_
                  rintro e w2 ⟨rfl, hb⟩
                  have HF1 := Lib.hid (HF.out w2 (below_then HB.out hb))
                  clear hb
                  go_wp2_with fail
                  go_ret2
                  exact HF1.out
                | false =>
                  have HF : Hid (∀ w', Below w.heap.size w w' → ToldOut (toldS s) w (.returned (.tuple #[.int .i32 0, .bool false])) w') := Lib.hid (fun w' hb => by
                    rw [ht, if_neg Bool.false_ne_true]
                    exact ⟨rfl, hb⟩)
                  clear hq ht hcb
                  go_enter Tryz.func188, Tryz.ntmps188
                  go_wp2_with fail
                  with_reducible refine HC1.out.mono ?_
                  rintro e w1 ⟨rfl, rfl⟩
                  go_wp2_with fail
                  with_reducible refine HP.out.mono ?_
                  rintro e w1 ⟨he, hb⟩
                  dsimp only at he
                  subst he
                  have HB := Lib.hid hb
                  have HCH1 := Lib.hid (HCH.out w1 hb)
                  clear hb
                  go_wp2_with fail
                  with_reducible refine HCH1.out.mono ?_
                  rintro e w2 ⟨rfl, hb⟩
                  have HF1 := Lib.hid (HF.out w2 (below_then HB.out hb))
                  clear hb
                  go_wp2_with fail
                  go_ret2
                  exact HF1.out
            | false =>
              rw [hb1, if_neg Bool.false_ne_true] at ht HC1
              cases hb2 : [35].isPrefixOf s with
              | true =>
                rw [hb2, if_pos rfl] at ht HC2
                have hd : (s.drop 1).length ≤ 1073741824 := by rw [List.length_drop]; have := HLEN.out; omega
                have HP := Lib.hid (parse10_calls (strB (s.drop 1)) w (by rw [strB_size]; exact hd) HE.out)
                rw [strB_list] at HP
                obtain ⟨ds, hds⟩ : ∃ ds, strB (s.drop 1) = ds := ⟨_, rfl⟩
                rw [hds] at HP
                have hds2 : (⟨(s.drop 1).toArray⟩ : ByteArray) = ds := hds
                rw [hds2] at HC2
                obtain ⟨q, hq⟩ : ∃ q, numS 10 (s.drop 1) = q := ⟨_, rfl⟩
                rw [hq] at HP
                rw [hq] at ht
                clear hds hds2 hd hb1 hb2
                cases q with
                | none =>
                  have HF : Hid (∀ w', Below w.heap.size w w' → ToldOut (toldS s) w (.returned (.tuple #[.int .i32 0, .bool false])) w') := Lib.hid (fun w' hb => by
                    rw [ht]
                    exact ⟨rfl, hb⟩)
                  clear hq ht
                  go_enter Tryz.func188, Tryz.ntmps188
                  go_wp2_with fail
                  with_reducible refine HC1.out.mono ?_
                  rintro e w1 ⟨rfl, rfl⟩
                  go_wp2_with fail
                  with_reducible refine HC2.out.mono ?_
                  rintro e w1 ⟨rfl, rfl⟩
                  go_wp2_with fail
                  with_reducible refine HP.out.mono ?_
                  rintro e w1 ⟨⟨u, T, p, rfl⟩, hb⟩
                  have HF1 := Lib.hid (HF.out w1 hb)
                  clear hb
                  go_wp2_with fail
                  go_ret2
                  exact HF1.out
                | some v =>
                  have hv := numS_lt hq
                  have hi32 : IntKind.i32.wrap (v : Int) = (v : Int) := IntWalk.i32_in _ (by omega)
                  have HCH := Lib.hid (fun W (hb : Below w.heap.size w W) => chars_calls (v : Int) W (HE.out.below hb).laid.2.1)
                  obtain ⟨cb, hcb⟩ : ∃ cb, inTab charsT (v : Int) = cb := ⟨_, rfl⟩
                  rw [show charS (some v) = if inTab charsT (v : Int) = true then some v else none from rfl, hcb] at ht
                  simp only [hcb] at HCH
                  cases cb with
                  | true =>
                    have HF : Hid (∀ w', Below w.heap.size w w' → ToldOut (toldS s) w (.returned (.tuple #[.int .i32 (v : Int), .bool true])) w') := Lib.hid (fun w' hb => by
                      rw [ht, if_pos rfl]
                      exact ⟨rfl, hb⟩)
                    clear hq ht hcb
                    go_enter Tryz.func188, Tryz.ntmps188
                    go_wp2_with fail
                    with_reducible refine HC1.out.mono ?_
                    rintro e w1 ⟨rfl, rfl⟩
                    go_wp2_with fail
                    with_reducible refine HC2.out.mono ?_
                    rintro e w1 ⟨rfl, rfl⟩
                    go_wp2_with fail
                    with_reducible refine HP.out.mono ?_
                    rintro e w1 ⟨he, hb⟩
                    dsimp only at he
                    subst he
                    have HB := Lib.hid hb
                    have HCH1 := Lib.hid (HCH.out w1 hb)
                    clear hb
                    go_wp2_with fail
                    with_reducible refine HCH1.out.mono ?_
                    rintro e w2 ⟨rfl, hb⟩
                    have HF1 := Lib.hid (HF.out w2 (below_then HB.out hb))
                    clear hb
                    go_wp2_with fail
                    go_ret2
                    exact HF1.out
                  | false =>
                    have HF : Hid (∀ w', Below w.heap.size w w' → ToldOut (toldS s) w (.returned (.tuple #[.int .i32 0, .bool false])) w') := Lib.hid (fun w' hb => by
                      rw [ht, if_neg Bool.false_ne_true]
                      exact ⟨rfl, hb⟩)
                    clear hq ht hcb
                    go_enter Tryz.func188, Tryz.ntmps188
                    go_wp2_with fail
                    with_reducible refine HC1.out.mono ?_
                    rintro e w1 ⟨rfl, rfl⟩
                    go_wp2_with fail
                    with_reducible refine HC2.out.mono ?_
                    rintro e w1 ⟨rfl, rfl⟩
                    go_wp2_with fail
                    with_reducible refine HP.out.mono ?_
                    rintro e w1 ⟨he, hb⟩
                    dsimp only at he
                    subst he
                    have HB := Lib.hid hb
                    have HCH1 := Lib.hid (HCH.out w1 hb)
                    clear hb
                    go_wp2_with fail
                    with_reducible refine HCH1.out.mono ?_
                    rintro e w2 ⟨rfl, hb⟩
                    have HF1 := Lib.hid (HF.out w2 (below_then HB.out hb))
                    clear hb
                    go_wp2_with fail
                    go_ret2
                    exact HF1.out
              | false =>
                rw [hb2, if_neg Bool.false_ne_true] at ht HC2
                have hd : s.length ≤ 1073741824 := HLEN.out
                have HP := Lib.hid (parse10_calls (strB (s)) w (by rw [strB_size]; exact hd) HE.out)
                rw [strB_list] at HP
                obtain ⟨ds, hds⟩ : ∃ ds, strB (s) = ds := ⟨_, rfl⟩
                rw [hds] at HP
                have hds2 : (⟨(s).toArray⟩ : ByteArray) = ds := hds
                rw [hds2] at HC2
                obtain ⟨q, hq⟩ : ∃ q, numS 10 (s) = q := ⟨_, rfl⟩
                rw [hq] at HP
                have HF : Hid (∀ w', Below w.heap.size w w' → ToldOut (toldS s) w (.returned (.tuple #[.int .i32 0, .bool false])) w') := Lib.hid (fun w' hb => by
                  rw [ht]
                  exact ⟨rfl, hb⟩)
                clear hq ht hds hds2 hd hb1 hb2
                cases q with
                | none =>
                  go_enter Tryz.func188, Tryz.ntmps188
                  go_wp2_with fail
                  with_reducible refine HC1.out.mono ?_
                  rintro e w1 ⟨rfl, rfl⟩
                  go_wp2_with fail
                  with_reducible refine HC2.out.mono ?_
                  rintro e w1 ⟨rfl, rfl⟩
                  go_wp2_with fail
                  with_reducible refine HP.out.mono ?_
                  rintro e w1 ⟨⟨u, T, p, rfl⟩, hb⟩
                  have HF1 := Lib.hid (HF.out w1 hb)
                  clear hb
                  go_wp2_with fail
                  go_ret2
                  exact HF1.out
                | some v =>
                  go_enter Tryz.func188, Tryz.ntmps188
                  go_wp2_with fail
                  with_reducible refine HC1.out.mono ?_
                  rintro e w1 ⟨rfl, rfl⟩
                  go_wp2_with fail
                  with_reducible refine HC2.out.mono ?_
                  rintro e w1 ⟨rfl, rfl⟩
                  go_wp2_with fail
                  with_reducible refine HP.out.mono ?_
                  rintro e w1 ⟨he, hb⟩
                  dsimp only at he
                  subst he
                  have HF1 := Lib.hid (HF.out w1 hb)
                  clear hb
                  go_wp2_with fail
                  go_ret2
                  exact HF1.out

end Go.Proofs.YtfonflbpkbibbaaGreatDoor
