/-
  The law of plain characters: a rune told by references of two bases is it, characters alone are one token. Conditions: the laid variables hold what their initialisers lay.
-/
import Derived.Test.YtemohjodihcdfaaGreatDoorXPl
import Derived.Test.YtemohjodihcdfaaGreatDoorXGd
namespace Go.Proofs.YtemohjodihcdfaaGreatDoor
open Go.RowKit Go.Lib Go.Joins

theorem wpAnyH_more {P : Program} {md : Region.Mode} {ops : Array Oper} {Q : Exit → Act → World → Prop} {S S2 : World → Prop} (h2 : ∀ w, S2 w → S w) : ∀ (fuel : Nat) (listed : Array Bool) (a : Act) (w : World), wpAnyH P md ops Q S2 fuel listed a w → wpAnyH P md ops Q S fuel listed a w
  | 0, _, _, _, h => h
  | fuel + 1, _, _, _, h => ⟨h.1, fun i hi => wpOp_mono (fun a' w' h' => ⟨h2 w' h'.1, wpAnyH_more h2 fuel _ a' w' h'.2⟩) (h.2 i hi)⟩
/-- A token's text. -/
theorem tokens_at {n0 : Nat} {w : World} {v : Value} {ps : List (Tk × Value)} {ts : List Tk} (h : OwnT n0 w v ps) (hps : ps.map Prod.fst = ts) {i : Nat} {tk : Tk} (hi : ts[i]? = some tk) : ∃ b c, v = .slice (some ⟨b, 0, none⟩) ts.length c ∧ w.cell? ⟨b, i * 5 + 3, none⟩ = some (.string (strB tk.text)) := by
  rcases h.tokens with ⟨_, h0⟩ | ⟨b, c, h1, _, _, _, _, h2⟩
  · rw [h0] at hps
    rw [← hps] at hi
    cases hi
  · have hl : ts.length = ps.length := by rw [← hps, List.length_map]
    rw [← hps, List.getElem?_map] at hi
    obtain ⟨x, hx, hxt⟩ := Option.map_eq_some_iff.1 hi
    have h4 := h2 i x hx
    refine ⟨b, c, by rw [h1, hl], ?_⟩
    rw [← hxt]
    exact h4.2.2.2.1
theorem strB_cat5 (a b : List UInt8) : ((({ data := #[60, 97, 62, 38, 35] } : ByteArray) ++ strB a ++ { data := #[59, 38, 35, 120] }) ++ strB b ++ { data := #[59, 60, 47, 97, 62] }) = strB ([60, 97, 62, 38, 35] ++ a ++ [59, 38, 35, 120] ++ b ++ [59, 60, 47, 97, 62]) := by
  have h : strB [60, 97, 62, 38, 35] ++ strB a ++ strB [59, 38, 35, 120] ++ strB b ++ strB [59, 60, 47, 97, 62] = strB ([60, 97, 62, 38, 35] ++ a ++ [59, 38, 35, 120] ++ b ++ [59, 60, 47, 97, 62]) := by
    rw [strB_app, strB_app, strB_app, strB_app]
  exact h
set_option maxRecDepth 100000 in
/-- Bytes in memory as a text. -/
theorem conv_row {w : World} {a : Option Addr} {l : List UInt8} (h : Row8 w a l.length (fs l)) (k : Nat) : (convert 22 9 (.slice a l.length k)).run Tryz.prog w = .ok (.string (strB l)) w := by
  obtain ⟨_, _, h3⟩ := h
  by_cases h0 : l.length = 0
  · have hl := List.length_eq_zero_iff.1 h0
    subst hl
    exact conv_zero w a k
  · rcases h3 with h3 | ⟨b, o, rfl, hc⟩
    · exact absurd h3 h0
    have hb : Lib.Bytes w b o (strB l) := fun x hx => by
      have hx2 : x < l.length := hx
      rw [hc x hx2]
      congr 2
      unfold fs strB
      rw [List.getD_eq_getElem?_getD, List.getElem?_eq_getElem hx2]
      rfl
    have hs : (strB l).size = l.length := rfl
    have h4 := Lib.run_convert_window (P := Tryz.prog) w 22 5 9 Tryz.underlying22 Tryz.underlying5 Tryz.underlying9 b o (strB l) hb 0 l.length k (by rw [hs]; omega)
    rw [Nat.add_zero] at h4
    rw [h4]
    congr 2
    apply ByteArray.ext
    apply Array.toList_inj.1
    unfold strB
    simp [ByteArray.data_extract, List.extract_eq_take_drop]
/-- The reference's Encode: a rune's bytes. -/
def EncOut (m : Nat) (w : World) (e : Ending) (w' : World) : Prop := ∃ a c, e = .returned (.slice a (encB m).length c) ∧ Row8 w' a (encB m).length (fs (encB m)) ∧ Below w.heap.size w w'
theorem encode_out (m : Nat) (hm : m ≤ 2147483647) (w : World) : Calls Tryz.prog 18 #[.int .i32 (m : Int)] w (EncOut m w) := by
  refine (refEncode_calls (m : Int) w (by omega) (by omega)).mono ?_
  rintro e w2 ⟨a, cc, rfl, hlc, hcc, hrow, hb2⟩
  rw [encL_nat] at hrow
  refine ⟨a, cc, by rw [encB_length, encL_nat], ?_, hb2⟩
  rw [encB_length]
  obtain ⟨h1, h2, h3⟩ := hrow
  refine ⟨fs_lt _, h2, ?_⟩
  rcases h3 with h3 | ⟨b, o, h4, h5⟩
  · exact .inl h3
  · exact .inr ⟨b, o, h4, fun i hi => by rw [encB_at m i hi]; exact h5 i hi⟩
theorem Row8.keepB {w w' : World} {a : Option Addr} {n : Nat} {f : Nat → Nat} (h : Row8 w a n f) (hb : Below w.heap.size w w') : Row8 w' a n f := h.below hb
set_option maxRecDepth 100000 in
set_option maxHeartbeats 16000000 in
theorem plain_calls (l : List UInt8) (n : Int) (hn : -2147483648 ≤ n ∧ n < 2147483648) (w : World) (hE : EnvAt w) (hg : Handle w) (h15 : 15 ≤ w.heap.size) : Calls Tryz.prog 5 #[.string (strB l), .int .i32 n] w (Leaves (.bool true) w) := by
  have HAW := Lib.hid (awake_calls w hE hg h15)
  by_cases hl : 4096 < l.length
  · have hz : (4096 : Int) < ((strB l).size : Int) := by rw [strB_size]; omega
    generalize strB l = ss at hz ⊢
    clear hE hg h15 hl hn
    go_enter Tryz.func5, Tryz.ntmps5
    go_wp2_with fail
    with_reducible refine HAW.out.mono ?_
    rintro e w1 ⟨rfl, hb⟩
    have HB1 := Lib.hid hb
    clear hb
    go_wp2_with fail
    go_ret
    exact ⟨rfl, HB1.out⟩
  have hz : ¬ ((4096 : Int) < ((strB l).size : Int)) := by rw [strB_size]; omega
  have HE := Lib.hid hE
  have HG := Lib.hid hg
  have H15 := Lib.hid h15
  have HL := Lib.hid (show l.length ≤ 4096 by omega)
  have HN := Lib.hid hn
  have hni : IntKind.i64.wrap n = n := IntWalk.i64_in _ (by omega)
  have HD10 : Hid (∀ W, Calls Tryz.prog 16 #[.int .i64 n, .int .i64 10] W (Leaves (.string (strB (numL 10 n))) W)) := Lib.hid (fun W => number_calls 10 (.inl rfl) n HN.out W)
  have HD16 : Hid (∀ W, Calls Tryz.prog 16 #[.int .i64 n, .int .i64 16] W (Leaves (.string (strB (numL 16 n))) W)) := Lib.hid (fun W => number_calls 16 (.inr rfl) n HN.out W)
  have hs10 := numL_len (base := 10) (by decide) (n := n) (by omega)
  have hs16 := numL_len (base := 16) (by decide) (n := n) (by omega)
  rw [← strB_size] at hs10 hs16
  have hds := strB_cat5 (numL 10 n) (numL 16 n)
  rw [show [60, 97, 62, 38, 35] ++ numL 10 n ++ [59, 38, 35, 120] ++ numL 16 n ++ [59, 60, 47, 97, 62] = pdoc n from rfl] at hds
  obtain ⟨d10, hd10⟩ : ∃ z, strB (numL 10 n) = z := ⟨_, rfl⟩
  obtain ⟨d16, hd16⟩ : ∃ z, strB (numL 16 n) = z := ⟨_, rfl⟩
  rw [hd10] at HD10 hs10 hds
  rw [hd16] at HD16 hs16 hds
  obtain ⟨ds, hdd⟩ : ∃ z, strB (pdoc n) = z := ⟨_, rfl⟩
  rw [hdd] at hds
  have HDD := Lib.hid hdd
  have HALL : Hid (∀ W, EnvAt W → 15 ≤ W.heap.size → Calls Tryz.prog 11 #[.slice (some ⟨W.heap.size, 0, none⟩) ds.size (grownCap W ds.size 0 5)] (bytesWorld W 5 ds) (AllOut (bytesWorld W 5 ds) (allS (pdoc n)))) := Lib.hid (fun W hEW hW => by
    have h := all_calls (doc_str W (pdoc n) (by have := pdoc_len (n := n) (by have := HN.out; omega); omega)) (hEW.below (bytesWorld_below W _)) (Nat.le_trans hW (bytesWorld_below W (strB (pdoc n))).size)
    rw [← strB_size, HDD.out] at h
    exact h)
  have HPR := Lib.hid (plain_rune HN.out)
  obtain ⟨ss, hss⟩ : ∃ x, strB l = x := ⟨_, rfl⟩
  have HSS := Lib.hid hss
  have hssz : ss.size ≤ 4096 := by rw [← hss, strB_size]; omega
  rw [hss] at hz ⊢
  have kcs := fun (W : World) (z : ByteArray) => Lib.run_convert_string_bytes (P := Tryz.prog) W 9 22 5 z Tryz.underlying9 Tryz.underlying22 Tryz.underlying5
  clear hE hg h15 hd10 hd16 hdd hss hl hn
  go_enter Tryz.func5, Tryz.ntmps5
  go_wp2_with fail
  with_reducible refine HAW.out.mono ?_
  rintro e w1 ⟨rfl, hb⟩
  have HB1 := Lib.hid hb
  clear hb HAW
  go_upto_region 5 with (fail)
  go_cut [5, 6] (fun s5 s6 wz => Below w.heap.size w wz ∧ ((inTab charsT n = true ∧ s6 = .nilIface ∧ ∃ b c, s5 = .slice (some ⟨b, 0, none⟩) 3 c ∧ wz.cell? ⟨b, 8, none⟩ = some (.string (strB (encB n.toNat ++ encB n.toNat)))) ∨ (inTab charsT n = false ∧ ∃ n0, ErrAt n0 wz 5 3 s6)))
  case first =>
    go_wp2_with fail
    with_reducible refine (HD10.out w1).mono ?_
    rintro e w2 ⟨rfl, hb⟩
    have HB2 := Lib.hid (below_then HB1.out hb)
    clear hb HD10 HB1
    have hc1 : ¬ (9223372036854775807 < 5 + d10.size) := by omega
    have hc2 : ¬ (9223372036854775807 < 5 + d10.size + 4) := by omega
    have hc3 : ¬ (9223372036854775807 < 5 + d10.size + 4 + d16.size) := by omega
    have hc4 : ¬ (9223372036854775807 < 5 + d10.size + 4 + d16.size + 5) := by omega
    go_wp2_with fail
    with_reducible refine (HD16.out w2).mono ?_
    rintro e w3 ⟨rfl, hb⟩
    have HB3 := Lib.hid (below_then HB2.out hb)
    clear hb HD16 HB2
    have HA := Lib.hid (HALL.out w3 (HE.out.below HB3.out) (Nat.le_trans H15.out HB3.out.size))
    have HBW : Hid (Below w.heap.size w (bytesWorld w3 5 ds)) := Lib.hid (below_then HB3.out (bytesWorld_below w3 ds))
    go_wp2_with fail
    with_reducible refine HA.out.mono ?_
    have hpr := HPR.out
    by_cases hch : inTab charsT n = true
    · rw [if_pos hch] at hpr
      obtain ⟨x, y, j, hq⟩ := hpr
      rw [hq]
      rintro e w4 ⟨v, ps, rfl, hps, hown, hb⟩
      obtain ⟨b, cc, hv, hcell⟩ := tokens_at hown hps (i := 1) rfl
      subst hv
      have HB4 := Lib.hid (below_then HBW.out hb)
      have HCL := Lib.hid hcell
      clear hps hown hb hcell hq
      go_wp2_with fail
      go_meet
      exact ⟨HB4.out, .inl ⟨hch, rfl, b, cc, rfl, HCL.out⟩⟩
    · rw [if_neg hch] at hpr
      rw [hpr]
      rintro e w4 ⟨ev, rfl, hcd, her, hb⟩
      have HB4 := Lib.hid (below_then HBW.out hb)
      have HER := Lib.hid her
      clear hb her hpr
      go_wp2_with fail
      go_meet
      exact ⟨HB4.out, .inr ⟨Bool.eq_false_iff.2 hch, _, HER.out⟩⟩
  case rest =>
  obtain ⟨hb, hcase⟩ := hcut
  rename World => wz
  have HBZ := Lib.hid hb
  have HCASE := Lib.hid hcase
  have HCH := Lib.hid (refChar_calls n wz)
  clear hb hcase HALL HPR HD10 HD16
  obtain ⟨qc, hqc⟩ : ∃ q, inTab charsT n = q := ⟨_, rfl⟩
  rw [hqc] at HCH
  have HQC := Lib.hid hqc
  clear hqc
  go_wp2_with fail
  with_reducible refine HCH.out.mono ?_
  rintro e wz ⟨rfl, rfl⟩
  go_upto_if 31 with (fail)
  go_cut [] (fun wx => Below w.heap.size w wx)
  case first =>
    rcases HCASE.out with ⟨hch, rfl, b, cc, rfl, hcell⟩ | ⟨hch, n0, her⟩
    · obtain rfl : qc = true := by rw [← HQC.out]; exact hch
      obtain ⟨m, hm⟩ : ∃ m : Nat, n = (m : Int) := by
        refine ⟨n.toNat, ?_⟩
        simp only [inTab, charsT, List.any_cons, List.any_nil, inPair, Bool.or_false, Bool.or_eq_true, Bool.and_eq_true, decide_eq_true_eq] at hch
        omega
      subst hm
      rw [Int.toNat_natCast] at hcell
      have HEN : Hid (∀ W, Calls Tryz.prog 18 #[.int .i32 (m : Int)] W (EncOut m W)) := Lib.hid (fun W => encode_out m (by have := HN.out.2; omega) W)
      have hcatE : strB (encB m) ++ strB (encB m) = strB (encB m ++ encB m) := strB_app _ _
      have HCR : Hid (∀ (W : World) (a : Option Addr) (k : Nat), Row8 W a (encB m).length (fs (encB m)) → (convert 22 9 (.slice a (encB m).length k)).run Tryz.prog W = .ok (.string (strB (encB m))) W) := Lib.hid (fun W a k h => conv_row h k)
      have hel : (encB m).length ≤ 4 := encB_len4 m
      obtain ⟨em, hem⟩ : ∃ z, strB (encB m) = z := ⟨_, rfl⟩
      obtain ⟨e2, he2⟩ : ∃ z, strB (encB m ++ encB m) = z := ⟨_, rfl⟩
      obtain ⟨el, hell⟩ : ∃ z, encB m = z := ⟨_, rfl⟩
      have hes : em.size = el.length := by rw [← hem, hell]; rfl
      unfold EncOut at HEN
      rw [hem] at hcatE HCR
      rw [he2] at hcatE hcell
      rw [hell] at HCR HEN hel
      obtain ⟨en, hen⟩ : ∃ z, el.length = z := ⟨_, rfl⟩
      rw [hen] at HCR HEN hel hes
      have hcat : ¬ (9223372036854775807 < em.size + em.size) := by omega
      have hcat2 : ¬ (9223372036854775807 < en + en) := by omega
      have hne3 : ((3 : Int) != 3) = false := rfl
      clear hch hem he2 hell hen
      go_upto_region 7 with (fail)
      obtain ⟨x0, hx0⟩ : ∃ W, wz.drew = W := ⟨_, rfl⟩
      have hbx : Below wz.heap.size wz x0 := by rw [← hx0]; exact ⟨rfl, rfl, rfl, Nat.le_refl _, fun _ _ => rfl⟩
      have HBX := Lib.hid (below_then HBZ.out hbx)
      have hcx := (hbx.cell (lt_of_cell hcell)).trans hcell
      have HCX := Lib.hid hcx
      clear hbx hcell
      refine wp_region_held_drew (S := fun W => W.cell? ⟨b, 8, none⟩ = some (.string e2)) (by kernel_rfl) (by rw [hx0]; exact hcx) (fun hHeld => ?_)
      rw [hx0] at hHeld ⊢
      clear hx0 hcx
      refine wpAnyH_take (i := 0) (v := ?_) rfl (by kernel_rfl) (by kernel_rfl) (by kernel_rfl) (fun _ _ _ h => h) (Or.inl ⟨by rfl, ?_⟩) (by assumption) ?_
      rotate_left
      · intro W hS
        try dsimp only at hS
        go_simp
        try with_reducible rfl
      simp only [List.getElem_toArray, List.getElem_cons_zero, Act.put, List.setIfInBounds_toArray, List.set_cons_zero, List.set_cons_succ]
      refine wpAnyH_ready (rs := [1]) (by kernel_rfl) (by simp) ?_
      refine AllReadyH.cons rfl (fun K hK => ?_) AllReadyH.nil
      go_simp
      with_reducible refine (code_nil x0).mono ?_
      rintro e x1 ⟨rfl, hb⟩
      have HB1x := Lib.hid (below_then HBX.out hb)
      have hcx1 := (hb.cell (lt_of_cell HCX.out)).trans HCX.out
      have HCX1 := Lib.hid hcx1
      clear hb
      refine hK.out _ _ HCX1.out (fun hHeld => ?_)
      clear hK K
      try simp only [List.getElem_toArray, List.getElem_cons_succ, List.getElem_cons_zero, Act.put, List.setIfInBounds_toArray, List.set_cons_zero, List.set_cons_succ]
      clear hcx1
      refine wpAnyH_take (i := 2) (v := ?_) rfl (by kernel_rfl) (by kernel_rfl) (by kernel_rfl) (fun _ _ _ h => h) (Or.inl ⟨by rfl, ?_⟩) (by assumption) ?_
      rotate_left
      · intro W hS
        try dsimp only at hS
        go_simp
        try with_reducible rfl
      simp only [List.getElem_toArray, List.getElem_cons_succ, List.getElem_cons_zero, Act.put, List.setIfInBounds_toArray, List.set_cons_zero, List.set_cons_succ]
      refine wpAnyH_take (i := 3) (v := ?_) rfl (by kernel_rfl) (by kernel_rfl) (by kernel_rfl) (fun _ _ _ h => h) (Or.inl ⟨by rfl, ?_⟩) (by assumption) ?_
      rotate_left
      · intro W hS
        try dsimp only at hS
        go_simp
        try with_reducible rfl
      simp only [List.getElem_toArray, List.getElem_cons_succ, List.getElem_cons_zero, Act.put, List.setIfInBounds_toArray, List.set_cons_zero, List.set_cons_succ]
      refine wpAnyH_take (i := 4) (v := ?_) rfl (by kernel_rfl) (by kernel_rfl) (by kernel_rfl) (fun _ _ _ h => h) (Or.inl ⟨by rfl, ?_⟩) (by assumption) ?_
      rotate_left
      · intro W hS
        try dsimp only at hS
        go_simp
        try with_reducible rfl
      simp only [List.getElem_toArray, List.getElem_cons_succ, List.getElem_cons_zero, Act.put, List.setIfInBounds_toArray, List.set_cons_zero, List.set_cons_succ]
      refine wpAnyH_take (i := 5) (v := ?_) rfl (by kernel_rfl) (by kernel_rfl) (by kernel_rfl) (fun _ _ _ h => h) (Or.inl ⟨by rfl, ?_⟩) (by assumption) ?_
      rotate_left
      · intro W hS
        try dsimp only at hS
        go_simp
        try with_reducible rfl
      simp only [List.getElem_toArray, List.getElem_cons_succ, List.getElem_cons_zero, Act.put, List.setIfInBounds_toArray, List.set_cons_zero, List.set_cons_succ]
      refine wpAnyH_take (i := 6) (v := ?_) rfl (by kernel_rfl) (by kernel_rfl) (by kernel_rfl) (fun _ _ _ h => h) (Or.inl ⟨by rfl, ?_⟩) (by assumption) ?_
      rotate_left
      · intro W hS
        try dsimp only at hS
        go_simp
        try with_reducible rfl
      simp only [List.getElem_toArray, List.getElem_cons_succ, List.getElem_cons_zero, Act.put, List.setIfInBounds_toArray, List.set_cons_zero, List.set_cons_succ]
      refine wpAnyH_take (i := 7) (v := ?_) rfl (by kernel_rfl) (by kernel_rfl) (by kernel_rfl) (fun _ _ _ h => h) (Or.inl ⟨by rfl, ?_⟩) (by assumption) ?_
      rotate_left
      · intro W hS
        try dsimp only at hS
        go_simp
        try with_reducible rfl
      simp only [List.getElem_toArray, List.getElem_cons_succ, List.getElem_cons_zero, Act.put, List.setIfInBounds_toArray, List.set_cons_zero, List.set_cons_succ]
      refine wpAnyH_take (i := 8) (v := ?_) rfl (by kernel_rfl) (by kernel_rfl) (by kernel_rfl) (fun _ _ _ h => h) (Or.inl ⟨by rfl, ?_⟩) (by assumption) ?_
      rotate_left
      · intro W hS
        try dsimp only at hS
        go_simp
        try with_reducible rfl
      simp only [List.getElem_toArray, List.getElem_cons_succ, List.getElem_cons_zero, Act.put, List.setIfInBounds_toArray, List.set_cons_zero, List.set_cons_succ]
      refine wpAnyH_take (i := 9) (v := ?_) rfl (by kernel_rfl) (by kernel_rfl) (by kernel_rfl) (fun _ _ _ h => h) (Or.inl ⟨by rfl, ?_⟩) (by assumption) ?_
      rotate_left
      · intro W hS
        try dsimp only at hS
        go_simp
        try with_reducible rfl
      simp only [List.getElem_toArray, List.getElem_cons_succ, List.getElem_cons_zero, Act.put, List.setIfInBounds_toArray, List.set_cons_zero, List.set_cons_succ]
      refine wpAnyH_take (i := 10) (v := ?_) rfl (by kernel_rfl) (by kernel_rfl) (by kernel_rfl) (fun _ _ _ h => h) (Or.inl ⟨by rfl, ?_⟩) (by assumption) ?_
      rotate_left
      · intro W hS
        try dsimp only at hS
        go_simp
        try with_reducible rfl
      simp only [List.getElem_toArray, List.getElem_cons_succ, List.getElem_cons_zero, Act.put, List.setIfInBounds_toArray, List.set_cons_zero, List.set_cons_succ]
      refine wpAnyH_take (i := 11) (v := ?_) rfl (by kernel_rfl) (by kernel_rfl) (by kernel_rfl) (fun _ _ _ h => h) (Or.inl ⟨by rfl, ?_⟩) (by assumption) ?_
      rotate_left
      · intro W hS
        try dsimp only at hS
        go_simp
        try with_reducible rfl
      simp only [List.getElem_toArray, List.getElem_cons_succ, List.getElem_cons_zero, Act.put, List.setIfInBounds_toArray, List.set_cons_zero, List.set_cons_succ]
      refine wpAnyH_take (i := 12) (v := ?_) rfl (by kernel_rfl) (by kernel_rfl) (by kernel_rfl) (fun _ _ _ h => h) (Or.inl ⟨by rfl, ?_⟩) (by assumption) ?_
      rotate_left
      · intro W hS
        try dsimp only at hS
        go_simp
        try with_reducible rfl
      simp only [List.getElem_toArray, List.getElem_cons_succ, List.getElem_cons_zero, Act.put, List.setIfInBounds_toArray, List.set_cons_zero, List.set_cons_succ]
      refine wpAnyH_take (i := 13) (v := ?_) rfl (by kernel_rfl) (by kernel_rfl) (by kernel_rfl) (fun _ _ _ h => h) (Or.inl ⟨by rfl, ?_⟩) (by assumption) ?_
      rotate_left
      · intro W hS
        try dsimp only at hS
        go_simp
        try with_reducible rfl
      simp only [List.getElem_toArray, List.getElem_cons_succ, List.getElem_cons_zero, Act.put, List.setIfInBounds_toArray, List.set_cons_zero, List.set_cons_succ]
      refine wpAnyH_take (i := 16) (v := ?_) rfl (by kernel_rfl) (by kernel_rfl) (by kernel_rfl) (fun _ _ _ h => h) (Or.inl ⟨by rfl, ?_⟩) (by assumption) ?_
      rotate_left
      · intro W hS
        try dsimp only at hS
        go_simp
        try with_reducible rfl
      simp only [List.getElem_toArray, List.getElem_cons_succ, List.getElem_cons_zero, Act.put, List.setIfInBounds_toArray, List.set_cons_zero, List.set_cons_succ]
      refine wpAnyH_ready (rs := [14]) (by kernel_rfl) (by simp) ?_
      refine AllReadyH.cons rfl (fun K hK => ?_) AllReadyH.nil
      go_simp
      with_reducible refine (HEN.out x1).mono ?_
      rintro e x2 ⟨a2, c2, rfl, hr2, hb⟩
      have HB2x := Lib.hid (below_then HB1x.out hb)
      have hcx2 := (hb.cell (lt_of_cell HCX1.out)).trans HCX1.out
      have HR2 := Lib.hid hr2
      have HCX2 := Lib.hid hcx2
      clear hb hr2
      refine hK.out _ _ HCX2.out (fun hHeld => ?_)
      clear hK K
      try simp only [List.getElem_toArray, List.getElem_cons_succ, List.getElem_cons_zero, Act.put, List.setIfInBounds_toArray, List.set_cons_zero, List.set_cons_succ]
      clear hcx2 hHeld
      refine wpAnyH_more (S2 := fun W => (W.cell? ⟨b, 8, none⟩ = some (.string e2)) ∧ Row8 W a2 en (fs el)) (fun _ h => h.1) _ _ _ _ ?_
      have hHeld : (fun W : World => (W.cell? ⟨b, 8, none⟩ = some (.string e2)) ∧ Row8 W a2 en (fs el)) x2 := ⟨HCX2.out, HR2.out⟩
      refine wpAnyH_take (i := 15) (v := .string em) rfl (by kernel_rfl) (by kernel_rfl) (by kernel_rfl) (fun _ _ _ h => h) (Or.inl ⟨by rfl, fun W hS => ?_⟩) (by assumption) ?_
      · have hcv := HCR.out W a2 c2 hS.2
        try dsimp only at hS
        go_simp
        try with_reducible rfl
      simp only [List.getElem_toArray, List.getElem_cons_succ, List.getElem_cons_zero, Act.put, List.setIfInBounds_toArray, List.set_cons_zero, List.set_cons_succ]
      refine wpAnyH_ready (rs := [17]) (by kernel_rfl) (by simp) ?_
      refine AllReadyH.cons rfl (fun K hK => ?_) AllReadyH.nil
      go_simp
      with_reducible refine (HEN.out x2).mono ?_
      rintro e x3 ⟨a3, c3, rfl, hr3, hb⟩
      have HB3x := Lib.hid (below_then HB2x.out hb)
      have hcx3 := (hb.cell (lt_of_cell HCX2.out)).trans HCX2.out
      have HR3 := Lib.hid hr3
      have HR23 := Lib.hid (HR2.out.below hb)
      have HCX3 := Lib.hid hcx3
      clear hb hr3
      refine hK.out _ _ ⟨HCX3.out, HR23.out⟩ (fun hHeld => ?_)
      clear hK K
      try simp only [List.getElem_toArray, List.getElem_cons_succ, List.getElem_cons_zero, Act.put, List.setIfInBounds_toArray, List.set_cons_zero, List.set_cons_succ]
      clear hcx3 hHeld
      refine wpAnyH_more (S2 := fun W => ((W.cell? ⟨b, 8, none⟩ = some (.string e2)) ∧ Row8 W a2 en (fs el)) ∧ Row8 W a3 en (fs el)) (fun _ h => h.1) _ _ _ _ ?_
      have hHeld : (fun W : World => ((W.cell? ⟨b, 8, none⟩ = some (.string e2)) ∧ Row8 W a2 en (fs el)) ∧ Row8 W a3 en (fs el)) x3 := ⟨⟨HCX3.out, HR23.out⟩, HR3.out⟩
      refine wpAnyH_take (i := 18) (v := .string em) rfl (by kernel_rfl) (by kernel_rfl) (by kernel_rfl) (fun _ _ _ h => h) (Or.inl ⟨by rfl, fun W hS => ?_⟩) (by assumption) ?_
      · have hcv := HCR.out W a3 c3 hS.2
        try dsimp only at hS
        go_simp
        try with_reducible rfl
      simp only [List.getElem_toArray, List.getElem_cons_succ, List.getElem_cons_zero, Act.put, List.setIfInBounds_toArray, List.set_cons_zero, List.set_cons_succ]
      refine wpAnyH_take (i := 19) (v := ?_) rfl (by kernel_rfl) (by kernel_rfl) (by kernel_rfl) (fun _ _ _ h => h) (Or.inl ⟨by rfl, ?_⟩) (by assumption) ?_
      rotate_left
      · intro W hS
        try dsimp only at hS
        go_simp
        try with_reducible rfl
      simp only [List.getElem_toArray, List.getElem_cons_succ, List.getElem_cons_zero, Act.put, List.setIfInBounds_toArray, List.set_cons_zero, List.set_cons_succ]
      refine wpAnyH_take (i := 20) (v := ?_) rfl (by kernel_rfl) (by kernel_rfl) (by kernel_rfl) (fun _ _ _ h => h) (Or.inl ⟨by rfl, ?_⟩) (by assumption) ?_
      rotate_left
      · intro W hS
        try dsimp only at hS
        go_simp
        try with_reducible rfl
      simp only [List.getElem_toArray, List.getElem_cons_succ, List.getElem_cons_zero, Act.put, List.setIfInBounds_toArray, List.set_cons_zero, List.set_cons_succ]
      refine wpAnyH_take (i := 21) (v := ?_) rfl (by kernel_rfl) (by kernel_rfl) (by kernel_rfl) (fun _ _ _ h => h) (Or.inl ⟨by rfl, ?_⟩) (by assumption) ?_
      rotate_left
      · intro W hS
        try dsimp only at hS
        go_simp
        try with_reducible rfl
      simp only [List.getElem_toArray, List.getElem_cons_succ, List.getElem_cons_zero, Act.put, List.setIfInBounds_toArray, List.set_cons_zero, List.set_cons_succ]
      refine wpAnyH_done (by kernel_rfl) ?_ _
      go_wp2_with fail
      go_meet
      exact HB3x.out
    · obtain rfl : qc = false := by rw [← HQC.out]; exact hch
      have HER := Lib.hid her
      have HCO := Lib.hid (code_calls _ _ _ wz her (HG.out.below HBZ.out))
      clear her hch
      go_wp2_with fail
      with_reducible refine HCO.out.mono ?_
      rintro e w5 ⟨rfl, hb⟩
      have HB5 := Lib.hid (below_then HBZ.out hb)
      have hat := at_calls _ _ _ w5 (HER.out.below hb) (HG.out.below HB5.out)
      rw [if_neg (by decide)] at hat
      have HAT := Lib.hid hat
      clear hb hat HCO
      go_wp2_with fail
      with_reducible refine HAT.out.mono ?_
      rintro e w6 ⟨rfl, hb⟩
      have HB6 := Lib.hid (below_then HB5.out hb)
      clear hb
      go_wp2_with fail
      go_meet
      exact HB6.out
  case rest =>
  rename World => wy
  have HBY := Lib.hid hcut
  clear hcut HCASE HCH HQC
  go_wp2_with fail
  go_loopg [7] ss.size (fun g s7 wr => ∃ i : Nat, i + g = ss.size ∧ s7 = .int .i64 (i : Int) ∧ wr = wy ∧ ∀ x, x ∈ l.take i → x ≠ 60 ∧ x ≠ 38 ∧ x ≠ 93)
  case atStart => exact ⟨0, by omega, rfl, rfl, fun x hx => by cases hx⟩
  case round =>
    obtain ⟨i, hig, rfl, hwr, hok⟩ := hrel
    subst hwr
    have HOK := Lib.hid hok
    clear hok
    cases gk with
    | zero =>
      obtain rfl : i = ss.size := by omega
      have hge : ¬ ((ss.size : Int) < (ss.size : Int)) := by omega
      have hall := plain_chars (s := l) HL.out (fun x hx => HOK.out x (by
        rw [List.take_of_length_le (by rw [← HSS.out, strB_size]; exact Nat.le_refl _)]
        exact hx))
      have HA : Hid (Calls Tryz.prog 11 #[.slice (some ⟨wr.heap.size, 0, none⟩) ss.size (grownCap wr ss.size 0 5)] (bytesWorld wr 5 ss) (AllOut (bytesWorld wr 5 ss) (allS l))) := Lib.hid (by
        have h := all_calls (doc_str wr l (by have := HL.out; omega)) (HE.out.below (below_then HBY.out (bytesWorld_below wr _))) (Nat.le_trans H15.out (Nat.le_trans HBY.out.size (bytesWorld_below wr (strB l)).size))
        rw [← strB_size, HSS.out] at h
        exact h)
      rw [hall] at HA
      have HBW : Hid (Below w.heap.size w (bytesWorld wr 5 ss)) := Lib.hid (below_then HBY.out (bytesWorld_below wr ss))
      have HRB : Hid (∀ W, Calls Tryz.prog 13 #[.slice (some ⟨W.heap.size, 0, none⟩) ss.size (grownCap W ss.size 0 5)] (bytesWorld W 5 ss) (Leaves (.int .i64 (badL l)) (bytesWorld W 5 ss))) := Lib.hid (fun W => by
        have h := refBad_calls (some ⟨W.heap.size, 0, none⟩) l.length (grownCap W (strB l).size 0 5) (fs l) (bytesWorld W 5 (strB l)) (doc_str W l (by have := HL.out; omega)).row8 (by have := HL.out; omega)
        rw [show badZ (fs l) l.length = badL l from rfl, ← strB_size l, HSS.out] at h
        exact h)
      clear hall hz
      by_cases hbad : 0 ≤ badL l
      · rw [if_pos hbad] at HA
        generalize badL l = z at HA hbad HRB
        go_wp2_with fail
        with_reducible refine HA.out.mono ?_
        rintro e w3 ⟨ev, rfl, _, her, hb⟩
        have HB3 := Lib.hid (below_then HBW.out hb)
        have HER := Lib.hid her
        clear hb her HA
        go_wp2_with fail
        with_reducible refine (HRB.out w3).mono ?_
        rintro e w4 ⟨rfl, hb⟩
        have hb34 : Below w3.heap.size w3 w4 := below_then (bytesWorld_below w3 ss) hb
        have HB4 := Lib.hid (below_then HB3.out hb34)
        have HCO := Lib.hid (code_calls _ _ ev w4 (HER.out.below hb34) (HG.out.below HB4.out))
        clear hb hb34 HER
        go_wp2_with fail
        with_reducible refine HCO.out.mono ?_
        rintro e w5 ⟨rfl, hb⟩
        have HB5 := Lib.hid (below_then HB4.out hb)
        clear hb HCO
        go_wp2_with fail
        go_ret
        exact ⟨rfl, HB5.out⟩
      rw [if_neg hbad] at HA
      by_cases hnil : l = []
      · rw [if_pos hnil] at HA
        have hse : (ss.toList == []) = true := by rw [← HSS.out, hnil, str_eq]; rfl
        generalize badL l = z at hbad HRB
        clear hnil
        go_wp2_with fail
        with_reducible refine HA.out.mono ?_
        rintro e w3 ⟨v, ps, rfl, hps, hown, hb⟩
        have HB3 := Lib.hid (below_then HBW.out hb)
        obtain ⟨va, vc, hv⟩ := hown.form
        have hp0 : ps = [] := List.map_eq_nil_iff.1 hps
        subst hp0
        obtain rfl : v = .slice va 0 vc := hv
        clear hb HA hown hps
        go_wp2_with fail
        with_reducible refine (HRB.out w3).mono ?_
        rintro e w4 ⟨rfl, hb⟩
        have hb34 : Below w3.heap.size w3 w4 := below_then (bytesWorld_below w3 ss) hb
        have HB4 := Lib.hid (below_then HB3.out hb34)
        have HCO := Lib.hid (code_nil w4)
        clear hb hb34
        go_wp2_with fail
        with_reducible refine HCO.out.mono ?_
        rintro e w5 ⟨rfl, hb⟩
        have HB5 := Lib.hid (below_then HB4.out hb)
        clear hb HCO
        go_wp2_with fail
        go_ret
        exact ⟨rfl, HB5.out⟩
      · rw [if_neg hnil] at HA
        have hse : (ss.toList == []) = false := by
          rw [← HSS.out, str_eq]
          cases l with
          | nil => exact absurd rfl hnil
          | cons x t => rfl
        have HLN : Hid (∀ W, Calls Tryz.prog 20 #[.string ss] W (Leaves (.string (strB (eols l))) W)) := Lib.hid (fun W => by
          have h := refLines_calls (strB l) W (by rw [strB_size]; have := HL.out; omega)
          rw [strB_list, HSS.out] at h
          exact h)
        generalize badL l = z at hbad HRB
        clear hnil
        go_wp2_with fail
        with_reducible refine HA.out.mono ?_
        rintro e w3 ⟨v, ps, rfl, hps, hown, hb⟩
        have HB3 := Lib.hid (below_then HBW.out hb)
        obtain ⟨b, cc, hv, hcell⟩ : ∃ b cc, v = .slice (some ⟨b, 0, none⟩) 1 cc ∧ w3.cell? ⟨b, 3, none⟩ = some (.string (strB (eols l))) := tokens_at hown hps (i := 0) rfl
        subst hv
        obtain ⟨es, hes⟩ : ∃ z, strB (eols l) = z := ⟨_, rfl⟩
        rw [hes] at hcell HLN
        have HCL3 := Lib.hid hcell
        clear hb HA hown hps hcell hes
        go_wp2_with fail
        with_reducible refine (HRB.out w3).mono ?_
        rintro e w4 ⟨rfl, hb⟩
        have hb34 : Below w3.heap.size w3 w4 := below_then (bytesWorld_below w3 ss) hb
        have HB4 := Lib.hid (below_then HB3.out hb34)
        have hcell := (hb34.cell (lt_of_cell HCL3.out)).trans HCL3.out
        clear hb hb34 HRB HCL3
        go_upto_region 21 with (fail)
        obtain ⟨x0, hx0⟩ : ∃ W, w4.drew = W := ⟨_, rfl⟩
        have hbx : Below w4.heap.size w4 x0 := by rw [← hx0]; exact ⟨rfl, rfl, rfl, Nat.le_refl _, fun _ _ => rfl⟩
        have HBX := Lib.hid (below_then HB4.out hbx)
        have hcx := (hbx.cell (lt_of_cell hcell)).trans hcell
        have HCX := Lib.hid hcx
        clear hbx hcell
        refine wp_region_held_drew (S := fun W => W.cell? ⟨b, 3, none⟩ = some (.string es)) (by kernel_rfl) (by rw [hx0]; exact hcx) (fun hHeld => ?_)
        rw [hx0] at hHeld ⊢
        clear hx0 hcx
        refine wpAnyH_take (i := 0) (v := ?_) rfl (by kernel_rfl) (by kernel_rfl) (by kernel_rfl) (fun _ _ _ h => h) (Or.inl ⟨by rfl, ?_⟩) (by assumption) ?_
        rotate_left
        · intro W hS
          try dsimp only at hS
          go_simp
          try with_reducible rfl
        simp only [List.getElem_toArray, List.getElem_cons_zero, Act.put, List.setIfInBounds_toArray, List.set_cons_zero, List.set_cons_succ]
        refine wpAnyH_ready (rs := [1]) (by kernel_rfl) (by simp) ?_
        refine AllReadyH.cons rfl (fun K hK => ?_) AllReadyH.nil
        go_simp
        with_reducible refine (code_nil x0).mono ?_
        rintro e x1 ⟨rfl, hb⟩
        have HB1x := Lib.hid (below_then HBX.out hb)
        have hcx1 := (hb.cell (lt_of_cell HCX.out)).trans HCX.out
        have HCX1 := Lib.hid hcx1
        clear hb
        refine hK.out _ _ HCX1.out (fun hHeld => ?_)
        clear hK K
        try simp only [List.getElem_toArray, List.getElem_cons_succ, List.getElem_cons_zero, Act.put, List.setIfInBounds_toArray, List.set_cons_zero, List.set_cons_succ]
        clear hcx1
        refine wpAnyH_take (i := 2) (v := ?_) rfl (by kernel_rfl) (by kernel_rfl) (by kernel_rfl) (fun _ _ _ h => h) (Or.inl ⟨by rfl, ?_⟩) (by assumption) ?_
        rotate_left
        · intro W hS
          try dsimp only at hS
          go_simp
          try with_reducible rfl
        simp only [List.getElem_toArray, List.getElem_cons_succ, List.getElem_cons_zero, Act.put, List.setIfInBounds_toArray, List.set_cons_zero, List.set_cons_succ]
        refine wpAnyH_take (i := 3) (v := ?_) rfl (by kernel_rfl) (by kernel_rfl) (by kernel_rfl) (fun _ _ _ h => h) (Or.inl ⟨by rfl, ?_⟩) (by assumption) ?_
        rotate_left
        · intro W hS
          try dsimp only at hS
          go_simp
          try with_reducible rfl
        simp only [List.getElem_toArray, List.getElem_cons_succ, List.getElem_cons_zero, Act.put, List.setIfInBounds_toArray, List.set_cons_zero, List.set_cons_succ]
        refine wpAnyH_take (i := 4) (v := ?_) rfl (by kernel_rfl) (by kernel_rfl) (by kernel_rfl) (fun _ _ _ h => h) (Or.inl ⟨by rfl, ?_⟩) (by assumption) ?_
        rotate_left
        · intro W hS
          try dsimp only at hS
          go_simp
          try with_reducible rfl
        simp only [List.getElem_toArray, List.getElem_cons_succ, List.getElem_cons_zero, Act.put, List.setIfInBounds_toArray, List.set_cons_zero, List.set_cons_succ]
        refine wpAnyH_take (i := 5) (v := ?_) rfl (by kernel_rfl) (by kernel_rfl) (by kernel_rfl) (fun _ _ _ h => h) (Or.inl ⟨by rfl, ?_⟩) (by assumption) ?_
        rotate_left
        · intro W hS
          try dsimp only at hS
          go_simp
          try with_reducible rfl
        simp only [List.getElem_toArray, List.getElem_cons_succ, List.getElem_cons_zero, Act.put, List.setIfInBounds_toArray, List.set_cons_zero, List.set_cons_succ]
        refine wpAnyH_take (i := 6) (v := ?_) rfl (by kernel_rfl) (by kernel_rfl) (by kernel_rfl) (fun _ _ _ h => h) (Or.inl ⟨by rfl, ?_⟩) (by assumption) ?_
        rotate_left
        · intro W hS
          try dsimp only at hS
          go_simp
          try with_reducible rfl
        simp only [List.getElem_toArray, List.getElem_cons_succ, List.getElem_cons_zero, Act.put, List.setIfInBounds_toArray, List.set_cons_zero, List.set_cons_succ]
        refine wpAnyH_take (i := 7) (v := ?_) rfl (by kernel_rfl) (by kernel_rfl) (by kernel_rfl) (fun _ _ _ h => h) (Or.inl ⟨by rfl, ?_⟩) (by assumption) ?_
        rotate_left
        · intro W hS
          try dsimp only at hS
          go_simp
          try with_reducible rfl
        simp only [List.getElem_toArray, List.getElem_cons_succ, List.getElem_cons_zero, Act.put, List.setIfInBounds_toArray, List.set_cons_zero, List.set_cons_succ]
        refine wpAnyH_take (i := 8) (v := ?_) rfl (by kernel_rfl) (by kernel_rfl) (by kernel_rfl) (fun _ _ _ h => h) (Or.inl ⟨by rfl, ?_⟩) (by assumption) ?_
        rotate_left
        · intro W hS
          try dsimp only at hS
          go_simp
          try with_reducible rfl
        simp only [List.getElem_toArray, List.getElem_cons_succ, List.getElem_cons_zero, Act.put, List.setIfInBounds_toArray, List.set_cons_zero, List.set_cons_succ]
        refine wpAnyH_take (i := 9) (v := ?_) rfl (by kernel_rfl) (by kernel_rfl) (by kernel_rfl) (fun _ _ _ h => h) (Or.inl ⟨by rfl, ?_⟩) (by assumption) ?_
        rotate_left
        · intro W hS
          try dsimp only at hS
          go_simp
          try with_reducible rfl
        simp only [List.getElem_toArray, List.getElem_cons_succ, List.getElem_cons_zero, Act.put, List.setIfInBounds_toArray, List.set_cons_zero, List.set_cons_succ]
        refine wpAnyH_take (i := 10) (v := ?_) rfl (by kernel_rfl) (by kernel_rfl) (by kernel_rfl) (fun _ _ _ h => h) (Or.inl ⟨by rfl, ?_⟩) (by assumption) ?_
        rotate_left
        · intro W hS
          try dsimp only at hS
          go_simp
          try with_reducible rfl
        simp only [List.getElem_toArray, List.getElem_cons_succ, List.getElem_cons_zero, Act.put, List.setIfInBounds_toArray, List.set_cons_zero, List.set_cons_succ]
        refine wpAnyH_take (i := 11) (v := ?_) rfl (by kernel_rfl) (by kernel_rfl) (by kernel_rfl) (fun _ _ _ h => h) (Or.inl ⟨by rfl, ?_⟩) (by assumption) ?_
        rotate_left
        · intro W hS
          try dsimp only at hS
          go_simp
          try with_reducible rfl
        simp only [List.getElem_toArray, List.getElem_cons_succ, List.getElem_cons_zero, Act.put, List.setIfInBounds_toArray, List.set_cons_zero, List.set_cons_succ]
        refine wpAnyH_take (i := 12) (v := ?_) rfl (by kernel_rfl) (by kernel_rfl) (by kernel_rfl) (fun _ _ _ h => h) (Or.inl ⟨by rfl, ?_⟩) (by assumption) ?_
        rotate_left
        · intro W hS
          try dsimp only at hS
          go_simp
          try with_reducible rfl
        simp only [List.getElem_toArray, List.getElem_cons_succ, List.getElem_cons_zero, Act.put, List.setIfInBounds_toArray, List.set_cons_zero, List.set_cons_succ]
        refine wpAnyH_take (i := 13) (v := ?_) rfl (by kernel_rfl) (by kernel_rfl) (by kernel_rfl) (fun _ _ _ h => h) (Or.inl ⟨by rfl, ?_⟩) (by assumption) ?_
        rotate_left
        · intro W hS
          try dsimp only at hS
          go_simp
          try with_reducible rfl
        simp only [List.getElem_toArray, List.getElem_cons_succ, List.getElem_cons_zero, Act.put, List.setIfInBounds_toArray, List.set_cons_zero, List.set_cons_succ]
        refine wpAnyH_ready (rs := [14]) (by kernel_rfl) (by simp) ?_
        refine AllReadyH.cons rfl (fun K hK => ?_) AllReadyH.nil
        go_simp
        with_reducible refine (HLN.out x1).mono ?_
        rintro e x2 ⟨rfl, hb⟩
        have HB2x := Lib.hid (below_then HB1x.out hb)
        have hcx2 := (hb.cell (lt_of_cell HCX1.out)).trans HCX1.out
        have HCX2 := Lib.hid hcx2
        clear hb
        refine hK.out _ _ HCX2.out (fun hHeld => ?_)
        clear hK K
        try simp only [List.getElem_toArray, List.getElem_cons_succ, List.getElem_cons_zero, Act.put, List.setIfInBounds_toArray, List.set_cons_zero, List.set_cons_succ]
        clear hcx2
        refine wpAnyH_take (i := 15) (v := ?_) rfl (by kernel_rfl) (by kernel_rfl) (by kernel_rfl) (fun _ _ _ h => h) (Or.inl ⟨by rfl, ?_⟩) (by assumption) ?_
        rotate_left
        · intro W hS
          try dsimp only at hS
          go_simp
          try with_reducible rfl
        simp only [List.getElem_toArray, List.getElem_cons_succ, List.getElem_cons_zero, Act.put, List.setIfInBounds_toArray, List.set_cons_zero, List.set_cons_succ]
        refine wpAnyH_take (i := 16) (v := ?_) rfl (by kernel_rfl) (by kernel_rfl) (by kernel_rfl) (fun _ _ _ h => h) (Or.inl ⟨by rfl, ?_⟩) (by assumption) ?_
        rotate_left
        · intro W hS
          try dsimp only at hS
          go_simp
          try with_reducible rfl
        simp only [List.getElem_toArray, List.getElem_cons_succ, List.getElem_cons_zero, Act.put, List.setIfInBounds_toArray, List.set_cons_zero, List.set_cons_succ]
        refine wpAnyH_take (i := 17) (v := ?_) rfl (by kernel_rfl) (by kernel_rfl) (by kernel_rfl) (fun _ _ _ h => h) (Or.inl ⟨by rfl, ?_⟩) (by assumption) ?_
        rotate_left
        · intro W hS
          try dsimp only at hS
          go_simp
          try with_reducible rfl
        simp only [List.getElem_toArray, List.getElem_cons_succ, List.getElem_cons_zero, Act.put, List.setIfInBounds_toArray, List.set_cons_zero, List.set_cons_succ]
        refine wpAnyH_done (by kernel_rfl) ?_ _
        go_wp2_with fail
        go_ret
        exact ⟨rfl, HB2x.out⟩
    | succ g =>
      have hi : i < ss.size := by omega
      have hlt : (i : Int) < (ss.size : Int) := by omega
      have h0 : (0 : Int) ≤ (i : Int) := by omega
      obtain ⟨x, hx⟩ : ∃ x : UInt8, ss[i]'(by omega) = x := ⟨_, rfl⟩
      have hxl : l[i]? = some x := by
        have h := Lib.data_getElem? ss i (by omega)
        rw [hx, ← HSS.out, strB_list] at h
        exact h
      have hadd : IntKind.i64.wrap ((i : Int) + 1) = ((i + 1 : Nat) : Int) := IntWalk.i64_in _ (by omega)
      have e60 := eq_int x 60 (by decide)
      have e38 := eq_int x 38 (by decide)
      have e93 := eq_int x 93 (by decide)
      have HX := Lib.hid hxl
      clear hxl hz
      by_cases c60 : x = 60
      · have b60 : ((x.toNat : Int) == 60) = true := by rw [c60]; rfl
        clear e60 e38 e93
        go_wp2_with fail
        go_ret
        exact ⟨rfl, HBY.out⟩
      have b60 : ((x.toNat : Int) == 60) = false := e60.trans (decide_eq_false c60)
      by_cases c38 : x = 38
      · have b38 : ((x.toNat : Int) == 38) = true := by rw [c38]; rfl
        clear e60 e38 e93
        go_wp2_with fail
        go_ret
        exact ⟨rfl, HBY.out⟩
      have b38 : ((x.toNat : Int) == 38) = false := e38.trans (decide_eq_false c38)
      by_cases c93 : x = 93
      · have b93 : ((x.toNat : Int) == 93) = true := by rw [c93]; rfl
        clear e60 e38 e93
        go_wp2_with fail
        go_ret
        exact ⟨rfl, HBY.out⟩
      have b93 : ((x.toNat : Int) == 93) = false := e93.trans (decide_eq_false c93)
      have HOK2 : Hid (∀ y, y ∈ l.take (i + 1) → y ≠ 60 ∧ y ≠ 38 ∧ y ≠ 93) := Lib.hid (fun y hy => by
        rw [List.take_add_one, HX.out] at hy
        rcases List.mem_append.1 hy with h | h
        · exact HOK.out y h
        · have : y = x := by simpa using h
          rw [this]
          exact ⟨c60, c38, c93⟩)
      clear e60 e38 e93 c60 c38 c93
      go_wp2_with fail
      go_roundg g
      case measure => omega
      case rel => exact ⟨i + 1, by omega, rfl, rfl, HOK2.out⟩

end Go.Proofs.YtemohjodihcdfaaGreatDoor
