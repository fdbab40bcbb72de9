/-
  The law of values: an attribute's value without quotes, < and & is told as it is, each tab and each end of a line a blank. Conditions: the laid variables hold what their initialisers lay.
-/
import Derived.Test.YtemohjodihcdfaaGreatDoorXAw
import Derived.Test.YtemohjodihcdfaaGreatDoorXVp
namespace Go.Proofs.YtemohjodihcdfaaGreatDoor
open Go.RowKit Go.Lib Go.Joins

theorem doc_str (W : World) (l : List UInt8) (h : l.length ≤ 1000000) : DocAt (bytesWorld W 5 (strB l)) (some ⟨W.heap.size, 0, none⟩) (grownCap W (strB l).size 0 5) l :=
  doc_of_cells (fun k hk => by
    rw [Nat.zero_add, bytesWorld_cell W 5 (strB l) k (by rw [strB_size]; exact hk), strB_list]
    rfl) (Nat.le_trans (by rw [strB_size]; exact Nat.le_refl _) (grownCap_ge W _ _ _)) (grownCap_le_maxLen W _ _ _ (by rw [strB_size]; unfold maxLen; omega))
theorem strB_app (a b : List UInt8) : strB a ++ strB b = strB (a ++ b) := by
  apply ByteArray.ext
  apply Array.toList_inj.1
  simp [strB, ByteArray.data_append]
theorem strB_one (l : List UInt8) (i : Nat) (x : UInt8) (h : l[i]? = some x) : (strB l).extract i (i + 1) = strB [x] := by
  apply ByteArray.ext
  apply Array.toList_inj.1
  rw [ByteArray.data_extract, Array.toList_extract, List.extract_eq_take_drop, Nat.add_sub_cancel_left]
  show (l.drop i).take 1 = [x]
  have hlt := (List.getElem?_eq_some_iff.1 h).1
  rw [List.drop_eq_getElem_cons hlt]
  rw [List.getElem?_eq_getElem hlt] at h
  rw [Option.some.inj h]
  rfl
/-- Each tab and each end of a line a blank. -/
def flatE (l : List UInt8) : List UInt8 := l.map fun x => if x = 10 ∨ x = 9 then 32 else x
theorem flatE_snoc (l : List UInt8) (i : Nat) (x : UInt8) (h : l[i]? = some x) : flatE (l.take (i + 1)) = flatE (l.take i) ++ [if x = 10 ∨ x = 9 then 32 else x] := by
  unfold flatE
  rw [List.take_add_one, h, List.map_append]
  rfl
theorem bad_lt (l : List UInt8) : badL l < (l.length : Int) + 1 := by
  have h : ∀ g p, p ≤ l.length → badFrom (fs l) l.length g p < (l.length : Int) + 1 := by
    intro g
    induction g with
    | zero => intro p _; show (-1 : Int) < _; omega
    | succ g ih =>
      intro p hp
      rw [badFrom]
      split
      · rename_i hpl
        split
        · omega
        · exact ih _ (nx_fits2 hpl)
      · omega
  exact h _ 0 (Nat.zero_le _)
/-- Bytes that may not stand in such a value. -/
def okV (x : UInt8) : Prop := x ≠ 34 ∧ x ≠ 39 ∧ x ≠ 60 ∧ x ≠ 38
theorem eq_int (x : UInt8) (n : Nat) (hn : n < 256) : ((x.toNat : Int) == (n : Int)) = decide (x = UInt8.ofNat n) := by
  by_cases h : x = UInt8.ofNat n
  · have h1 : x.toNat = n := by rw [h, UInt8.toNat_ofNat']; omega
    rw [decide_eq_true h, h1]
    exact beq_self_eq_true _
  · rw [decide_eq_false h, beq_eq_false_iff_ne]
    intro h2
    exact h (UInt8.toNat_inj.1 (by rw [UInt8.toNat_ofNat']; omega))
set_option maxRecDepth 100000 in
set_option maxHeartbeats 16000000 in
theorem values_calls (l : List UInt8) (single : Bool) (w : World) (hE : EnvAt w) (hg : Handle w) (h15 : 15 ≤ w.heap.size) : Calls Tryz.prog 6 #[.string (strB l), .bool single] w (Leaves (.bool true) w) := by
  have HAW := Lib.hid (awake_calls w hE hg h15)
  by_cases hl : 2000 < l.length
  · have hz : (2000 : Int) < ((strB l).size : Int) := by rw [strB_size]; omega
    generalize strB l = ss at hz ⊢
    clear hE hg h15 hl
    go_enter Tryz.func6, Tryz.ntmps6
    go_wp2_with fail
    with_reducible refine HAW.out.mono ?_
    rintro e w1 ⟨rfl, hb⟩
    have HB1 := Lib.hid hb
    clear hb
    go_wp2_with fail
    go_ret
    exact ⟨rfl, HB1.out⟩
  have hz : ¬ ((2000 : Int) < ((strB l).size : Int)) := by rw [strB_size]; omega
  have HE := Lib.hid hE
  have HG := Lib.hid hg
  have H15 := Lib.hid h15
  have HL := Lib.hid (show l.length ≤ 2000 by omega)
  have HLN : Hid (∀ W, Calls Tryz.prog 20 #[.string (strB l)] W (Leaves (.string (strB (eols l))) W)) := Lib.hid (fun W => by
    have h := refLines_calls (strB l) W (by rw [strB_size]; have := HL.out; omega)
    rw [strB_list] at h
    exact h)
  obtain ⟨el, hel⟩ : ∃ x, eols l = x := ⟨_, rfl⟩
  have HEL := Lib.hid hel
  rw [hel] at HLN
  have hm2 : el.length ≤ 2000 := by rw [← hel]; exact Nat.le_trans (eols_length l) HL.out
  obtain ⟨es, hes⟩ : ∃ x, strB el = x := ⟨_, rfl⟩
  have hesz : es.size = el.length := by rw [← hes, strB_size]
  rw [hes] at HLN
  have HES := Lib.hid hes
  obtain ⟨ss, hss⟩ : ∃ x, strB l = x := ⟨_, rfl⟩
  have HSS := Lib.hid hss
  rw [hss] at HLN hz ⊢
  have kcs := fun (W : World) (z : ByteArray) => Lib.run_convert_string_bytes (P := Tryz.prog) W 9 22 5 z Tryz.underlying9 Tryz.underlying22 Tryz.underlying5
  clear hE hg h15 hel hes hss hl
  go_enter Tryz.func6, Tryz.ntmps6
  go_wp2_with fail
  with_reducible refine HAW.out.mono ?_
  rintro e w1 ⟨rfl, hb⟩
  have HB1 := Lib.hid hb
  clear hb HAW
  go_wp2_with fail
  with_reducible refine (HLN.out w1).mono ?_
  rintro e w2 ⟨rfl, hb⟩
  have HB2 := Lib.hid (below_then HB1.out hb)
  clear hb HLN HB1
  go_wp2_with fail
  go_loopg [5, 7] el.length (fun g s5 s7 wx => ∃ i : Nat, i + g = el.length ∧ s7 = .int .i64 (i : Int) ∧ s5 = .string (strB (flatE (el.take i))) ∧ wx = w2 ∧ ∀ x, x ∈ el.take i → okV x)
  case atStart => exact ⟨0, by omega, rfl, rfl, rfl, fun x hx => by cases hx⟩
  case round =>
    obtain ⟨i, hig, rfl, rfl, hwr, hok⟩ := hrel
    subst hwr
    have HOK := Lib.hid hok
    clear hok
    cases gk with
    | zero =>
      obtain rfl : i = el.length := by omega
      have hge : ¬ ((el.length : Int) < (es.size : Int)) := by omega
      cases single with
      | true =>
        have hds : (({ data := #[60, 97, 32, 120, 61] } : ByteArray) ++ { data := #[39] } ++ ss ++ { data := #[39] } ++ { data := #[47, 62] }) = strB (vdoc 39 l) := by
          rw [← HSS.out]
          have h : strB [60, 97, 32, 120, 61] ++ strB [39] ++ strB l ++ strB [39] ++ strB [47, 62] = strB (vdoc 39 l) := by
            rw [strB_app, strB_app, strB_app, strB_app]
            congr 1
            simp [vdoc]
          exact h
        have hvl := vdoc_len 39 l
        have hdl : (strB (vdoc 39 l)).size = (vdoc 39 l).length := strB_size _
        have HA := Lib.hid (all_calls (doc_str wr (vdoc 39 l) (by have := HL.out; omega)) (HE.out.below (below_then HB2.out (bytesWorld_below wr _))) (Nat.le_trans H15.out (Nat.le_trans HB2.out.size (bytesWorld_below wr (strB (vdoc 39 l))).size)))
        obtain ⟨ds, hdd⟩ : ∃ z, strB (vdoc 39 l) = z := ⟨_, rfl⟩
        rw [hdd] at hds hdl HA
        rw [← hdl] at HA
        have HBW : Hid (Below w.heap.size w (bytesWorld wr 5 ds)) := Lib.hid (below_then HB2.out (bytesWorld_below wr ds))
        clear hdd hvl hdl
        by_cases hbad : 0 ≤ badL l
        · rw [vals_bad 39 (.inr rfl) l HL.out hbad] at HA
          obtain ⟨z, hz9⟩ : ∃ z, badL l = z := ⟨_, rfl⟩
          rw [hz9] at HA hbad
          have hzm : z < 4000000 := by
            have h := bad_lt l
            have := HL.out
            omega
          have HZ := Lib.hid hz9
          clear hz9
          go_wp2_with fail
          with_reducible refine HA.out.mono ?_
          rintro e w3 ⟨ev, rfl, _, her, hb⟩
          have HB3 := Lib.hid (below_then HBW.out hb)
          have HER := Lib.hid her
          clear hb her HA
          have HRB : Hid (∀ W, Calls Tryz.prog 13 #[.slice (some ⟨W.heap.size, 0, none⟩) ss.size (grownCap W ss.size 0 5)] (bytesWorld W 5 ss) (Leaves (.int .i64 z) (bytesWorld W 5 ss))) := Lib.hid (fun W => by
            have h := refBad_calls (some ⟨W.heap.size, 0, none⟩) l.length (grownCap W (strB l).size 0 5) (fs l) (bytesWorld W 5 (strB l)) (doc_str W l (by have := HL.out; omega)).row8 (by have := HL.out; omega)
            rw [show badZ (fs l) l.length = z from HZ.out, ← strB_size l, HSS.out] at h
            exact h)
          go_wp2_with fail
          with_reducible refine (HRB.out w3).mono ?_
          rintro e w4 ⟨rfl, hb⟩
          have hb34 : Below w3.heap.size w3 w4 := below_then (bytesWorld_below w3 ss) hb
          have HB4 := Lib.hid (below_then HB3.out hb34)
          have HER4 := Lib.hid (HER.out.below hb34)
          have HCO := Lib.hid (code_calls _ _ ev w4 HER4.out (HG.out.below HB4.out))
          clear hb hb34 HER
          go_wp2_with fail
          with_reducible refine HCO.out.mono ?_
          rintro e w5 ⟨rfl, hb⟩
          have HB5 := Lib.hid (below_then HB4.out hb)
          have HAT : Hid (Calls Tryz.prog 19 #[ev] w5 (Leaves1 (.int .i64 (6 + z)) w5)) := Lib.hid (by
            have h := at_calls _ _ ev w5 (HER4.out.below hb) (HG.out.below HB5.out)
            rw [if_neg (by decide), Int.toNat_of_nonneg (by omega)] at h
            exact h)
          have hw6 : IntKind.i64.wrap (6 + z) = 6 + z := IntWalk.i64_in _ (by omega)
          clear hb HCO
          go_wp2_with fail
          with_reducible refine HAT.out.mono ?_
          rintro e w6 ⟨rfl, hb⟩
          have HB6 := Lib.hid (below_then HB5.out hb)
          clear hb HAT
          go_wp2_with fail
          with_reducible refine (HRB.out w6).mono ?_
          rintro e w7 ⟨rfl, hb⟩
          have HB7 := Lib.hid (below_then HB6.out (below_then (bytesWorld_below w6 ss) hb))
          clear hb
          go_wp2_with fail
          go_ret
          exact ⟨rfl, HB7.out⟩
        · obtain ⟨j, hgood⟩ := vals_good 39 (.inr rfl) l HL.out hbad (fun x hx => by
            by_cases h13 : x = 13
            · rw [h13]; decide
            · have h := eols_mem h13 hx
              rw [HEL.out] at h
              exact HOK.out x (by rw [List.take_length]; exact h))
          rw [hgood] at HA
          have HRB : Hid (∀ W, Calls Tryz.prog 13 #[.slice (some ⟨W.heap.size, 0, none⟩) ss.size (grownCap W ss.size 0 5)] (bytesWorld W 5 ss) (Leaves (.int .i64 (badL l)) (bytesWorld W 5 ss))) := Lib.hid (fun W => by
            have h := refBad_calls (some ⟨W.heap.size, 0, none⟩) l.length (grownCap W (strB l).size 0 5) (fs l) (bytesWorld W 5 (strB l)) (doc_str W l (by have := HL.out; omega)).row8 (by have := HL.out; omega)
            rw [show badZ (fs l) l.length = badL l from rfl, ← strB_size l, HSS.out] at h
            exact h)
          generalize badL l = z at hbad HRB
          clear hgood
          go_wp2_with fail
          with_reducible refine HA.out.mono ?_
          rintro e w3 ⟨v, ps, rfl, hps, hown, hb⟩
          have hb3 := below_then HBW.out hb
          clear HA hb
          obtain ⟨tb, tc, ab, ac, hv, htk, hat0, hat1, hkind⟩ : ∃ tb tc ab ac, v = .slice (some ⟨tb, 0, none⟩) 1 tc ∧ w3.cell? ⟨tb, 4, none⟩ = some (.slice (some ⟨ab, 0, none⟩) 1 ac) ∧ w3.cell? ⟨ab, 0, none⟩ = some (.string (strB [120])) ∧ w3.cell? ⟨ab, 1, none⟩ = some (.string (strB (flatS l))) ∧ w3.cell? ⟨tb, 0, none⟩ = some (.int .i64 2) := by
            rcases hown.tokens with ⟨_, h0⟩ | ⟨b, cc, h1, _, _, _, _, h2⟩
            · rw [h0] at hps; cases hps
            · have hl : ps.length = 1 := by have := congrArg List.length hps; rw [List.length_map] at this; exact this
              obtain ⟨x1, hx1⟩ : ∃ x, ps[0]? = some x := ⟨_, List.getElem?_eq_getElem (by omega)⟩
              have hf : x1.1 = ⟨2, 0, [97], [], [([120], flatS l)]⟩ := by
                have h3 : (ps.map Prod.fst)[0]? = some x1.1 := by rw [List.getElem?_map, hx1]; rfl
                rw [hps] at h3
                exact (Option.some.inj h3).symm
              have h4 := h2 0 x1 hx1
              have h5 := hown.atts x1 (List.mem_of_getElem? hx1)
              rw [TkIn, hf] at h4
              rw [hf] at h5
              obtain ⟨aa, ac, hav, _, _, h6⟩ := h5.form
              rcases h6 with h6 | ⟨ab, haa, _, h7⟩
              · cases h6
              · subst haa
                have h8 := h7 0 ([120], flatS l) rfl
                refine ⟨b, cc, ab, ac, by rw [h1, hl], ?_, h8.1, h8.2, h4.1⟩
                have h9 := h4.2.2.2.2
                rw [hav] at h9
                exact h9
          subst hv
          have HB3 := Lib.hid hb3
          clear hown hps hb3
          have hnz : ¬ (0 : Int) ≤ z := by omega
          go_wp2_with fail
          with_reducible refine (HRB.out w3).mono ?_
          rintro e w4 ⟨rfl, hb⟩
          have hb34 : Below w3.heap.size w3 w4 := below_then (bytesWorld_below w3 ss) hb
          have HB4 := Lib.hid (below_then HB3.out hb34)
          replace htk := (hb34.cell (lt_of_cell htk)).trans htk
          replace hat0 := (hb34.cell (lt_of_cell hat0)).trans hat0
          replace hat1 := (hb34.cell (lt_of_cell hat1)).trans hat1
          replace hkind := (hb34.cell (lt_of_cell hkind)).trans hkind
          have HCO := Lib.hid (code_nil w4)
          clear hb hb34
          go_wp2_with fail
          with_reducible refine HCO.out.mono ?_
          rintro e w5 ⟨rfl, hb⟩
          have HB5 := Lib.hid (below_then HB4.out hb)
          replace htk := (hb.cell (lt_of_cell htk)).trans htk
          replace hat0 := (hb.cell (lt_of_cell hat0)).trans hat0
          replace hat1 := (hb.cell (lt_of_cell hat1)).trans hat1
          replace hkind := (hb.cell (lt_of_cell hkind)).trans hkind
          have hfl : strB (flatE el) = strB (flatS l) := by rw [← HEL.out]; rfl
          obtain ⟨ws, hws⟩ : ∃ z, strB (flatS l) = z := ⟨_, rfl⟩
          obtain ⟨ys, hys⟩ : ∃ z, strB [120] = z := ⟨_, rfl⟩
          rw [hws] at hat1 hfl
          rw [hys] at hat0
          have hye : (ys.toList == [120]) = true := by rw [← hys, str_eq]; rfl
          clear hb HCO hws hys
          go_wp2_with fail
          go_ret
          exact ⟨rfl, HB5.out⟩
      | false =>
        have hds : (({ data := #[60, 97, 32, 120, 61] } : ByteArray) ++ { data := #[34] } ++ ss ++ { data := #[34] } ++ { data := #[47, 62] }) = strB (vdoc 34 l) := by
          rw [← HSS.out]
          have h : strB [60, 97, 32, 120, 61] ++ strB [34] ++ strB l ++ strB [34] ++ strB [47, 62] = strB (vdoc 34 l) := by
            rw [strB_app, strB_app, strB_app, strB_app]
            congr 1
            simp [vdoc]
          exact h
        have hvl := vdoc_len 34 l
        have hdl : (strB (vdoc 34 l)).size = (vdoc 34 l).length := strB_size _
        have HA := Lib.hid (all_calls (doc_str wr (vdoc 34 l) (by have := HL.out; omega)) (HE.out.below (below_then HB2.out (bytesWorld_below wr _))) (Nat.le_trans H15.out (Nat.le_trans HB2.out.size (bytesWorld_below wr (strB (vdoc 34 l))).size)))
        obtain ⟨ds, hdd⟩ : ∃ z, strB (vdoc 34 l) = z := ⟨_, rfl⟩
        rw [hdd] at hds hdl HA
        rw [← hdl] at HA
        have HBW : Hid (Below w.heap.size w (bytesWorld wr 5 ds)) := Lib.hid (below_then HB2.out (bytesWorld_below wr ds))
        clear hdd hvl hdl
        by_cases hbad : 0 ≤ badL l
        · rw [vals_bad 34 (.inl rfl) l HL.out hbad] at HA
          obtain ⟨z, hz9⟩ : ∃ z, badL l = z := ⟨_, rfl⟩
          rw [hz9] at HA hbad
          have hzm : z < 4000000 := by
            have h := bad_lt l
            have := HL.out
            omega
          have HZ := Lib.hid hz9
          clear hz9
          go_wp2_with fail
          with_reducible refine HA.out.mono ?_
          rintro e w3 ⟨ev, rfl, _, her, hb⟩
          have HB3 := Lib.hid (below_then HBW.out hb)
          have HER := Lib.hid her
          clear hb her HA
          have HRB : Hid (∀ W, Calls Tryz.prog 13 #[.slice (some ⟨W.heap.size, 0, none⟩) ss.size (grownCap W ss.size 0 5)] (bytesWorld W 5 ss) (Leaves (.int .i64 z) (bytesWorld W 5 ss))) := Lib.hid (fun W => by
            have h := refBad_calls (some ⟨W.heap.size, 0, none⟩) l.length (grownCap W (strB l).size 0 5) (fs l) (bytesWorld W 5 (strB l)) (doc_str W l (by have := HL.out; omega)).row8 (by have := HL.out; omega)
            rw [show badZ (fs l) l.length = z from HZ.out, ← strB_size l, HSS.out] at h
            exact h)
          go_wp2_with fail
          with_reducible refine (HRB.out w3).mono ?_
          rintro e w4 ⟨rfl, hb⟩
          have hb34 : Below w3.heap.size w3 w4 := below_then (bytesWorld_below w3 ss) hb
          have HB4 := Lib.hid (below_then HB3.out hb34)
          have HER4 := Lib.hid (HER.out.below hb34)
          have HCO := Lib.hid (code_calls _ _ ev w4 HER4.out (HG.out.below HB4.out))
          clear hb hb34 HER
          go_wp2_with fail
          with_reducible refine HCO.out.mono ?_
          rintro e w5 ⟨rfl, hb⟩
          have HB5 := Lib.hid (below_then HB4.out hb)
          have HAT : Hid (Calls Tryz.prog 19 #[ev] w5 (Leaves1 (.int .i64 (6 + z)) w5)) := Lib.hid (by
            have h := at_calls _ _ ev w5 (HER4.out.below hb) (HG.out.below HB5.out)
            rw [if_neg (by decide), Int.toNat_of_nonneg (by omega)] at h
            exact h)
          have hw6 : IntKind.i64.wrap (6 + z) = 6 + z := IntWalk.i64_in _ (by omega)
          clear hb HCO
          go_wp2_with fail
          with_reducible refine HAT.out.mono ?_
          rintro e w6 ⟨rfl, hb⟩
          have HB6 := Lib.hid (below_then HB5.out hb)
          clear hb HAT
          go_wp2_with fail
          with_reducible refine (HRB.out w6).mono ?_
          rintro e w7 ⟨rfl, hb⟩
          have HB7 := Lib.hid (below_then HB6.out (below_then (bytesWorld_below w6 ss) hb))
          clear hb
          go_wp2_with fail
          go_ret
          exact ⟨rfl, HB7.out⟩
        · obtain ⟨j, hgood⟩ := vals_good 34 (.inl rfl) l HL.out hbad (fun x hx => by
            by_cases h13 : x = 13
            · rw [h13]; decide
            · have h := eols_mem h13 hx
              rw [HEL.out] at h
              exact HOK.out x (by rw [List.take_length]; exact h))
          rw [hgood] at HA
          have HRB : Hid (∀ W, Calls Tryz.prog 13 #[.slice (some ⟨W.heap.size, 0, none⟩) ss.size (grownCap W ss.size 0 5)] (bytesWorld W 5 ss) (Leaves (.int .i64 (badL l)) (bytesWorld W 5 ss))) := Lib.hid (fun W => by
            have h := refBad_calls (some ⟨W.heap.size, 0, none⟩) l.length (grownCap W (strB l).size 0 5) (fs l) (bytesWorld W 5 (strB l)) (doc_str W l (by have := HL.out; omega)).row8 (by have := HL.out; omega)
            rw [show badZ (fs l) l.length = badL l from rfl, ← strB_size l, HSS.out] at h
            exact h)
          generalize badL l = z at hbad HRB
          clear hgood
          go_wp2_with fail
          with_reducible refine HA.out.mono ?_
          rintro e w3 ⟨v, ps, rfl, hps, hown, hb⟩
          have hb3 := below_then HBW.out hb
          clear HA hb
          obtain ⟨tb, tc, ab, ac, hv, htk, hat0, hat1, hkind⟩ : ∃ tb tc ab ac, v = .slice (some ⟨tb, 0, none⟩) 1 tc ∧ w3.cell? ⟨tb, 4, none⟩ = some (.slice (some ⟨ab, 0, none⟩) 1 ac) ∧ w3.cell? ⟨ab, 0, none⟩ = some (.string (strB [120])) ∧ w3.cell? ⟨ab, 1, none⟩ = some (.string (strB (flatS l))) ∧ w3.cell? ⟨tb, 0, none⟩ = some (.int .i64 2) := by
            rcases hown.tokens with ⟨_, h0⟩ | ⟨b, cc, h1, _, _, _, _, h2⟩
            · rw [h0] at hps; cases hps
            · have hl : ps.length = 1 := by have := congrArg List.length hps; rw [List.length_map] at this; exact this
              obtain ⟨x1, hx1⟩ : ∃ x, ps[0]? = some x := ⟨_, List.getElem?_eq_getElem (by omega)⟩
              have hf : x1.1 = ⟨2, 0, [97], [], [([120], flatS l)]⟩ := by
                have h3 : (ps.map Prod.fst)[0]? = some x1.1 := by rw [List.getElem?_map, hx1]; rfl
                rw [hps] at h3
                exact (Option.some.inj h3).symm
              have h4 := h2 0 x1 hx1
              have h5 := hown.atts x1 (List.mem_of_getElem? hx1)
              rw [TkIn, hf] at h4
              rw [hf] at h5
              obtain ⟨aa, ac, hav, _, _, h6⟩ := h5.form
              rcases h6 with h6 | ⟨ab, haa, _, h7⟩
              · cases h6
              · subst haa
                have h8 := h7 0 ([120], flatS l) rfl
                refine ⟨b, cc, ab, ac, by rw [h1, hl], ?_, h8.1, h8.2, h4.1⟩
                have h9 := h4.2.2.2.2
                rw [hav] at h9
                exact h9
          subst hv
          have HB3 := Lib.hid hb3
          clear hown hps hb3
          have hnz : ¬ (0 : Int) ≤ z := by omega
          go_wp2_with fail
          with_reducible refine (HRB.out w3).mono ?_
          rintro e w4 ⟨rfl, hb⟩
          have hb34 : Below w3.heap.size w3 w4 := below_then (bytesWorld_below w3 ss) hb
          have HB4 := Lib.hid (below_then HB3.out hb34)
          replace htk := (hb34.cell (lt_of_cell htk)).trans htk
          replace hat0 := (hb34.cell (lt_of_cell hat0)).trans hat0
          replace hat1 := (hb34.cell (lt_of_cell hat1)).trans hat1
          replace hkind := (hb34.cell (lt_of_cell hkind)).trans hkind
          have HCO := Lib.hid (code_nil w4)
          clear hb hb34
          go_wp2_with fail
          with_reducible refine HCO.out.mono ?_
          rintro e w5 ⟨rfl, hb⟩
          have HB5 := Lib.hid (below_then HB4.out hb)
          replace htk := (hb.cell (lt_of_cell htk)).trans htk
          replace hat0 := (hb.cell (lt_of_cell hat0)).trans hat0
          replace hat1 := (hb.cell (lt_of_cell hat1)).trans hat1
          replace hkind := (hb.cell (lt_of_cell hkind)).trans hkind
          have hfl : strB (flatE el) = strB (flatS l) := by rw [← HEL.out]; rfl
          obtain ⟨ws, hws⟩ : ∃ z, strB (flatS l) = z := ⟨_, rfl⟩
          obtain ⟨ys, hys⟩ : ∃ z, strB [120] = z := ⟨_, rfl⟩
          rw [hws] at hat1 hfl
          rw [hys] at hat0
          have hye : (ys.toList == [120]) = true := by rw [← hys, str_eq]; rfl
          clear hb HCO hws hys
          go_wp2_with fail
          go_ret
          exact ⟨rfl, HB5.out⟩
    | succ g =>
      have hi : i < el.length := by omega
      have hlt : (i : Int) < (es.size : Int) := by omega
      have h0 : (0 : Int) ≤ (i : Int) := by omega
      obtain ⟨x, hx⟩ : ∃ x : UInt8, es[i]'(by omega) = x := ⟨_, rfl⟩
      have hxl : el[i]? = some x := by
        have h := Lib.data_getElem? es i (by omega)
        rw [hx, ← HES.out, strB_list] at h
        exact h
      have hadd : IntKind.i64.wrap ((i : Int) + 1) = ((i + 1 : Nat) : Int) := IntWalk.i64_in _ (by omega)
      have hle1 : (i : Int) ≤ ((i + 1 : Nat) : Int) := by omega
      have hle2 : ((i + 1 : Nat) : Int) ≤ (es.size : Int) := by omega
      have HX := Lib.hid hxl
      obtain ⟨xs, hxs⟩ : ∃ z, strB [x] = z := ⟨_, rfl⟩
      have hexs : es.extract i (i + 1) = xs := by rw [← HES.out, ← hxs]; exact strB_one el i x hxl
      have hxz : xs.size = 1 := by rw [← hxs]; rfl
      have HXS := Lib.hid hxs
      have hsl : ∀ W, (Instr.slice 9 (.string es) (some (.int .i64 (i : Int))) (some (.int .i64 ((i : Int) + 1))) none).run Tryz.prog W = .ok (.string xs) W := fun W => by
        rw [run_slice_string (P := Tryz.prog) W 9 es .i64 .i64 (i : Int) ((i : Int) + 1) Tryz.underlying9 (by omega) (by omega) (by omega), show ((i : Int) + 1).toNat = i + 1 by omega, Int.toNat_natCast, hexs]
      have e34 := eq_int x 34 (by decide)
      have e39 := eq_int x 39 (by decide)
      have e60 := eq_int x 60 (by decide)
      have e38 := eq_int x 38 (by decide)
      have e9 := eq_int x 9 (by decide)
      have e10 := eq_int x 10 (by decide)
      obtain ⟨sw, hsw⟩ : ∃ z, strB (flatE (el.take i)) = z := ⟨_, rfl⟩
      have HSW := Lib.hid hsw
      have hsz2 : sw.size ≤ 2000 := by rw [← hsw, strB_size]; unfold flatE; rw [List.length_map, List.length_take]; omega
      have hcat : ¬ (9223372036854775807 < sw.size + 1) := by omega
      have hcat3 : ¬ (9223372036854775807 < sw.size + xs.size) := by omega
      rw [hsw]
      clear hxl hsw hxs hxz
      by_cases c34 : x = 34
      · have b34 : ((x.toNat : Int) == 34) = true := by rw [c34]; rfl
        clear e34 e39 e60 e38 e9 e10
        go_wp2_with fail
        go_ret
        exact ⟨rfl, HB2.out⟩
      have b34 : ((x.toNat : Int) == 34) = false := e34.trans (decide_eq_false c34)
      by_cases c39 : x = 39
      · have b39 : ((x.toNat : Int) == 39) = true := by rw [c39]; rfl
        clear e34 e39 e60 e38 e9 e10
        go_wp2_with fail
        go_ret
        exact ⟨rfl, HB2.out⟩
      have b39 : ((x.toNat : Int) == 39) = false := e39.trans (decide_eq_false c39)
      by_cases c60 : x = 60
      · have b60 : ((x.toNat : Int) == 60) = true := by rw [c60]; rfl
        clear e34 e39 e60 e38 e9 e10
        go_wp2_with fail
        go_ret
        exact ⟨rfl, HB2.out⟩
      have b60 : ((x.toNat : Int) == 60) = false := e60.trans (decide_eq_false c60)
      by_cases c38 : x = 38
      · have b38 : ((x.toNat : Int) == 38) = true := by rw [c38]; rfl
        clear e34 e39 e60 e38 e9 e10
        go_wp2_with fail
        go_ret
        exact ⟨rfl, HB2.out⟩
      have b38 : ((x.toNat : Int) == 38) = false := e38.trans (decide_eq_false c38)
      have HOK2 : Hid (∀ y, y ∈ el.take (i + 1) → okV y) := Lib.hid (fun y hy => by
        rw [List.take_add_one, HX.out] at hy
        rcases List.mem_append.1 hy with h | h
        · exact HOK.out y h
        · have : y = x := by simpa using h
          rw [this]
          exact ⟨c34, c39, c60, c38⟩)
      by_cases c9 : x = 9
      · have b9 : ((x.toNat : Int) == 9) = true := by rw [c9]; rfl
        have HNX : Hid (sw ++ ⟨#[32]⟩ = strB (flatE (el.take (i + 1)))) := Lib.hid (by
          rw [flatE_snoc el i x HX.out, if_pos (.inr c9), ← HSW.out]
          exact strB_app _ [32])
        clear e34 e39 e60 e38 e9 e10 c34 c39 c60 c38 c9
        go_wp2_with fail
        rw [HNX.out]
        go_roundg g
        case measure => omega
        case rel => exact ⟨i + 1, by omega, rfl, rfl, rfl, HOK2.out⟩
      have b9 : ((x.toNat : Int) == 9) = false := e9.trans (decide_eq_false c9)
      by_cases c10 : x = 10
      · have b10 : ((x.toNat : Int) == 10) = true := by rw [c10]; rfl
        have HNX : Hid (sw ++ ⟨#[32]⟩ = strB (flatE (el.take (i + 1)))) := Lib.hid (by
          rw [flatE_snoc el i x HX.out, if_pos (.inl c10), ← HSW.out]
          exact strB_app _ [32])
        clear e34 e39 e60 e38 e9 e10 c34 c39 c60 c38 c9 c10
        go_wp2_with fail
        rw [HNX.out]
        go_roundg g
        case measure => omega
        case rel => exact ⟨i + 1, by omega, rfl, rfl, rfl, HOK2.out⟩
      have b10 : ((x.toNat : Int) == 10) = false := e10.trans (decide_eq_false c10)
      have HNX : Hid (sw ++ xs = strB (flatE (el.take (i + 1)))) := Lib.hid (by
        rw [flatE_snoc el i x HX.out, if_neg (fun h => h.elim c10 c9), ← HSW.out, ← HXS.out]
        exact strB_app _ [x])
      clear e34 e39 e60 e38 e9 e10 c34 c39 c60 c38 c9 c10
      go_wp2_with fail
      rw [HNX.out]
      go_roundg g
      case measure => omega
      case rel => exact ⟨i + 1, by omega, rfl, rfl, rfl, HOK2.out⟩

end Go.Proofs.YtemohjodihcdfaaGreatDoor
