/-
  The law of places: tokens' places rise, no two rows of characters stand beside each other, texts, values and names are right. Conditions: the document lies in memory; the laid variables hold what their initialisers lay.
-/
import Derived.Test.YtemohjodihcdfaaGreatDoorXGd
import Derived.Test.YtemohjodihcdfaaGreatDoorXVw
import Derived.Lib.QuietBelow
import Derived.BigQuiet
namespace Go.Proofs.YtemohjodihcdfaaGreatDoor
open Go.RowKit Go.Lib Go.Joins

theorem doc_text (W : World) (l : List UInt8) (h : l.length ≤ 1000000) (hb : badL l = -1) : Calls Tryz.prog 13 #[.slice (some ⟨W.heap.size, 0, none⟩) (strB l).size (grownCap W (strB l).size 0 5)] (bytesWorld W 5 (strB l)) (Leaves (.int .i64 (-1)) (bytesWorld W 5 (strB l))) := by
  have h2 := refBad_calls (some ⟨W.heap.size, 0, none⟩) l.length (grownCap W (strB l).size 0 5) (fs l) (bytesWorld W 5 (strB l)) (doc_str W l h).row8 (by omega)
  rw [show badZ (fs l) l.length = -1 from hb, ← strB_size] at h2
  exact h2
theorem OwnT.small {n0 : Nat} {w : World} {v : Value} {ps : List (Tk × Value)} (h : OwnT n0 w v ps) : ps.length ≤ maxLen := by
  rcases h.tokens with ⟨_, h0⟩ | ⟨_, _, _, h1, h2, _⟩
  · rw [h0]; exact Nat.zero_le _
  · omega
theorem name_text (W : World) (l : List UInt8) (h : l.length ≤ 1000000) (b : Bool) (hb : nameR (runesFrom (fs l) l.length l.length 0) = b) : Calls Tryz.prog 14 #[.string (strB l)] W (Leaves (.bool b) W) := by
  have h2 := refName_calls (strB l) W (by rw [strB_size]; omega)
  rw [strB_list, strB_size, hb] at h2
  exact h2
set_option maxRecDepth 100000 in
set_option maxHeartbeats 16000000 in
theorem places_calls {w : World} {a : Option Addr} {c : Nat} {l : List UInt8} (hd : DocAt w a c l) (hE : EnvAt w) (hg : Handle w) (h15 : 15 ≤ w.heap.size) : Calls Tryz.prog 3 #[.slice a l.length c] w (Leaves (.bool true) w) := by
  have HAW := Lib.hid (awake_calls w hE hg h15)
  have HD := Lib.hid hd
  have HE := Lib.hid hE
  have HG := Lib.hid hg
  have H15 := Lib.hid h15
  obtain ⟨n, hn⟩ : ∃ n, l.length = n := ⟨_, rfl⟩
  have HN := Lib.hid hn
  rw [hn]
  by_cases hl : 8192 < n
  · have hz : (8192 : Int) < (n : Int) := by omega
    clear hd hE hg h15 hn hl
    go_enter Tryz.func3, Tryz.ntmps3
    go_wp2_with fail
    with_reducible refine HAW.out.mono ?_
    rintro e w1 ⟨rfl, hb⟩
    have HB1 := Lib.hid hb
    clear hb
    go_wp2_with fail
    go_ret
    exact ⟨rfl, HB1.out⟩
  have hz : ¬ ((8192 : Int) < (n : Int)) := by omega
  have HLE := Lib.hid (show n ≤ 8192 by omega)
  clear hd hE hg h15 hn hl
  go_enter Tryz.func3, Tryz.ntmps3
  go_wp2_with fail
  with_reducible refine HAW.out.mono ?_
  rintro e w1 ⟨rfl, hb⟩
  have HB1 := Lib.hid hb
  clear hb HAW
  have HA : Hid (Calls Tryz.prog 11 #[.slice a n c] w1 (AllOut w1 (allS l))) := Lib.hid (by
    have h := all_calls (HD.out.keep HB1.out) (HE.out.below HB1.out) (Nat.le_trans H15.out HB1.out.size)
    rw [HN.out] at h
    exact h)
  go_wp2_with fail
  with_reducible refine HA.out.mono ?_
  obtain ⟨Q, hQ⟩ : ∃ Q, allS l = Q := ⟨_, rfl⟩
  rw [hQ]
  have HQ := Lib.hid hQ
  clear hQ HA
  cases Q with
  | no cd p =>
    rintro e w2 ⟨ev, rfl, hcd, her, hb⟩
    have HB2 := Lib.hid (below_then HB1.out hb)
    have HCO := Lib.hid (code_calls _ _ ev w2 her (HG.out.below HB2.out))
    have hcz : ((cd : Int) != 0) = true := by rw [bne_iff_ne]; omega
    clear her hb
    go_wp2_with fail
    with_reducible refine HCO.out.mono ?_
    rintro e w3 ⟨rfl, hb⟩
    have HB3 := Lib.hid (below_then HB2.out hb)
    clear hb
    go_wp2_with fail
    go_ret
    exact ⟨rfl, HB3.out⟩
  | ok ts j t =>
    have HSEQ := Lib.hid (allS_seq HQ.out)
    rintro e w2 ⟨v, ps, rfl, hps, hown, hb⟩
    have HB2 := Lib.hid (below_then HB1.out hb)
    obtain ⟨va, vc, rfl⟩ := hown.form
    have HPS := Lib.hid hps
    have HO := Lib.hid hown
    have HCO := Lib.hid (code_nil w2)
    clear hb hps hown
    go_wp2_with fail
    with_reducible refine HCO.out.mono ?_
    rintro e w3 ⟨rfl, hb⟩
    have HB23 := Lib.hid hb
    clear hb HCO
    go_wp2_with fail
    obtain ⟨m, hm⟩ : ∃ m, ps.length = m := ⟨_, rfl⟩
    have HM := Lib.hid hm
    rw [hm]
    clear hm
    go_loopg [5] m (fun g s5 wr => ∃ i : Nat, i + g = m ∧ s5 = .int .i64 (i : Int) ∧ Below w2.heap.size w2 wr)
    case atStart => exact ⟨0, by omega, rfl, HB23.out⟩
    case round =>
      obtain ⟨i, hig, rfl, hb⟩ := hrel
      have HBR := Lib.hid hb
      clear hb
      cases gk with
      | zero =>
        obtain rfl : i = m := by omega
        have hge : ¬ ((i : Int) < (i : Int)) := by omega
        go_wp2_with fail
        go_ret
        exact ⟨rfl, below_then HB2.out HBR.out⟩
      | succ g =>
        have hlt : (i : Int) < (m : Int) := by omega
        have hi0 : (0 : Int) ≤ (i : Int) := by omega
        obtain ⟨x, hx⟩ : ∃ x, ps[i]? = some x := ⟨_, List.getElem?_eq_getElem (by have := HM.out; omega)⟩
        have hti : ts[i]? = some x.1 := by rw [← HPS.out, List.getElem?_map, hx]; rfl
        obtain ⟨b, hvb, hbt⟩ : ∃ b, va = some ⟨b, 0, none⟩ ∧ ∀ i x, ps[i]? = some x → TkIn w2 b i x := by
          rcases HO.out.tokens with ⟨_, h0⟩ | ⟨b, cc, h1, _, _, _, _, h2⟩
          · rw [h0] at hx; cases hx
          · exact ⟨b, by injection h1, h2⟩
        subst hvb
        obtain ⟨tk, xa⟩ := x
        obtain ⟨kd, at_, nme, tx, ats⟩ := tk
        obtain ⟨_, hat, hgood, h60⟩ := HSEQ.out.at i _ hti
        obtain ⟨y0, y1, y2, y3, y4⟩ := (hbt i _ hx).keep HBR.out
        obtain ⟨aa, ac, hav, hac, hacm, hacell⟩ := (HO.out.atts _ (List.mem_of_getElem? hx)).form
        dsimp only at hat hgood h60 y0 y1 y2 y3 y4 hav hac hacell
        subst hav
        have HGD := Lib.hid hgood
        have HBT := Lib.hid hbt
        have HTI := Lib.hid hti
        have HX := Lib.hid hx
        have HAC := Lib.hid hacell
        have HTX : Hid (∀ W, Calls Tryz.prog 13 #[.slice (some ⟨W.heap.size, 0, none⟩) (strB tx).size (grownCap W (strB tx).size 0 5)] (bytesWorld W 5 (strB tx)) (Leaves (.int .i64 (-1)) (bytesWorld W 5 (strB tx)))) := Lib.hid (fun W => doc_text W tx (by have h1 : tx.length ≤ 4 * l.length := HGD.out.text.2; have := HN.out; have := HLE.out; omega) (bad_of_ok HGD.out.text.1))
        have kcs := fun (W : World) (z : ByteArray) => Lib.run_convert_string_bytes (P := Tryz.prog) W 9 22 5 z Tryz.underlying9 Tryz.underlying22 Tryz.underlying5
        obtain ⟨st, hst⟩ : ∃ z, strB tx = z := ⟨_, rfl⟩
        obtain ⟨sn, hsn⟩ : ∃ z, strB nme = z := ⟨_, rfl⟩
        rw [hst] at y3 HTX
        rw [hsn] at y2
        have HSN := Lib.hid hsn
        have ha0 : ¬ ((at_ : Int) < 0) := by omega
        have han : ¬ ((n : Int) ≤ (at_ : Int)) := by have := HN.out; omega
        have hk1 : ¬ ((kd : Int) < 1) := by rcases hgood.name with ⟨_, h⟩ | ⟨_, h⟩ <;> (dsimp only at h; omega)
        have hk7 : ¬ ((7 : Int) < (kd : Int)) := by rcases hgood.name with ⟨_, h⟩ | ⟨_, h⟩ <;> (dsimp only at h; omega)
        have HDOC := Lib.hid h60
        obtain ⟨wx, hwx⟩ : ∃ W, wr.alloc (.cells #[.int .i64 (kd : Int), .int .i64 (at_ : Int), .string sn, .string st, .slice aa ats.length ac] 33) = W := ⟨_, rfl⟩
        have hsz : wx.heap.size = wr.heap.size + 1 := by rw [← hwx]; simp
        have hbx : Below wr.heap.size wr wx := by rw [← hwx]; exact (Below.refl _ _).alloc (Nat.le_refl _) _
        have hbox : ∀ k v, (#[.int .i64 (kd : Int), .int .i64 (at_ : Int), .string sn, .string st, .slice aa ats.length ac] : Array Value)[k]? = some v → wx.cell? ⟨wr.heap.size, k, none⟩ = some v := fun k v hv => by
          rw [← hwx, World.cell?_alloc_mark wr _ 33 (0, 0) k]
          exact hv
        have HSZ := Lib.hid hsz
        have HBX := Lib.hid hbx
        have HBOX := Lib.hid hbox
        have HWX := Lib.hid hwx
        clear hbt hti hx hgood hst hsn hacell h60 hsz hbx hbox hwx
        go_wp2_with fail
        rw [HWX.out, ← HSZ.out]
        with_reducible refine (HTX.out wx).mono ?_
        rintro e w4 ⟨rfl, hb⟩
        have hx4 : Below wx.heap.size wx w4 := below_then (bytesWorld_below wx st) hb
        have HB4 : Hid (Below w2.heap.size w2 w4) := Lib.hid (below_then HBR.out (below_then HBX.out hx4))
        obtain ⟨B, hB⟩ : ∃ B, wr.heap.size = B := ⟨_, rfl⟩
        have HC4 : Hid (∀ k v, (#[.int .i64 (kd : Int), .int .i64 (at_ : Int), .string sn, .string st, .slice aa ats.length ac] : Array Value)[k]? = some v → w4.cell? ⟨B, k, none⟩ = some v) := Lib.hid (fun k v hv => by
          have h := HBOX.out k v hv
          rw [hB] at h
          exact (hx4.cell (lt_of_cell h)).trans h)
        have z0 := HC4.out 0 _ rfl
        have z1 := HC4.out 1 _ rfl
        rw [hB]
        clear hb hx4 HTX hB HWX HSZ HBX HBOX y0 y1 y2 y3 y4 kcs
        go_upto_if 87 with (fail)
        go_cut [87] (fun s wz => s = .bool false ∧ Below w4.heap.size w4 wz)
        case first =>
          cases i with
          | zero =>
            have hi00 : ¬ ((0 : Int) < ((0 : Nat) : Int)) := by omega
            go_wp2_with fail
            go_quiet (fail)
            go_wp2_with fail
            go_meet
            exact ⟨rfl, below_drewNv (Below.refl _ _) _⟩
          | succ i =>
            obtain ⟨y, hy⟩ : ∃ y, ps[i]? = some y := ⟨_, List.getElem?_eq_getElem (by have := HM.out; omega)⟩
            have hty : ts[i]? = some y.1 := by rw [← HPS.out, List.getElem?_map, hy]; rfl
            obtain ⟨hlta, hn44⟩ := HSEQ.out.pair i _ _ hty HTI.out
            obtain ⟨p0, p1, _, _, _⟩ := (HBT.out i _ hy).keep HB4.out
            obtain ⟨⟨kp, ap, _, _, _⟩, _⟩ := y
            dsimp only at hlta hn44 p0 p1
            have hwi : IntKind.i64.wrap (i : Int) = (i : Int) := IntWalk.i64_in _ (by have := HM.out; have := HO.out.small; unfold maxLen at this; omega)
            have hip : (0 : Int) < ((i + 1 : Nat) : Int) := by omega
            have hi0' : (0 : Int) ≤ (i : Int) := by omega
            have hip2 : (i : Int) < (m : Int) := by omega
            have hge : decide ((at_ : Int) ≤ (ap : Int)) = false := decide_eq_false (by omega)
            have hge2 : decide (at_ ≤ ap) = false := decide_eq_false (by omega)
            clear hy hty
            by_cases k4 : kp = 4
            · have e4 : ((kp : Int) == 4) = true := by rw [k4]; rfl
              have e4' : ((kd : Int) == 4) = false := by rw [beq_eq_false_iff_ne]; omega
              clear hn44 hlta k4
              go_wp2_with fail
              go_quiet (fail)
              go_wp2_with fail
              go_meet
              exact ⟨rfl, below_drewNv (Below.refl _ _) _⟩
            · have e4 : ((kp : Int) == 4) = false := by rw [beq_eq_false_iff_ne]; omega
              clear hn44 hlta k4
              go_wp2_with fail
              go_quiet (fail)
              go_wp2_with fail
              go_meet
              exact ⟨rfl, below_drewNv (Below.refl _ _) _⟩
        case rest =>
        rename World => wy
        obtain ⟨rfl, hcut⟩ := hcut
        have HBC := Lib.hid (below_then HB4.out hcut)
        have HCC : Hid (∀ k v, (#[.int .i64 (kd : Int), .int .i64 (at_ : Int), .string sn, .string st, .slice aa ats.length ac] : Array Value)[k]? = some v → wy.cell? ⟨B, k, none⟩ = some v) := Lib.hid (fun k v hv => by
          have h := HC4.out k v hv
          exact (hcut.cell (lt_of_cell h)).trans h)
        clear z0 z1 hcut
        have HDR : Hid (kd ≠ 4 → ∃ bd od, a = some ⟨bd, od, none⟩ ∧ wy.cell? ⟨bd, od + at_, none⟩ = some (.int .u8 60)) := Lib.hid (fun hk4 => by
          have h6 := HDOC.out hk4
          have hlt : at_ < l.length := hat
          rcases HD.out.row with h0 | ⟨bd, od, h1, h2⟩
          · omega
          · refine ⟨bd, od, h1, ?_⟩
            have h3 := h2 at_ hlt
            have h4 : fs l at_ = 60 := by
              unfold fs
              rw [List.getD_eq_getElem?_getD, h6]
              rfl
            rw [h4] at h3
            exact ((below_then HB2.out HBC.out).cell (lt_of_cell h3)).trans h3)
        have hatn : at_ < n := by have := HN.out; omega
        go_upto_if 122 with (fail)
        go_cut [122] (fun s wz => s = .bool false ∧ Below wy.heap.size wy wz)
        case first =>
          have q0 := HCC.out 0 _ rfl
          have q1 := HCC.out 1 _ rfl
          have q2 := HCC.out 2 _ rfl
          rcases HGD.out.name with ⟨hnm, hk⟩ | ⟨hnm, hk⟩
          · have HNM : Hid (∀ W, Calls Tryz.prog 14 #[.string sn] W (Leaves (.bool true) W)) := Lib.hid (fun W => by
              rw [← HSN.out]
              exact name_text W nme (by have h1 : nme.length ≤ l.length := hnm.2; have := HN.out; have := HLE.out; omega) true (hnm.1.2.name hnm.1.1))
            clear hnm
            dsimp only at hk
            rcases hk with hk | hk | hk | hk
            · have q0' : wy.cell? ⟨B, 0, none⟩ = some (.int .i64 1) := by rw [hk] at q0; exact q0
              obtain ⟨bd, od, rfl, hdc⟩ := HDR.out (by omega)
              have hai : (0 : Int) ≤ (at_ : Int) := by omega
              have haj : (at_ : Int) < (n : Int) := by omega
              have cD := fun dq os => cell_regrown hdc dq os
              clear hdc
              have c0 := fun dq os => cell_regrown q0' dq os
              have c1 := fun dq os => cell_regrown q1 dq os
              have c2 := fun dq os => cell_regrown q2 dq os
              have cN := fun dq os => Calls.regrown_of (HNM.out (Go.Sort.grow (redrawn wy dq) os))
              clear q0 q1 q2 q0' hk
              go_wp2_with fail
              refine wp_region_quiet_below (by kernel_rfl) (by kernel_rfl) ?_
              repeat (go_big_quiet_step (with_reducible exact cN _ _))
              refine wpQuiet_nil ?_
              intro _ hw'
              obtain ⟨⟨dq, osq⟩, hw''⟩ := hw'
              subst hw''
              go_wp2_with fail
              go_meet
              exact ⟨rfl, below_regrown _ _ _⟩
            · have q0' : wy.cell? ⟨B, 0, none⟩ = some (.int .i64 2) := by rw [hk] at q0; exact q0
              obtain ⟨bd, od, rfl, hdc⟩ := HDR.out (by omega)
              have hai : (0 : Int) ≤ (at_ : Int) := by omega
              have haj : (at_ : Int) < (n : Int) := by omega
              have cD := fun dq os => cell_regrown hdc dq os
              clear hdc
              have c0 := fun dq os => cell_regrown q0' dq os
              have c1 := fun dq os => cell_regrown q1 dq os
              have c2 := fun dq os => cell_regrown q2 dq os
              have cN := fun dq os => Calls.regrown_of (HNM.out (Go.Sort.grow (redrawn wy dq) os))
              clear q0 q1 q2 q0' hk
              go_wp2_with fail
              refine wp_region_quiet_below (by kernel_rfl) (by kernel_rfl) ?_
              repeat (go_big_quiet_step (with_reducible exact cN _ _))
              refine wpQuiet_nil ?_
              intro _ hw'
              obtain ⟨⟨dq, osq⟩, hw''⟩ := hw'
              subst hw''
              go_wp2_with fail
              go_meet
              exact ⟨rfl, below_regrown _ _ _⟩
            · have q0' : wy.cell? ⟨B, 0, none⟩ = some (.int .i64 3) := by rw [hk] at q0; exact q0
              obtain ⟨bd, od, rfl, hdc⟩ := HDR.out (by omega)
              have hai : (0 : Int) ≤ (at_ : Int) := by omega
              have haj : (at_ : Int) < (n : Int) := by omega
              have cD := fun dq os => cell_regrown hdc dq os
              clear hdc
              have c0 := fun dq os => cell_regrown q0' dq os
              have c1 := fun dq os => cell_regrown q1 dq os
              have c2 := fun dq os => cell_regrown q2 dq os
              have cN := fun dq os => Calls.regrown_of (HNM.out (Go.Sort.grow (redrawn wy dq) os))
              clear q0 q1 q2 q0' hk
              go_wp2_with fail
              refine wp_region_quiet_below (by kernel_rfl) (by kernel_rfl) ?_
              repeat (go_big_quiet_step (with_reducible exact cN _ _))
              refine wpQuiet_nil ?_
              intro _ hw'
              obtain ⟨⟨dq, osq⟩, hw''⟩ := hw'
              subst hw''
              go_wp2_with fail
              go_meet
              exact ⟨rfl, below_regrown _ _ _⟩
            · have q0' : wy.cell? ⟨B, 0, none⟩ = some (.int .i64 7) := by rw [hk] at q0; exact q0
              obtain ⟨bd, od, rfl, hdc⟩ := HDR.out (by omega)
              have hai : (0 : Int) ≤ (at_ : Int) := by omega
              have haj : (at_ : Int) < (n : Int) := by omega
              have cD := fun dq os => cell_regrown hdc dq os
              clear hdc
              have c0 := fun dq os => cell_regrown q0' dq os
              have c1 := fun dq os => cell_regrown q1 dq os
              have c2 := fun dq os => cell_regrown q2 dq os
              have cN := fun dq os => Calls.regrown_of (HNM.out (Go.Sort.grow (redrawn wy dq) os))
              clear q0 q1 q2 q0' hk
              go_wp2_with fail
              refine wp_region_quiet_below (by kernel_rfl) (by kernel_rfl) ?_
              repeat (go_big_quiet_step (with_reducible exact cN _ _))
              refine wpQuiet_nil ?_
              intro _ hw'
              obtain ⟨⟨dq, osq⟩, hw''⟩ := hw'
              subst hw''
              go_wp2_with fail
              go_meet
              exact ⟨rfl, below_regrown _ _ _⟩
          · have HNM : Hid (∀ W, Calls Tryz.prog 14 #[.string sn] W (Leaves (.bool false) W)) := Lib.hid (fun W => by
              have h0 : nme = [] := hnm
              rw [← HSN.out, h0]
              exact name_text W [] (Nat.zero_le _) false rfl)
            clear hnm
            dsimp only at hk
            rcases hk with hk | hk | hk
            · have q0' : wy.cell? ⟨B, 0, none⟩ = some (.int .i64 4) := by rw [hk] at q0; exact q0
              have c0 := fun dq os => cell_regrown q0' dq os
              have c1 := fun dq os => cell_regrown q1 dq os
              have c2 := fun dq os => cell_regrown q2 dq os
              have cN := fun dq os => Calls.regrown_of (HNM.out (Go.Sort.grow (redrawn wy dq) os))
              clear q0 q1 q2 q0' hk
              go_wp2_with fail
              refine wp_region_quiet_below (by kernel_rfl) (by kernel_rfl) ?_
              repeat (go_big_quiet_step (with_reducible exact cN _ _))
              refine wpQuiet_nil ?_
              intro _ hw'
              obtain ⟨⟨dq, osq⟩, hw''⟩ := hw'
              subst hw''
              go_wp2_with fail
              go_meet
              exact ⟨rfl, below_regrown _ _ _⟩
            · have q0' : wy.cell? ⟨B, 0, none⟩ = some (.int .i64 5) := by rw [hk] at q0; exact q0
              obtain ⟨bd, od, rfl, hdc⟩ := HDR.out (by omega)
              have hai : (0 : Int) ≤ (at_ : Int) := by omega
              have haj : (at_ : Int) < (n : Int) := by omega
              have cD := fun dq os => cell_regrown hdc dq os
              clear hdc
              have c0 := fun dq os => cell_regrown q0' dq os
              have c1 := fun dq os => cell_regrown q1 dq os
              have c2 := fun dq os => cell_regrown q2 dq os
              have cN := fun dq os => Calls.regrown_of (HNM.out (Go.Sort.grow (redrawn wy dq) os))
              clear q0 q1 q2 q0' hk
              go_wp2_with fail
              refine wp_region_quiet_below (by kernel_rfl) (by kernel_rfl) ?_
              repeat (go_big_quiet_step (with_reducible exact cN _ _))
              refine wpQuiet_nil ?_
              intro _ hw'
              obtain ⟨⟨dq, osq⟩, hw''⟩ := hw'
              subst hw''
              go_wp2_with fail
              go_meet
              exact ⟨rfl, below_regrown _ _ _⟩
            · have q0' : wy.cell? ⟨B, 0, none⟩ = some (.int .i64 6) := by rw [hk] at q0; exact q0
              obtain ⟨bd, od, rfl, hdc⟩ := HDR.out (by omega)
              have hai : (0 : Int) ≤ (at_ : Int) := by omega
              have haj : (at_ : Int) < (n : Int) := by omega
              have cD := fun dq os => cell_regrown hdc dq os
              clear hdc
              have c0 := fun dq os => cell_regrown q0' dq os
              have c1 := fun dq os => cell_regrown q1 dq os
              have c2 := fun dq os => cell_regrown q2 dq os
              have cN := fun dq os => Calls.regrown_of (HNM.out (Go.Sort.grow (redrawn wy dq) os))
              clear q0 q1 q2 q0' hk
              go_wp2_with fail
              refine wp_region_quiet_below (by kernel_rfl) (by kernel_rfl) ?_
              repeat (go_big_quiet_step (with_reducible exact cN _ _))
              refine wpQuiet_nil ?_
              intro _ hw'
              obtain ⟨⟨dq, osq⟩, hw''⟩ := hw'
              subst hw''
              go_wp2_with fail
              go_meet
              exact ⟨rfl, below_regrown _ _ _⟩
        case rest =>
        obtain ⟨rfl, hcut⟩ := hcut
        have HBY := Lib.hid (below_then HBC.out hcut)
        have q4 : wc.cell? ⟨B, 4, none⟩ = some (.slice aa ats.length ac) := (hcut.cell (lt_of_cell (HCC.out 4 _ rfl))).trans (HCC.out 4 _ rfl)
        have kcs := fun (W : World) (z : ByteArray) => Lib.run_convert_string_bytes (P := Tryz.prog) W 9 22 5 z Tryz.underlying9 Tryz.underlying22 Tryz.underlying5
        obtain ⟨na, hna⟩ : ∃ na, ats.length = na := ⟨_, rfl⟩
        have HNA := Lib.hid hna
        rw [hna] at q4 hac
        have hadd : IntKind.i64.wrap ((i : Int) + 1) = ((i + 1 : Nat) : Int) := IntWalk.i64_in _ (by have := HM.out; have := HO.out.small; unfold maxLen at this; omega)
        clear hcut hna
        go_wp2_with fail
        go_loopg [7] na (fun g s wz => ∃ k : Nat, k + g = na ∧ s = .int .i64 (k : Int) ∧ Below wc.heap.size wc wz)
        case atStart => exact ⟨0, by omega, rfl, Below.refl _ _⟩
        case round =>
          rename World => wz
          obtain ⟨k, hkg, rfl, hb⟩ := hrel
          have HBZ := Lib.hid hb
          replace q4 := (hb.cell (lt_of_cell q4)).trans q4
          clear hb
          cases gk with
          | zero =>
            obtain rfl : k = na := by omega
            have hge : ¬ ((k : Int) < (k : Int)) := by omega
            go_wp2_with fail
            go_roundg g
            case measure => omega
            case rel => exact ⟨i + 1, by omega, rfl, below_then HBY.out HBZ.out⟩
          | succ gi =>
            have hlk : (k : Int) < (na : Int) := by omega
            have hk0 : (0 : Int) ≤ (k : Int) := by omega
            have haddk : IntKind.i64.wrap ((k : Int) + 1) = ((k + 1 : Nat) : Int) := IntWalk.i64_in _ (by unfold maxLen at hacm; omega)
            obtain ⟨x, hx⟩ : ∃ x, ats[k]? = some x := ⟨_, List.getElem?_eq_getElem (by have := HNA.out; omega)⟩
            obtain ⟨hx1, hx2⟩ := HGD.out.attrs x (List.mem_of_getElem? hx)
            rcases HAC.out with h0 | ⟨ab, haa, _, hcell⟩
            · rw [h0] at hx; simp at hx
            subst haa
            obtain ⟨y1, y2⟩ := hcell k x hx
            have hbz := below_then HBY.out HBZ.out
            replace y1 := (hbz.cell (lt_of_cell y1)).trans y1
            replace y2 := (hbz.cell (lt_of_cell y2)).trans y2
            have HNM : Hid (∀ W, Calls Tryz.prog 14 #[.string (strB x.1)] W (Leaves (.bool true) W)) := Lib.hid (fun W => name_text W x.1 (by have h1 : x.1.length ≤ l.length := hx1.2; have := HN.out; have := HLE.out; omega) true (hx1.1.2.name hx1.1.1))
            have HTX : Hid (∀ W, Calls Tryz.prog 13 #[.slice (some ⟨W.heap.size, 0, none⟩) (strB x.2).size (grownCap W (strB x.2).size 0 5)] (bytesWorld W 5 (strB x.2)) (Leaves (.int .i64 (-1)) (bytesWorld W 5 (strB x.2)))) := Lib.hid (fun W => doc_text W x.2 (by have h1 : x.2.length ≤ 4 * l.length := hx2.2; have := HN.out; have := HLE.out; omega) (bad_of_ok hx2.1))
            obtain ⟨s1, hs1⟩ : ∃ z, strB x.1 = z := ⟨_, rfl⟩
            obtain ⟨s2, hs2⟩ : ∃ z, strB x.2 = z := ⟨_, rfl⟩
            rw [hs1] at y1 HNM
            rw [hs2] at y2 HTX
            have HBZ2 := Lib.hid hbz
            clear hs1 hs2 hx hx1 hx2 hcell hbz
            go_wp2_with fail
            with_reducible refine (HNM.out wz).mono ?_
            rintro e w6 ⟨rfl, hb⟩
            have HB6 := Lib.hid (below_then HBZ.out hb)
            replace q4 := (hb.cell (lt_of_cell q4)).trans q4
            replace y2 := (hb.cell (lt_of_cell y2)).trans y2
            clear hb
            go_wp2_with fail
            with_reducible refine (HTX.out w6).mono ?_
            rintro e w7 ⟨rfl, hb⟩
            have HB7 := Lib.hid (below_then HB6.out (below_then (bytesWorld_below w6 s2) hb))
            clear hb
            go_wp2_with fail
            go_roundg gi
            case measure => omega
            case rel => exact ⟨k + 1, by omega, rfl, HB7.out⟩

end Go.Proofs.YtemohjodihcdfaaGreatDoor
