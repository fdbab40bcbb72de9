/-
  The reference's Parse: a text's rules, or the code and the line. Condition: the text is no longer than 2 to the 30 less two.
-/
import Derived.Test.YtojpjhfafbdpcaaGreatDoorKRl
import Derived.Test.YtojpjhfafbdpcaaGreatDoorKC
import Derived.Test.YtojpjhfafbdpcaaGreatDoorKV
import Derived.Test.YtojpjhfafbdpcaaGreatDoorRefLines
namespace Go.Proofs.YtojpjhfafbdpcaaGreatDoor
open Go.RowKit Go.Lib Go.Joins

/-- What the reference's Parse leaves. -/
def RParseOut (d : List UInt8) (w : World) (e : Ending) (w' : World) : Prop := ∃ v c n, e = .returned (.tuple #[v, .int .i64 c, .int .i64 n]) ∧ Below w.heap.size w w' ∧
  ((∃ l, parseW d = .ok l ∧ RlsIn w' Any v l ∧ c = 0 ∧ n = 0) ∨ (∃ c' n', parseW d = .error (c', n') ∧ v = .slice none 0 0 ∧ c = ((c' : Nat) : Int) ∧ n = ((n' : Nat) : Int)))
theorem rlinesS_calls (x : List UInt8) (w : World) (hs : x.length ≤ 1073741824) : Calls Tryz.prog 29 #[.string (strB x)] w (Leaves (.string (strB (eols x))) w) :=
  refLines_calls (strB x) w (by rw [strB_size]; exact hs)
theorem goW_step {ps : List (List UInt8)} {j : Nat} {x : List UInt8} (hx : ps[j]? = some x) (n : Nat) (acc : List Rl) : goW ((ps.drop j).map trimL) n acc =
    if idle (trimL x) = true then goW ((ps.drop (j + 1)).map trimL) (n + 1) acc
    else match readW (trimL x) with
      | none => .error (20, n)
      | some r => if acc.length = 64 then .error (20, n) else if placedW acc r.path = true then goW ((ps.drop (j + 1)).map trimL) (n + 1) (acc ++ [r]) else .error (21, n) := by
  obtain ⟨hlt, rfl⟩ := List.getElem?_eq_some_iff.1 hx
  rw [List.drop_eq_getElem_cons hlt, List.map_cons, goW]
  rfl

set_option maxRecDepth 100000 in
set_option maxHeartbeats 16000000 in
theorem rparse_calls (d : List UInt8) (w : World) (hd : d.length ≤ 1073741822) : Calls Tryz.prog 10 #[.string (strB d)] w (RParseOut d w) := by
  have HLN := Lib.hid (rlinesS_calls d w (by omega))
  have hel := eols_length d
  have HSPL := Lib.hid (fun (W : World) => rsplit_at (strB (eols d)) 10 10 rfl W (by rw [strB_size]; omega))
  rw [strB_list] at HSPL
  have hpw : parseW d = goW ((pieces 10 (eols d)).map trimL) 1 [] := rfl
  have HSH : Hid (∀ x ∈ pieces 10 (eols d), x.length ≤ 1073741822) := Lib.hid (fun x hx => by have h1 := pieces_short hx; omega)
  have HFW : Hid ((pieces 10 (eols d)).length ≤ 1073741823) := Lib.hid (by have h1 := pieces_few 10 (eols d); omega)
  obtain ⟨sd, hsd⟩ : ∃ s, strB d = s := ⟨_, rfl⟩
  obtain ⟨se, hse⟩ : ∃ s, strB (eols d) = s := ⟨_, rfl⟩
  obtain ⟨ls, hls⟩ : ∃ l, pieces 10 (eols d) = l := ⟨_, rfl⟩
  rw [hsd, hse] at HLN
  rw [hse, hls] at HSPL
  rw [hls] at hpw HSH HFW
  rw [hsd]
  unfold RParseOut
  obtain ⟨P, hP⟩ : ∃ P, parseW d = P := ⟨_, rfl⟩
  rw [hP] at hpw ⊢
  have HPW := Lib.hid hpw
  clear hd hel hpw hsd hse hls hP
  go_enter Tryz.func10, Tryz.ntmps10
  go_wp2_with fail
  with_reducible refine HLN.out.mono ?_
  rintro e w1 ⟨rfl, hb1⟩
  have HB1 := Lib.hid hb1
  have HSP1 := Lib.hid (HSPL.out w1)
  clear hb1 HLN HSPL
  go_wp2_with fail
  with_reducible refine HSP1.out.mono ?_
  rintro e w2 ⟨v2, rfl, how2, hb2⟩
  have hin2 := how2.in
  obtain ⟨a2, c2, rfl, hlc2, hcm2, _⟩ := hin2.form
  obtain ⟨n, hn⟩ : ∃ k, ls.length = k := ⟨_, rfl⟩
  rw [hn] at hin2 hlc2 ⊢
  have hm2 : n ≤ 9223372036854775807 := by unfold maxLen at hcm2; omega
  have HB2 := Lib.hid (below_then HB1.out hb2)
  have HIN2 := Lib.hid hin2.any
  have HN := Lib.hid hn
  have hn31 : n ≤ 1073741823 := by rw [← hn]; exact HFW.out
  clear hb2 how2 hin2 hn hcm2 HSP1 HB1
  go_wp2_with fail
  go_loopg [5, 7] n (fun gk vo i wr => ∃ (j : Nat) (v : Value) (ps : List (Rl × Value × Value)), vo = v ∧ i = .int .i64 (j : Int) ∧ gk + j = n ∧ P = goW ((ls.drop j).map trimL) (j + 1) (ps.map (fun p => p.1)) ∧ OwnR w2.heap.size wr v ps ∧ ps.length ≤ 64 ∧ Below w2.heap.size w2 wr)
  case atStart => exact ⟨0, .slice none 0 0, [], rfl, rfl, rfl, HPW.out, OwnR.nil _ _, by decide, Below.refl _ _⟩
  case round =>
    obtain ⟨j, v, ps, rfl, rfl, hg, hq, hown, hfew, hb⟩ := hrel
    obtain ⟨la, lc, hv, _⟩ := hown.in.form
    rw [List.length_map] at hv
    obtain ⟨k, hk⟩ : ∃ k, ps.length = k := ⟨_, rfl⟩
    rw [hk] at hv
    subst hv
    have HG := Lib.hid hg
    have HQ := Lib.hid hq
    have HOWN := Lib.hid hown
    have HB := Lib.hid hb
    have HK := Lib.hid hk
    have hk64 : k ≤ 64 := by omega
    clear hg hq hown hfew hb hk
    by_cases hlt : j < n
    · obtain ⟨g', rfl⟩ : ∃ g', gk = g' + 1 := ⟨gk - 1, by have := HG.out; omega⟩
      have hdd : decide ((j : Int) < (n : Int)) = true := by simp; omega
      have hji : (j : Int) < (n : Int) := by omega
      obtain ⟨x, hx⟩ : ∃ x, ls[j]? = some x := ⟨ls[j]'(by rw [HN.out]; exact hlt), List.getElem?_eq_getElem _⟩
      have hxl := HSH.out x (List.mem_of_getElem? hx)
      have HST := Lib.hid (HQ.out.trans (goW_step hx (j + 1) (ps.map (fun p => p.1))))
      obtain ⟨b, o, hab, c0⟩ := (HIN2.out.below HB.out).at hx
      subst hab
      have HT := Lib.hid (rtrimS_calls x wr (by omega))
      have htl := trimL_len x
      obtain ⟨xB, hxB⟩ : ∃ s, strB x = s := ⟨_, rfl⟩
      obtain ⟨t, ht⟩ : ∃ t, trimL x = t := ⟨_, rfl⟩
      rw [hxB] at HT c0
      rw [ht] at HT HST htl
      have htl31 : t.length ≤ 1073741822 := by omega
      have hnil := strB_nil t
      clear hx hxl hxB ht htl
      cases t with
      | nil =>
        have HST2 : Hid (P = goW ((ls.drop (j + 1)).map trimL) (j + 1 + 1) (ps.map (fun p => p.1))) := Lib.hid HST.out
        have e0 : strB [] = ⟨#[]⟩ := rfl
        rw [e0] at HT
        clear HST hnil e0
        go_wp2_with fail
        with_reducible refine HT.out.mono ?_
        rintro e w4 ⟨rfl, hb4⟩
        have HB4 : Hid (Below w2.heap.size w2 w4) := Lib.hid (below_then HB.out hb4)
        have HO4 := Lib.hid (HOWN.out.keep (keeps_below hb4 Non) (fun _ _ e => e))
        clear hb4 HT
        go_wp2_with fail
        go_roundg g'
        case measure => omega
        case rel => exact ⟨j + 1, _, ps, rfl, by go_num, by have := HG.out; omega, HST2.out, HO4.out, by have := HK.out; omega, HB4.out⟩
      | cons h t =>
        have hnil2 : ((strB (h :: t)).toList == []) = false := hnil
        have hzz : 0 < (strB (h :: t)).size := by rw [strB_size, List.length_cons]; omega
        have HGZ : Hid (∀ hh : 0 < (strB (h :: t)).size, (strB (h :: t))[0]'hh = h) := Lib.hid (fun _ => rfl)
        have HLI := Lib.hid (fun (W : World) => rline_calls (h :: t) W (by omega))
        unfold LineOut at HLI
        by_cases h35 : h = 35
        · have hhe : ((h.toNat : Int) == 35) = true := by rw [h35]; rfl
          have HST2 : Hid (P = goW ((ls.drop (j + 1)).map trimL) (j + 1 + 1) (ps.map (fun p => p.1))) := Lib.hid (by
            rw [HST.out, if_pos (by rw [h35]; rfl)])
          obtain ⟨tB, htB⟩ : ∃ s, strB (h :: t) = s := ⟨_, rfl⟩
          rw [htB] at HT hnil2 hzz HGZ
          have hz0 := HGZ.out hzz
          clear HST hnil h35 HLI htB
          go_wp2_with fail
          with_reducible refine HT.out.mono ?_
          rintro e w4 ⟨rfl, hb4⟩
          have HB4 : Hid (Below w2.heap.size w2 w4) := Lib.hid (below_then HB.out hb4)
          have HO4 := Lib.hid (HOWN.out.keep (keeps_below hb4 Non) (fun _ _ e => e))
          clear hb4 HT
          go_wp2_with fail
          go_roundg g'
          case measure => omega
          case rel => exact ⟨j + 1, _, ps, rfl, by go_num, by have := HG.out; omega, HST2.out, HO4.out, by have := HK.out; omega, HB4.out⟩
        · have hhe : ((h.toNat : Int) == 35) = false := by
            rw [beq_eq_false_iff_ne]
            intro e
            exact h35 (UInt8.toNat_inj.1 (by show h.toNat = 35; omega))
          have hid : idle (h :: t) = false := by
            unfold idle
            simp
            exact h35
          have HST2 : Hid (P = match readW (h :: t) with
            | none => .error (20, j + 1)
            | some r => if (ps.map (fun p => p.1)).length = 64 then .error (20, j + 1) else if placedW (ps.map (fun p => p.1)) r.path = true then goW ((ls.drop (j + 1)).map trimL) (j + 1 + 1) (ps.map (fun p => p.1) ++ [r]) else .error (21, j + 1)) := Lib.hid (by
            rw [HST.out, if_neg (by rw [hid]; exact Bool.false_ne_true)])
          have hrule : ∀ r, readW (h :: t) = some r → ruleW r = true := fun r hr => readW_rule hr
          have HRULE := Lib.hid hrule
          obtain ⟨tB, htB⟩ : ∃ s, strB (h :: t) = s := ⟨_, rfl⟩
          obtain ⟨R, hR⟩ : ∃ R, readW (h :: t) = R := ⟨_, rfl⟩
          rw [htB] at HT hnil2 hzz HLI HGZ
          have hz0 := HGZ.out hzz
          rw [hR] at HLI HST2 HRULE
          clear HST hnil h35 htB hid hrule hR
          go_wp2_with fail
          with_reducible refine HT.out.mono ?_
          rintro e w4 ⟨rfl, hb4⟩
          have HB4 : Hid (Below w2.heap.size w2 w4) := Lib.hid (below_then HB.out hb4)
          have HO4 := Lib.hid (HOWN.out.keep (keeps_below hb4 Non) (fun _ _ e => e))
          have HL4 := Lib.hid (HLI.out w4)
          clear hb4 HT HLI
          go_wp2_with fail
          with_reducible refine HL4.out.mono ?_
          rintro e w5 ⟨pv, kv, y, ok, rfl, hrd, hp5, hk5, hb5⟩
          obtain ⟨pa, pc, rfl, _⟩ := hp5.form
          obtain ⟨ka, kc, rfl, _⟩ := hk5.form
          obtain ⟨n1, hn1⟩ : ∃ k, (Rl.path y).length = k := ⟨_, rfl⟩
          obtain ⟨n3, hn3⟩ : ∃ k, (Rl.keys y).length = k := ⟨_, rfl⟩
          rw [hn1] at hp5 ⊢
          rw [hn3] at hk5 ⊢
          have HB5 : Hid (Below w2.heap.size w2 w5) := Lib.hid (below_then HB4.out hb5)
          have HO5 := Lib.hid (HO4.out.keep (keeps_below hb5 Non) (fun _ _ e => e))
          obtain ⟨Wb, hWb⟩ : ∃ Wb, w5.alloc (.cells #[.slice pa n1 pc, .slice ka n3 kc] 38) = Wb := ⟨_, rfl⟩
          have hbb : Below w5.heap.size w5 Wb := by rw [← hWb]; exact (Below.refl _ _).alloc (Nat.le_refl _) _
          have hkb : Wb.heap[w5.heap.size]? = some (.cells #[.slice pa n1 pc, .slice ka n3 kc] 38 (0, 0)) := by rw [← hWb]; exact heap_alloc_new _ _
          have HBb : Hid (Below w2.heap.size w2 Wb) := Lib.hid (below_then HB5.out hbb)
          have HOb := Lib.hid (HO5.out.keep (keeps_below hbb Non) (fun _ _ e => e))
          have HKb := Lib.hid hkb
          have hown4 := HO4.out.lt
          have HPb : Hid (StrIn Wb (fun q => w2.heap.size ≤ q ∧ (Value.slice la k lc).ownBlock ≠ some q) (.slice pa n1 pc) (Rl.path y)) := Lib.hid ((hp5.below hbb).mono (fun q _ hq => ⟨Nat.le_trans HB4.out.size hq, fun e => by have h1 := hown4 q e; omega⟩))
          have HKeyb : Hid (StrIn Wb (fun q => w2.heap.size ≤ q ∧ (Value.slice la k lc).ownBlock ≠ some q) (.slice ka n3 kc) (Rl.keys y)) := Lib.hid ((hk5.below hbb).mono (fun q _ hq => ⟨Nat.le_trans HB4.out.size hq, fun e => by have h1 := hown4 q e; omega⟩))
          have HWb := Lib.hid hWb
          have HRD := Lib.hid hrd
          have hml : (ps.map (fun p => p.1)).length = k := by rw [List.length_map]; exact HK.out
          have HML := Lib.hid hml
          clear hb5 hp5 hk5 hn1 hn3 hWb hbb hkb hrd hown4 hml HL4
          cases ok with
          | false =>
            have HER : Hid (P = .error (20, j + 1)) := Lib.hid (by rw [HST2.out, HRD.out]; rfl)
            go_wp2_with (rw [HWb.out])
            try rw [HWb.out]
            refine bodyPost_ret (v := .tuple #[.slice none 0 0, .int .i64 20, .int .i64 ((j : Int) + 1)]) (by simp [results, Tryz.results10, go_sem]) rfl ⟨_, _, _, rfl, HB2.out.trans (HBb.out.mono HB2.out.size), .inr ⟨20, j + 1, HER.out, rfl, rfl, rfl⟩⟩
          | true =>
            have hrd2 : R = some y := HRD.out
            have hne := ruleW_path (HRULE.out y hrd2)
            have HST3 : Hid (P = if k = 64 then .error (20, j + 1) else if placedW (ps.map (fun p => p.1)) (Rl.path y) = true then goW ((ls.drop (j + 1)).map trimL) (j + 1 + 1) (ps.map (fun p => p.1) ++ [y]) else .error (21, j + 1)) := Lib.hid (by rw [HST2.out, hrd2, ← HML.out])
            by_cases h64 : k = 64
            · have hge : decide ((k : Int) ≥ 64) = true := by simp; omega
              have HER : Hid (P = .error (20, j + 1)) := Lib.hid (by rw [HST3.out, if_pos h64])
              clear hrd2 hne h64
              go_wp2_with (rw [HWb.out])
              try rw [HWb.out]
              refine bodyPost_ret (v := .tuple #[.slice none 0 0, .int .i64 20, .int .i64 ((j : Int) + 1)]) (by simp [results, Tryz.results10, go_sem]) rfl ⟨_, _, _, rfl, HB2.out.trans (HBb.out.mono HB2.out.size), .inr ⟨20, j + 1, HER.out, rfl, rfl, rfl⟩⟩
            · have hge : decide ((k : Int) ≥ 64) = false := by simp; omega
              have HPC := Lib.hid (placed_calls (w := Wb) (r := y) HOb.out.in HPb.out HKeyb.out hne)
              obtain ⟨q, hq⟩ : ∃ q, placedW (ps.map (fun p => p.1)) (Rl.path y) = q := ⟨_, rfl⟩
              rw [hq] at HPC HST3
              have HLT : Hid (k + 1 ≤ 64) := Lib.hid (by omega)
              have HST4 : Hid (P = if q = true then goW ((ls.drop (j + 1)).map trimL) (j + 1 + 1) (ps.map (fun p => p.1) ++ [y]) else .error (21, j + 1)) := Lib.hid (by rw [HST3.out, if_neg h64])
              have d0 : Wb.cell? ⟨w5.heap.size, 0, none⟩ = some (.slice pa n1 pc) := (cell_of_block HKb.out 0).trans rfl
              have d1 : Wb.cell? ⟨w5.heap.size, 1, none⟩ = some (.slice ka n3 kc) := (cell_of_block HKb.out 1).trans rfl
              clear hrd2 hne h64 hq HST3 HST2
              go_wp2_with (rw [HWb.out])
              try rw [HWb.out]
              with_reducible refine HPC.out.mono ?_
              rintro e w8 ⟨rfl, hb8⟩
              have HB8 : Hid (Below w2.heap.size w2 w8) := Lib.hid (below_then HBb.out hb8)
              have HO8 := Lib.hid (HOb.out.keep (keeps_below hb8 Non) (fun _ _ e => e))
              have HP8 := Lib.hid (HPb.out.below hb8)
              have HK8 := Lib.hid (HKeyb.out.below hb8)
              have d80 := (hb8.cell (lt_of_cell d0)).trans d0
              have d81 := (hb8.cell (lt_of_cell d1)).trans d1
              clear hb8 HPC d0 d1
              cases q with
              | false =>
                have HER : Hid (P = .error (21, j + 1)) := Lib.hid (by rw [HST4.out]; rfl)
                go_wp2_with fail
                refine bodyPost_ret (v := .tuple #[.slice none 0 0, .int .i64 21, .int .i64 ((j : Int) + 1)]) (by simp [results, Tryz.results10, go_sem]) rfl ⟨_, _, _, rfl, HB2.out.trans (HB8.out.mono HB2.out.size), .inr ⟨21, j + 1, HER.out, rfl, rfl, rfl⟩⟩
              | true =>
                have HST5 : Hid (P = goW ((ls.drop (j + 1)).map trimL) (j + 1 + 1) (ps.map (fun p => p.1) ++ [y])) := Lib.hid (by rw [HST4.out]; rfl)
                obtain ⟨v', w9, hrun, hown9, hkp9⟩ := HO8.out.append y _ _ HP8.out HK8.out HB8.out.size (by have := HK.out; omega)
                obtain ⟨va, vc, hv9, _⟩ := hown9.in.form
                rw [List.length_map, List.length_append, HK.out] at hv9
                have hv10 : v' = .slice va (k + 1) vc := hv9
                subst hv10
                have HRUN := Lib.hid hrun
                have HO9 := Lib.hid hown9
                have HB9 : Hid (Below w2.heap.size w2 w9) := Lib.hid (HB8.out.trans (hkp9.toBelow HB8.out.size (fun q e => HO8.out.new q e)))
                clear hrun hown9 hkp9 hv9 HST4
                go_wp2_with (at_builtin; refine wpList_step (fun K hK => step_app HRUN.out (.tmp 52) (.tmp 54) rfl rfl rfl rfl (hK _ _ ?_)))
                go_roundg g'
                case measure => omega
                case rel => exact ⟨j + 1, _, ps ++ [(y, .slice pa n1 pc, .slice ka n3 kc)], rfl, by go_num, by have := HG.out; omega, by rw [HST5.out, List.map_append]; rfl, HO9.out, by rw [List.length_append, HK.out]; exact HLT.out, HB9.out⟩
    · have hdd : decide ((j : Int) < (n : Int)) = false := by simp; omega
      have HE : Hid (P = if (ps.map (fun p => p.1)).isEmpty = true then .error (20, 0) else .ok (ps.map (fun p => p.1))) := Lib.hid (by
        rw [HQ.out, List.drop_eq_nil_of_le (by have := HN.out; omega), List.map_nil, goW])
      have HBW : Hid (Below w.heap.size w wr) := Lib.hid (HB2.out.trans (HB.out.mono HB2.out.size))
      by_cases hk0 : k = 0
      · subst hk0
        have hps : ps = [] := List.length_eq_zero_iff.1 HK.out
        have HER : Hid (P = .error (20, 0)) := Lib.hid (by rw [HE.out, hps]; rfl)
        clear hps
        go_wp2_with fail
        refine bodyPost_ret (v := .tuple #[.slice none 0 0, .int .i64 20, .int .i64 0]) (by simp [results, Tryz.results10, go_sem]) rfl ⟨_, _, _, rfl, HBW.out, .inr ⟨20, 0, HER.out, rfl, rfl, rfl⟩⟩
      · have hz : ((k : Int) == 0) = false := by rw [beq_eq_false_iff_ne]; omega
        have HER : Hid (P = .ok (ps.map (fun p => p.1))) := Lib.hid (by
          rw [HE.out, if_neg]
          intro h
          have h1 : ps = [] := by simpa using h
          have := HK.out
          rw [h1] at this
          exact hk0 this.symm)
        go_wp2_with fail
        refine bodyPost_ret (v := .tuple #[.slice la k lc, .int .i64 0, .int .i64 0]) (by simp [results, Tryz.results10, go_sem]) rfl ⟨_, _, _, rfl, HBW.out, .inl ⟨_, HER.out, HOWN.out.in.any, rfl, rfl⟩⟩

end Go.Proofs.YtojpjhfafbdpcaaGreatDoor
