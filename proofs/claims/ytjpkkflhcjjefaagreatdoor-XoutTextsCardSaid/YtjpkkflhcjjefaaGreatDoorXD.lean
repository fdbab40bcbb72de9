/-
 What a declaration's text says: blanks, a name and its value taken off a text; whether a text is a declaration.
-/
import Derived.Test.YtjpkkflhcjjefaaGreatDoorXJ
namespace Go.Proofs.YtjpkkflhcjjefaaGreatDoor
open Go.RowKit Go.Lib Go.Joins
set_option maxHeartbeats 32000000
set_option maxRecDepth 100000 in
theorem triml_calls (s : List UInt8) (w : World) : Calls Tryz.prog 154 #[.string (strB s)] w (Leaves (.string (strB (trimLS s))) w) := by
 have hp : PredAt Tryz.prog 60 #[] encR pBl w := fun W x _ => (blank_calls (x : Int) W).mono fun e w' ⟨h1, h2⟩ => ⟨by rw [h1, blank_nat], 0, h2⟩
 have T := Tryz.strings_TrimLeftFunc 60 #[] (enters_of Tryz.func60 (by kernel_rfl) rfl) pBl (strB s) w hp
 have he : Lib.trimLeftF pBl (strB s) = strB (trimLS s) := by
  have h := left_eq (strB s)
  rw [strB_list] at h
  rw [← strB_data (Lib.trimLeftF pBl (strB s)), h]
  rfl
 rw [he] at T
 have HT := hid T
 clear T hp he
 obtain ⟨s1, h1⟩ : ∃ x, strB s = x := ⟨_, rfl⟩
 obtain ⟨s2, h2⟩ : ∃ x, strB (trimLS s) = x := ⟨_, rfl⟩
 rw [h1, h2] at HT
 rw [h1, h2]
 clear h1 h2
 go_enter Tryz.func154, Tryz.ntmps154
 go_wp2_with fail
 refine HT.out.mono ?_
 rintro e w1 ⟨rfl, hb⟩
 have HB := hid hb
 clear hb
 go_wp2
 go_ret
 exact ⟨rfl, HB.out⟩
theorem trimLS_le (s : List UInt8) : (trimLS s).length ≤ s.length := by unfold trimLS; rw [List.length_drop]; omega
theorem lib_cut (m s : List UInt8) (hm : m ≠ []) : Lib.cut s m = match cutS m s with | some q => (q.1, q.2, true) | none => (s, [], false) := by
 unfold Lib.cut
 rw [index_cutS m hm]
 cases hc : cutS m s with
 | none => rfl
 | some q =>
  have hsp := cutS_split m hc
  obtain ⟨q1, q2⟩ := q
  dsimp only at hsp ⊢
  rw [if_pos (Int.natCast_nonneg _), Int.toNat_natCast, hsp, List.take_left, ← List.append_assoc, List.drop_left' (by rw [List.length_append])]
def SaidOut (q : Option (List UInt8 × List UInt8)) (s : List UInt8) (w : World) (e : Ending) (w' : World) : Prop :=
 (match q with
  | some x => e = .returned (.tuple #[.string (strB x.1), .string (strB x.2), .bool true])
  | none => e = .returned (.tuple #[.string ⟨#[]⟩, .string (strB s), .bool false])) ∧ Below w.heap.size w w'
def cutP (m s : List UInt8) : List UInt8 := if m.isPrefixOf s = true then s.drop m.length else s
theorem cutP_le (m s : List UInt8) : (cutP m s).length ≤ s.length := by
 unfold cutP
 split
 ·rw [List.length_drop]; omega
 ·exact Nat.le_refl _
theorem cutp_calls (s m : List UInt8) (w : World) : Calls Tryz.prog 155 #[.string (strB s), .string (strB m)] w (Stays (.tuple #[.string (strB (cutP m s)), .bool (m.isPrefixOf s)]) w) := by
 have h := Tryz.strings_CutPrefix (strB s) (strB m) w
 rw [strB_list, strB_list] at h
 exact h
theorem saidS_eq (s nm : List UInt8) : saidS s nm = if trimLS s = s then none else if nm.isPrefixOf (trimLS s) = false then none else if [61].isPrefixOf (trimLS (cutP nm (trimLS s))) = false then none else match trimLS (cutP [61] (trimLS (cutP nm (trimLS s)))) with
   | [] => none
   | q :: t => if q ≠ 34 ∧ q ≠ 39 then none else cutS [q] t := by
 unfold saidS
 dsimp only
 by_cases h1 : trimLS s = s
 ·rw [if_pos h1, if_pos h1]
 ·rw [if_neg h1, if_neg h1]
  by_cases h2 : nm.isPrefixOf (trimLS s) = false
  ·rw [if_pos h2, if_pos h2]
  ·rw [if_neg h2, if_neg h2]
   have h2' : nm.isPrefixOf (trimLS s) = true := by simpa using h2
   have hc : cutP nm (trimLS s) = (trimLS s).drop nm.length := if_pos h2'
   rw [hc]
   by_cases h3 : [61].isPrefixOf (trimLS ((trimLS s).drop nm.length)) = false
   ·rw [if_pos h3, if_pos h3]
   ·rw [if_neg h3, if_neg h3]
    have h3' : [61].isPrefixOf (trimLS ((trimLS s).drop nm.length)) = true := by simpa using h3
    have hc2 : cutP [61] (trimLS ((trimLS s).drop nm.length)) = (trimLS ((trimLS s).drop nm.length)).drop 1 := if_pos h3'
    rw [hc2]
    cases trimLS ((trimLS ((trimLS s).drop nm.length)).drop 1) <;> rfl
set_option maxRecDepth 100000 in
theorem said_calls (s nm : List UInt8) (w : World) (hs : s.length ≤ 65536) (hE : EnvAt w) : Calls Tryz.prog 129 #[.string (strB s), .string (strB nm)] w (SaidOut (saidS s nm) s w) := by
 obtain ⟨q, hq⟩ : ∃ q, saidS s nm = q := ⟨_, rfl⟩
 rw [hq]
 rw [saidS_eq] at hq
 obtain ⟨b0, hb0⟩ : ∃ x, trimLS s = x := ⟨_, rfl⟩
 obtain ⟨a1, ha1⟩ : ∃ x, cutP nm b0 = x := ⟨_, rfl⟩
 obtain ⟨t1, ht1⟩ : ∃ x, trimLS a1 = x := ⟨_, rfl⟩
 obtain ⟨a2, ha2⟩ : ∃ x, cutP [61] t1 = x := ⟨_, rfl⟩
 obtain ⟨t2, ht2⟩ : ∃ x, trimLS a2 = x := ⟨_, rfl⟩
 have l1 := trimLS_le s
 have l2 := cutP_le nm b0
 have l3 := trimLS_le a1
 have l4 := cutP_le [61] t1
 have l5 := trimLS_le a2
 rw [hb0] at hq l1
 rw [ha1] at hq l2
 rw [ht1] at hq l3
 rw [ha2] at hq l4
 rw [ht2] at hq l5
 have HT1 := hid (fun W => triml_calls s W)
 have HC1 := hid (fun W => cutp_calls b0 nm W)
 have HT2 := hid (fun W => triml_calls a1 W)
 have HC2 := hid (fun W => cutp_calls t1 [61] W)
 have HT3 := hid (fun W => triml_calls a2 W)
 have HP1 := hid (fun W => Tryz.strings_HasPrefix (strB t2) ⟨#[34]⟩ W)
 have HP2 := hid (fun W => Tryz.strings_HasPrefix (strB t2) ⟨#[39]⟩ W)
 rw [hb0] at HT1
 rw [ha1] at HC1
 rw [ht1] at HT2
 rw [ha2] at HC2
 rw [ht2] at HT3
 rw [show strB [61] = ⟨#[61]⟩ from rfl] at HC2
 have HL := hid (show t2.length ≤ 65536 by omega)
 have HE := hid hE
 have heq : ((strB b0).toList == (strB s).toList) = decide (b0 = s) := by
  rw [Go.Lib.toList_data, Go.Lib.toList_data, strB_list, strB_list]
  by_cases h : b0 = s
  ·rw [h]; simp
  ·simp [h]
 obtain ⟨ss, hss⟩ : ∃ x, strB s = x := ⟨_, rfl⟩
 obtain ⟨ns, hns⟩ : ∃ x, strB nm = x := ⟨_, rfl⟩
 obtain ⟨b0s, h1⟩ : ∃ x, strB b0 = x := ⟨_, rfl⟩
 obtain ⟨a1s, h2⟩ : ∃ x, strB a1 = x := ⟨_, rfl⟩
 obtain ⟨t1s, h3⟩ : ∃ x, strB t1 = x := ⟨_, rfl⟩
 obtain ⟨a2s, h4⟩ : ∃ x, strB a2 = x := ⟨_, rfl⟩
 obtain ⟨t2s, h5⟩ : ∃ x, strB t2 = x := ⟨_, rfl⟩
 rw [hss] at HT1 heq
 rw [h1] at HT1 HC1 heq
 rw [hns] at HC1
 rw [h2] at HC1 HT2
 rw [h3] at HT2 HC2
 rw [h4] at HC2 HT3
 rw [h5] at HT3 HP1 HP2
 rw [hss, hns]
 have HSS := hid hss
 have H5 := hid h5
 clear l1 l2 l3 l4 l5 hs hE ha1 ha2 ht1 ht2 hb0 hss hns h1 h2 h3 h4 h5
 by_cases c1 : b0 = s
 ·rw [if_pos c1] at hq
  rw [decide_eq_true c1] at heq
  have HF : Hid (∀ W, Below w.heap.size w W → SaidOut q s w (.returned (.tuple #[.string ⟨#[]⟩, .string ss, .bool false])) W) := hid (fun W hb => by
   rw [← hq, ← HSS.out]
   exact ⟨rfl, hb⟩)
  clear hq c1
  go_enter Tryz.func129, Tryz.ntmps129
  go_wp2_with fail
  with_reducible refine (HT1.out w).mono ?_
  rintro e w1 ⟨rfl, hb⟩
  have HB1 := hid hb
  clear hb
  go_wp2_with fail
  with_reducible refine (HC1.out w1).mono ?_
  rintro e wx ⟨rfl, hx⟩
  have hx' := hx.symm
  subst hx'
  clear hx
  go_wp2_with fail
  with_reducible refine (HT2.out w1).mono ?_
  rintro e w2 ⟨rfl, hb⟩
  have HB2 := hid (below_then HB1.out hb)
  clear hb
  go_wp2_with fail
  with_reducible refine (HC2.out w2).mono ?_
  rintro e wx ⟨rfl, hx⟩
  have hx' := hx.symm
  subst hx'
  clear hx
  go_wp2_with fail
  with_reducible refine (HT3.out w2).mono ?_
  rintro e w3 ⟨rfl, hb⟩
  have HB3 := hid (below_then HB2.out hb)
  clear hb
  go_wp2_with fail
  refine bodyPost_ret (v := .tuple #[.string ⟨#[]⟩, .string ss, .bool false]) (by simp [results, Tryz.results129, go_sem]) rfl (HF.out _ HB3.out)
 ·rw [if_neg c1] at hq
  rw [decide_eq_false c1] at heq
  obtain ⟨n1, hn1⟩ : ∃ x, nm.isPrefixOf b0 = x := ⟨_, rfl⟩
  rw [hn1] at hq HC1
  cases n1 with
  | false =>
   rw [if_pos rfl] at hq
   have HF : Hid (∀ W, Below w.heap.size w W → SaidOut q s w (.returned (.tuple #[.string ⟨#[]⟩, .string ss, .bool false])) W) := hid (fun W hb => by
    rw [← hq, ← HSS.out]
    exact ⟨rfl, hb⟩)
   clear hq c1
   go_enter Tryz.func129, Tryz.ntmps129
   go_wp2_with fail
   with_reducible refine (HT1.out w).mono ?_
   rintro e w1 ⟨rfl, hb⟩
   have HB1 := hid hb
   clear hb
   go_wp2_with fail
   with_reducible refine (HC1.out w1).mono ?_
   rintro e wx ⟨rfl, hx⟩
   have hx' := hx.symm
   subst hx'
   clear hx
   go_wp2_with fail
   with_reducible refine (HT2.out w1).mono ?_
   rintro e w2 ⟨rfl, hb⟩
   have HB2 := hid (below_then HB1.out hb)
   clear hb
   go_wp2_with fail
   with_reducible refine (HC2.out w2).mono ?_
   rintro e wx ⟨rfl, hx⟩
   have hx' := hx.symm
   subst hx'
   clear hx
   go_wp2_with fail
   with_reducible refine (HT3.out w2).mono ?_
   rintro e w3 ⟨rfl, hb⟩
   have HB3 := hid (below_then HB2.out hb)
   clear hb
   go_wp2_with fail
   refine bodyPost_ret (v := .tuple #[.string ⟨#[]⟩, .string ss, .bool false]) (by simp [results, Tryz.results129, go_sem]) rfl (HF.out _ HB3.out)
  | true =>
   rw [if_neg (by decide)] at hq
   obtain ⟨n2, hn2⟩ : ∃ x, [61].isPrefixOf t1 = x := ⟨_, rfl⟩
   rw [hn2] at hq HC2
   cases n2 with
   | false =>
    rw [if_pos rfl] at hq
    have HF : Hid (∀ W, Below w.heap.size w W → SaidOut q s w (.returned (.tuple #[.string ⟨#[]⟩, .string ss, .bool false])) W) := hid (fun W hb => by
     rw [← hq, ← HSS.out]
     exact ⟨rfl, hb⟩)
    clear hq c1
    go_enter Tryz.func129, Tryz.ntmps129
    go_wp2_with fail
    with_reducible refine (HT1.out w).mono ?_
    rintro e w1 ⟨rfl, hb⟩
    have HB1 := hid hb
    clear hb
    go_wp2_with fail
    with_reducible refine (HC1.out w1).mono ?_
    rintro e wx ⟨rfl, hx⟩
    have hx' := hx.symm
    subst hx'
    clear hx
    go_wp2_with fail
    with_reducible refine (HT2.out w1).mono ?_
    rintro e w2 ⟨rfl, hb⟩
    have HB2 := hid (below_then HB1.out hb)
    clear hb
    go_wp2_with fail
    with_reducible refine (HC2.out w2).mono ?_
    rintro e wx ⟨rfl, hx⟩
    have hx' := hx.symm
    subst hx'
    clear hx
    go_wp2_with fail
    with_reducible refine (HT3.out w2).mono ?_
    rintro e w3 ⟨rfl, hb⟩
    have HB3 := hid (below_then HB2.out hb)
    clear hb
    go_wp2_with fail
    refine bodyPost_ret (v := .tuple #[.string ⟨#[]⟩, .string ss, .bool false]) (by simp [results, Tryz.results129, go_sem]) rfl (HF.out _ HB3.out)
   | true =>
    rw [if_neg (by decide)] at hq
    have hpf : ∀ y : UInt8, Lib.hasPrefix t2s.data.toList [y] = [y].isPrefixOf t2 := fun y => by rw [← H5.out]; rfl
    rw [show (⟨#[34]⟩ : ByteArray).data.toList = [34] from rfl, hpf] at HP1
    rw [show (⟨#[39]⟩ : ByteArray).data.toList = [39] from rfl, hpf] at HP2
    by_cases c4 : [34].isPrefixOf t2 = true ∨ [39].isPrefixOf t2 = true
    ·obtain ⟨qq, t3, rfl, hqq⟩ : ∃ y t3, t2 = y :: t3 ∧ (y = 34 ∨ y = 39) := by
      cases t2 with
      | nil => rcases c4 with h | h <;> cases h
      | cons y t3 =>
       refine ⟨y, t3, rfl, ?_⟩
       rcases c4 with h | h
       ·left
        have : ((34 : UInt8) == y && true) = true := h
        rw [Bool.and_true] at this
        exact (eq_of_beq this).symm
       ·right
        have : ((39 : UInt8) == y && true) = true := h
        rw [Bool.and_true] at this
        exact (eq_of_beq this).symm
     have hcq : ¬ (qq ≠ 34 ∧ qq ≠ 39) := fun h => by rcases hqq with h1 | h1; exact h.1 h1; exact h.2 h1
     dsimp only at hq
     rw [if_neg hcq] at hq
     have hx1 : t2s.extract 1 t2s.size = strB t3 := by
      rw [← H5.out]
      apply ByteArray.ext
      apply Array.toList_inj.1
      simp [strB, ByteArray.data_extract, ByteArray.size, List.extract_eq_take_drop]
     have hx2 : t2s.extract 0 1 = strB [qq] := by
      rw [← H5.out]
      apply ByteArray.ext
      apply Array.toList_inj.1
      simp [strB, ByteArray.data_extract, List.extract_eq_take_drop]
     have hsz : 1 ≤ t2s.size := by rw [← H5.out, strB_size, List.length_cons]; omega
     have hszI : (1 : Int) ≤ (t2s.size : Int) := by omega
     have HCU : Hid (∀ W, Below w.heap.size w W → Calls Tryz.prog 156 #[.string (strB t3), .string (strB [qq])] W (fun e w' => e = .returned (.tuple #[.string (strB (Lib.cut t3 [qq]).1), .string (strB (Lib.cut t3 [qq]).2.1), .bool (Lib.cut t3 [qq]).2.2]) ∧ ∃ n, w' = W.drewN n)) := hid (fun W hb => by
      obtain ⟨m, hm⟩ := (HE.out.below hb).mx
      have hl := HL.out
      rw [List.length_cons] at hl
      have h := Tryz.strings_Cut (strB t3) (strB [qq]) m W (by rw [strB_size]; omega) hm
      rw [strB_list, strB_list] at h
      exact h)
     rw [lib_cut [qq] t3 (List.cons_ne_nil _ _), hq] at HCU
     obtain ⟨s3, hs3⟩ : ∃ x, strB t3 = x := ⟨_, rfl⟩
     obtain ⟨sq, hsq⟩ : ∃ x, strB [qq] = x := ⟨_, rfl⟩
     rw [hs3] at hx1 HCU
     rw [hsq] at hx2 HCU
     have hpp : ([34].isPrefixOf (qq :: t3) = true ∧ qq = 34) ∨ ([34].isPrefixOf (qq :: t3) = false ∧ [39].isPrefixOf (qq :: t3) = true) := by
      rcases hqq with rfl | rfl
      ·left; exact ⟨rfl, rfl⟩
      ·right; exact ⟨rfl, rfl⟩
     cases q with
     | none =>
      dsimp only at HCU
      have HF : Hid (∀ W, Below w.heap.size w W → SaidOut none s w (.returned (.tuple #[.string ⟨#[]⟩, .string ss, .bool false])) W) := hid (fun W hb => by
       rw [← HSS.out]
       exact ⟨rfl, hb⟩)
      rcases hpp with ⟨p1, _⟩ | ⟨p1, p2⟩
      ·rw [p1] at HP1
       clear hq hpf c4 hqq hcq hs3 hsq
       go_enter Tryz.func129, Tryz.ntmps129
       go_wp2_with fail
       with_reducible refine (HT1.out w).mono ?_
       rintro e w1 ⟨rfl, hb⟩
       have HB1 := hid hb
       clear hb
       go_wp2_with fail
       with_reducible refine (HC1.out w1).mono ?_
       rintro e wx ⟨rfl, hx⟩
       have hx' := hx.symm
       subst hx'
       clear hx
       go_wp2_with fail
       with_reducible refine (HT2.out w1).mono ?_
       rintro e w2 ⟨rfl, hb⟩
       have HB2 := hid (below_then HB1.out hb)
       clear hb
       go_wp2_with fail
       with_reducible refine (HC2.out w2).mono ?_
       rintro e wx ⟨rfl, hx⟩
       have hx' := hx.symm
       subst hx'
       clear hx
       go_wp2_with fail
       with_reducible refine (HT3.out w2).mono ?_
       rintro e w3 ⟨rfl, hb⟩
       have HB3 := hid (below_then HB2.out hb)
       clear hb
       go_wp2_with fail
       with_reducible refine (HP1.out w3).mono ?_
       rintro e wx ⟨rfl, hx⟩
       have hx' := hx.symm
       subst hx'
       clear hx
       go_upto_region 7 with (fail)
       obtain ⟨x0, hx0⟩ : ∃ W, w3.drew = W := ⟨_, rfl⟩
       have hbx0 : Below w.heap.size w x0 := by rw [← hx0]; exact below_then HB3.out ⟨rfl, rfl, rfl, Nat.le_refl _, fun _ _ => rfl⟩
       refine wp_region_held_drew (S := fun W => Below w.heap.size w W) (by kernel_rfl) (by rw [hx0]; exact hbx0) (fun hHeld => ?_)
       rw [hx0] at hHeld ⊢
       clear hx0 hbx0
       refine tkH 0 ?_
       simp only [LT, Act.put]
       refine tkH 1 (hy := by intro W hS; (try dsimp only at hS); go_simp; (try rw [if_pos hszI]); try with_reducible rfl) ?_
       simp only [LT, Act.put]
       refine tkH 2 ?_
       simp only [LT, Act.put]
       refine tkH 3 (hy := by intro W hS; (try dsimp only at hS); go_simp; (try rw [if_pos hszI]); try with_reducible rfl) ?_
       simp only [LT, Act.put]
       refine wpAnyH_ready (rs := [4]) (by kernel_rfl) (by simp) ?_
       refine AllReadyH.cons rfl (fun K hK => ?_) AllReadyH.nil
       go_simp
       with_reducible refine (HCU.out x0 hHeld).mono ?_
       rintro e wx ⟨rfl, kk, rfl⟩
       refine hK.out _ _ (below_drewNv hHeld kk) (fun hHeld => ?_)
       clear hK K
       try simp only [LT, Act.put]
       refine tkH 5 ?_
       simp only [LT, Act.put]
       refine tkH 6 ?_
       simp only [LT, Act.put]
       refine tkH 7 ?_
       simp only [LT, Act.put]
       refine tkH 8 ?_
       simp only [LT, Act.put]
       refine tkH 9 ?_
       simp only [LT, Act.put]
       refine tkH 10 ?_
       simp only [LT, Act.put]
       refine tkH 11 ?_
       simp only [LT, Act.put]
       refine wpAnyH_done (by kernel_rfl) ?_ _
       have HB4 := hid hHeld
       clear hHeld
       go_wp2_with fail
       refine bodyPost_ret (v := .tuple #[.string ⟨#[]⟩, .string ss, .bool false]) (by simp [results, Tryz.results129, go_sem]) rfl (HF.out _ HB4.out)
      ·rw [p1] at HP1
       rw [p2] at HP2
       clear hq hpf c4 hqq hcq hs3 hsq
       go_enter Tryz.func129, Tryz.ntmps129
       go_wp2_with fail
       with_reducible refine (HT1.out w).mono ?_
       rintro e w1 ⟨rfl, hb⟩
       have HB1 := hid hb
       clear hb
       go_wp2_with fail
       with_reducible refine (HC1.out w1).mono ?_
       rintro e wx ⟨rfl, hx⟩
       have hx' := hx.symm
       subst hx'
       clear hx
       go_wp2_with fail
       with_reducible refine (HT2.out w1).mono ?_
       rintro e w2 ⟨rfl, hb⟩
       have HB2 := hid (below_then HB1.out hb)
       clear hb
       go_wp2_with fail
       with_reducible refine (HC2.out w2).mono ?_
       rintro e wx ⟨rfl, hx⟩
       have hx' := hx.symm
       subst hx'
       clear hx
       go_wp2_with fail
       with_reducible refine (HT3.out w2).mono ?_
       rintro e w3 ⟨rfl, hb⟩
       have HB3 := hid (below_then HB2.out hb)
       clear hb
       go_wp2_with fail
       with_reducible refine (HP1.out w3).mono ?_
       rintro e wx ⟨rfl, hx⟩
       have hx' := hx.symm
       subst hx'
       clear hx
       go_wp2_with fail
       with_reducible refine (HP2.out w3).mono ?_
       rintro e wx ⟨rfl, hx⟩
       have hx' := hx.symm
       subst hx'
       clear hx
       go_upto_region 7 with (fail)
       obtain ⟨x0, hx0⟩ : ∃ W, w3.drew = W := ⟨_, rfl⟩
       have hbx0 : Below w.heap.size w x0 := by rw [← hx0]; exact below_then HB3.out ⟨rfl, rfl, rfl, Nat.le_refl _, fun _ _ => rfl⟩
       refine wp_region_held_drew (S := fun W => Below w.heap.size w W) (by kernel_rfl) (by rw [hx0]; exact hbx0) (fun hHeld => ?_)
       rw [hx0] at hHeld ⊢
       clear hx0 hbx0
       refine tkH 0 ?_
       simp only [LT, Act.put]
       refine tkH 1 (hy := by intro W hS; (try dsimp only at hS); go_simp; (try rw [if_pos hszI]); try with_reducible rfl) ?_
       simp only [LT, Act.put]
       refine tkH 2 ?_
       simp only [LT, Act.put]
       refine tkH 3 (hy := by intro W hS; (try dsimp only at hS); go_simp; (try rw [if_pos hszI]); try with_reducible rfl) ?_
       simp only [LT, Act.put]
       refine wpAnyH_ready (rs := [4]) (by kernel_rfl) (by simp) ?_
       refine AllReadyH.cons rfl (fun K hK => ?_) AllReadyH.nil
       go_simp
       with_reducible refine (HCU.out x0 hHeld).mono ?_
       rintro e wx ⟨rfl, kk, rfl⟩
       refine hK.out _ _ (below_drewNv hHeld kk) (fun hHeld => ?_)
       clear hK K
       try simp only [LT, Act.put]
       refine tkH 5 ?_
       simp only [LT, Act.put]
       refine tkH 6 ?_
       simp only [LT, Act.put]
       refine tkH 7 ?_
       simp only [LT, Act.put]
       refine tkH 8 ?_
       simp only [LT, Act.put]
       refine tkH 9 ?_
       simp only [LT, Act.put]
       refine tkH 10 ?_
       simp only [LT, Act.put]
       refine tkH 11 ?_
       simp only [LT, Act.put]
       refine wpAnyH_done (by kernel_rfl) ?_ _
       have HB4 := hid hHeld
       clear hHeld
       go_wp2_with fail
       refine bodyPost_ret (v := .tuple #[.string ⟨#[]⟩, .string ss, .bool false]) (by simp [results, Tryz.results129, go_sem]) rfl (HF.out _ HB4.out)
     | some z =>
      obtain ⟨z1, z2⟩ := z
      dsimp only at HCU
      have HF : Hid (∀ W, Below w.heap.size w W → SaidOut (some (z1, z2)) s w (.returned (.tuple #[.string (strB z1), .string (strB z2), .bool true])) W) := hid (fun W hb => ⟨rfl, hb⟩)
      obtain ⟨zs1, hz1⟩ : ∃ x, strB z1 = x := ⟨_, rfl⟩
      obtain ⟨zs2, hz2⟩ : ∃ x, strB z2 = x := ⟨_, rfl⟩
      rw [hz1, hz2] at HCU HF
      rcases hpp with ⟨p1, _⟩ | ⟨p1, p2⟩
      ·rw [p1] at HP1
       clear hq hpf c4 hqq hcq hs3 hsq hz1 hz2
       go_enter Tryz.func129, Tryz.ntmps129
       go_wp2_with fail
       with_reducible refine (HT1.out w).mono ?_
       rintro e w1 ⟨rfl, hb⟩
       have HB1 := hid hb
       clear hb
       go_wp2_with fail
       with_reducible refine (HC1.out w1).mono ?_
       rintro e wx ⟨rfl, hx⟩
       have hx' := hx.symm
       subst hx'
       clear hx
       go_wp2_with fail
       with_reducible refine (HT2.out w1).mono ?_
       rintro e w2 ⟨rfl, hb⟩
       have HB2 := hid (below_then HB1.out hb)
       clear hb
       go_wp2_with fail
       with_reducible refine (HC2.out w2).mono ?_
       rintro e wx ⟨rfl, hx⟩
       have hx' := hx.symm
       subst hx'
       clear hx
       go_wp2_with fail
       with_reducible refine (HT3.out w2).mono ?_
       rintro e w3 ⟨rfl, hb⟩
       have HB3 := hid (below_then HB2.out hb)
       clear hb
       go_wp2_with fail
       with_reducible refine (HP1.out w3).mono ?_
       rintro e wx ⟨rfl, hx⟩
       have hx' := hx.symm
       subst hx'
       clear hx
       go_upto_region 7 with (fail)
       obtain ⟨x0, hx0⟩ : ∃ W, w3.drew = W := ⟨_, rfl⟩
       have hbx0 : Below w.heap.size w x0 := by rw [← hx0]; exact below_then HB3.out ⟨rfl, rfl, rfl, Nat.le_refl _, fun _ _ => rfl⟩
       refine wp_region_held_drew (S := fun W => Below w.heap.size w W) (by kernel_rfl) (by rw [hx0]; exact hbx0) (fun hHeld => ?_)
       rw [hx0] at hHeld ⊢
       clear hx0 hbx0
       refine tkH 0 ?_
       simp only [LT, Act.put]
       refine tkH 1 (hy := by intro W hS; (try dsimp only at hS); go_simp; (try rw [if_pos hszI]); try with_reducible rfl) ?_
       simp only [LT, Act.put]
       refine tkH 2 ?_
       simp only [LT, Act.put]
       refine tkH 3 (hy := by intro W hS; (try dsimp only at hS); go_simp; (try rw [if_pos hszI]); try with_reducible rfl) ?_
       simp only [LT, Act.put]
       refine wpAnyH_ready (rs := [4]) (by kernel_rfl) (by simp) ?_
       refine AllReadyH.cons rfl (fun K hK => ?_) AllReadyH.nil
       go_simp
       with_reducible refine (HCU.out x0 hHeld).mono ?_
       rintro e wx ⟨rfl, kk, rfl⟩
       refine hK.out _ _ (below_drewNv hHeld kk) (fun hHeld => ?_)
       clear hK K
       try simp only [LT, Act.put]
       refine tkH 5 ?_
       simp only [LT, Act.put]
       refine tkH 6 ?_
       simp only [LT, Act.put]
       refine tkH 7 ?_
       simp only [LT, Act.put]
       refine tkH 8 ?_
       simp only [LT, Act.put]
       refine tkH 9 ?_
       simp only [LT, Act.put]
       refine tkH 10 ?_
       simp only [LT, Act.put]
       refine tkH 11 ?_
       simp only [LT, Act.put]
       refine wpAnyH_done (by kernel_rfl) ?_ _
       have HB4 := hid hHeld
       clear hHeld
       go_wp2_with fail
       refine bodyPost_ret (v := .tuple #[.string zs1, .string zs2, .bool true]) (by simp [results, Tryz.results129, go_sem]) rfl (HF.out _ HB4.out)
      ·rw [p1] at HP1
       rw [p2] at HP2
       clear hq hpf c4 hqq hcq hs3 hsq hz1 hz2
       go_enter Tryz.func129, Tryz.ntmps129
       go_wp2_with fail
       with_reducible refine (HT1.out w).mono ?_
       rintro e w1 ⟨rfl, hb⟩
       have HB1 := hid hb
       clear hb
       go_wp2_with fail
       with_reducible refine (HC1.out w1).mono ?_
       rintro e wx ⟨rfl, hx⟩
       have hx' := hx.symm
       subst hx'
       clear hx
       go_wp2_with fail
       with_reducible refine (HT2.out w1).mono ?_
       rintro e w2 ⟨rfl, hb⟩
       have HB2 := hid (below_then HB1.out hb)
       clear hb
       go_wp2_with fail
       with_reducible refine (HC2.out w2).mono ?_
       rintro e wx ⟨rfl, hx⟩
       have hx' := hx.symm
       subst hx'
       clear hx
       go_wp2_with fail
       with_reducible refine (HT3.out w2).mono ?_
       rintro e w3 ⟨rfl, hb⟩
       have HB3 := hid (below_then HB2.out hb)
       clear hb
       go_wp2_with fail
       with_reducible refine (HP1.out w3).mono ?_
       rintro e wx ⟨rfl, hx⟩
       have hx' := hx.symm
       subst hx'
       clear hx
       go_wp2_with fail
       with_reducible refine (HP2.out w3).mono ?_
       rintro e wx ⟨rfl, hx⟩
       have hx' := hx.symm
       subst hx'
       clear hx
       go_upto_region 7 with (fail)
       obtain ⟨x0, hx0⟩ : ∃ W, w3.drew = W := ⟨_, rfl⟩
       have hbx0 : Below w.heap.size w x0 := by rw [← hx0]; exact below_then HB3.out ⟨rfl, rfl, rfl, Nat.le_refl _, fun _ _ => rfl⟩
       refine wp_region_held_drew (S := fun W => Below w.heap.size w W) (by kernel_rfl) (by rw [hx0]; exact hbx0) (fun hHeld => ?_)
       rw [hx0] at hHeld ⊢
       clear hx0 hbx0
       refine tkH 0 ?_
       simp only [LT, Act.put]
       refine tkH 1 (hy := by intro W hS; (try dsimp only at hS); go_simp; (try rw [if_pos hszI]); try with_reducible rfl) ?_
       simp only [LT, Act.put]
       refine tkH 2 ?_
       simp only [LT, Act.put]
       refine tkH 3 (hy := by intro W hS; (try dsimp only at hS); go_simp; (try rw [if_pos hszI]); try with_reducible rfl) ?_
       simp only [LT, Act.put]
       refine wpAnyH_ready (rs := [4]) (by kernel_rfl) (by simp) ?_
       refine AllReadyH.cons rfl (fun K hK => ?_) AllReadyH.nil
       go_simp
       with_reducible refine (HCU.out x0 hHeld).mono ?_
       rintro e wx ⟨rfl, kk, rfl⟩
       refine hK.out _ _ (below_drewNv hHeld kk) (fun hHeld => ?_)
       clear hK K
       try simp only [LT, Act.put]
       refine tkH 5 ?_
       simp only [LT, Act.put]
       refine tkH 6 ?_
       simp only [LT, Act.put]
       refine tkH 7 ?_
       simp only [LT, Act.put]
       refine tkH 8 ?_
       simp only [LT, Act.put]
       refine tkH 9 ?_
       simp only [LT, Act.put]
       refine tkH 10 ?_
       simp only [LT, Act.put]
       refine tkH 11 ?_
       simp only [LT, Act.put]
       refine wpAnyH_done (by kernel_rfl) ?_ _
       have HB4 := hid hHeld
       clear hHeld
       go_wp2_with fail
       refine bodyPost_ret (v := .tuple #[.string zs1, .string zs2, .bool true]) (by simp [results, Tryz.results129, go_sem]) rfl (HF.out _ HB4.out)
    ·have p1 : [34].isPrefixOf t2 = false := by
      cases h : [34].isPrefixOf t2 with
      | false => rfl
      | true => exact absurd (.inl h) c4
     have p2 : [39].isPrefixOf t2 = false := by
      cases h : [39].isPrefixOf t2 with
      | false => rfl
      | true => exact absurd (.inr h) c4
     have hqn : q = none := by
      rw [← hq]
      cases t2 with
      | nil => rfl
      | cons y t3 =>
       dsimp only
       rw [if_pos]
       refine ⟨fun h => ?_, fun h => ?_⟩
       ·rw [h] at p1; cases p1
       ·rw [h] at p2; cases p2
     rw [p1] at HP1
     rw [p2] at HP2
     have HF : Hid (∀ W, Below w.heap.size w W → SaidOut q s w (.returned (.tuple #[.string ⟨#[]⟩, .string ss, .bool false])) W) := hid (fun W hb => by
      rw [hqn, ← HSS.out]
      exact ⟨rfl, hb⟩)
     clear hq c1 hqn c4 hpf p1 p2
     go_enter Tryz.func129, Tryz.ntmps129
     go_wp2_with fail
     with_reducible refine (HT1.out w).mono ?_
     rintro e w1 ⟨rfl, hb⟩
     have HB1 := hid hb
     clear hb
     go_wp2_with fail
     with_reducible refine (HC1.out w1).mono ?_
     rintro e wx ⟨rfl, hx⟩
     have hx' := hx.symm
     subst hx'
     clear hx
     go_wp2_with fail
     with_reducible refine (HT2.out w1).mono ?_
     rintro e w2 ⟨rfl, hb⟩
     have HB2 := hid (below_then HB1.out hb)
     clear hb
     go_wp2_with fail
     with_reducible refine (HC2.out w2).mono ?_
     rintro e wx ⟨rfl, hx⟩
     have hx' := hx.symm
     subst hx'
     clear hx
     go_wp2_with fail
     with_reducible refine (HT3.out w2).mono ?_
     rintro e w3 ⟨rfl, hb⟩
     have HB3 := hid (below_then HB2.out hb)
     clear hb
     go_wp2_with fail
     with_reducible refine (HP1.out w3).mono ?_
     rintro e wx ⟨rfl, hx⟩
     have hx' := hx.symm
     subst hx'
     clear hx
     go_wp2_with fail
     with_reducible refine (HP2.out w3).mono ?_
     rintro e wx ⟨rfl, hx⟩
     have hx' := hx.symm
     subst hx'
     clear hx
     go_wp2_with fail
     refine bodyPost_ret (v := .tuple #[.string ⟨#[]⟩, .string ss, .bool false]) (by simp [results, Tryz.results129, go_sem]) rfl (HF.out _ HB3.out)
end Go.Proofs.YtjpkkflhcjjefaaGreatDoor
namespace Go.Proofs.YtjpkkflhcjjefaaGreatDoor
open Go.RowKit Go.Lib Go.Joins
theorem cutS_le (m : List UInt8) {r : List UInt8} {q : List UInt8 × List UInt8} (h : cutS m r = some q) : q.1.length ≤ r.length ∧ q.2.length ≤ r.length := by
 have := congrArg List.length (cutS_split m h)
 rw [List.length_append, List.length_append] at this
 omega
theorem saidS_le {s nm : List UInt8} {q : List UInt8 × List UInt8} (h : saidS s nm = some q) : q.1.length ≤ s.length ∧ q.2.length ≤ s.length := by
 unfold saidS at h
 dsimp only at h
 have l1 := trimLS_le s
 have l3 := trimLS_le ((trimLS s).drop nm.length)
 have l5 := trimLS_le ((trimLS ((trimLS s).drop nm.length)).drop 1)
 rw [List.length_drop] at l3 l5
 split at h
 ·cases h
 split at h
 ·cases h
 split at h
 ·cases h
 cases ht : trimLS ((trimLS ((trimLS s).drop nm.length)).drop 1) with
 | nil => rw [ht] at h; cases h
 | cons x t =>
  rw [ht] at h l5
  dsimp only at h
  rw [List.length_cons] at l5
  split at h
  ·cases h
  ·have := cutS_le [x] h
   omega
theorem said_two (s nm : List UInt8) (w : World) (hs : s.length ≤ 65536) (hE : EnvAt w) : Calls Tryz.prog 129 #[.string (strB s), .string (strB nm)] w (fun e w' => e = .returned (.tuple #[.string (strB ((saidS s nm).getD ([], s)).1), .string (strB ((saidS s nm).getD ([], s)).2), .bool (saidS s nm).isSome]) ∧ Below w.heap.size w w') := by
 refine (said_calls s nm w hs hE).mono ?_
 rintro e w' ⟨h1, h2⟩
 refine ⟨?_, h2⟩
 cases h : saidS s nm with
 | none => rw [h] at h1; exact h1
 | some q => rw [h] at h1; exact h1
def ver : List UInt8 := [118, 101, 114, 115, 105, 111, 110]
def enc : List UInt8 := [101, 110, 99, 111, 100, 105, 110, 103]
def alone : List UInt8 := [115, 116, 97, 110, 100, 97, 108, 111, 110, 101]
theorem declaresS_eq (s : List UInt8) : declaresS s = ((!(saidS ((saidS s ver).getD ([], s)).2 enc).isSome || sameS ((saidS ((saidS s ver).getD ([], s)).2 enc).getD ([], ((saidS s ver).getD ([], s)).2)).1 [117, 116, 102, 45, 56]) &&
  (!(saidS ((saidS ((saidS s ver).getD ([], s)).2 enc).getD ([], ((saidS s ver).getD ([], s)).2)).2 alone).isSome || (((saidS ((saidS ((saidS s ver).getD ([], s)).2 enc).getD ([], ((saidS s ver).getD ([], s)).2)).2 alone).getD ([], ((saidS ((saidS s ver).getD ([], s)).2 enc).getD ([], ((saidS s ver).getD ([], s)).2)).2)).1 == [121, 101, 115] || ((saidS ((saidS ((saidS s ver).getD ([], s)).2 enc).getD ([], ((saidS s ver).getD ([], s)).2)).2 alone).getD ([], ((saidS ((saidS s ver).getD ([], s)).2 enc).getD ([], ((saidS s ver).getD ([], s)).2)).2)).1 == [110, 111])) &&
  ((saidS s ver).getD ([], s)).1 == [49, 46, 48] && trimL ((saidS ((saidS ((saidS s ver).getD ([], s)).2 enc).getD ([], ((saidS s ver).getD ([], s)).2)).2 alone).getD ([], ((saidS ((saidS s ver).getD ([], s)).2 enc).getD ([], ((saidS s ver).getD ([], s)).2)).2)).2 == []) := by
 unfold declaresS
 dsimp only
 rw [show [118, 101, 114, 115, 105, 111, 110] = ver from rfl, show [101, 110, 99, 111, 100, 105, 110, 103] = enc from rfl, show [115, 116, 97, 110, 100, 97, 108, 111, 110, 101] = alone from rfl]
 generalize (saidS s ver).getD ([], s) = q1
 generalize saidS q1.2 enc = q2
 generalize (q2.getD ([], q1.2)).2 = r2
 generalize saidS r2 alone = q3
 cases q2 <;> cases q3 <;> rfl
theorem str_eq (l m : List UInt8) : ((strB l).toList == m) = (l == m) := by
 rw [Go.Lib.toList_data, strB_list]
set_option maxRecDepth 100000 in
theorem declares_calls (s : List UInt8) (w : World) (hs : s.length ≤ 65536) (hE : EnvAt w) : Calls Tryz.prog 100 #[.string (strB s)] w (Leaves (.bool (declaresS s)) w) := by
 rw [declaresS_eq]
 have HS1 := hid (said_two s ver w hs hE)
 have lq1 : ((saidS s ver).getD ([], s)).2.length ≤ 65536 := by
  cases h : saidS s ver with
  | none => exact hs
  | some q => have := saidS_le h; show q.2.length ≤ _; omega
 obtain ⟨q1, hq1⟩ : ∃ q, (saidS s ver).getD ([], s) = q := ⟨_, rfl⟩
 rw [hq1] at HS1 lq1 ⊢
 obtain ⟨v1, r1⟩ := q1
 dsimp only at HS1 lq1 ⊢
 have HS2 := hid (fun W (hb : Below w.heap.size w W) => said_two r1 enc W lq1 (hE.below hb))
 have lq2 : ((saidS r1 enc).getD ([], r1)).2.length ≤ 65536 ∧ ((saidS r1 enc).getD ([], r1)).1.length ≤ 65536 := by
  cases h : saidS r1 enc with
  | none => exact ⟨lq1, Nat.zero_le _⟩
  | some q => have := saidS_le h; show q.2.length ≤ _ ∧ q.1.length ≤ _; omega
 obtain ⟨q2, hq2⟩ : ∃ q, (saidS r1 enc).getD ([], r1) = q := ⟨_, rfl⟩
 rw [hq2] at HS2 lq2 ⊢
 obtain ⟨e1, r2⟩ := q2
 dsimp only at HS2 lq2 ⊢
 have HS3 := hid (fun W (hb : Below w.heap.size w W) => said_two r2 alone W lq2.1 (hE.below hb))
 have lq3 : ((saidS r2 alone).getD ([], r2)).2.length ≤ 65536 := by
  cases h : saidS r2 alone with
  | none => exact lq2.1
  | some q => have := saidS_le h; show q.2.length ≤ _; have := lq2.1; omega
 obtain ⟨q3, hq3⟩ : ∃ q, (saidS r2 alone).getD ([], r2) = q := ⟨_, rfl⟩
 rw [hq3] at HS3 lq3 ⊢
 obtain ⟨a1, r3⟩ := q3
 dsimp only at HS3 lq3 ⊢
 have HF := hid (fun W (hb : Below w.heap.size w W) => fold_calls (strB e1) [117, 116, 102, 45, 56] (.inr rfl) W (hE.below hb) (by rw [strB_size]; have := lq2.2; omega))
 have HT := hid (fun W (hb : Below w.heap.size w W) => trim_calls (strB r3) W (by rw [strB_size]; omega) (hE.below hb).laid)
 rw [strB_list] at HF HT
 rw [show (⟨(trimL r3).toArray⟩ : ByteArray) = strB (trimL r3) from rfl] at HT
 have hbv := str_eq v1 [49, 46, 48]
 have hby := str_eq a1 [121, 101, 115]
 have hbn := str_eq a1 [110, 111]
 have hbt := str_eq (trimL r3) []
 generalize (saidS s ver).isSome = t1 at HS1
 generalize (saidS r1 enc).isSome = t2 at HS2 ⊢
 generalize (saidS r2 alone).isSome = t3 at HS3 ⊢
 generalize sameS e1 [117, 116, 102, 45, 56] = sm at HF ⊢
 generalize (v1 == [49, 46, 48]) = bv at hbv ⊢
 generalize (a1 == [121, 101, 115]) = by1 at hby ⊢
 generalize (a1 == [110, 111]) = bn1 at hbn ⊢
 generalize (trimL r3 == []) = bt at hbt ⊢
 generalize strB s = ss at HS1 ⊢
 generalize strB v1 = v1s at HS1 hbv
 generalize strB r1 = r1s at HS1 HS2
 generalize strB e1 = e1s at HS2 HF
 generalize strB r2 = r2s at HS2 HS3
 generalize strB a1 = a1s at HS3 hby hbn
 generalize strB r3 = r3s at HS3 HT
 generalize strB (trimL r3) = ts at HT hbt
 rw [show strB ver = ⟨#[118, 101, 114, 115, 105, 111, 110]⟩ from rfl] at HS1
 rw [show strB enc = ⟨#[101, 110, 99, 111, 100, 105, 110, 103]⟩ from rfl] at HS2
 rw [show strB alone = ⟨#[115, 116, 97, 110, 100, 97, 108, 111, 110, 101]⟩ from rfl] at HS3
 rw [show strB [117, 116, 102, 45, 56] = ⟨#[117, 116, 102, 45, 56]⟩ from rfl] at HF
 clear hE hs lq1 lq2 lq3 hq1 hq2 hq3
 go_enter Tryz.func100, Tryz.ntmps100
 go_wp2_with fail
 with_reducible refine (HS1.out).mono ?_
 rintro e w1 ⟨rfl, hb⟩
 have HB1 := hid (hb)
 clear hb
 go_wp2_with fail
 with_reducible refine (HS2.out w1 HB1.out).mono ?_
 rintro e w2 ⟨rfl, hb⟩
 have HB2 := hid (below_then HB1.out hb)
 clear hb
 cases t2 with
 | false =>
  go_wp2_with fail
  with_reducible refine (HS3.out w2 HB2.out).mono ?_
  rintro e w3 ⟨rfl, hb⟩
  have HB3 := hid (below_then HB2.out hb)
  clear hb
  cases t3 with
  | false =>
   cases bv with
   | false =>
    go_wp2_with fail
    go_ret
    exact ⟨rfl, HB3.out⟩
   | true =>
    go_wp2_with fail
    with_reducible refine (HT.out w3 HB3.out).mono ?_
    rintro e w4 ⟨rfl, hb⟩
    have HB4 := hid (below_then HB3.out hb)
    clear hb
    go_wp2_with fail
    go_ret
    exact ⟨rfl, HB4.out⟩
  | true =>
   cases by1 with
   | true =>
    cases bv with
    | false =>
     go_wp2_with fail
     go_ret
     exact ⟨rfl, HB3.out⟩
    | true =>
     go_wp2_with fail
     with_reducible refine (HT.out w3 HB3.out).mono ?_
     rintro e w4 ⟨rfl, hb⟩
     have HB4 := hid (below_then HB3.out hb)
     clear hb
     go_wp2_with fail
     go_ret
     exact ⟨rfl, HB4.out⟩
   | false =>
    cases bn1 with
    | true =>
     cases bv with
     | false =>
      go_wp2_with fail
      go_ret
      exact ⟨rfl, HB3.out⟩
     | true =>
      go_wp2_with fail
      with_reducible refine (HT.out w3 HB3.out).mono ?_
      rintro e w4 ⟨rfl, hb⟩
      have HB4 := hid (below_then HB3.out hb)
      clear hb
      go_wp2_with fail
      go_ret
      exact ⟨rfl, HB4.out⟩
    | false =>
     go_wp2_with fail
     go_ret
     exact ⟨rfl, HB3.out⟩
 | true =>
  go_wp2_with fail
  with_reducible refine (HF.out w2 HB2.out).mono ?_
  rintro e w3 ⟨rfl, hb⟩
  have HB3 := hid (below_then HB2.out hb)
  clear hb
  cases sm with
  | false =>
   go_wp2_with fail
   go_ret
   exact ⟨rfl, HB3.out⟩
  | true =>
   go_wp2_with fail
   with_reducible refine (HS3.out w3 HB3.out).mono ?_
   rintro e w4 ⟨rfl, hb⟩
   have HB4 := hid (below_then HB3.out hb)
   clear hb
   cases t3 with
   | false =>
    cases bv with
    | false =>
     go_wp2_with fail
     go_ret
     exact ⟨rfl, HB4.out⟩
    | true =>
     go_wp2_with fail
     with_reducible refine (HT.out w4 HB4.out).mono ?_
     rintro e w5 ⟨rfl, hb⟩
     have HB5 := hid (below_then HB4.out hb)
     clear hb
     go_wp2_with fail
     go_ret
     exact ⟨rfl, HB5.out⟩
   | true =>
    cases by1 with
    | true =>
     cases bv with
     | false =>
      go_wp2_with fail
      go_ret
      exact ⟨rfl, HB4.out⟩
     | true =>
      go_wp2_with fail
      with_reducible refine (HT.out w4 HB4.out).mono ?_
      rintro e w5 ⟨rfl, hb⟩
      have HB5 := hid (below_then HB4.out hb)
      clear hb
      go_wp2_with fail
      go_ret
      exact ⟨rfl, HB5.out⟩
    | false =>
     cases bn1 with
     | true =>
      cases bv with
      | false =>
       go_wp2_with fail
       go_ret
       exact ⟨rfl, HB4.out⟩
      | true =>
       go_wp2_with fail
       with_reducible refine (HT.out w4 HB4.out).mono ?_
       rintro e w5 ⟨rfl, hb⟩
       have HB5 := hid (below_then HB4.out hb)
       clear hb
       go_wp2_with fail
       go_ret
       exact ⟨rfl, HB5.out⟩
     | false =>
      go_wp2_with fail
      go_ret
      exact ⟨rfl, HB4.out⟩
end Go.Proofs.YtjpkkflhcjjefaaGreatDoor
