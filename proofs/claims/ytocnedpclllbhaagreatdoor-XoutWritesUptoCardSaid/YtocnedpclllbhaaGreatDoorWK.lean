/-
 Whether a node may be written, if each of its children may. Conditions: the node lies in memory; the laid variables hold what their initialisers lay; texts are no longer than 2 to the 30.
-/
import Derived.Test.YtocnedpclllbhaaGreatDoorWJ
namespace Go.Proofs.YtocnedpclllbhaaGreatDoor
open Go.RowKit Go.Lib Go.Joins

theorem idx_from (s : ByteArray) : ∀ (f pos : Nat), idxFuncFrom pBl true s f pos = -1 ∨ (pos : Int) ≤ idxFuncFrom pBl true s f pos
  | 0, pos => .inl rfl
  | f + 1, pos => by
    rw [idxFuncFrom]
    split
    · split
      · exact .inr (Int.le_refl _)
      · rcases idx_from s f (pos + (Utf8.decode s pos).2) with h | h
        · exact .inl h
        · exact .inr (by omega)
    · exact .inl rfl
/-- The first rune is no blank. -/
theorem idx_bare (l : List UInt8) : (decide (Lib.idxFunc pBl true (strB l) = 0)) = !bareB l := by
  have hsz : (strB l).size = l.length := rfl
  unfold Lib.idxFunc
  cases l with
  | nil => rfl
  | cons x t =>
    rw [hsz, List.length_cons, idxFuncFrom, if_pos (by rw [hsz, List.length_cons]; omega), ← decodeL_drop]
    rw [show (strB (x :: t)).data.toList.drop 0 = x :: t from rfl, rune_blank]
    show _ = !(!blankB (x.toNat : Int))
    rw [blank_nat]
    have hw : 1 ≤ (decodeL (x :: t)).2 := by
      have h1 := decodeL_drop (strB (x :: t)) 0
      rw [show (strB (x :: t)).data.toList.drop 0 = x :: t from rfl] at h1
      rw [h1, Lib.decode_N]
      exact decodeN_pos _ _ _ _ _
    show _ = !!isBl x
    cases hb : isBl x with
    | true => rfl
    | false =>
      rw [if_neg (by decide)]
      rcases idx_from (strB (x :: t)) t.length (0 + (decodeL (x :: t)).2) with h | h
      · rw [h]; rfl
      · rw [decide_eq_false (by omega)]; rfl
theorem pindex_calls {w : World} (l : List UInt8) : Calls Tryz.prog 44 #[.string (strB l), .func (.func 45) #[] #[]] w (fun e w' => (∃ I : Int, e = .returned (.int .i64 I) ∧ decide (I = 0) = !bareB l) ∧ Below w.heap.size w w') := by
  refine (Tryz.strings_IndexFunc_grows 45 #[] (enters_of Tryz.func45 (by kernel_rfl) rfl) pBl (strB l) w (fun W x _ _ => (blank_calls (x : Int) W).mono fun e w' ⟨h1, h2⟩ => ⟨by rw [h1, blank_nat], h2 ▸ Below.refl _ _⟩)).mono ?_
  rintro e w' ⟨rfl, hb⟩
  exact ⟨⟨_, rfl, idx_bare l⟩, hb⟩
/-- A node's texts are short. -/
def Shorts (t : Tr) : Prop := t.name.length ≤ 1073741823 ∧ t.text.length ≤ 1073741823 ∧ ∀ a ∈ t.attrs, a.1.length ≤ 1073741823 ∧ a.2.length ≤ 1073741823
set_option maxRecDepth 100000 in
set_option maxHeartbeats 16000000 in
theorem pfits_calls {w : World} {nb no : Nat} {r : Nr} {t : Tr} (hn : NrIn w nb no r) (ht : NodeIn w Any r t) (hs : Shorts t) (hE : EnvAt w) : Calls Tryz.prog 23 #[.pointer (some ⟨nb, no, none⟩)] w (Leaves (.bool (fitT t.kind t.name t.text t.attrs t.kids)) w) := by
  have HCUR : Hid (∀ W, Below w.heap.size w W → NrIn W nb no r) := Lib.hid (fun W hW => hn.keep (keeps_below hW Non) (fun e => e))
  have HE := Lib.hid (fun W (hW : Below w.heap.size w W) => hE.below hW)
  have HNT := Lib.hid ht
  obtain ⟨hk1, hk2, hk3, hat, rows, hkr, hkn⟩ := ht.kids
  have HAT := Lib.hid hat
  have HKR := Lib.hid hkr
  have HKN := Lib.hid hkn
  obtain ⟨hs1, hs2, hs3⟩ := hs
  obtain ⟨k, nm, tx, ats, ks⟩ := t
  change r.kind = k at hk1
  change r.name = nm at hk2
  change r.text = tx at hk3
  change nm.length ≤ _ at hs1
  change tx.length ≤ _ at hs2
  change ∀ a ∈ ats, _ at hs3
  show Calls _ _ _ _ (Leaves (.bool (fitT k nm tx ats ks)) w)
  obtain ⟨aa, ac, hav, _⟩ := hat
  change r.av = .slice aa ats.length ac at hav
  obtain ⟨ka, kc, hkv, _⟩ := hkr
  have hrl : rows.length = ks.length := hkn.1
  rw [hrl] at hkv
  obtain ⟨na, hna⟩ : ∃ n, ats.length = n := ⟨_, rfl⟩
  obtain ⟨nk, hnk⟩ : ∃ n, ks.length = n := ⟨_, rfl⟩
  rw [hna] at hav
  rw [hnk] at hkv
  have HNA : Hid (ats.isEmpty = decide (na = 0)) := Lib.hid (by rw [← hna]; cases ats <;> simp)
  have HNK : Hid (ks.isEmpty = decide (nk = 0)) := Lib.hid (by rw [← hnk]; cases ks <;> simp)
  obtain ⟨sn, hsn⟩ : ∃ s, strB nm = s := ⟨_, rfl⟩
  obtain ⟨st, hst⟩ : ∃ s, strB tx = s := ⟨_, rfl⟩
  have HY : Hid (∀ W, Below w.heap.size w W → W.cell? ⟨nb, no, none⟩ = some (.int .i64 k) ∧ W.cell? ⟨nb, no + 1, none⟩ = some (.string sn) ∧ W.cell? ⟨nb, no + 2, none⟩ = some (.string st) ∧ W.cell? ⟨nb, no + 3, none⟩ = some (.slice aa na ac) ∧ W.cell? ⟨nb, no + 4, none⟩ = some (.slice ka nk kc)) := Lib.hid (fun W hW => by
    obtain ⟨h0, h1, h2, h3, h4⟩ := HCUR.out W hW
    rw [hk1] at h0
    rw [hk2, hsn] at h1
    rw [hk3, hst] at h2
    rw [hav] at h3
    rw [hkv] at h4
    exact ⟨h0, h1, h2, h3, h4⟩)
  have HNAME : Hid (∀ W, Below w.heap.size w W → Calls Tryz.prog 37 #[.string sn] W (Leaves (.bool (nameW nm)) W)) := Lib.hid (fun W hW => by
    have h1 := uname_calls (strB nm) W (by rw [strB_size]; omega) (HE.out W hW).laid
    rw [show (strB nm).data.toList = nm from rfl, nameP_eq, hsn] at h1
    exact h1)
  have HTARG : Hid (∀ W, Below w.heap.size w W → Calls Tryz.prog 43 #[.string sn] W (Leaves (.bool (nameW nm && !sameS nm [120, 109, 108])) W)) := Lib.hid (fun W hW => by rw [← hsn]; exact ptarget_calls nm (by omega) (HE.out W hW))
  have HHAS : Hid (∀ W, Below w.heap.size w W → Calls Tryz.prog 40 #[.string st] W (Leaves (.bool (hasB tx)) W)) := Lib.hid (fun W hW => by rw [← hst]; exact phas_calls tx (by omega) (HE.out W hW).laid)
  have HVERB : Hid (∀ W, Below w.heap.size w W → Calls Tryz.prog 41 #[.string st] W (Leaves (.bool (hasB tx && !tx.contains 13)) W)) := Lib.hid (fun W hW => by rw [← hst]; exact pverbatim_calls tx (by omega) (HE.out W hW))
  have HIDX : Hid (∀ W, Calls Tryz.prog 44 #[.string st, .func (.func 45) #[] #[]] W (fun e w' => (∃ I : Int, e = .returned (.int .i64 I) ∧ decide (I = 0) = !bareB tx) ∧ Below W.heap.size W w')) := Lib.hid (fun W => by rw [← hst]; exact pindex_calls tx)
  have HCON : Hid (∀ W, Below w.heap.size w W → Calls Tryz.prog 42 #[.string st, .string ⟨#[63, 62]⟩] W (Leaves (.bool (!(cutS [63, 62] tx).isNone)) W)) := Lib.hid (fun W hW => by rw [← hst]; exact pcontains_calls (strB tx) ⟨#[63, 62]⟩ tx [63, 62] rfl rfl (by decide) (by omega) (HE.out W hW).mx)
  have hdash : st ++ (⟨#[45]⟩ : ByteArray) = strB (tx ++ [45]) := by rw [← hst, show (⟨#[45]⟩ : ByteArray) = strB [45] from rfl, strB_join]
  obtain ⟨sd, hsd⟩ : ∃ s, strB (tx ++ [45]) = s := ⟨_, rfl⟩
  rw [hsd] at hdash
  have HCOM : Hid (∀ W, Below w.heap.size w W → Calls Tryz.prog 42 #[.string sd, .string ⟨#[45, 45]⟩] W (Leaves (.bool (!(cutS [45, 45] (tx ++ [45])).isNone)) W)) := Lib.hid (fun W hW => by rw [← hsd]; exact pcontains_calls (strB (tx ++ [45])) ⟨#[45, 45]⟩ (tx ++ [45]) [45, 45] rfl rfl (by decide) (by rw [List.length_append, List.length_singleton]; omega) (HE.out W hW).mx)
  have hz1 : ¬ (9223372036854775807 < st.size + 1) := by rw [← hst, strB_size]; omega
  have HATT : Hid (∀ W, Below w.heap.size w W → Calls Tryz.prog 38 #[.slice aa na ac] W (Leaves (.bool (attrsW [] ats)) W)) := Lib.hid (fun W hW => by
    have h1 := pattrs_calls (HAT.out.keep (keeps_below hW Non) (fun _ _ h => h) (fun _ h => h)) hs3 (HE.out W hW)
    rw [hav] at h1
    exact h1)
  have HTOU : Hid (∀ W, Below w.heap.size w W → Calls Tryz.prog 39 #[.slice ka nk kc] W (Leaves (.bool (touchB ks)) W)) := Lib.hid (fun W hW => by
    have h1 := ptouch_calls (HKR.out.keep (keeps_below hW Non) (fun _ _ h => h) (fun _ h => h)) HKN.out.kinds
    rw [hkv] at h1
    exact h1)
  have HTE : Hid (tx = [] → st = ⟨#[]⟩) := Lib.hid (fun h => by rw [← hst, h]; rfl)
  have HTN : Hid (tx ≠ [] → st.toList.isEmpty = false ∧ ¬ st.toList = []) := Lib.hid (fun h => by
    have h1 : st.toList.isEmpty = false := by
      rw [← hst, Lib.toList_data]
      cases tx with
      | nil => exact absurd rfl h
      | cons a l => rfl
    exact ⟨h1, fun h2 => by rw [h2] at h1; exact absurd h1 (by decide)⟩)
  have HNE : Hid (nm = [] → sn = ⟨#[]⟩) := Lib.hid (fun h => by rw [← hsn, h]; rfl)
  have HNN : Hid (nm ≠ [] → sn.toList.isEmpty = false ∧ ¬ sn.toList = []) := Lib.hid (fun h => by
    have h1 : sn.toList.isEmpty = false := by
      rw [← hsn, Lib.toList_data]
      cases nm with
      | nil => exact absurd rfl h
      | cons a l => rfl
    exact ⟨h1, fun h2 => by rw [h2] at h1; exact absurd h1 (by decide)⟩)
  have HDASH := Lib.hid hdash
  obtain ⟨Q, hQ⟩ : ∃ Q, fitT k nm tx ats ks = Q := ⟨_, rfl⟩
  rw [hQ]
  have HQ := Lib.hid hQ
  clear hn ht hE hk1 hk2 hk3 hkn hs1 hs2 hs3 hav hkv hrl hna hnk hsn hst hdash hsd hQ
  obtain ⟨y0, y1, y2, y3, y4⟩ := HY.out w (Below.refl _ _)
  have HBw : Hid (Below w.heap.size w w) := Lib.hid (Below.refl _ _)
  have hbare : ((na : Int) == 0) = false ∨ (((na : Int) == 0) = true ∧ ((nk : Int) == 0) = false) ∨ (((na : Int) == 0) = true ∧ ((nk : Int) == 0) = true) := by
    cases h1 : ((na : Int) == 0) <;> cases h2 : ((nk : Int) == 0) <;> simp
  have HNA2 : Hid (ats.isEmpty = ((na : Int) == 0)) := Lib.hid (by rw [HNA.out]; by_cases h : na = 0 <;> simp [h])
  have HNK2 : Hid (ks.isEmpty = ((nk : Int) == 0)) := Lib.hid (by rw [HNK.out]; by_cases h : nk = 0 <;> simp [h])
  by_cases hk1 : k = 1
  · subst hk1
    rcases hbare with hA | ⟨hA, hB⟩ | ⟨hA, hB⟩
    all_goals
      have HQK : Hid (Q = (tx.isEmpty && nameW nm && attrsW [] ats && !touchB ks)) := Lib.hid (by rw [← HQ.out, fit_elem_walk])
      obtain ⟨q1, hq1⟩ : ∃ q, nameW nm = q := ⟨_, rfl⟩
      obtain ⟨q2, hq2⟩ : ∃ q, attrsW [] ats = q := ⟨_, rfl⟩
      obtain ⟨q3, hq3⟩ : ∃ q, touchB ks = q := ⟨_, rfl⟩
      rw [hq1] at HNAME HQK
      rw [hq2] at HATT HQK
      rw [hq3] at HTOU HQK
      clear hq1 hq2 hq3
      by_cases hx : tx = []
      · have hse := HTE.out hx
        subst hse
        have hxe : tx.isEmpty = true := by rw [hx]; rfl
        rw [hxe] at HQK
        clear hx hxe HTE HTN
        go_enter Tryz.func23, Tryz.ntmps23
        go_wp2_with fail
        with_reducible refine (HNAME.out _ HBw.out).mono ?_
        rintro e w1 ⟨rfl, hbw1⟩
        have HBw1 : Hid (Below w.heap.size w w1) := Lib.hid (below_then HBw.out hbw1)
        obtain ⟨y0, y1, y2, y3, y4⟩ := HY.out w1 HBw1.out
        clear hbw1
        cases q1 with
        | false =>
          have HF : Hid (Q = false) := Lib.hid (by rw [HQK.out]; simp [*])
          go_wp2_with fail
          go_ret
          exact ⟨by rw [HF.out]; rfl, HBw1.out⟩
        | true =>
          go_wp2_with fail
          with_reducible refine (HATT.out _ HBw1.out).mono ?_
          rintro e w2 ⟨rfl, hbw2⟩
          have HBw2 : Hid (Below w.heap.size w w2) := Lib.hid (below_then HBw1.out hbw2)
          obtain ⟨y0, y1, y2, y3, y4⟩ := HY.out w2 HBw2.out
          clear hbw2
          cases q2 with
          | false =>
            have HF : Hid (Q = false) := Lib.hid (by rw [HQK.out]; simp [*])
            go_wp2_with fail
            go_ret
            exact ⟨by rw [HF.out]; rfl, HBw2.out⟩
          | true =>
            go_wp2_with fail
            with_reducible refine (HTOU.out _ HBw2.out).mono ?_
            rintro e w3 ⟨rfl, hbw3⟩
            have HBw3 : Hid (Below w.heap.size w w3) := Lib.hid (below_then HBw2.out hbw3)
            obtain ⟨y0, y1, y2, y3, y4⟩ := HY.out w3 HBw3.out
            clear hbw3
            have HF : Hid (Q = !q3) := Lib.hid (by rw [HQK.out]; simp [*])
            go_wp2_with fail
            go_ret
            exact ⟨by rw [HF.out]; rfl, HBw3.out⟩
      · obtain ⟨hse1, hse2⟩ := HTN.out hx
        have hxe : tx.isEmpty = false := by cases tx with | nil => exact absurd rfl hx | cons a l => rfl
        rw [hxe] at HQK
        clear hx hxe HTE HTN
        go_enter Tryz.func23, Tryz.ntmps23
        have HF : Hid (Q = false) := Lib.hid (by rw [HQK.out]; simp [*])
        go_wp2_with fail
        go_ret
        exact ⟨by rw [HF.out]; rfl, Below.refl _ _⟩
  have hk1b : (k == 1) = false := beq_eq_false_iff_ne.2 hk1
  by_cases hk2 : k = 2
  · subst hk2
    have HQK : Hid (Q = (ats.isEmpty && ks.isEmpty && hasB tx && (nm.isEmpty && !tx.isEmpty))) := Lib.hid (by
      rw [← HQ.out]
      unfold fitT
      simp only [if_neg (show ¬ ((2 : Int) = 1) by decide), if_true]
      all_goals cases ats.isEmpty <;> cases ks.isEmpty <;> cases hasB tx <;> cases nm.isEmpty <;> cases tx.isEmpty <;> cases tx.contains 13 <;> simp [Bool.and_assoc])
    rw [HNA2.out, HNK2.out] at HQK
    rcases hbare with hA | ⟨hA, hB⟩ | ⟨hA, hB⟩
    · rw [hA] at HQK
      go_enter Tryz.func23, Tryz.ntmps23
      have HF : Hid (Q = false) := Lib.hid (by rw [HQK.out]; simp [*])
      go_wp2_with fail
      go_ret
      exact ⟨by rw [HF.out]; rfl, Below.refl _ _⟩
    · rw [hA, hB] at HQK
      go_enter Tryz.func23, Tryz.ntmps23
      have HF : Hid (Q = false) := Lib.hid (by rw [HQK.out]; simp [*])
      go_wp2_with fail
      go_ret
      exact ⟨by rw [HF.out]; rfl, Below.refl _ _⟩
    · rw [hA, hB] at HQK
      obtain ⟨q1, hq1⟩ : ∃ q, hasB tx = q := ⟨_, rfl⟩
      rw [hq1] at HHAS HQK
      clear hq1
      by_cases hn : nm = []
      · have hse := HNE.out hn
        subst hse
        have hne : nm.isEmpty = true := by rw [hn]; rfl
        rw [hne] at HQK
        clear hn hne HNE HNN
        by_cases hx : tx = []
        · have hse := HTE.out hx
          subst hse
          have hxe : tx.isEmpty = true := by rw [hx]; rfl
          rw [hxe] at HQK
          clear hx hxe HTE HTN
          go_enter Tryz.func23, Tryz.ntmps23
          have HF : Hid (Q = false) := Lib.hid (by rw [HQK.out]; simp [*])
          go_wp2_with fail
          go_ret
          exact ⟨by rw [HF.out]; rfl, Below.refl _ _⟩
        · obtain ⟨hse1, hse2⟩ := HTN.out hx
          have hxe : tx.isEmpty = false := by cases tx with | nil => exact absurd rfl hx | cons a l => rfl
          rw [hxe] at HQK
          clear hx hxe HTE HTN
          go_enter Tryz.func23, Tryz.ntmps23
          go_wp2_with fail
          with_reducible refine (HHAS.out _ HBw.out).mono ?_
          rintro e w1 ⟨rfl, hbw1⟩
          have HBw1 : Hid (Below w.heap.size w w1) := Lib.hid (below_then HBw.out hbw1)
          obtain ⟨y0, y1, y2, y3, y4⟩ := HY.out w1 HBw1.out
          clear hbw1
          have HF : Hid (Q = q1) := Lib.hid (by rw [HQK.out]; simp [*])
          go_wp2_with fail
          go_ret
          exact ⟨by rw [HF.out]; rfl, HBw1.out⟩
      · obtain ⟨hse1, hse2⟩ := HNN.out hn
        have hne : nm.isEmpty = false := by cases nm with | nil => exact absurd rfl hn | cons a l => rfl
        rw [hne] at HQK
        clear hn hne HNE HNN
        go_enter Tryz.func23, Tryz.ntmps23
        have HF : Hid (Q = false) := Lib.hid (by rw [HQK.out]; simp [*])
        go_wp2_with fail
        go_ret
        exact ⟨by rw [HF.out]; rfl, Below.refl _ _⟩
  have hk2b : (k == 2) = false := beq_eq_false_iff_ne.2 hk2
  by_cases hk3 : k = 3
  · subst hk3
    have HQK : Hid (Q = (ats.isEmpty && ks.isEmpty && ((hasB tx && !tx.contains 13) && (nm.isEmpty && (cutS [45, 45] (tx ++ [45])).isNone)))) := Lib.hid (by
      rw [← HQ.out]
      unfold fitT
      simp only [if_neg (show ¬ ((3 : Int) = 1) by decide), if_neg (show ¬ ((3 : Int) = 2) by decide), if_true]
      all_goals cases ats.isEmpty <;> cases ks.isEmpty <;> cases hasB tx <;> cases nm.isEmpty <;> cases tx.isEmpty <;> cases tx.contains 13 <;> simp [])
    rw [HNA2.out, HNK2.out] at HQK
    rcases hbare with hA | ⟨hA, hB⟩ | ⟨hA, hB⟩
    · rw [hA] at HQK
      go_enter Tryz.func23, Tryz.ntmps23
      have HF : Hid (Q = false) := Lib.hid (by rw [HQK.out]; simp [*])
      go_wp2_with fail
      go_ret
      exact ⟨by rw [HF.out]; rfl, Below.refl _ _⟩
    · rw [hA, hB] at HQK
      go_enter Tryz.func23, Tryz.ntmps23
      have HF : Hid (Q = false) := Lib.hid (by rw [HQK.out]; simp [*])
      go_wp2_with fail
      go_ret
      exact ⟨by rw [HF.out]; rfl, Below.refl _ _⟩
    · rw [hA, hB] at HQK
      obtain ⟨q1, hq1⟩ : ∃ q, (hasB tx && !tx.contains 13) = q := ⟨_, rfl⟩
      obtain ⟨q2, hq2⟩ : ∃ q, (cutS [45, 45] (tx ++ [45])).isNone = q := ⟨_, rfl⟩
      rw [hq1] at HVERB HQK
      rw [hq2] at HCOM HQK
      clear hq1 hq2
      by_cases hn : nm = []
      · have hse := HNE.out hn
        subst hse
        have hne : nm.isEmpty = true := by rw [hn]; rfl
        rw [hne] at HQK
        clear hn hne HNE HNN
        go_enter Tryz.func23, Tryz.ntmps23
        go_wp2_with fail
        with_reducible refine (HVERB.out _ HBw.out).mono ?_
        rintro e w1 ⟨rfl, hbw1⟩
        have HBw1 : Hid (Below w.heap.size w w1) := Lib.hid (below_then HBw.out hbw1)
        obtain ⟨y0, y1, y2, y3, y4⟩ := HY.out w1 HBw1.out
        clear hbw1
        cases q1 with
        | false =>
          have HF : Hid (Q = false) := Lib.hid (by rw [HQK.out]; simp [*])
          go_wp2_with fail
          go_ret
          exact ⟨by rw [HF.out]; rfl, HBw1.out⟩
        | true =>
          have hdash := HDASH.out
          go_wp2_with fail
          with_reducible refine (HCOM.out _ HBw1.out).mono ?_
          rintro e w2 ⟨rfl, hbw2⟩
          have HBw2 : Hid (Below w.heap.size w w2) := Lib.hid (below_then HBw1.out hbw2)
          obtain ⟨y0, y1, y2, y3, y4⟩ := HY.out w2 HBw2.out
          clear hbw2
          have HF : Hid (Q = q2) := Lib.hid (by rw [HQK.out]; simp [*])
          go_wp2_with fail
          go_ret
          exact ⟨by rw [HF.out]; rfl, HBw2.out⟩
      · obtain ⟨hse1, hse2⟩ := HNN.out hn
        have hne : nm.isEmpty = false := by cases nm with | nil => exact absurd rfl hn | cons a l => rfl
        rw [hne] at HQK
        clear hn hne HNE HNN
        go_enter Tryz.func23, Tryz.ntmps23
        have HF : Hid (Q = false) := Lib.hid (by rw [HQK.out]; simp [*])
        go_wp2_with fail
        go_ret
        exact ⟨by rw [HF.out]; rfl, Below.refl _ _⟩
  have hk3b : (k == 3) = false := beq_eq_false_iff_ne.2 hk3
  by_cases hk4 : k = 4
  · subst hk4
    have HQK : Hid (Q = (ats.isEmpty && ks.isEmpty && ((nameW nm && !sameS nm [120, 109, 108]) && ((hasB tx && !tx.contains 13) && ((cutS [63, 62] tx).isNone && bareB tx))))) := Lib.hid (by
      rw [← HQ.out]
      unfold fitT
      simp only [if_neg (show ¬ ((4 : Int) = 1) by decide), if_neg (show ¬ ((4 : Int) = 2) by decide), if_neg (show ¬ ((4 : Int) = 3) by decide), if_true]
      all_goals cases ats.isEmpty <;> cases ks.isEmpty <;> cases hasB tx <;> cases nm.isEmpty <;> cases tx.isEmpty <;> cases tx.contains 13 <;> simp [Bool.and_assoc])
    rw [HNA2.out, HNK2.out] at HQK
    rcases hbare with hA | ⟨hA, hB⟩ | ⟨hA, hB⟩
    · rw [hA] at HQK
      go_enter Tryz.func23, Tryz.ntmps23
      have HF : Hid (Q = false) := Lib.hid (by rw [HQK.out]; simp [*])
      go_wp2_with fail
      go_ret
      exact ⟨by rw [HF.out]; rfl, Below.refl _ _⟩
    · rw [hA, hB] at HQK
      go_enter Tryz.func23, Tryz.ntmps23
      have HF : Hid (Q = false) := Lib.hid (by rw [HQK.out]; simp [*])
      go_wp2_with fail
      go_ret
      exact ⟨by rw [HF.out]; rfl, Below.refl _ _⟩
    · rw [hA, hB] at HQK
      obtain ⟨q1, hq1⟩ : ∃ q, (nameW nm && !sameS nm [120, 109, 108]) = q := ⟨_, rfl⟩
      obtain ⟨q2, hq2⟩ : ∃ q, (hasB tx && !tx.contains 13) = q := ⟨_, rfl⟩
      obtain ⟨q3, hq3⟩ : ∃ q, (cutS [63, 62] tx).isNone = q := ⟨_, rfl⟩
      obtain ⟨q4, hq4⟩ : ∃ q, bareB tx = q := ⟨_, rfl⟩
      rw [hq1] at HTARG HQK
      rw [hq2] at HVERB HQK
      rw [hq3] at HCON HQK
      rw [hq4] at HIDX HQK
      clear hq1 hq2 hq3 hq4
      go_enter Tryz.func23, Tryz.ntmps23
      go_wp2_with fail
      with_reducible refine (HTARG.out _ HBw.out).mono ?_
      rintro e w1 ⟨rfl, hbw1⟩
      have HBw1 : Hid (Below w.heap.size w w1) := Lib.hid (below_then HBw.out hbw1)
      obtain ⟨y0, y1, y2, y3, y4⟩ := HY.out w1 HBw1.out
      clear hbw1
      cases q1 with
      | false =>
        have HF : Hid (Q = false) := Lib.hid (by rw [HQK.out]; simp [*])
        go_wp2_with fail
        go_ret
        exact ⟨by rw [HF.out]; rfl, HBw1.out⟩
      | true =>
        go_wp2_with fail
        with_reducible refine (HVERB.out _ HBw1.out).mono ?_
        rintro e w2 ⟨rfl, hbw2⟩
        have HBw2 : Hid (Below w.heap.size w w2) := Lib.hid (below_then HBw1.out hbw2)
        obtain ⟨y0, y1, y2, y3, y4⟩ := HY.out w2 HBw2.out
        clear hbw2
        cases q2 with
        | false =>
          have HF : Hid (Q = false) := Lib.hid (by rw [HQK.out]; simp [*])
          go_wp2_with fail
          go_ret
          exact ⟨by rw [HF.out]; rfl, HBw2.out⟩
        | true =>
          go_wp2_with fail
          with_reducible refine (HCON.out _ HBw2.out).mono ?_
          rintro e w3 ⟨rfl, hbw3⟩
          have HBw3 : Hid (Below w.heap.size w w3) := Lib.hid (below_then HBw2.out hbw3)
          obtain ⟨y0, y1, y2, y3, y4⟩ := HY.out w3 HBw3.out
          clear hbw3
          cases q3 with
          | false =>
            have HF : Hid (Q = false) := Lib.hid (by rw [HQK.out]; simp [*])
            go_wp2_with fail
            go_ret
            exact ⟨by rw [HF.out]; rfl, HBw3.out⟩
          | true =>
            go_wp2_with fail
            with_reducible refine (HIDX.out _).mono ?_
            rintro e w4 ⟨⟨I, rfl, hI⟩, hbw4⟩
            have HBw4 : Hid (Below w.heap.size w w4) := Lib.hid (below_then HBw3.out hbw4)
            obtain ⟨y0, y1, y2, y3, y4⟩ := HY.out w4 HBw4.out
            clear hbw4
            have hI2 : ((I : Int) == 0) = !q4 := by rw [← hI]; rfl
            have hI3 : ((I : Int) != 0) = q4 := by rw [bne, hI2]; simp
            clear hI hI2
            have HF : Hid (Q = q4) := Lib.hid (by rw [HQK.out]; simp [*])
            go_wp2_with fail
            go_ret
            exact ⟨by rw [HF.out]; rfl, HBw4.out⟩
  have hk4b : (k == 4) = false := beq_eq_false_iff_ne.2 hk4
  have HQK : Hid (Q = false) := Lib.hid (by
    rw [← HQ.out]
    unfold fitT
    rw [if_neg hk1, if_neg hk2, if_neg hk3, if_neg hk4, Bool.and_false])
  rcases hbare with hA | ⟨hA, hB⟩ | ⟨hA, hB⟩
  all_goals
    go_enter Tryz.func23, Tryz.ntmps23
    go_wp2_with fail
    go_ret
    exact ⟨by rw [HQK.out]; rfl, Below.refl _ _⟩

end Go.Proofs.YtocnedpclllbhaaGreatDoor
