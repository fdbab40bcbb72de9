/-
 Whether a tree may be written.
-/
import Derived.Test.YtjpkkflhcjjefaaGreatDoorWJ
namespace Go.Proofs.YtjpkkflhcjjefaaGreatDoor
open Go.RowKit Go.Lib Go.Joins
set_option maxHeartbeats 32000000
theorem idx_from (s : ByteArray) : ∀ (f pos : Nat), idxFuncFrom pBl true s f pos = -1 ∨ (pos : Int) ≤ idxFuncFrom pBl true s f pos
 | 0, pos => .inl rfl
 | f + 1, pos => by
  rw [idxFuncFrom]
  split
  ·split
   ·exact .inr (Int.le_refl _)
   ·rcases idx_from s f (pos + (Utf8.decode s pos).2) with h | h
    ·exact .inl h
    ·exact .inr (by omega)
  ·exact .inl rfl
theorem idx_bare (l : List UInt8) : (decide (Lib.idxFunc pBl true (strB l) = 0)) = !bareB l := by
 have hsz : (strB l).size = l.length := rfl
 unfold Lib.idxFunc
 cases l with
 | nil => rfl
 | cons x t =>
  rw [hsz, List.length_cons, idxFuncFrom, if_pos (by rw [hsz, List.length_cons]; omega), ← decodeL_drop]
  rw [show (strB (x :: t)).data.toList.drop 0 = x :: t from rfl, rune_blank]
  show _ = !(!blankB (x.toNat : Int))
  rw [blank_nat]
  have hw : 1 ≤ (decodeL (x :: t)).2 := by
   have h1 := decodeL_drop (strB (x :: t)) 0
   rw [show (strB (x :: t)).data.toList.drop 0 = x :: t from rfl] at h1
   rw [h1, Lib.decode_N]
   exact decodeN_pos _ _ _ _ _
  show _ = !!isBl x
  cases hb : isBl x with
  | true => rfl
  | false =>
   rw [if_neg (by decide)]
   rcases idx_from (strB (x :: t)) t.length (0 + (decodeL (x :: t)).2) with h | h
   ·rw [h]; rfl
   ·rw [decide_eq_false (by omega)]; rfl
theorem pindex_calls {w : World} (l : List UInt8) : Calls Tryz.prog 59 #[.string (strB l), .func (.func 60) #[] #[]] w (fun e w' => (∃ I : Int, e = .returned (.int .i64 I) ∧ decide (I = 0) = !bareB l) ∧ Below w.heap.size w w') := by
 refine (Tryz.strings_IndexFunc_grows 60 #[] (enters_of Tryz.func60 (by kernel_rfl) rfl) pBl (strB l) w (fun W x _ _ => (blank_calls (x : Int) W).mono fun e w' ⟨h1, h2⟩ => ⟨by rw [h1, blank_nat], h2 ▸ Below.refl _ _⟩)).mono ?_
 rintro e w' ⟨rfl, hb⟩
 exact ⟨⟨_, rfl, idx_bare l⟩, hb⟩
def Shorts (t : Tr) : Prop := t.name.length ≤ 1073741823 ∧ t.text.length ≤ 1073741823 ∧ ∀ a ∈ t.attrs, a.1.length ≤ 1073741823 ∧ a.2.length ≤ 1073741823
set_option maxRecDepth 100000 in
theorem pfits_calls {w : World} {nb no : Nat} {r : Nr} {t : Tr} (hn : NrIn w nb no r) (ht : NodeIn w Any r t) (hs : Shorts t) (hE : EnvAt w) : Calls Tryz.prog 29 #[.pointer (some ⟨nb, no, none⟩)] w (Leaves (.bool (fitT t.kind t.name t.text t.attrs t.kids)) w) := by
 have HCUR : Hid (∀ W, Below w.heap.size w W → NrIn W nb no r) := hid (fun W hW => hn.keep (keeps_below hW Non) (fun e => e))
 have HE := hid (fun W (hW : Below w.heap.size w W) => hE.below hW)
 have HNT := hid ht
 obtain ⟨hk1, hk2, hk3, hat, rows, hkr, hkn⟩ := ht.kids
 have HAT := hid hat
 have HKR := hid hkr
 have HKN := hid hkn
 obtain ⟨hs1, hs2, hs3⟩ := hs
 obtain ⟨k, nm, tx, ats, ks⟩ := t
 change r.kind = k at hk1
 change r.name = nm at hk2
 change r.text = tx at hk3
 change nm.length ≤ _ at hs1
 change tx.length ≤ _ at hs2
 change ∀ a ∈ ats, _ at hs3
 show Calls _ _ _ _ (Leaves (.bool (fitT k nm tx ats ks)) w)
 obtain ⟨aa, ac, hav, _⟩ := hat
 change r.av = .slice aa ats.length ac at hav
 obtain ⟨ka, kc, hkv, _⟩ := hkr
 have hrl : rows.length = ks.length := hkn.1
 rw [hrl] at hkv
 obtain ⟨na, hna⟩ : ∃ n, ats.length = n := ⟨_, rfl⟩
 obtain ⟨nk, hnk⟩ : ∃ n, ks.length = n := ⟨_, rfl⟩
 rw [hna] at hav
 rw [hnk] at hkv
 have HNA : Hid (ats.isEmpty = decide (na = 0)) := hid (by rw [← hna]; cases ats <;> simp)
 have HNK : Hid (ks.isEmpty = decide (nk = 0)) := hid (by rw [← hnk]; cases ks <;> simp)
 obtain ⟨sn, hsn⟩ : ∃ s, strB nm = s := ⟨_, rfl⟩
 obtain ⟨st, hst⟩ : ∃ s, strB tx = s := ⟨_, rfl⟩
 have HY : Hid (∀ W, Below w.heap.size w W → W.cell? ⟨nb, no, none⟩ = some (.int .i64 k) ∧ W.cell? ⟨nb, no + 1, none⟩ = some (.string sn) ∧ W.cell? ⟨nb, no + 2, none⟩ = some (.string st) ∧ W.cell? ⟨nb, no + 3, none⟩ = some (.slice aa na ac) ∧ W.cell? ⟨nb, no + 4, none⟩ = some (.slice ka nk kc)) := hid (fun W hW => by
  obtain ⟨h0, h1, h2, h3, h4⟩ := HCUR.out W hW
  rw [hk1] at h0
  rw [hk2, hsn] at h1
  rw [hk3, hst] at h2
  rw [hav] at h3
  rw [hkv] at h4
  exact ⟨h0, h1, h2, h3, h4⟩)
 have HNAME : Hid (∀ W, Below w.heap.size w W → Calls Tryz.prog 52 #[.string sn] W (Leaves (.bool (nameW nm)) W)) := hid (fun W hW => by
  have h1 := uname_calls (strB nm) W (by rw [strB_size]; omega) (HE.out W hW).laid
  rw [show (strB nm).data.toList = nm from rfl, nameP_eq, hsn] at h1
  exact h1)
 have HTARG : Hid (∀ W, Below w.heap.size w W → Calls Tryz.prog 58 #[.string sn] W (Leaves (.bool (nameW nm && !sameS nm [120, 109, 108])) W)) := hid (fun W hW => by rw [← hsn]; exact ptarget_calls nm (by omega) (HE.out W hW))
 have HHAS : Hid (∀ W, Below w.heap.size w W → Calls Tryz.prog 55 #[.string st] W (Leaves (.bool (hasB tx)) W)) := hid (fun W hW => by rw [← hst]; exact phas_calls tx (by omega) (HE.out W hW).laid)
 have HVERB : Hid (∀ W, Below w.heap.size w W → Calls Tryz.prog 56 #[.string st] W (Leaves (.bool (hasB tx && !tx.contains 13)) W)) := hid (fun W hW => by rw [← hst]; exact pverbatim_calls tx (by omega) (HE.out W hW))
 have HIDX : Hid (∀ W, Calls Tryz.prog 59 #[.string st, .func (.func 60) #[] #[]] W (fun e w' => (∃ I : Int, e = .returned (.int .i64 I) ∧ decide (I = 0) = !bareB tx) ∧ Below W.heap.size W w')) := hid (fun W => by rw [← hst]; exact pindex_calls tx)
 have HCON : Hid (∀ W, Below w.heap.size w W → Calls Tryz.prog 57 #[.string st, .string ⟨#[63, 62]⟩] W (Leaves (.bool (!(cutS [63, 62] tx).isNone)) W)) := hid (fun W hW => by rw [← hst]; exact pcontains_calls (strB tx) ⟨#[63, 62]⟩ tx [63, 62] rfl rfl (by decide) (by omega) (HE.out W hW).mx)
 have hdash : st ++ (⟨#[45]⟩ : ByteArray) = strB (tx ++ [45]) := by rw [← hst, show (⟨#[45]⟩ : ByteArray) = strB [45] from rfl, strB_join]
 obtain ⟨sd, hsd⟩ : ∃ s, strB (tx ++ [45]) = s := ⟨_, rfl⟩
 rw [hsd] at hdash
 have HCOM : Hid (∀ W, Below w.heap.size w W → Calls Tryz.prog 57 #[.string sd, .string ⟨#[45, 45]⟩] W (Leaves (.bool (!(cutS [45, 45] (tx ++ [45])).isNone)) W)) := hid (fun W hW => by rw [← hsd]; exact pcontains_calls (strB (tx ++ [45])) ⟨#[45, 45]⟩ (tx ++ [45]) [45, 45] rfl rfl (by decide) (by rw [List.length_append, List.length_singleton]; omega) (HE.out W hW).mx)
 have hz1 : ¬ (9223372036854775807 < st.size + 1) := by rw [← hst, strB_size]; omega
 have HATT : Hid (∀ W, Below w.heap.size w W → Calls Tryz.prog 53 #[.slice aa na ac] W (Leaves (.bool (attrsW [] ats)) W)) := hid (fun W hW => by
  have h1 := pattrs_calls (HAT.out.keep (keeps_below hW Non) (fun _ _ h => h) (fun _ h => h)) hs3 (HE.out W hW)
  rw [hav] at h1
  exact h1)
 have HTOU : Hid (∀ W, Below w.heap.size w W → Calls Tryz.prog 54 #[.slice ka nk kc] W (Leaves (.bool (touchB ks)) W)) := hid (fun W hW => by
  have h1 := ptouch_calls (HKR.out.keep (keeps_below hW Non) (fun _ _ h => h) (fun _ h => h)) HKN.out.kinds
  rw [hkv] at h1
  exact h1)
 have HTE : Hid (tx = [] → st = ⟨#[]⟩) := hid (fun h => by rw [← hst, h]; rfl)
 have HTN : Hid (tx ≠ [] → st.toList.isEmpty = false ∧ ¬ st.toList = []) := hid (fun h => by
  have h1 : st.toList.isEmpty = false := by
   rw [← hst, Lib.toList_data]
   cases tx with
   | nil => exact absurd rfl h
   | cons a l => rfl
  exact ⟨h1, fun h2 => by rw [h2] at h1; exact absurd h1 (by decide)⟩)
 have HNE : Hid (nm = [] → sn = ⟨#[]⟩) := hid (fun h => by rw [← hsn, h]; rfl)
 have HNN : Hid (nm ≠ [] → sn.toList.isEmpty = false ∧ ¬ sn.toList = []) := hid (fun h => by
  have h1 : sn.toList.isEmpty = false := by
   rw [← hsn, Lib.toList_data]
   cases nm with
   | nil => exact absurd rfl h
   | cons a l => rfl
  exact ⟨h1, fun h2 => by rw [h2] at h1; exact absurd h1 (by decide)⟩)
 have HDASH := hid hdash
 obtain ⟨Q, hQ⟩ : ∃ Q, fitT k nm tx ats ks = Q := ⟨_, rfl⟩
 rw [hQ]
 have HQ := hid hQ
 clear hn ht hE hk1 hk2 hk3 hkn hs1 hs2 hs3 hav hkv hrl hna hnk hsn hst hdash hsd hQ
 obtain ⟨y0, y1, y2, y3, y4⟩ := HY.out w (Below.refl _ _)
 have HBw : Hid (Below w.heap.size w w) := hid (Below.refl _ _)
 have hbare : ((na : Int) == 0) = false ∨ (((na : Int) == 0) = true ∧ ((nk : Int) == 0) = false) ∨ (((na : Int) == 0) = true ∧ ((nk : Int) == 0) = true) := by
  cases h1 : ((na : Int) == 0) <;> cases h2 : ((nk : Int) == 0) <;> simp
 have HNA2 : Hid (ats.isEmpty = ((na : Int) == 0)) := hid (by rw [HNA.out]; by_cases h : na = 0 <;> simp [h])
 have HNK2 : Hid (ks.isEmpty = ((nk : Int) == 0)) := hid (by rw [HNK.out]; by_cases h : nk = 0 <;> simp [h])
 by_cases hk1 : k = 1
 ·subst hk1
  rcases hbare with hA | ⟨hA, hB⟩ | ⟨hA, hB⟩
  all_goals
   have HQK : Hid (Q = (tx.isEmpty && nameW nm && attrsW [] ats && !touchB ks)) := hid (by rw [← HQ.out, fit_elem_walk])
   obtain ⟨q1, hq1⟩ : ∃ q, nameW nm = q := ⟨_, rfl⟩
   obtain ⟨q2, hq2⟩ : ∃ q, attrsW [] ats = q := ⟨_, rfl⟩
   obtain ⟨q3, hq3⟩ : ∃ q, touchB ks = q := ⟨_, rfl⟩
   rw [hq1] at HNAME HQK
   rw [hq2] at HATT HQK
   rw [hq3] at HTOU HQK
   clear hq1 hq2 hq3
   by_cases hx : tx = []
   ·have hse := HTE.out hx
    subst hse
    have hxe : tx.isEmpty = true := by rw [hx]; rfl
    rw [hxe] at HQK
    clear hx hxe HTE HTN
    go_enter Tryz.func29, Tryz.ntmps29
    go_wp2_with fail
    with_reducible refine (HNAME.out _ HBw.out).mono ?_
    rintro e w1 ⟨rfl, hbw1⟩
    have HBw1 : Hid (Below w.heap.size w w1) := hid (below_then HBw.out hbw1)
    obtain ⟨y0, y1, y2, y3, y4⟩ := HY.out w1 HBw1.out
    clear hbw1
    cases q1 with
    | false =>
     have HF : Hid (Q = false) := hid (by rw [HQK.out]; simp [*])
     go_wp2_with fail
     go_ret
     exact ⟨by rw [HF.out]; rfl, HBw1.out⟩
    | true =>
     go_wp2_with fail
     with_reducible refine (HATT.out _ HBw1.out).mono ?_
     rintro e w2 ⟨rfl, hbw2⟩
     have HBw2 : Hid (Below w.heap.size w w2) := hid (below_then HBw1.out hbw2)
     obtain ⟨y0, y1, y2, y3, y4⟩ := HY.out w2 HBw2.out
     clear hbw2
     cases q2 with
     | false =>
      have HF : Hid (Q = false) := hid (by rw [HQK.out]; simp [*])
      go_wp2_with fail
      go_ret
      exact ⟨by rw [HF.out]; rfl, HBw2.out⟩
     | true =>
      go_wp2_with fail
      with_reducible refine (HTOU.out _ HBw2.out).mono ?_
      rintro e w3 ⟨rfl, hbw3⟩
      have HBw3 : Hid (Below w.heap.size w w3) := hid (below_then HBw2.out hbw3)
      obtain ⟨y0, y1, y2, y3, y4⟩ := HY.out w3 HBw3.out
      clear hbw3
      have HF : Hid (Q = !q3) := hid (by rw [HQK.out]; simp [*])
      go_wp2_with fail
      go_ret
      exact ⟨by rw [HF.out]; rfl, HBw3.out⟩
   ·obtain ⟨hse1, hse2⟩ := HTN.out hx
    have hxe : tx.isEmpty = false := by cases tx with | nil => exact absurd rfl hx | cons a l => rfl
    rw [hxe] at HQK
    clear hx hxe HTE HTN
    go_enter Tryz.func29, Tryz.ntmps29
    have HF : Hid (Q = false) := hid (by rw [HQK.out]; simp [*])
    go_wp2_with fail
    go_ret
    exact ⟨by rw [HF.out]; rfl, Below.refl _ _⟩
 have hk1b : (k == 1) = false := beq_eq_false_iff_ne.2 hk1
 by_cases hk2 : k = 2
 ·subst hk2
  have HQK : Hid (Q = (ats.isEmpty && ks.isEmpty && hasB tx && (nm.isEmpty && !tx.isEmpty))) := hid (by
   rw [← HQ.out]
   unfold fitT
   simp only [if_neg (show ¬ ((2 : Int) = 1) by decide), if_true]
   all_goals cases ats.isEmpty <;> cases ks.isEmpty <;> cases hasB tx <;> cases nm.isEmpty <;> cases tx.isEmpty <;> cases tx.contains 13 <;> simp [Bool.and_assoc])
  rw [HNA2.out, HNK2.out] at HQK
  rcases hbare with hA | ⟨hA, hB⟩ | ⟨hA, hB⟩
  ·rw [hA] at HQK
   go_enter Tryz.func29, Tryz.ntmps29
   have HF : Hid (Q = false) := hid (by rw [HQK.out]; simp [*])
   go_wp2_with fail
   go_ret
   exact ⟨by rw [HF.out]; rfl, Below.refl _ _⟩
  ·rw [hA, hB] at HQK
   go_enter Tryz.func29, Tryz.ntmps29
   have HF : Hid (Q = false) := hid (by rw [HQK.out]; simp [*])
   go_wp2_with fail
   go_ret
   exact ⟨by rw [HF.out]; rfl, Below.refl _ _⟩
  ·rw [hA, hB] at HQK
   obtain ⟨q1, hq1⟩ : ∃ q, hasB tx = q := ⟨_, rfl⟩
   rw [hq1] at HHAS HQK
   clear hq1
   by_cases hn : nm = []
   ·have hse := HNE.out hn
    subst hse
    have hne : nm.isEmpty = true := by rw [hn]; rfl
    rw [hne] at HQK
    clear hn hne HNE HNN
    by_cases hx : tx = []
    ·have hse := HTE.out hx
     subst hse
     have hxe : tx.isEmpty = true := by rw [hx]; rfl
     rw [hxe] at HQK
     clear hx hxe HTE HTN
     go_enter Tryz.func29, Tryz.ntmps29
     have HF : Hid (Q = false) := hid (by rw [HQK.out]; simp [*])
     go_wp2_with fail
     go_ret
     exact ⟨by rw [HF.out]; rfl, Below.refl _ _⟩
    ·obtain ⟨hse1, hse2⟩ := HTN.out hx
     have hxe : tx.isEmpty = false := by cases tx with | nil => exact absurd rfl hx | cons a l => rfl
     rw [hxe] at HQK
     clear hx hxe HTE HTN
     go_enter Tryz.func29, Tryz.ntmps29
     go_wp2_with fail
     with_reducible refine (HHAS.out _ HBw.out).mono ?_
     rintro e w1 ⟨rfl, hbw1⟩
     have HBw1 : Hid (Below w.heap.size w w1) := hid (below_then HBw.out hbw1)
     obtain ⟨y0, y1, y2, y3, y4⟩ := HY.out w1 HBw1.out
     clear hbw1
     have HF : Hid (Q = q1) := hid (by rw [HQK.out]; simp [*])
     go_wp2_with fail
     go_ret
     exact ⟨by rw [HF.out]; rfl, HBw1.out⟩
   ·obtain ⟨hse1, hse2⟩ := HNN.out hn
    have hne : nm.isEmpty = false := by cases nm with | nil => exact absurd rfl hn | cons a l => rfl
    rw [hne] at HQK
    clear hn hne HNE HNN
    go_enter Tryz.func29, Tryz.ntmps29
    have HF : Hid (Q = false) := hid (by rw [HQK.out]; simp [*])
    go_wp2_with fail
    go_ret
    exact ⟨by rw [HF.out]; rfl, Below.refl _ _⟩
 have hk2b : (k == 2) = false := beq_eq_false_iff_ne.2 hk2
 by_cases hk3 : k = 3
 ·subst hk3
  have HQK : Hid (Q = (ats.isEmpty && ks.isEmpty && ((hasB tx && !tx.contains 13) && (nm.isEmpty && (cutS [45, 45] (tx ++ [45])).isNone)))) := hid (by
   rw [← HQ.out]
   unfold fitT
   simp only [if_neg (show ¬ ((3 : Int) = 1) by decide), if_neg (show ¬ ((3 : Int) = 2) by decide), if_true]
   all_goals cases ats.isEmpty <;> cases ks.isEmpty <;> cases hasB tx <;> cases nm.isEmpty <;> cases tx.isEmpty <;> cases tx.contains 13 <;> simp [])
  rw [HNA2.out, HNK2.out] at HQK
  rcases hbare with hA | ⟨hA, hB⟩ | ⟨hA, hB⟩
  ·rw [hA] at HQK
   go_enter Tryz.func29, Tryz.ntmps29
   have HF : Hid (Q = false) := hid (by rw [HQK.out]; simp [*])
   go_wp2_with fail
   go_ret
   exact ⟨by rw [HF.out]; rfl, Below.refl _ _⟩
  ·rw [hA, hB] at HQK
   go_enter Tryz.func29, Tryz.ntmps29
   have HF : Hid (Q = false) := hid (by rw [HQK.out]; simp [*])
   go_wp2_with fail
   go_ret
   exact ⟨by rw [HF.out]; rfl, Below.refl _ _⟩
  ·rw [hA, hB] at HQK
   obtain ⟨q1, hq1⟩ : ∃ q, (hasB tx && !tx.contains 13) = q := ⟨_, rfl⟩
   obtain ⟨q2, hq2⟩ : ∃ q, (cutS [45, 45] (tx ++ [45])).isNone = q := ⟨_, rfl⟩
   rw [hq1] at HVERB HQK
   rw [hq2] at HCOM HQK
   clear hq1 hq2
   by_cases hn : nm = []
   ·have hse := HNE.out hn
    subst hse
    have hne : nm.isEmpty = true := by rw [hn]; rfl
    rw [hne] at HQK
    clear hn hne HNE HNN
    go_enter Tryz.func29, Tryz.ntmps29
    go_wp2_with fail
    with_reducible refine (HVERB.out _ HBw.out).mono ?_
    rintro e w1 ⟨rfl, hbw1⟩
    have HBw1 : Hid (Below w.heap.size w w1) := hid (below_then HBw.out hbw1)
    obtain ⟨y0, y1, y2, y3, y4⟩ := HY.out w1 HBw1.out
    clear hbw1
    cases q1 with
    | false =>
     have HF : Hid (Q = false) := hid (by rw [HQK.out]; simp [*])
     go_wp2_with fail
     go_ret
     exact ⟨by rw [HF.out]; rfl, HBw1.out⟩
    | true =>
     have hdash := HDASH.out
     go_wp2_with fail
     with_reducible refine (HCOM.out _ HBw1.out).mono ?_
     rintro e w2 ⟨rfl, hbw2⟩
     have HBw2 : Hid (Below w.heap.size w w2) := hid (below_then HBw1.out hbw2)
     obtain ⟨y0, y1, y2, y3, y4⟩ := HY.out w2 HBw2.out
     clear hbw2
     have HF : Hid (Q = q2) := hid (by rw [HQK.out]; simp [*])
     go_wp2_with fail
     go_ret
     exact ⟨by rw [HF.out]; rfl, HBw2.out⟩
   ·obtain ⟨hse1, hse2⟩ := HNN.out hn
    have hne : nm.isEmpty = false := by cases nm with | nil => exact absurd rfl hn | cons a l => rfl
    rw [hne] at HQK
    clear hn hne HNE HNN
    go_enter Tryz.func29, Tryz.ntmps29
    have HF : Hid (Q = false) := hid (by rw [HQK.out]; simp [*])
    go_wp2_with fail
    go_ret
    exact ⟨by rw [HF.out]; rfl, Below.refl _ _⟩
 have hk3b : (k == 3) = false := beq_eq_false_iff_ne.2 hk3
 by_cases hk4 : k = 4
 ·subst hk4
  have HQK : Hid (Q = (ats.isEmpty && ks.isEmpty && ((nameW nm && !sameS nm [120, 109, 108]) && ((hasB tx && !tx.contains 13) && ((cutS [63, 62] tx).isNone && bareB tx))))) := hid (by
   rw [← HQ.out]
   unfold fitT
   simp only [if_neg (show ¬ ((4 : Int) = 1) by decide), if_neg (show ¬ ((4 : Int) = 2) by decide), if_neg (show ¬ ((4 : Int) = 3) by decide), if_true]
   all_goals cases ats.isEmpty <;> cases ks.isEmpty <;> cases hasB tx <;> cases nm.isEmpty <;> cases tx.isEmpty <;> cases tx.contains 13 <;> simp [Bool.and_assoc])
  rw [HNA2.out, HNK2.out] at HQK
  rcases hbare with hA | ⟨hA, hB⟩ | ⟨hA, hB⟩
  ·rw [hA] at HQK
   go_enter Tryz.func29, Tryz.ntmps29
   have HF : Hid (Q = false) := hid (by rw [HQK.out]; simp [*])
   go_wp2_with fail
   go_ret
   exact ⟨by rw [HF.out]; rfl, Below.refl _ _⟩
  ·rw [hA, hB] at HQK
   go_enter Tryz.func29, Tryz.ntmps29
   have HF : Hid (Q = false) := hid (by rw [HQK.out]; simp [*])
   go_wp2_with fail
   go_ret
   exact ⟨by rw [HF.out]; rfl, Below.refl _ _⟩
  ·rw [hA, hB] at HQK
   obtain ⟨q1, hq1⟩ : ∃ q, (nameW nm && !sameS nm [120, 109, 108]) = q := ⟨_, rfl⟩
   obtain ⟨q2, hq2⟩ : ∃ q, (hasB tx && !tx.contains 13) = q := ⟨_, rfl⟩
   obtain ⟨q3, hq3⟩ : ∃ q, (cutS [63, 62] tx).isNone = q := ⟨_, rfl⟩
   obtain ⟨q4, hq4⟩ : ∃ q, bareB tx = q := ⟨_, rfl⟩
   rw [hq1] at HTARG HQK
   rw [hq2] at HVERB HQK
   rw [hq3] at HCON HQK
   rw [hq4] at HIDX HQK
   clear hq1 hq2 hq3 hq4
   go_enter Tryz.func29, Tryz.ntmps29
   go_wp2_with fail
   with_reducible refine (HTARG.out _ HBw.out).mono ?_
   rintro e w1 ⟨rfl, hbw1⟩
   have HBw1 : Hid (Below w.heap.size w w1) := hid (below_then HBw.out hbw1)
   obtain ⟨y0, y1, y2, y3, y4⟩ := HY.out w1 HBw1.out
   clear hbw1
   cases q1 with
   | false =>
    have HF : Hid (Q = false) := hid (by rw [HQK.out]; simp [*])
    go_wp2_with fail
    go_ret
    exact ⟨by rw [HF.out]; rfl, HBw1.out⟩
   | true =>
    go_wp2_with fail
    with_reducible refine (HVERB.out _ HBw1.out).mono ?_
    rintro e w2 ⟨rfl, hbw2⟩
    have HBw2 : Hid (Below w.heap.size w w2) := hid (below_then HBw1.out hbw2)
    obtain ⟨y0, y1, y2, y3, y4⟩ := HY.out w2 HBw2.out
    clear hbw2
    cases q2 with
    | false =>
     have HF : Hid (Q = false) := hid (by rw [HQK.out]; simp [*])
     go_wp2_with fail
     go_ret
     exact ⟨by rw [HF.out]; rfl, HBw2.out⟩
    | true =>
     go_wp2_with fail
     with_reducible refine (HCON.out _ HBw2.out).mono ?_
     rintro e w3 ⟨rfl, hbw3⟩
     have HBw3 : Hid (Below w.heap.size w w3) := hid (below_then HBw2.out hbw3)
     obtain ⟨y0, y1, y2, y3, y4⟩ := HY.out w3 HBw3.out
     clear hbw3
     cases q3 with
     | false =>
      have HF : Hid (Q = false) := hid (by rw [HQK.out]; simp [*])
      go_wp2_with fail
      go_ret
      exact ⟨by rw [HF.out]; rfl, HBw3.out⟩
     | true =>
      go_wp2_with fail
      with_reducible refine (HIDX.out _).mono ?_
      rintro e w4 ⟨⟨I, rfl, hI⟩, hbw4⟩
      have HBw4 : Hid (Below w.heap.size w w4) := hid (below_then HBw3.out hbw4)
      obtain ⟨y0, y1, y2, y3, y4⟩ := HY.out w4 HBw4.out
      clear hbw4
      have hI2 : ((I : Int) == 0) = !q4 := by rw [← hI]; rfl
      have hI3 : ((I : Int) != 0) = q4 := by rw [bne, hI2]; simp
      clear hI hI2
      have HF : Hid (Q = q4) := hid (by rw [HQK.out]; simp [*])
      go_wp2_with fail
      go_ret
      exact ⟨by rw [HF.out]; rfl, HBw4.out⟩
 have hk4b : (k == 4) = false := beq_eq_false_iff_ne.2 hk4
 have HQK : Hid (Q = false) := hid (by
  rw [← HQ.out]
  unfold fitT
  rw [if_neg hk1, if_neg hk2, if_neg hk3, if_neg hk4, Bool.and_false])
 rcases hbare with hA | ⟨hA, hB⟩ | ⟨hA, hB⟩
 all_goals
  go_enter Tryz.func29, Tryz.ntmps29
  go_wp2_with fail
  go_ret
  exact ⟨by rw [HQK.out]; rfl, Below.refl _ _⟩
mutual
def ShortN : Tr → Prop
 | .mk k n t ats ks => Shorts (.mk k n t ats ks) ∧ ShortL ks
def ShortL : List Tr → Prop
 | [] => True
 | t :: ts => ShortN t ∧ ShortL ts
end
theorem short_mk (k : Int) (n t : List UInt8) (ats : List (List UInt8 × List UInt8)) (ks : List Tr) : ShortN (.mk k n t ats ks) = (Shorts (.mk k n t ats ks) ∧ ShortL ks) := by rw [ShortN]
theorem shortL_app : ∀ a b : List Tr, ShortL (a ++ b) ↔ ShortL a ∧ ShortL b
 | [], b => ⟨fun h => ⟨trivial, h⟩, fun h => h.2⟩
 | t :: a, b => by
  rw [List.cons_append, ShortL, ShortL, shortL_app a b, and_assoc]
theorem fairL_one (t : Tr) : fairL [t] = fairT t := by rw [fairL, fairL, Bool.and_true]
set_option maxRecDepth 100000 in
theorem pfair_calls {w : World} {r : Nr} {t : Tr} (h : NodeIn w Any r t) (hm : t.count ≤ 1000000) (hsh : ShortN t) (hE : EnvAt w) : Calls Tryz.prog 12 #[nodeV r] w (Leaves (.bool (fairT t)) w) := by
 obtain ⟨Q, hQ⟩ : ∃ Q, fairT t = Q := ⟨_, rfl⟩
 rw [hQ]
 have HQ : Hid (fairL [t] = Q) := hid (by rw [fairL_one]; exact hQ)
 obtain ⟨T, hT⟩ : ∃ T, t.count = T := ⟨_, rfl⟩
 have HT : Hid (cntL [t] = T) := hid (by rw [cntL_one]; exact hT)
 have HM : Hid (T ≤ 1000000) := hid (by omega)
 have HSH : Hid (ShortL [t]) := hid ⟨hsh, trivial⟩
 obtain ⟨k, n, x, av, kv⟩ := r
 obtain ⟨sn, hsn⟩ : ∃ s, strB n = s := ⟨_, rfl⟩
 obtain ⟨st, hst⟩ : ∃ s, strB x = s := ⟨_, rfl⟩
 obtain ⟨w0, hw0⟩ : ∃ W, w.alloc (.cells #[.int .i64 k, .string sn, .string st, av, kv] 25) = W := ⟨_, rfl⟩
 have hb0 : Below w.heap.size w w0 := by rw [← hw0]; exact (Below.refl _ _).alloc (Nat.le_refl _) _
 have hbk : w0.heap[w.heap.size]? = some (.cells #[.int .i64 k, .string sn, .string st, av, kv] 25 (0, 0)) := by rw [← hw0]; exact heap_alloc_new w _
 have hnr : NrIn w0 w.heap.size 0 ⟨k, n, x, av, kv⟩ := ⟨(cell_of_block hbk 0).trans rfl, (cell_of_block hbk 1).trans (by rw [← hsn]; rfl), (cell_of_block hbk 2).trans (by rw [← hst]; rfl), (cell_of_block hbk 3).trans rfl, (cell_of_block hbk 4).trans rfl⟩
 have HPT : Hid (PtrsIn w0 Any [⟨w.heap.size, 0, none⟩] [t]) := hid ⟨⟨_, _, _, rfl, trivial, hnr, h.keep (keeps_below hb0 Non) (fun _ _ h => h) (fun _ h => h)⟩, trivial⟩
 have HE0 := hid (hE.below hb0)
 have HB0 := hid hb0
 have HW0 := hid hw0
 have HSZ : Hid (w0.heap.size = w.heap.size + 1) := hid (by rw [← hw0]; simp)
 unfold nodeV
 dsimp only
 rw [hsn, hst]
 clear h hm hT hbk hnr hsn hst hb0 hw0 hsh hE hQ
 go_enter Tryz.func12, Tryz.ntmps12
 go_wp2_with fail
 rw [HW0.out]
 have HP0 := hid (PRow.one (w := w0) (p := ⟨w.heap.size, 0, none⟩))
 have HBA : Hid (Below w0.heap.size w0 (w0.alloc (.cells #[.pointer (some ⟨w.heap.size, 0, none⟩)] 56))) := hid ((Below.refl _ _).alloc (Nat.le_refl _) _)
 go_loopg [3] T (fun g0 s4 wr => ∃ (ps : List Addr) (ts : List Tr), cntL ts = g0 ∧ g0 ≤ T ∧ fairL ts = Q ∧ ShortL ts ∧ PRow wr w0.heap.size s4 ps ∧ PtrsIn w0 Any ps ts ∧ Below w0.heap.size w0 wr)
 case atStart => exact ⟨_, _, HT.out, Nat.le_refl _, HQ.out, HSH.out, (by rw [← HSZ.out]; exact HP0.out), HPT.out, HBA.out⟩
 case round =>
  obtain ⟨ps, ts, hcg, hct, hfq, hshl, hp, hpt, hb⟩ := hrel
  have HP := hid hp
  have HB := hid hb
  have HPS := hid hpt
  have HCG := hid hcg
  have HCT := hid hct
  have HFQ := hid hfq
  have HSL := hid hshl
  clear hp hb hpt hcg hct hfq hshl
  by_cases hps : ps = []
  ·subst hps
   have hts : ts = [] := List.length_eq_zero_iff.1 HPS.out.len.symm
   have HF : Hid (Q = true) := hid (by rw [← HFQ.out, hts, fairL])
   obtain ⟨a, cc, rfl⟩ := HP.out.form0
   clear hts
   go_wp2_with fail
   go_ret
   exact ⟨by rw [HF.out]; rfl, HB0.out.trans (HB.out.mono HB0.out.size)⟩
  ·obtain ⟨ps', p, ts', t', e1, e2, hpt2, hp2⟩ := HPS.out.last hps
   subst e1
   subst e2
   obtain ⟨g, cc, hv, hcc, hcm, hgl, hgn, hcell0⟩ := HP.out.formN hps
   rw [List.length_append] at hv hcc
   have hcell := hcell0 ps'.length p (by simp)
   clear hcell0
   subst hv
   obtain ⟨l, hl⟩ : ∃ l, ps'.length = l := ⟨_, rfl⟩
   have HP2 : Hid (PRow wr w0.heap.size (.slice (some ⟨g, 0, none⟩) l cc) ps') := hid ⟨by
    have h1 := HP.out.row
    rw [List.length_append] at h1
    have h2 := ptr_drop h1
    rw [hl] at h2 ⊢
    exact h2, HP.out.new⟩
   rw [hl] at hcell hcc ⊢
   have hc1 := HCG.out
   rw [cntL_app, cntL_one] at hc1
   obtain ⟨b, o, r2, rfl, _, hnr, hnd⟩ := hp2
   have hnrw := hnr.keep (keeps_below HB.out Non) (fun h => h)
   have hndw : NodeIn wr Any r2 t' := hnd.keep (keeps_below HB.out Non) (fun _ _ h => h) (fun _ h => h)
   have hsl := HSL.out
   rw [shortL_app] at hsl
   have HFQ2 := HFQ.out
   obtain ⟨q0, q1, q2, q3, q4⟩ := t'
   rw [fair_step] at HFQ2
   have hsx : ShortN (.mk q0 q1 q2 q3 q4) := hsl.2.1
   rw [short_mk] at hsx
   have HSL2 : Hid (ShortL (ts' ++ q4)) := hid ((shortL_app _ _).2 ⟨hsl.1, hsx.2⟩)
   have HFIT := hid (pfits_calls hnrw hndw hsx.1 (HE0.out.below HB.out))
   obtain ⟨_, _, _, _, rows, hri, hni⟩ := hnd.kids
   obtain ⟨ka, kc, hkv, hkc, hkm, hkp⟩ := kids_form hri hni
   change r2.kv = .slice ka q4.length kc at hkv
   change q4.length ≤ kc at hkc
   change q4 = [] ∨ _ at hkp
   have hkl : q4.length ≤ cntL q4 := cntL_len _
   have hcl := cntL_len (ts' ++ [.mk q0 q1 q2 q3 q4])
   rw [HCG.out] at hcl
   have hpl : l + 1 = (ts' ++ [Tr.mk q0 q1 q2 q3 q4]).length := by
    have h1 := HPS.out.len
    rw [List.length_append, hl] at h1
    exact h1
   have hcnt2 : (Tr.mk q0 q1 q2 q3 q4).count = 1 + q3.length + cntL q4 := count_mk ..
   obtain ⟨fq, hfq⟩ : ∃ q, fitT q0 q1 q2 q3 q4 = q := ⟨_, rfl⟩
   change Hid (Calls _ _ _ _ (Leaves (.bool (fitT q0 q1 q2 q3 q4)) wr)) at HFIT
   rw [hfq] at HFIT HFQ2
   have HFQ3 := hid HFQ2
   obtain ⟨nk, hnk⟩ : ∃ nk, q4.length = nk := ⟨_, rfl⟩
   rw [hnk] at hkv hkl
   obtain ⟨b2, o2, hk1, hk2⟩ : ∃ b2 o2, (nk = 0 ∨ ka = some ⟨b2, o2, none⟩) ∧ PtrsIn w0 Any (kidPs b2 o2 nk) q4 := by
    rcases hkp with h0 | ⟨b2, o2, h1, h2⟩
    ·exact ⟨0, 0, .inl (by rw [← hnk, h0]; rfl), by rw [h0] at hnk ⊢; rw [← hnk]; exact trivial⟩
    ·exact ⟨b2, o2, .inr h1, by rw [← hnk]; exact h2⟩
   have HNR : Hid (NrIn w0 b o r2) := hid hnr
   have HKV := hid hkv
   have HK1 := hid hk1
   have HK2 := hid hk2
   have HPT2 := hid hpt2
   have HBD : Hid (nk ≤ 1000000 ∧ (l ≤ 1000000 ∧ ps'.length ≤ 1000000) ∧ cntL (ts' ++ q4) < gk ∧ cntL (ts' ++ q4) ≤ T) := hid (by
    have h1 := HCT.out
    have h2 := HM.out
    have h3 : cntL (ts' ++ q4) = cntL ts' + cntL q4 := cntL_app ..
    omega)
   have hgt : (0 : Int) < (l : Int) + 1 := by omega
   have hsub : IntKind.i64.wrap (l : Int) = (l : Int) := IntWalk.i64_in _ (by have := HBD.out; omega)
   have hl0 : (0 : Int) ≤ (l : Int) := by omega
   have hll : (l : Int) < (l : Int) + 1 := by omega
   have hlc : (l : Int) ≤ (cc : Int) := by omega
   clear hnr hnd hri hni hkc hkm hkp hkl hpl hcl hcnt2 hpt2 hk1 hk2 hc1 hcm hgl hgn hps hnk hkv hl hsl hsx hnrw hndw HFQ2 hfq
   go_wp2_with fail
   with_reducible refine HFIT.out.mono ?_
   rintro e wf ⟨rfl, hbf⟩
   have HBF := hid (below_then HB.out hbf)
   have HPF := hid (HP2.out.below hbf)
   clear hbf hcell
   cases fq with
   | false =>
    have HF : Hid (Q = false) := hid (by rw [← HFQ3.out]; rfl)
    go_wp2_with fail
    go_ret
    exact ⟨by rw [HF.out]; rfl, HB0.out.trans (HBF.out.mono HB0.out.size)⟩
   | true =>
    have HFQ4 : Hid (fairL (ts' ++ q4) = Q) := hid (by rw [← HFQ3.out]; rfl)
    obtain ⟨y0, y1, y2, y3, y4⟩ := HNR.out.keep (keeps_below HBF.out Non) (fun h => h)
    rw [HKV.out] at y4
    go_wp2_with fail
    go_loopg [3, 29] nk (fun g2 s4 s35 wz => ∃ i : Nat, i + g2 = nk ∧ s35 = .int .i64 (i : Int) ∧ PRow wz w0.heap.size s4 (ps' ++ kidPs b2 o2 i) ∧ Below w0.heap.size w0 wz)
    case atStart => exact ⟨0, by omega, rfl, by rw [kidPs, List.append_nil]; exact HPF.out, HBF.out⟩
    case round =>
     obtain ⟨i, hig, rfl, hq, hbz⟩ := hrel
     have HQ := hid hq
     have HBZ := hid hbz
     clear hq hbz
     cases gk with
     | zero =>
      obtain rfl : i = nk := by omega
      have hge : ¬ ((i : Int) < (i : Int)) := by omega
      go_wp2_with fail
      go_roundg (cntL (ts' ++ q4))
      case measure => exact HBD.out.2.2.1
      case rel => exact ⟨_, ts' ++ q4, rfl, HBD.out.2.2.2, HFQ4.out, HSL2.out, HQ.out, HPT2.out.app HK2.out, HBZ.out⟩
     | succ g2 =>
      have hlt : (i : Int) < (nk : Int) := by omega
      have hi0 : (0 : Int) ≤ (i : Int) := by omega
      have hadd : IntKind.i64.wrap ((i : Int) + 1) = ((i + 1 : Nat) : Int) := IntWalk.i64_in _ (by have := HBD.out; omega)
      obtain rfl : ka = some ⟨b2, o2, none⟩ := by
       rcases HK1.out with h1 | h1
       ·omega
       ·exact h1
      obtain ⟨_, _, _, _, y4⟩ := HNR.out.keep (keeps_below HBZ.out Non) (fun h => h)
      rw [HKV.out] at y4
      obtain ⟨x1, hx1⟩ : ∃ W, wr.alloc (.cells #[.pointer (some ⟨b2, o2 + i * 5, none⟩)] 56) = W := ⟨_, rfl⟩
      have hb1 : Below wr.heap.size wr x1 := by rw [← hx1]; exact (Below.refl _ _).alloc (Nat.le_refl _) _
      have hp1 : x1.heap[wr.heap.size]? = some (.cells #[.pointer (some ⟨b2, o2 + i * 5, none⟩)] 56 (0, 0)) := by rw [← hx1]; exact heap_alloc_new wr _
      have hkl : (kidPs b2 o2 i).length = i := kidPs_len _ _ _
      obtain ⟨v3, x2, hrun, hp3, hk3⟩ := (HQ.out.below hb1).append (Nat.le_trans HBZ.out.size hb1.size) (b := ⟨wr.heap.size, 0, none⟩) (c := 1) (qs := [⟨b2, o2 + i * 5, none⟩]) (fun j q hj => by
       match j, hj with
       | 0, hj =>
        rw [Addr.add_mid, cell_of_block hp1 0, ← Option.some.inj hj]
        rfl
       | j + 1, hj => simp at hj) (by rw [List.length_append, hkl]; have := HBD.out; show _ + 1 ≤ _; omega)
      have HRUN := hid hrun
      have HP3 : Hid (PRow x2 w0.heap.size v3 (ps' ++ kidPs b2 o2 (i + 1))) := hid (by rw [kidPs_snoc, ← List.append_assoc]; exact hp3)
      have HB3 := hid ((HBZ.out.trans (hb1.mono HBZ.out.size)).trans (hk3.toBelow (Nat.le_trans HBZ.out.size hb1.size) (fun k e => HQ.out.new k e)))
      clear hb1 hp1 hrun hp3 hk3 hkl
      go_wp2_with (at_builtin; (try rw [hx1]); refine wpList_step (fun K hK => step_append rfl (.tmp 32) (.tmp 39) _ _ rfl _ _ _ rfl rfl HRUN.out (hK _ _ ?_)))
      go_roundg g2
      case measure => omega
      case rel => exact ⟨i + 1, by omega, rfl, HP3.out, HB3.out⟩
end Go.Proofs.YtjpkkflhcjjefaaGreatDoor
