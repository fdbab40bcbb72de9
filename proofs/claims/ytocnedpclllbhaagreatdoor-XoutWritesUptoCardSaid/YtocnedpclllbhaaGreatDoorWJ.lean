/-
 Whether XML has a text, whether it can be read as it is, whether an instruction may have a name, whether two texts are beside each other. Conditions: the laid variables hold what their initialisers lay; texts are no longer than 2 to the 30.
-/
import Derived.Test.YtocnedpclllbhaaGreatDoorWI
import Derived.Lib.ConvBytes
import Derived.Maps.OwnOps
import Derived.Maps.Views
import Derived.Maps.Keyed
namespace Go.Proofs.YtocnedpclllbhaaGreatDoor
open Go.RowKit Go.Lib Go.Joins

theorem phas_calls {w : World} (l : List UInt8) (hl : l.length ≤ 1073741824) (hL : Laid w) : Calls Tryz.prog 40 #[.string (strB l)] w (Leaves (.bool (hasB l)) w) := by
  obtain ⟨s, hs⟩ : ∃ s, strB l = s := ⟨_, rfl⟩
  have hsz : s.size = l.length := by rw [← hs]; rfl
  have hdl : s.data.toList = l := by rw [← hs]; rfl
  have hconv := Lib.run_convert_string_bytes (P := Tryz.prog) w 9 53 5 s Tryz.underlying9 Tryz.underlying53 Tryz.underlying5
  have hb0 := bytesWorld_below w s
  have hrow : Row8 (bytesWorld w 5 s) (some ⟨w.heap.size, 0, none⟩) s.size (fs s.data.toList) :=
    ⟨fs_lt _, by omega, Or.inr ⟨_, _, rfl, fun i hi => by rw [Nat.zero_add]; exact bytesWorld_cell w 5 s i hi⟩⟩
  have hc1 := grownCap_ge w s.size 0 5
  have hc2 := grownCap_le_maxLen w s.size 0 5 (by unfold maxLen; omega)
  obtain ⟨W1, hW1⟩ : ∃ W1, bytesWorld w 5 s = W1 := ⟨_, rfl⟩
  obtain ⟨cap, hcap⟩ : ∃ cap, grownCap w s.size 0 5 = cap := ⟨_, rfl⟩
  rw [hW1] at hconv hb0 hrow
  rw [hcap] at hconv hc1 hc2
  have HBAD := Lib.hid (bad_calls (some ⟨w.heap.size, 0, none⟩) s.size cap (fs s.data.toList) W1 (hL.below hb0) hc1 (by unfold maxLen at hc2; omega) hrow (by omega))
  have HQ : Hid (hasB l = decide (badZ (fs s.data.toList) s.size < 0)) := Lib.hid (by rw [hdl, hsz]; rfl)
  have HB0 := Lib.hid hb0
  obtain ⟨q, hq⟩ : ∃ q, badZ (fs s.data.toList) s.size = q := ⟨_, rfl⟩
  rw [hq] at HBAD HQ
  rw [HQ.out, hs]
  clear hL hl hs hdl hsz hrow hc1 hc2 hW1 hcap hb0 hq
  go_enter Tryz.func40, Tryz.ntmps40
  go_wp2_with fail
  with_reducible refine HBAD.out.mono ?_
  rintro e w2 ⟨rfl, hb2⟩
  have HB2 := Lib.hid (below_then HB0.out hb2)
  clear hb2
  go_wp2_with fail
  go_ret
  exact ⟨rfl, HB2.out⟩
theorem contains_cut {m : List UInt8} (hm : m ≠ []) (s : List UInt8) : Lib.contains s m = !(cutS m s).isNone := by
  unfold Lib.contains
  rw [index_cutS m hm]
  cases cutS m s with
  | none => rfl
  | some q => simp
theorem pcontains_calls {w : World} (ss ms : ByteArray) (s m : List UInt8) (hs : ss.data.toList = s) (hm : ms.data.toList = m) (hm0 : m ≠ []) (hl : s.length ≤ 1073741900) (hx : MaxLen w) : Calls Tryz.prog 42 #[.string ss, .string ms] w (Leaves (.bool (!(cutS m s).isNone)) w) := by
  obtain ⟨mx, hmx⟩ := hx
  have hsz : ss.size = s.length := by rw [Lib.size_eq, hs]
  refine (Tryz.strings_Contains ss ms mx w (by omega) hmx).mono ?_
  rintro e w' ⟨rfl, rfl⟩
  rw [hs, hm, contains_cut hm0]
  exact ⟨rfl, Below.refl _ _⟩
theorem pverbatim_calls {w : World} (l : List UInt8) (hl : l.length ≤ 1073741824) (hE : EnvAt w) : Calls Tryz.prog 41 #[.string (strB l)] w (Leaves (.bool (hasB l && !l.contains 13)) w) := by
  have HH := Lib.hid (phas_calls l hl hE.laid)
  have HC := Lib.hid (fun W (hW : MaxLen W) => pcontains_calls (w := W) (strB l) ⟨#[13]⟩ l [13] rfl rfl (by decide) (by omega) hW)
  have hcr := cut_cr l
  obtain ⟨q, hq⟩ : ∃ q, hasB l = q := ⟨_, rfl⟩
  obtain ⟨p, hp⟩ : ∃ p, (cutS [13] l).isNone = p := ⟨_, rfl⟩
  obtain ⟨s, hs⟩ : ∃ s, strB l = s := ⟨_, rfl⟩
  rw [hq] at HH
  rw [hp] at HC hcr
  rw [hq, ← hcr]
  rw [hs] at HH HC ⊢
  have HM := Lib.hid hE.mx
  clear hE hq hp hs hcr hl
  go_enter Tryz.func41, Tryz.ntmps41
  go_wp2_with fail
  with_reducible refine HH.out.mono ?_
  rintro e w2 ⟨rfl, hb2⟩
  have HB2 := Lib.hid hb2
  have HC2 := Lib.hid (HC.out w2 (HM.out.below hb2))
  clear hb2 HC HH
  cases q with
  | false =>
    go_wp2_with fail
    go_ret
    exact ⟨rfl, HB2.out⟩
  | true =>
    go_wp2_with fail
    with_reducible refine HC2.out.mono ?_
    rintro e w3 ⟨rfl, hb3⟩
    have HB3 := Lib.hid (below_then HB2.out hb3)
    clear hb3
    go_wp2_with fail
    go_ret
    exact ⟨by simp, HB3.out⟩
theorem ptarget_calls {w : World} (l : List UInt8) (hl : l.length ≤ 1073741824) (hE : EnvAt w) : Calls Tryz.prog 43 #[.string (strB l)] w (Leaves (.bool (nameW l && !sameS l [120, 109, 108])) w) := by
  have hsz : (strB l).size = l.length := rfl
  have HH := uname_calls (strB l) w (by omega) hE.laid
  rw [show (strB l).data.toList = l from rfl, nameP_eq] at HH
  have HH := Lib.hid HH
  have HC : Hid (∀ W, EnvAt W → Calls Tryz.prog 64 #[.string (strB l), .string ⟨#[120, 109, 108]⟩] W (Leaves (.bool (sameS l [120, 109, 108])) W)) := Lib.hid (fun W hW => fold_calls (strB l) [120, 109, 108] (.inl rfl) W hW (by omega))
  obtain ⟨q, hq⟩ : ∃ q, nameW l = q := ⟨_, rfl⟩
  obtain ⟨p, hp⟩ : ∃ p, sameS l [120, 109, 108] = p := ⟨_, rfl⟩
  obtain ⟨s, hs⟩ : ∃ s, strB l = s := ⟨_, rfl⟩
  rw [hq] at HH
  rw [hp] at HC
  rw [hq, hp]
  rw [hs] at HH HC ⊢
  have HE := Lib.hid hE
  clear hE hq hp hs hl hsz
  go_enter Tryz.func43, Tryz.ntmps43
  go_wp2_with fail
  with_reducible refine HH.out.mono ?_
  rintro e w2 ⟨rfl, hb2⟩
  have HB2 := Lib.hid hb2
  have HC2 := Lib.hid (HC.out w2 (HE.out.below hb2))
  clear hb2 HC HH
  cases q with
  | false =>
    go_wp2_with fail
    go_ret
    exact ⟨rfl, HB2.out⟩
  | true =>
    go_wp2_with fail
    with_reducible refine HC2.out.mono ?_
    rintro e w3 ⟨rfl, hb3⟩
    have HB3 := Lib.hid (below_then HB2.out hb3)
    clear hb3
    go_wp2_with fail
    go_ret
    exact ⟨by simp, HB3.out⟩
set_option maxRecDepth 100000 in
set_option maxHeartbeats 2000000 in
theorem ptouch_calls {w : World} {S : Nat → Prop} {v : Value} {rows : List Nr} {ks : List Tr} (h : RowIn w S v rows) (hk : rows.map (fun r => r.kind) = ks.map Tr.kind) : Calls Tryz.prog 39 #[v] w (Leaves (.bool (touchB ks)) w) := by
  obtain ⟨a, c, rfl, hc, hm, _, hcell⟩ := h
  obtain ⟨n, hn⟩ : ∃ n, rows.length = n := ⟨_, rfl⟩
  have hn2 : ks.length = n := by have := congrArg List.length hk; rw [List.length_map, List.length_map] at this; omega
  rw [hn] at hc ⊢
  have HN := Lib.hid hn
  have HN2 := Lib.hid hn2
  have HK := Lib.hid hk
  have HCL := Lib.hid hcell
  obtain ⟨Q, hQ⟩ : ∃ Q, touchB ks = Q := ⟨_, rfl⟩
  rw [hQ]
  have HQ := Lib.hid hQ
  have HMX : Hid (n ≤ maxLen) := Lib.hid (by omega)
  clear hn hn2 hk hcell hQ hc hm
  go_enter Tryz.func39, Tryz.ntmps39
  go_wp2_with fail
  go_loopg [3] n (fun g s wr => ∃ j : Nat, s = .int .i64 ((j : Int) + 1) ∧ n ≤ g + j ∧ wr = w ∧ ∀ i t u, i < j → ks[i]? = some t → ks[i + 1]? = some u → ¬ (t.kind = 2 ∧ u.kind = 2))
  case atStart => exact ⟨0, rfl, by omega, rfl, fun i t u h => absurd h (Nat.not_lt_zero _)⟩
  case round =>
    obtain ⟨j, rfl, hg, rfl, hno⟩ := hrel
    have HNO := Lib.hid hno
    clear hno
    by_cases hj : j + 1 < n
    · obtain ⟨g, rfl⟩ : ∃ g, gk = g + 1 := ⟨gk - 1, by omega⟩
      have hji : (j : Int) + 1 < (n : Int) := by omega
      have hw1 : IntKind.i64.wrap (j : Int) = (j : Int) := IntWalk.i64_in _ (by have := HMX.out; unfold maxLen at this; omega)
      have hw2 : IntKind.i64.wrap ((j : Int) + 1 + 1) = (((j + 1 : Nat) : Int) + 1) := by rw [IntWalk.i64_in _ (by have := HMX.out; unfold maxLen at this; omega)]; omega
      have h0 : (0 : Int) ≤ (j : Int) := by omega
      have h1 : (0 : Int) ≤ (j : Int) + 1 := by omega
      have h2 : (j : Int) < (n : Int) := by omega
      obtain ⟨r1, hr1⟩ : ∃ r, rows[j]? = some r := ⟨_, List.getElem?_eq_getElem (by rw [HN.out]; omega)⟩
      obtain ⟨r2, hr2⟩ : ∃ r, rows[j + 1]? = some r := ⟨_, List.getElem?_eq_getElem (by rw [HN.out]; omega)⟩
      obtain ⟨t1, ht1⟩ : ∃ r, ks[j]? = some r := ⟨_, List.getElem?_eq_getElem (by rw [HN2.out]; omega)⟩
      obtain ⟨t2, ht2⟩ : ∃ r, ks[j + 1]? = some r := ⟨_, List.getElem?_eq_getElem (by rw [HN2.out]; omega)⟩
      have hk1 : r1.kind = t1.kind := by
        have h := congrArg (fun l => l[j]?) HK.out
        simp only [List.getElem?_map, hr1, ht1, Option.map_some, Option.some.injEq] at h
        exact h
      have hk2 : r2.kind = t2.kind := by
        have h := congrArg (fun l => l[j + 1]?) HK.out
        simp only [List.getElem?_map, hr2, ht2, Option.map_some, Option.some.injEq] at h
        exact h
      rcases HCL.out with h0 | ⟨b, o, rfl, _, hcell⟩
      · rw [h0] at hr1; simp at hr1
      have c1 := (hcell j r1 hr1).1
      have c2 := (hcell (j + 1) r2 hr2).1
      rw [hk1] at c1
      rw [hk2] at c2
      obtain ⟨k1, hk1⟩ : ∃ k, t1.kind = k := ⟨_, rfl⟩
      obtain ⟨k2, hk2⟩ : ∃ k, t2.kind = k := ⟨_, rfl⟩
      rw [hk1] at c1
      rw [hk2] at c2
      have HT1 := Lib.hid (And.intro ht1 hk1)
      have HT2 := Lib.hid (And.intro ht2 hk2)
      clear hcell hr1 hr2 ht1 ht2 hk1 hk2
      by_cases e1 : k1 = 2
      · have e1b : (k1 == 2) = true := by rw [e1]; rfl
        by_cases e2 : k2 = 2
        · have e2b : (k2 == 2) = true := by rw [e2]; rfl
          have HF : Hid (Q = true) := Lib.hid (by
            rw [← HQ.out, touch_at]
            exact ⟨j, t1, t2, HT1.out.1, HT2.out.1, HT1.out.2.trans e1, HT2.out.2.trans e2⟩)
          go_wp2_with fail
          go_ret
          exact ⟨by rw [HF.out]; rfl, Below.refl _ _⟩
        · have e2b : (k2 == 2) = false := beq_eq_false_iff_ne.2 e2
          have HE2 := Lib.hid e2
          go_wp2_with fail
          go_roundg g
          case measure => omega
          case rel => exact ⟨j + 1, rfl, by omega, rfl, fun i t u hi h3 h4 h5 => by
            by_cases hij : i < j
            · exact HNO.out i t u hij h3 h4 h5
            · obtain rfl : i = j := by omega
              rw [HT2.out.1] at h4
              exact HE2.out (by rw [← HT2.out.2, Option.some.inj h4]; exact h5.2)⟩
      · have e1b : (k1 == 2) = false := beq_eq_false_iff_ne.2 e1
        have HE1 := Lib.hid e1
        go_wp2_with fail
        go_roundg g
        case measure => omega
        case rel => exact ⟨j + 1, rfl, by omega, rfl, fun i t u hi h3 h4 h5 => by
          by_cases hij : i < j
          · exact HNO.out i t u hij h3 h4 h5
          · obtain rfl : i = j := by omega
            rw [HT1.out.1] at h3
            exact HE1.out (by rw [← HT1.out.2, Option.some.inj h3]; exact h5.1)⟩
    · have hji : ¬ ((j : Int) + 1 < (n : Int)) := by omega
      have HF : Hid (Q = false) := Lib.hid (by
        rw [← HQ.out, ← Bool.not_eq_true, touch_at]
        rintro ⟨i, t, u, h3, h4, h5, h6⟩
        have h7 := (List.getElem?_eq_some_iff.1 h4).1
        exact HNO.out i t u (by have := HN2.out; omega) h3 h4 ⟨h5, h6⟩)
      go_wp2_with fail
      go_ret
      exact ⟨by rw [HF.out]; rfl, Below.refl _ _⟩

theorem keyLaw : Maps.Keyed Tryz.prog 9 := Maps.string_keyed Tryz.underlying9
theorem zeroI (w : World) : (zeroValue 3).run Tryz.prog w = .ok (.int .i64 0) w := by kernel_rfl
theorem ownsMap_keep {H : Type} {w w' : World} {P : Program} {k : TypeId} {R : Value → Option (DataW H × List MemPlace)} {b n : Nat} {D : DataW H} (h : w.ownsMap P k R b n D) (hb : w'.heap[b]? = w.heap[b]?) : w'.ownsMap P k R b n D := by
  obtain ⟨es, clock, h1, h2⟩ := h
  exact ⟨es, clock, hb.trans h1, h2⟩
theorem ownsMap_lt {H : Type} {w : World} {P : Program} {k : TypeId} {R : Value → Option (DataW H × List MemPlace)} {b n : Nat} {D : DataW H} (h : w.ownsMap P k R b n D) : b < w.heap.size := by
  obtain ⟨es, clock, h1, _⟩ := h
  exact lt_of_block h1
/-- A map that holds 1 at each of these texts, and nothing else. -/
def Seen (D : DataW Unit) (ks : List (List UInt8)) : Prop := Maps.IsMap D ∧ ∀ x : List UInt8, D.atKey (.string x) (.lit (.int .i64 0)) = .lit (.int .i64 (if ks.contains x = true then 1 else 0))
theorem Seen.nil : Seen (.map []) [] := ⟨⟨_, rfl⟩, fun _ => rfl⟩
theorem Seen.snoc {D : DataW Unit} {ks : List (List UInt8)} {x : List UInt8} (h : Seen D ks) : Seen (D.put (.string x) (.lit (.int .i64 1))) (ks ++ [x]) := by
  refine ⟨h.1.put _ _, fun y => ?_⟩
  by_cases hy : y = x
  · subst hy
    rw [Maps.atKey_put_same h.1 (k := .string y) trivial, if_pos (by simp)]
  · have hne : (Lit.string y) ≠ Lit.string x := fun e => hy (Lit.string.inj e)
    have hc : (ks ++ [x]).contains y = ks.contains y := by
      rw [Bool.eq_iff_iff]
      simp [hy]
    rw [Maps.atKey_put_other hne, h.2 y, hc]
set_option maxRecDepth 100000 in
set_option maxHeartbeats 8000000 in
theorem pattrs_calls {w : World} {S : Nat → Prop} {v : Value} {l : List (List UInt8 × List UInt8)} (h : AttIn w S v l) (hf : ∀ a ∈ l, a.1.length ≤ 1073741823 ∧ a.2.length ≤ 1073741823) (hE : EnvAt w) : Calls Tryz.prog 38 #[v] w (Leaves (.bool (attrsW [] l)) w) := by
  have hmm := @run_makeMap Tryz.prog
  obtain ⟨a, c, rfl, hc, hm, _, hcell⟩ := h
  obtain ⟨n, hn⟩ : ∃ n, l.length = n := ⟨_, rfl⟩
  rw [hn] at hc ⊢
  have HN := Lib.hid hn
  have HCL := Lib.hid hcell
  have HFW := Lib.hid hf
  have HE := Lib.hid hE
  have hn64 : n ≤ 9223372036854775807 := by unfold maxLen at hm; omega
  have HMK : Hid (n ≤ maxLen) := Lib.hid (by omega)
  obtain ⟨Q, hQ⟩ : ∃ Q, attrsW [] l = Q := ⟨_, rfl⟩
  rw [hQ]
  have HQ : Hid (Q = attrsW ((l.take 0).map Prod.fst) (l.drop 0)) := Lib.hid hQ.symm
  obtain ⟨W1, hW1⟩ : ∃ W1, w.alloc (.map #[] 0) = W1 := ⟨_, rfl⟩
  have hmb : W1.ownsMap Tryz.prog 9 (plainElem (H := Unit) Tryz.prog 3) w.heap.size 0 (.map []) := by
    have := World.ownsMap_made (H := Unit) w Tryz.prog 9 (plainElem Tryz.prog 3)
    rw [hW1] at this
    exact this
  have hb1 : Below w.heap.size w W1 := by rw [← hW1]; exact (Below.refl _ _).alloc (Nat.le_refl _) _
  have HMB := Lib.hid hmb
  have HB1 := Lib.hid hb1
  clear hn hcell hf hE hQ hc hm hmb hb1
  go_enter Tryz.func38, Tryz.ntmps38
  go_wp2_with fail
  go_loopg [9] n (fun gk i wr => ∃ (j : Nat) (D : DataW Unit), i = .int .i64 (j : Int) ∧ gk + j = n ∧ wr.ownsMap Tryz.prog 9 (plainElem (H := Unit) Tryz.prog 3) w.heap.size j D ∧ Seen D ((l.take j).map Prod.fst) ∧ Q = attrsW ((l.take j).map Prod.fst) (l.drop j) ∧ Below w.heap.size w wr)
  case atStart => exact ⟨0, .map [], rfl, rfl, HMB.out, Seen.nil, HQ.out, HB1.out⟩
  case round =>
    obtain ⟨j, D, rfl, hg, hmap, hseen, hq, hb⟩ := hrel
    have HG := Lib.hid hg
    have HQ2 := Lib.hid hq
    have HB := Lib.hid hb
    have HSEEN := Lib.hid hseen
    clear hg hq hb HQ hW1 hseen HMB HB1
    by_cases hlt : j < n
    · obtain ⟨g', rfl⟩ : ∃ g', gk = g' + 1 := ⟨gk - 1, by have := HG.out; omega⟩
      have hji : (j : Int) < (n : Int) := by omega
      have hj0 : (0 : Int) ≤ (j : Int) := by omega
      have hadd : IntKind.i64.wrap ((j : Int) + 1) = ((j + 1 : Nat) : Int) := IntWalk.i64_in _ (by omega)
      obtain ⟨x, hx⟩ : ∃ x, l[j]? = some x := ⟨l[j]'(by rw [HN.out]; exact hlt), List.getElem?_eq_getElem _⟩
      rcases HCL.out with h0 | ⟨b, o, rfl, _, hcell⟩
      · rw [h0] at hx; simp at hx
      obtain ⟨c1, c2⟩ := hcell j x hx
      replace c1 := (HB.out.cell (lt_of_cell c1)).trans c1
      replace c2 := (HB.out.cell (lt_of_cell c2)).trans c2
      obtain ⟨hx1, hx2⟩ := HFW.out x (List.mem_of_getElem? hx)
      have hst : attrsW ((l.take j).map Prod.fst) (l.drop j) = (!((l.take j).map Prod.fst).contains x.1 && nameW x.1 && hasB x.2 && attrsW ((l.take (j + 1)).map Prod.fst) (l.drop (j + 1))) := by
        have hd : l.drop j = x :: l.drop (j + 1) := by
          obtain ⟨h1, h2⟩ := List.getElem?_eq_some_iff.1 hx
          rw [List.drop_eq_getElem_cons h1, h2]
        have htk : l.take (j + 1) = l.take j ++ [x] := by
          obtain ⟨h1, h2⟩ := List.getElem?_eq_some_iff.1 hx
          rw [List.take_succ_eq_append_getElem h1, h2]
        rw [hd, attrsW, htk, List.map_append]
        rfl
      have HSN : Hid (Seen (D.put (.string x.1) (.lit (.int .i64 1))) ((l.take (j + 1)).map Prod.fst)) := Lib.hid (by
        have htk : l.take (j + 1) = l.take j ++ [x] := by
          obtain ⟨h1, h2⟩ := List.getElem?_eq_some_iff.1 hx
          rw [List.take_succ_eq_append_getElem h1, h2]
        rw [htk, List.map_append]
        exact HSEEN.out.snoc)
      have hcn := HSEEN.out.2 x.1
      have HNM : Hid (∀ W, Below w.heap.size w W → Calls Tryz.prog 37 #[.string (strB x.1)] W (Leaves (.bool (nameW x.1)) W)) := Lib.hid (fun W hW => by
        have h1 := uname_calls (strB x.1) W (by rw [strB_size]; omega) (HE.out.below hW).laid
        rw [show (strB x.1).data.toList = x.1 from rfl, nameP_eq] at h1
        exact h1)
      have HHS : Hid (∀ W, Below w.heap.size w W → Calls Tryz.prog 40 #[.string (strB x.2)] W (Leaves (.bool (hasB x.2)) W)) := Lib.hid (fun W hW => phas_calls x.2 (by omega) (HE.out.below hW).laid)
      obtain ⟨z, hz⟩ : ∃ z, strB x.1 = z := ⟨_, rfl⟩
      obtain ⟨z2, hz2⟩ : ∃ z, strB x.2 = z := ⟨_, rfl⟩
      rw [hz] at c1 HNM
      rw [hz2] at c2 HHS
      have hkey : keyOf Tryz.prog 9 (.string z) = some (.string x.1) := by
        rw [← hz]
        exact Go.WideMaps.keyOf_string_mk Tryz.underlying9 (by rw [strB_size]; unfold maxLen; omega)
      obtain ⟨nq, hnq⟩ : ∃ q, nameW x.1 = q := ⟨_, rfl⟩
      obtain ⟨hq, hhq⟩ : ∃ q, hasB x.2 = q := ⟨_, rfl⟩
      obtain ⟨sq, hsq⟩ : ∃ q, ((l.take j).map Prod.fst).contains x.1 = q := ⟨_, rfl⟩
      have HQ3 : Hid (Q = (!sq && nq && hq && attrsW ((l.take (j + 1)).map Prod.fst) (l.drop (j + 1)))) := Lib.hid (by rw [HQ2.out, hst, hnq, hhq, hsq])
      rw [hnq] at HNM
      rw [hhq] at HHS
      rw [hsq] at hcn
      -- the loop's variable in a block of its own
      obtain ⟨y0, hy0⟩ : ∃ W, wr.alloc (.cells #[.string z, .string z2] 42) = W := ⟨_, rfl⟩
      have hby : Below wr.heap.size wr y0 := by rw [← hy0]; exact (Below.refl _ _).alloc (Nat.le_refl _) _
      have hml := ownsMap_lt hmap
      have hmapy := ownsMap_keep hmap (hby.block _ hml)
      have HBY := Lib.hid (below_then HB.out hby)
      have hblk : y0.heap[wr.heap.size]? = some (.cells #[.string z, .string z2] 42 (0, 0)) := by rw [← hy0]; exact heap_alloc_new wr _
      have HBLK := Lib.hid hblk
      have HML := Lib.hid hml
      have HMX := HMK.out
      have HSZ : Hid (y0.heap.size = wr.heap.size + 1) := Lib.hid (by rw [← hy0]; simp)
      have d1 : y0.cell? ⟨wr.heap.size, 0, none⟩ = some (.string z) := (cell_of_block hblk 0).trans rfl
      have d2 : y0.cell? ⟨wr.heap.size, 1, none⟩ = some (.string z2) := (cell_of_block hblk 1).trans rfl
      have HY0 := Lib.hid hy0
      have hysz : w.heap.size ≤ y0.heap.size := HBY.out.size
      clear hx hst hx1 hx2 hz hz2 hnq hhq hsq HQ2 hcell hmap hby hblk hml
      cases sq with
      | true =>
        rw [if_pos rfl] at hcn
        have HF : Hid (Q = false) := Lib.hid (by rw [HQ3.out]; rfl)
        obtain ⟨cc, hrun, hat, _⟩ := hmapy.lookup_int keyLaw Tryz.underlying97 Tryz.underlying3 (zeroI _) hkey
        have hc1 : cc = 1 := by
          rw [hcn] at hat
          injection hat with h1
          injection h1 with _ h1
          exact h1.symm
        subst hc1
        clear hat hcn HQ3
        have hval : plainElem (H := Unit) Tryz.prog 3 (.int .i64 2) = some (.lit (.int .i64 2), []) := plainElem_int Tryz.underlying3 (by decide)
        go_wp2_with (at_mapUpdate; refine wpList_mapUpdate_own _ rfl _ _ _ 97 rfl 9 3 keyLaw Tryz.underlying97 _ w.heap.size j _ rfl hmapy (by omega) _ _ _ rfl rfl hkey (.lit (.int .i64 2)) [] hval ?_)
        intro w1 hmap1 hgrow1
        obtain ⟨c2, hrun2, hat2, _⟩ := hmap1.lookup_int keyLaw Tryz.underlying97 Tryz.underlying3 (zeroI _) hkey
        have hc2 : c2 = 2 := by
          rw [Maps.atKey_put_same HSEEN.out.1 (k := .string x.1) trivial] at hat2
          injection hat2 with h1
          injection h1 with _ h1
          exact h1.symm
        subst hc2
        have hblk1 := (hgrow1.block wr.heap.size (by rw [HSZ.out]; omega) (fun e => by injection e with e; have := HML.out; omega)).trans HBLK.out
        have e1 : w1.cell? ⟨wr.heap.size, 0, none⟩ = some (.string z) := (cell_of_block hblk1 0).trans rfl
        have HB1 : Hid (Below w.heap.size w w1) := Lib.hid (HBY.out.grown hgrow1 HBY.out.size (fun k e => by cases e; omega))
        clear hat2 hgrow1 hrun hmapy hval hblk1 d1 d2
        go_wp2_with fail
        go_ret
        exact ⟨by rw [HF.out]; rfl, HB1.out⟩
      | false =>
        rw [if_neg (by decide)] at hcn
        obtain ⟨cc, hrun, hat, _⟩ := hmapy.lookup_int keyLaw Tryz.underlying97 Tryz.underlying3 (zeroI _) hkey
        have hc1 : cc = 0 := by
          rw [hcn] at hat
          injection hat with h1
          injection h1 with _ h1
          exact h1.symm
        subst hc1
        clear hat hcn
        have hval : plainElem (H := Unit) Tryz.prog 3 (.int .i64 1) = some (.lit (.int .i64 1), []) := plainElem_int Tryz.underlying3 (by decide)
        go_wp2_with (at_mapUpdate; refine wpList_mapUpdate_own _ rfl _ _ _ 97 rfl 9 3 keyLaw Tryz.underlying97 _ w.heap.size j _ rfl hmapy (by omega) _ _ _ rfl rfl hkey (.lit (.int .i64 1)) [] hval ?_)
        intro w1 hmap1 hgrow1
        obtain ⟨c2, hrun2, hat2, _⟩ := hmap1.lookup_int keyLaw Tryz.underlying97 Tryz.underlying3 (zeroI _) hkey
        have hc2 : c2 = 1 := by
          rw [Maps.atKey_put_same HSEEN.out.1 (k := .string x.1) trivial] at hat2
          injection hat2 with h1
          injection h1 with _ h1
          exact h1.symm
        subst hc2
        have hblk1 := (hgrow1.block wr.heap.size (by rw [HSZ.out]; omega) (fun e => by injection e with e; have := HML.out; omega)).trans HBLK.out
        have HBLK1 := Lib.hid hblk1
        have e1 : w1.cell? ⟨wr.heap.size, 0, none⟩ = some (.string z) := (cell_of_block hblk1 0).trans rfl
        have hb1 : Below w.heap.size w w1 := HBY.out.grown hgrow1 HBY.out.size (fun k e => by cases e; omega)
        have HB1 := Lib.hid hb1
        have HC := Lib.hid (HNM.out w1 hb1)
        have HMAP1 := Lib.hid hmap1
        have hm1 := ownsMap_lt hmap1
        clear hat2 hgrow1 hrun hmapy hval hblk1 d1 d2 hb1 hmap1
        go_wp2_with fail
        with_reducible refine HC.out.mono ?_
        rintro e w2 ⟨rfl, hb2⟩
        have HB3 := Lib.hid (below_then HB1.out hb2)
        have HMAP2 := Lib.hid (ownsMap_keep HMAP1.out (hb2.block _ hm1))
        have hblk2 := block_below hb2 HBLK1.out
        have HBLK2 := Lib.hid hblk2
        have e2 : w2.cell? ⟨wr.heap.size, 1, none⟩ = some (.string z2) := (cell_of_block hblk2 1).trans rfl
        have hm2 := ownsMap_lt HMAP2.out
        have HC2 := Lib.hid (HHS.out w2 HB3.out)
        clear hb2 HC HMAP1 hblk2 hm1
        cases nq with
        | false =>
          have HF : Hid (Q = false) := Lib.hid (by rw [HQ3.out]; rfl)
          go_wp2_with fail
          go_ret
          exact ⟨by rw [HF.out]; rfl, HB3.out⟩
        | true =>
          go_wp2_with fail
          with_reducible refine HC2.out.mono ?_
          rintro e w3 ⟨rfl, hb3⟩
          have HB4 := Lib.hid (below_then HB3.out hb3)
          have HMAP3 := Lib.hid (ownsMap_keep HMAP2.out (hb3.block _ hm2))
          clear hb3 hm2 e1 e2 HC2
          cases hq with
          | false =>
            have HF : Hid (Q = false) := Lib.hid (by rw [HQ3.out]; rfl)
            go_wp2_with fail
            go_ret
            exact ⟨by rw [HF.out]; rfl, HB4.out⟩
          | true =>
            have HQ4 : Hid (Q = attrsW ((l.take (j + 1)).map Prod.fst) (l.drop (j + 1))) := Lib.hid (by rw [HQ3.out]; rfl)
            go_wp2_with fail
            go_roundg g'
            case measure => omega
            case rel => exact ⟨j + 1, _, rfl, by have := HG.out; omega, HMAP3.out, HSN.out, HQ4.out, HB4.out⟩
    · have hji : ¬ ((j : Int) < (n : Int)) := by omega
      have HF : Hid (Q = true) := Lib.hid (by
        rw [HQ2.out, List.drop_eq_nil_of_le (by rw [HN.out]; omega), attrsW])
      go_wp2_with fail
      go_ret
      exact ⟨by rw [HF.out]; rfl, HB.out⟩

end Go.Proofs.YtocnedpclllbhaaGreatDoor
