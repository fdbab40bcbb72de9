/-
  The reference's Parse: a text as a set, or none. Condition: the text is no longer than 100000.
-/
import Derived.Test.YtiolchdfjlffoaaDoorIN
namespace Go.Proofs.YtiolchdfjlffoaaDoor
open Go.RowKit Go.Lib Go.Joins

theorem numR_len {l : List UInt8} {n : Nat} {r : List UInt8} (h : numR l = some (n, r)) : r.length ≤ l.length := by
  unfold numR at h
  split at h
  · cases h
  · injection h with h
    injection h with _ h
    rw [← h, List.length_drop]
    omega
theorem spanR_len {l : List UInt8} {x : Sp} {r : List UInt8} (h : spanR l = some (x, r)) : r.length ≤ l.length := by
  unfold spanR at h
  split at h
  · cases h
  · rename_i f r1 hn
    have h1 := numR_len hn
    unfold tailR at h
    split at h
    · injection h with h
      injection h with _ h
      rw [← h]
      exact Nat.zero_le _
    · rename_i c r'
      rw [List.length_cons] at h1
      split at h
      · split at h
        · cases h
        · rename_i t r'' hn2
          have h2 := numR_len hn2
          split at h
          · cases h
          · injection h with h
            injection h with _ h
            rw [← h]
            omega
      · injection h with h
        injection h with _ h
        rw [← h, List.length_cons]
        exact h1
theorem restR_fuel : ∀ {n : Nat} {l : List UInt8}, l.length ≤ n → restR n l = restR l.length l
  | n, [], _ => by cases n <;> rfl
  | 0, c :: l, h => by simp at h
  | n + 1, c :: l, h => by
    rw [List.length_cons] at h
    rw [List.length_cons, restR, restR]
    split
    · cases hs : spanR l with
      | none => rfl
      | some p =>
        obtain ⟨x, r⟩ := p
        have hl := spanR_len hs
        dsimp only
        rw [restR_fuel (n := n) (l := r) (by omega), restR_fuel (n := l.length) (l := r) hl]
    · rfl
/-- What is read behind spans that have been read. -/
def contR (S : List Sp) (l : List UInt8) : Option (List Sp) := if S = [] then parseR l else (restR l.length l).map (S ++ ·)
theorem contR_end (S : List Sp) : contR S [] = some S := by
  unfold contR
  split
  · rename_i h
    rw [h]
    rfl
  · show some (S ++ []) = _
    rw [List.append_nil]
def stepR (S : List Sp) (l : List UInt8) : Option (List Sp) := match spanR l with
  | none => none
  | some (x, r) => contR (S ++ [x]) r
theorem step_cont (S : List Sp) (x : Sp) (r : List UInt8) : contR (S ++ [x]) r = (restR r.length r).map (fun l => S ++ x :: l) := by
  unfold contR
  rw [if_neg (by simp)]
  congr 1
  funext l
  rw [List.append_assoc]
  rfl
theorem contR_first {c : UInt8} {l : List UInt8} : contR [] (c :: l) = stepR [] (c :: l) := by
  unfold contR stepR
  rw [if_pos rfl, parseR]
  cases hs : spanR (c :: l) with
  | none => rfl
  | some p =>
    obtain ⟨x, r⟩ := p
    exact (step_cont [] x r).symm
theorem contR_next {S : List Sp} (h : S ≠ []) {l : List UInt8} : contR S (44 :: l) = stepR S l := by
  unfold stepR
  unfold contR
  rw [if_neg h, List.length_cons, restR, if_pos rfl]
  cases hs : spanR l with
  | none => rfl
  | some p =>
    obtain ⟨x, r⟩ := p
    have hl := spanR_len hs
    show ((restR l.length r).map (x :: ·)).map (S ++ ·) = contR (S ++ [x]) r
    rw [step_cont, restR_fuel hl, Option.map_map]
    rfl
theorem contR_bad {S : List Sp} (h : S ≠ []) {c : UInt8} {l : List UInt8} (hc : c ≠ 44) : contR S (c :: l) = none := by
  unfold contR
  rw [if_neg h, List.length_cons, restR, if_neg hc]
  rfl
theorem drop_cons {d : List UInt8} {p : Nat} {c : UInt8} (h : d[p]? = some c) : d.drop p = c :: d.drop (p + 1) := by
  obtain ⟨hi, rfl⟩ := List.getElem?_eq_some_iff.1 h
  exact List.drop_eq_getElem_cons hi
/-- What the reference's Parse leaves. -/
def ReadOut (d : List UInt8) (w : World) (e : Ending) (w' : World) : Prop := ∃ v ok, e = .returned (.tuple #[v, .bool ok]) ∧ Below w.heap.size w w' ∧
  ((∃ S, parseR d = some S ∧ ok = mayS S ∧ SpIn w' v S) ∨ (parseR d = none ∧ ok = false ∧ v = .slice none 0 0))

set_option maxRecDepth 100000 in
set_option maxHeartbeats 16000000 in
theorem rparse_calls (d : List UInt8) (w : World) (hd : d.length ≤ 100000) : Calls Tryd.prog 30 #[.string (strB d)] w (ReadOut d w) := by
  have hsz := strB_size d
  have HGET : Hid (∀ (j : Nat) (h : j < (strB d).size), ∃ b, d[j]? = some b ∧ (strB d)[j]'h = b) := Lib.hid (fun j h => by
    have hj : j < d.length := by rw [← strB_size]; exact h
    exact ⟨d[j], List.getElem?_eq_getElem hj, rfl⟩)
  have HNUM := Lib.hid (fun (q : Nat) (W : World) (hq : q ≤ d.length) => number_calls d q W hd hq)
  obtain ⟨z, hz⟩ : ∃ z, strB d = z := ⟨_, rfl⟩
  rw [hz] at hsz HGET HNUM ⊢
  have HSZ := Lib.hid hsz
  have hzb : z.size ≤ 100000 := by omega
  obtain ⟨nd, hnd⟩ : ∃ n, d.length = n := ⟨_, rfl⟩
  rw [hnd] at HSZ HNUM
  have HND := Lib.hid hnd
  have hzn : z.size = nd := HSZ.out
  have hndb : nd ≤ 100000 := by omega
  clear hz hsz hd hnd hzb hzn
  unfold NumOut at HNUM
  unfold ReadOut
  go_enter Tryd.func30, Tryd.ntmps30
  go_wp2_with fail
  go_loopg [4, 5] nd (fun g o a wr => ∃ (S : List Sp) (p : Nat), OwnP w.heap.size wr o S ∧ a = .int .i64 (p : Int) ∧ g + p = nd ∧ S.length ≤ p ∧ (S = [] → p = 0) ∧ parseR d = contR S (d.drop p) ∧ Below w.heap.size w wr)
  case atStart => exact ⟨[], 0, OwnP.nil _ _, rfl, rfl, Nat.le_refl _, fun _ => rfl, by rw [List.drop_zero]; rfl, Below.refl _ _⟩
  case round =>
    obtain ⟨S, p, hown, rfl, hg, hsl, hs0, hpar, hb⟩ := hrel
    have HO := Lib.hid hown
    have HB := Lib.hid hb
    have HP := Lib.hid hpar
    obtain ⟨sa, sc, hsv⟩ := hown.form
    subst hsv
    have hsl2 : S.length ≤ 1000000 := by omega
    obtain ⟨ns, hns⟩ : ∃ ns, S.length = ns := ⟨_, rfl⟩
    rw [hns] at HO ⊢
    have HNS := Lib.hid hns
    have hp0 : (0 : Int) ≤ (p : Int) := by omega
    clear hown hb hpar hns
    cases gk with
    | zero =>
      obtain rfl : p = nd := by omega
      have hge : ¬ ((p : Int) < (z.size : Int)) := by have := HSZ.out; omega
      have HR : Hid (parseR d = some S) := Lib.hid (by rw [HP.out, List.drop_eq_nil_of_le (by have := HND.out; omega), contR_end])
      have HM := Lib.hid (rmay_calls HO.out.in)
      obtain ⟨m, hm⟩ : ∃ m, mayS S = m := ⟨_, rfl⟩
      rw [hm] at HM
      have HMM := Lib.hid hm
      clear hm hsl hs0
      go_wp2_with fail
      with_reducible refine HM.out.mono ?_
      rintro e w9 ⟨rfl, hb9⟩
      have HB9 := Lib.hid (HB.out.trans (hb9.mono HB.out.size))
      have HI9 := Lib.hid (HO.out.in.below hb9)
      clear hb9
      go_wp2_with fail
      refine bodyPost_ret (v := .tuple #[.slice sa ns sc, .bool m]) (by simp [results, Tryd.results30, go_sem]) rfl ⟨_, _, rfl, HB9.out, .inl ⟨S, HR.out, HMM.out.symm, HI9.out⟩⟩
    | succ g =>
      have hplI : (p : Int) < (z.size : Int) := by have := HSZ.out; omega
      have hpl : p < z.size := by have := HSZ.out; omega
      obtain ⟨c, hc, hgc⟩ := HGET.out p hpl
      have HC := Lib.hid hc
      clear hc
      by_cases hSe : S = []
      · obtain rfl : p = 0 := hs0 hSe
        have hns0 : ns = 0 := by rw [← HNS.out, hSe]; rfl
        obtain ⟨q0, hq0⟩ : ∃ q0, q0 = 0 := ⟨_, rfl⟩
        have HS : Hid (parseR d = stepR S (d.drop q0)) := Lib.hid (by rw [HP.out, hSe, hq0, drop_cons HC.out, contR_first])
        have hq0e : (0 : Int) = (q0 : Int) := by omega
        have hnsz : ¬ ((0 : Int) < (ns : Int)) := by omega
        rw [show (((0 : Nat) : Int)) = (q0 : Int) from by omega]
        have HQ0 := Lib.hid hq0
        have hq0n : (q0 : Int) < (z.size : Int) := by omega
        clear hSe hs0 hq0e hns0
        have HN1 := Lib.hid (HNUM.out q0 wr (by omega))
        clear hq0
        go_wp2_with fail
        with_reducible refine HN1.out.mono ?_
        rintro e w5 ⟨rfl, ⟨hn, rfl⟩ | ⟨f, q1, hn, hq01, hq1, hfb, rfl⟩⟩
        · have HR : Hid (parseR d = none) := Lib.hid (by rw [HS.out]; unfold stepR spanR; rw [hn])
          clear hn
          go_wp2_with fail
          refine bodyPost_ret (v := .tuple #[.slice none 0 0, .bool false]) (by simp [results, Tryd.results30, go_sem]) rfl ⟨_, _, rfl, HB.out, .inr ⟨HR.out, rfl, rfl⟩⟩
        · have HN := Lib.hid hn
          rw [HND.out] at hq1
          have hq10 : ¬ ((q1 : Int) < 0) := by omega
          have hq1p : (0 : Int) ≤ (q1 : Int) := by omega
          clear hn
          by_cases hqz : q1 < z.size
          · have hqzI : (q1 : Int) < (z.size : Int) := by omega
            obtain ⟨b, hb, hgb⟩ := HGET.out q1 hqz
            have HBB := Lib.hid hb
            clear hb
            by_cases h45 : b = 45
            · have he45 : ((b.toNat : Int) == 45) = true := by rw [h45]; rfl
              obtain ⟨q2, hq2⟩ : ∃ q2, q2 = q1 + 1 := ⟨_, rfl⟩
              have hwq : IntKind.i64.wrap ((q1 : Int) + 1) = (q2 : Int) := by rw [IntWalk.i64_in _ (by omega)]; omega
              have HDC : Hid (d.drop q1 = 45 :: d.drop q2) := Lib.hid (by rw [hq2]; exact drop_cons (by rw [← h45]; exact HBB.out))
              have HN2 := Lib.hid (HNUM.out q2 wr (by have := HSZ.out; omega))
              have HQ2 := Lib.hid hq2
              clear h45 hq2
              go_wp2_with fail
              with_reducible refine HN2.out.mono ?_
              rintro e w5 ⟨rfl, ⟨hn2, rfl⟩ | ⟨t, q3, hn2, hq23, hq3, htb, rfl⟩⟩
              · have HR : Hid (parseR d = none) := Lib.hid (by rw [HS.out]; unfold stepR spanR; rw [HN.out]; dsimp only; rw [HDC.out, tailR, if_pos rfl, hn2])
                clear hn2
                go_wp2_with fail
                refine bodyPost_ret (v := .tuple #[.slice none 0 0, .bool false]) (by simp [results, Tryd.results30, go_sem]) rfl ⟨_, _, rfl, HB.out, .inr ⟨HR.out, rfl, rfl⟩⟩
              · rw [HND.out] at hq3
                have hq30 : ¬ ((q3 : Int) < 0) := by omega
                by_cases htf : t = f
                · have htfe : ((t : Int) == (f : Int)) = true := by rw [beq_iff_eq]; omega
                  have HR : Hid (parseR d = none) := Lib.hid (by rw [HS.out]; unfold stepR spanR; rw [HN.out]; dsimp only; rw [HDC.out, tailR, if_pos rfl, hn2]; dsimp only; rw [if_pos htf])
                  clear hn2 htf
                  go_wp2_with fail
                  refine bodyPost_ret (v := .tuple #[.slice none 0 0, .bool false]) (by simp [results, Tryd.results30, go_sem]) rfl ⟨_, _, rfl, HB.out, .inr ⟨HR.out, rfl, rfl⟩⟩
                · have htfe : ((t : Int) == (f : Int)) = false := by rw [beq_eq_false_iff_ne]; omega
                  have HQ : Hid (parseR d = contR (S ++ [((f : Int), (t : Int))]) (d.drop q3)) := Lib.hid (by rw [HS.out]; unfold stepR spanR; rw [HN.out]; dsimp only; rw [HDC.out, tailR, if_pos rfl, hn2]; dsimp only; rw [if_neg htf])
                  have HQ2' := HQ2.out
                  clear hn2 htf
                  obtain ⟨v', w9, hrun, hown9, hkp9⟩ := HO.out.append (f : Int) (t : Int) HB.out.size hsl2
                  obtain ⟨a9, c9, hv9⟩ := hown9.form
                  have HRUN := Lib.hid hrun
                  have HO9 := Lib.hid hown9
                  have HB9 : Hid (Below w.heap.size w w9) := Lib.hid (HB.out.trans (hkp9.toBelow HB.out.size (fun q e => HO.out.new q e)))
                  rw [List.length_append, List.length_singleton, HNS.out] at hv9
                  subst hv9
                  clear hrun hown9 hkp9
                  go_wp2_with (at_builtin; refine wpList_step (fun K hK => step_app HRUN.out (.tmp 56) (.tmp 60) rfl rfl rfl rfl (hK _ _ ?_)))
                  go_roundg (nd - q3)
                  case measure => have := HQ0.out; omega
                  case rel => exact ⟨S ++ [((f : Int), (t : Int))], q3, HO9.out, rfl, by omega, by have := HQ0.out; rw [List.length_append, List.length_singleton]; omega, (fun e => absurd e (by simp)), HQ.out, HB9.out⟩
            · have he45 : ((b.toNat : Int) == 45) = false := by
                rw [beq_eq_false_iff_ne]
                intro e
                exact h45 (UInt8.toNat_inj.1 (by show b.toNat = 45; omega))
              have HQ : Hid (parseR d = contR (S ++ [((f : Int), (f : Int))]) (d.drop q1)) := Lib.hid (by rw [HS.out]; unfold stepR spanR; rw [HN.out]; dsimp only; rw [drop_cons HBB.out, tailR, if_neg h45])
              clear h45
              obtain ⟨v', w9, hrun, hown9, hkp9⟩ := HO.out.append (f : Int) (f : Int) HB.out.size hsl2
              obtain ⟨a9, c9, hv9⟩ := hown9.form
              have HRUN := Lib.hid hrun
              have HO9 := Lib.hid hown9
              have HB9 : Hid (Below w.heap.size w w9) := Lib.hid (HB.out.trans (hkp9.toBelow HB.out.size (fun q e => HO.out.new q e)))
              rw [List.length_append, List.length_singleton, HNS.out] at hv9
              subst hv9
              clear hrun hown9 hkp9
              go_wp2_with (at_builtin; refine wpList_step (fun K hK => step_app HRUN.out (.tmp 56) (.tmp 60) rfl rfl rfl rfl (hK _ _ ?_)))
              go_roundg (nd - q1)
              case measure => have := HQ0.out; omega
              case rel => exact ⟨S ++ [((f : Int), (f : Int))], q1, HO9.out, rfl, by omega, by have := HQ0.out; rw [List.length_append, List.length_singleton]; omega, (fun e => absurd e (by simp)), HQ.out, HB9.out⟩
          · have hqzI : ¬ ((q1 : Int) < (z.size : Int)) := by omega
            have HQ : Hid (parseR d = contR (S ++ [((f : Int), (f : Int))]) (d.drop q1)) := Lib.hid (by
              rw [HS.out]
              unfold stepR spanR
              rw [HN.out]
              dsimp only
              rw [List.drop_eq_nil_of_le (by have := HND.out; have := HSZ.out; omega), tailR])
            obtain ⟨v', w9, hrun, hown9, hkp9⟩ := HO.out.append (f : Int) (f : Int) HB.out.size hsl2
            obtain ⟨a9, c9, hv9⟩ := hown9.form
            have HRUN := Lib.hid hrun
            have HO9 := Lib.hid hown9
            have HB9 : Hid (Below w.heap.size w w9) := Lib.hid (HB.out.trans (hkp9.toBelow HB.out.size (fun q e => HO.out.new q e)))
            rw [List.length_append, List.length_singleton, HNS.out] at hv9
            subst hv9
            clear hrun hown9 hkp9
            go_wp2_with (at_builtin; refine wpList_step (fun K hK => step_app HRUN.out (.tmp 56) (.tmp 60) rfl rfl rfl rfl (hK _ _ ?_)))
            go_roundg (nd - q1)
            case measure => have := HQ0.out; omega
            case rel => exact ⟨S ++ [((f : Int), (f : Int))], q1, HO9.out, rfl, by omega, by have := HQ0.out; rw [List.length_append, List.length_singleton]; omega, (fun e => absurd e (by simp)), HQ.out, HB9.out⟩
      · have hnsz : (0 : Int) < (ns : Int) := by
          have : ns ≠ 0 := fun e => hSe (List.length_eq_zero_iff.1 (HNS.out.trans e))
          omega
        by_cases h44 : c = 44
        · have he44 : ((c.toNat : Int) != 44) = false := by rw [h44]; rfl
          obtain ⟨q0, hq0⟩ : ∃ q0, q0 = p + 1 := ⟨_, rfl⟩
          have hwq0 : IntKind.i64.wrap ((p : Int) + 1) = (q0 : Int) := by rw [IntWalk.i64_in _ (by omega)]; omega
          have HS : Hid (parseR d = stepR S (d.drop q0)) := Lib.hid (by rw [HP.out, drop_cons (c := 44) (by rw [HC.out, h44]), contR_next hSe, hq0])
          have HQ0 := Lib.hid hq0
          have hq0n : q0 ≤ nd := by omega
          clear hSe hs0 h44
          have HN1 := Lib.hid (HNUM.out q0 wr (by omega))
          clear hq0
          go_wp2_with fail
          with_reducible refine HN1.out.mono ?_
          rintro e w5 ⟨rfl, ⟨hn, rfl⟩ | ⟨f, q1, hn, hq01, hq1, hfb, rfl⟩⟩
          · have HR : Hid (parseR d = none) := Lib.hid (by rw [HS.out]; unfold stepR spanR; rw [hn])
            clear hn
            go_wp2_with fail
            refine bodyPost_ret (v := .tuple #[.slice none 0 0, .bool false]) (by simp [results, Tryd.results30, go_sem]) rfl ⟨_, _, rfl, HB.out, .inr ⟨HR.out, rfl, rfl⟩⟩
          · have HN := Lib.hid hn
            rw [HND.out] at hq1
            have hq10 : ¬ ((q1 : Int) < 0) := by omega
            have hq1p : (0 : Int) ≤ (q1 : Int) := by omega
            clear hn
            by_cases hqz : q1 < z.size
            · have hqzI : (q1 : Int) < (z.size : Int) := by omega
              obtain ⟨b, hb, hgb⟩ := HGET.out q1 hqz
              have HBB := Lib.hid hb
              clear hb
              by_cases h45 : b = 45
              · have he45 : ((b.toNat : Int) == 45) = true := by rw [h45]; rfl
                obtain ⟨q2, hq2⟩ : ∃ q2, q2 = q1 + 1 := ⟨_, rfl⟩
                have hwq : IntKind.i64.wrap ((q1 : Int) + 1) = (q2 : Int) := by rw [IntWalk.i64_in _ (by omega)]; omega
                have HDC : Hid (d.drop q1 = 45 :: d.drop q2) := Lib.hid (by rw [hq2]; exact drop_cons (by rw [← h45]; exact HBB.out))
                have HN2 := Lib.hid (HNUM.out q2 wr (by have := HSZ.out; omega))
                have HQ2 := Lib.hid hq2
                clear h45 hq2
                go_wp2_with fail
                with_reducible refine HN2.out.mono ?_
                rintro e w5 ⟨rfl, ⟨hn2, rfl⟩ | ⟨t, q3, hn2, hq23, hq3, htb, rfl⟩⟩
                · have HR : Hid (parseR d = none) := Lib.hid (by rw [HS.out]; unfold stepR spanR; rw [HN.out]; dsimp only; rw [HDC.out, tailR, if_pos rfl, hn2])
                  clear hn2
                  go_wp2_with fail
                  refine bodyPost_ret (v := .tuple #[.slice none 0 0, .bool false]) (by simp [results, Tryd.results30, go_sem]) rfl ⟨_, _, rfl, HB.out, .inr ⟨HR.out, rfl, rfl⟩⟩
                · rw [HND.out] at hq3
                  have hq30 : ¬ ((q3 : Int) < 0) := by omega
                  by_cases htf : t = f
                  · have htfe : ((t : Int) == (f : Int)) = true := by rw [beq_iff_eq]; omega
                    have HR : Hid (parseR d = none) := Lib.hid (by rw [HS.out]; unfold stepR spanR; rw [HN.out]; dsimp only; rw [HDC.out, tailR, if_pos rfl, hn2]; dsimp only; rw [if_pos htf])
                    clear hn2 htf
                    go_wp2_with fail
                    refine bodyPost_ret (v := .tuple #[.slice none 0 0, .bool false]) (by simp [results, Tryd.results30, go_sem]) rfl ⟨_, _, rfl, HB.out, .inr ⟨HR.out, rfl, rfl⟩⟩
                  · have htfe : ((t : Int) == (f : Int)) = false := by rw [beq_eq_false_iff_ne]; omega
                    have HQ : Hid (parseR d = contR (S ++ [((f : Int), (t : Int))]) (d.drop q3)) := Lib.hid (by rw [HS.out]; unfold stepR spanR; rw [HN.out]; dsimp only; rw [HDC.out, tailR, if_pos rfl, hn2]; dsimp only; rw [if_neg htf])
                    have HQ2' := HQ2.out
                    clear hn2 htf
                    obtain ⟨v', w9, hrun, hown9, hkp9⟩ := HO.out.append (f : Int) (t : Int) HB.out.size hsl2
                    obtain ⟨a9, c9, hv9⟩ := hown9.form
                    have HRUN := Lib.hid hrun
                    have HO9 := Lib.hid hown9
                    have HB9 : Hid (Below w.heap.size w w9) := Lib.hid (HB.out.trans (hkp9.toBelow HB.out.size (fun q e => HO.out.new q e)))
                    rw [List.length_append, List.length_singleton, HNS.out] at hv9
                    subst hv9
                    clear hrun hown9 hkp9
                    go_wp2_with (at_builtin; refine wpList_step (fun K hK => step_app HRUN.out (.tmp 56) (.tmp 60) rfl rfl rfl rfl (hK _ _ ?_)))
                    go_roundg (nd - q3)
                    case measure => have := HQ0.out; omega
                    case rel => exact ⟨S ++ [((f : Int), (t : Int))], q3, HO9.out, rfl, by omega, by have := HQ0.out; rw [List.length_append, List.length_singleton]; omega, (fun e => absurd e (by simp)), HQ.out, HB9.out⟩
              · have he45 : ((b.toNat : Int) == 45) = false := by
                  rw [beq_eq_false_iff_ne]
                  intro e
                  exact h45 (UInt8.toNat_inj.1 (by show b.toNat = 45; omega))
                have HQ : Hid (parseR d = contR (S ++ [((f : Int), (f : Int))]) (d.drop q1)) := Lib.hid (by rw [HS.out]; unfold stepR spanR; rw [HN.out]; dsimp only; rw [drop_cons HBB.out, tailR, if_neg h45])
                clear h45
                obtain ⟨v', w9, hrun, hown9, hkp9⟩ := HO.out.append (f : Int) (f : Int) HB.out.size hsl2
                obtain ⟨a9, c9, hv9⟩ := hown9.form
                have HRUN := Lib.hid hrun
                have HO9 := Lib.hid hown9
                have HB9 : Hid (Below w.heap.size w w9) := Lib.hid (HB.out.trans (hkp9.toBelow HB.out.size (fun q e => HO.out.new q e)))
                rw [List.length_append, List.length_singleton, HNS.out] at hv9
                subst hv9
                clear hrun hown9 hkp9
                go_wp2_with (at_builtin; refine wpList_step (fun K hK => step_app HRUN.out (.tmp 56) (.tmp 60) rfl rfl rfl rfl (hK _ _ ?_)))
                go_roundg (nd - q1)
                case measure => have := HQ0.out; omega
                case rel => exact ⟨S ++ [((f : Int), (f : Int))], q1, HO9.out, rfl, by omega, by have := HQ0.out; rw [List.length_append, List.length_singleton]; omega, (fun e => absurd e (by simp)), HQ.out, HB9.out⟩
            · have hqzI : ¬ ((q1 : Int) < (z.size : Int)) := by omega
              have HQ : Hid (parseR d = contR (S ++ [((f : Int), (f : Int))]) (d.drop q1)) := Lib.hid (by
                rw [HS.out]
                unfold stepR spanR
                rw [HN.out]
                dsimp only
                rw [List.drop_eq_nil_of_le (by have := HND.out; have := HSZ.out; omega), tailR])
              obtain ⟨v', w9, hrun, hown9, hkp9⟩ := HO.out.append (f : Int) (f : Int) HB.out.size hsl2
              obtain ⟨a9, c9, hv9⟩ := hown9.form
              have HRUN := Lib.hid hrun
              have HO9 := Lib.hid hown9
              have HB9 : Hid (Below w.heap.size w w9) := Lib.hid (HB.out.trans (hkp9.toBelow HB.out.size (fun q e => HO.out.new q e)))
              rw [List.length_append, List.length_singleton, HNS.out] at hv9
              subst hv9
              clear hrun hown9 hkp9
              go_wp2_with (at_builtin; refine wpList_step (fun K hK => step_app HRUN.out (.tmp 56) (.tmp 60) rfl rfl rfl rfl (hK _ _ ?_)))
              go_roundg (nd - q1)
              case measure => have := HQ0.out; omega
              case rel => exact ⟨S ++ [((f : Int), (f : Int))], q1, HO9.out, rfl, by omega, by have := HQ0.out; rw [List.length_append, List.length_singleton]; omega, (fun e => absurd e (by simp)), HQ.out, HB9.out⟩
        · have he44 : ((c.toNat : Int) != 44) = true := by
            rw [bne_iff_ne]
            intro e
            exact h44 (UInt8.toNat_inj.1 (by show c.toNat = 44; omega))
          have HR : Hid (parseR d = none) := Lib.hid (by rw [HP.out, drop_cons HC.out, contR_bad hSe h44])
          clear hSe hs0 h44
          go_wp2_with fail
          refine bodyPost_ret (v := .tuple #[.slice none 0 0, .bool false]) (by simp [results, Tryd.results30, go_sem]) rfl ⟨_, _, rfl, HB.out, .inr ⟨HR.out, rfl, rfl⟩⟩
end Go.Proofs.YtiolchdfjlffoaaDoor
