/-
  All, told by the program: the tokens of an expression, or a code and a place. Conditions: the text is no longer than 2 to the 30; the library's bound, the tables and the two arrays of signs are laid.
-/
import Derived.Test.YtkpgbcackphdbaaDoorQJ
import Derived.Test.YtkpgbcackphdbaaDoorQW
import Derived.Test.YtkpgbcackphdbaaDoorBad
namespace Go.Proofs.YtkpgbcackphdbaaDoor
open Go.RowKit Go.Lib Go.Joins

theorem sign_err {l : List UInt8} {c : Int} (h : signQ l = .error c) : c = 60 := by
  unfold signQ tokQ at h
  split at h
  · cases h
  · split at h
    · cases h
    · cases h; rfl
theorem read_err {l : List UInt8} {bh : Bool} {c : Int} (h : readQ l bh = .error c) : c = 60 ∨ c = 61 := by
  cases l with
  | nil => cases h; exact .inl rfl
  | cons x t =>
    unfold readQ at h
    dsimp only at h
    split at h
    · unfold quotedQ at h
      split at h
      · cases h; exact .inl rfl
      · cases h
    · split at h
      · unfold varQ at h
        split at h
        · cases h; exact .inl rfl
        · cases h
      · split at h
        · cases h
        · split at h
          · split at h
            · exact .inl (sign_err h)
            · cases h
          · split at h
            · cases h
            · split at h
              · exact .inl (sign_err h)
              · unfold namedQ tokQ at h
                split at h
                · split at h
                  · cases h
                  · cases h; exact .inr rfl
                · cases h
/-- What All leaves. -/
def AllOut (s : List UInt8) (w : World) (e : Ending) (w' : World) : Prop := ∃ v ev, e = .returned (.tuple #[v, ev]) ∧ Below w.heap.size w w' ∧
  ((∃ l, allQ s = .ok l ∧ TkIn w' v l ∧ ev = .nilIface) ∨ (∃ c n, allQ s = .error (c, n) ∧ v = .slice none 0 0 ∧ ErrAt w.heap.size w' c (n : Int) ev))

set_option maxRecDepth 100000 in
set_option maxHeartbeats 8000000 in
theorem all_calls (l : List UInt8) (w : World) (hl : l.length ≤ 1073741823) (hE : QEnv w) : Calls Tryd.prog 7 #[.string (strB l)] w (AllOut l w) := by
  have hs1 := strB_size l
  obtain ⟨N, hN⟩ : ∃ N, l.length = N := ⟨_, rfl⟩
  rw [hN] at hs1 hl
  unfold AllOut
  by_cases hlong : 1000 < N
  · have hall : allQ l = .error (8, 1000) := by unfold allQ; rw [if_pos (by omega)]
    rw [hall]
    have HF := Lib.hid (fail_calls 8 1000 w rfl)
    unfold FailOut at HF
    obtain ⟨s, hs⟩ : ∃ s, strB l = s := ⟨_, rfl⟩
    rw [hs] at hs1 ⊢
    have hd : decide ((s.size : Int) > 1000) = true := decide_eq_true (by omega)
    have hgt : (1000 : Int) < (s.size : Int) := by omega
    clear hall hs hE hN hl hlong hs1
    go_enter Tryd.func7, Tryd.ntmps7
    go_wp2_with fail
    with_reducible refine HF.out.mono ?_
    rintro e w1 ⟨ev, rfl, her, hb1⟩
    have HER := Lib.hid her
    have HB1 := Lib.hid hb1
    obtain ⟨eb, rfl⟩ : ∃ eb, ev = .iface 61 (.pointer (some ⟨eb, 0, none⟩)) := by
      rcases her with ⟨h0, _⟩ | ⟨_, eb, h1, _⟩
      · exact absurd h0 (by decide)
      · exact ⟨eb, h1⟩
    clear her hb1 HF
    go_wp2_with fail
    exact bodyPost_ret (v := .tuple #[.slice none 0 0, .iface 61 (.pointer (some ⟨eb, 0, none⟩))]) (by simp [results, Tryd.results7, go_sem]) rfl ⟨_, _, rfl, HB1.out, .inr ⟨8, 1000, rfl, rfl, HER.out⟩⟩
  · have hconv := Lib.run_convert_string_bytes (P := Tryd.prog) w 9 37 5 (strB l) Tryd.underlying9 Tryd.underlying37 Tryd.underlying5
    have hb0 := bytesWorld_below w (strB l)
    have hcg := grownCap_ge w (strB l).size 0 5
    have hcl := grownCap_le_maxLen w (strB l).size 0 5 (by unfold maxLen; omega)
    have hrow : Row8 (bytesWorld w 5 (strB l)) (some ⟨w.heap.size, 0, none⟩) (strB l).size (fs l) :=
      ⟨fs_lt _, by omega, Or.inr ⟨_, _, rfl, fun i hi => by rw [Nat.zero_add]; exact bytesWorld_cell w 5 (strB l) i hi⟩⟩
    obtain ⟨W1, hW1⟩ : ∃ W1, bytesWorld w 5 (strB l) = W1 := ⟨_, rfl⟩
    obtain ⟨cap, hcap⟩ : ∃ cap, grownCap w (strB l).size 0 5 = cap := ⟨_, rfl⟩
    rw [hW1] at hconv hb0 hrow
    rw [hcap] at hconv hcg hcl
    have HBAD := bad_calls (some ⟨w.heap.size, 0, none⟩) (strB l).size cap (fs l) W1 (hE.laid.below hb0) hcg (by unfold maxLen at hcl; omega) hrow (by omega)
    have hbz : badZ (fs l) (strB l).size = badL l := by unfold badL; rw [hs1, hN]
    rw [hbz] at HBAD
    have hall : allQ l = if 0 ≤ badL l then .error (1, (badL l).toNat) else lexQ l.length l.length (blk l) [] := by unfold allQ; rw [if_neg (by omega)]
    have hok : ¬ 0 ≤ badL l → Ok8 l := ok_of_bad l.length l (Nat.le_refl _)
    have HBR0 := Lib.hid (fun (W : World) => bare_calls l W)
    have hrl := blk_le l
    obtain ⟨B, hB⟩ : ∃ B, badL l = B := ⟨_, rfl⟩
    rw [hB] at HBAD hall hok
    obtain ⟨X, hX⟩ : ∃ X, allQ l = X := ⟨_, rfl⟩
    rw [hX] at hall ⊢
    rw [hN] at hrl hall
    obtain ⟨s, hs⟩ : ∃ s, strB l = s := ⟨_, rfl⟩
    rw [hs] at hs1 hconv HBAD HBR0 ⊢
    have HB0 := Lib.hid hb0
    have HBADH := Lib.hid HBAD
    have HALL := Lib.hid hall
    have HOK := Lib.hid hok
    have HE := Lib.hid hE
    have hBW1 := hb0.size
    have HSZ := Lib.hid hs1
    have hd : decide ((s.size : Int) > 1000) = false := decide_eq_false (by omega)
    have hgt : ¬ (1000 : Int) < (s.size : Int) := by omega
    have HRL := Lib.hid hrl
    have HL : Hid (N ≤ 1000) := Lib.hid (by omega)
    clear hb0 HBAD hall hok hE hN hl hlong hs1 hrow hW1 hcap hcg hcl hbz hB hX hs hrl
    by_cases hbad : 0 ≤ B
    · have HX : Hid (X = .error (1, B.toNat)) := Lib.hid (by rw [HALL.out, if_pos hbad])
      have HBT : Hid ((B.toNat : Int) = B) := Lib.hid (by omega)
      have HF := Lib.hid (fun (W : World) => fail_calls 1 B W rfl)
      unfold FailOut at HF
      have hd2 : decide (B ≥ 0) = true := decide_eq_true hbad
      clear HALL HOK HBR0
      go_enter Tryd.func7, Tryd.ntmps7
      go_wp2_with fail
      with_reducible refine HBADH.out.mono ?_
      rintro e w2 ⟨rfl, hb2⟩
      have HB2 := Lib.hid (below_then HB0.out hb2)
      clear hb2
      go_wp2_with fail
      with_reducible refine (HF.out w2).mono ?_
      rintro e w3 ⟨ev, rfl, her, hb3⟩
      have HER := Lib.hid (her.low HB2.out.size)
      have HB3 := Lib.hid (below_then HB2.out hb3)
      obtain ⟨eb, rfl⟩ : ∃ eb, ev = .iface 61 (.pointer (some ⟨eb, 0, none⟩)) := by
        rcases her with ⟨h0, _⟩ | ⟨_, eb, h1, _⟩
        · exact absurd h0 (by decide)
        · exact ⟨eb, h1⟩
      clear her hb3 HF
      go_wp2_with fail
      exact bodyPost_ret (v := .tuple #[.slice none 0 0, .iface 61 (.pointer (some ⟨eb, 0, none⟩))]) (by simp [results, Tryd.results7, go_sem]) rfl ⟨_, _, rfl, HB3.out, .inr ⟨1, B.toNat, HX.out, rfl, by rw [HBT.out]; exact HER.out⟩⟩
    · have HX : Hid (lexQ N N (blk l) [] = X) := Lib.hid (by rw [HALL.out, if_neg hbad])
      have HOK2 := Lib.hid (ok_blk (HOK.out hbad))
      have hd2 : decide (B ≥ 0) = false := decide_eq_false hbad
      clear HALL HOK
      obtain ⟨r0, hr0⟩ : ∃ r, blk l = r := ⟨_, rfl⟩
      rw [hr0] at HBR0 HX HOK2 HRL
      clear hr0
      go_enter Tryd.func7, Tryd.ntmps7
      go_wp2_with fail
      with_reducible refine HBADH.out.mono ?_
      rintro e w2 ⟨rfl, hb2⟩
      have HB2 := Lib.hid (below_then HB0.out hb2)
      clear hb2 HBADH
      go_wp2_with fail
      with_reducible refine (HBR0.out w2).mono ?_
      rintro e w3 ⟨rfl, hb3⟩
      have HB3 := Lib.hid (below_then HB2.out hb3)
      clear hb3 HBR0
      go_wp2_with fail
      go_loopg [5, 6] N (fun g v5 v6 wr => ∃ (acc : List Tk) (r : List UInt8), v6 = .string (strB r) ∧ r.length ≤ g ∧ acc.length + r.length ≤ N ∧ Ok8 r ∧ lexQ N g r acc = X ∧ OwnQ w.heap.size wr v5 acc ∧ Below w.heap.size w wr)
      case atStart => exact ⟨[], r0, rfl, HRL.out, by have := HRL.out; rw [List.length_nil]; omega, HOK2.out, HX.out, OwnQ.nil _ _, HB3.out⟩
      case round =>
        obtain ⟨acc, r, rfl, hg, hal, hok, hlex, hown, hb⟩ := hrel
        have HG := Lib.hid hg
        have HAL := Lib.hid hal
        have HOK := Lib.hid hok
        have HLEX := Lib.hid hlex
        have HOWN := Lib.hid hown
        have HB := Lib.hid hb
        clear hg hal hok hlex hb HX HRL HOK2
        cases r with
        | nil =>
          obtain ⟨va, vc, hv⟩ := hown.form
          obtain ⟨na, hna⟩ : ∃ na, acc.length = na := ⟨_, rfl⟩
          rw [hna] at hv
          subst hv
          have HX2 : Hid (X = .ok acc) := Lib.hid (by rw [← HLEX.out, lex_nil])
          have hnl : ((strB []).toList == []) = true := by rw [strB_nil]; rfl
          have hnl2 : (strB []).toList = [] := by simpa using hnl
          obtain ⟨s0, hs0⟩ : ∃ s0, strB [] = s0 := ⟨_, rfl⟩
          rw [hs0] at hnl hnl2 ⊢
          clear hs0 hown
          go_wp2_with fail
          exact bodyPost_ret (v := .tuple #[.slice va na vc, .nilIface]) (by simp [results, Tryd.results7, go_sem]) rfl ⟨_, _, rfl, HB.out, .inl ⟨acc, HX2.out, HOWN.out.in, rfl⟩⟩
        | cons c t =>
          have hgl := HG.out
          rw [List.length_cons] at hgl
          obtain ⟨g', rfl⟩ : ∃ g', gk = g' + 1 := ⟨gk - 1, by omega⟩
          have hall := HAL.out
          rw [List.length_cons] at hall
          have hNl := HL.out
          have hsr := strB_size (c :: t)
          rw [List.length_cons] at hsr
          have hlex := HLEX.out
          rw [lexQ, if_neg (List.cons_ne_nil c t)] at hlex
          have HLX := Lib.hid hlex
          have hnl : ((strB (c :: t)).toList == []) = false := by rw [strB_nil]; rfl
          have hnl2 : ¬ (strB (c :: t)).toList = [] := by simpa using hnl
          have HOP := Lib.hid (operand_calls hown.in (by omega))
          have HRD := Lib.hid (fun (W : World) (hb : Below wr.heap.size wr W) => read_calls c t (behindQ acc) W (by omega) (HE.out.below (below_then HB.out hb)))
          have hrr : (c :: t).length = t.length + 1 := rfl
          obtain ⟨q, hq⟩ : ∃ q, readQ (c :: t) (behindQ acc) = q := ⟨_, rfl⟩
          obtain ⟨bq, hbq⟩ : ∃ bq, behindQ acc = bq := ⟨_, rfl⟩
          rw [hq] at HRD HLX
          rw [hbq] at HRD HOP hq
          obtain ⟨at_, hat⟩ : ∃ a, N - (c :: t).length = a := ⟨_, rfl⟩
          rw [hat] at HLX
          rw [hrr] at hat
          obtain ⟨va, vc, hv⟩ := hown.form
          obtain ⟨na, hna⟩ : ∃ na, acc.length = na := ⟨_, rfl⟩
          rw [hna] at hv hall
          subst hv
          have HNA := Lib.hid hna
          have HQ := Lib.hid hq
          have hdr := fun z => drop_strB (c :: t) z
          have HDR := Lib.hid hdr
          obtain ⟨sr, hsrr⟩ : ∃ s0, strB (c :: t) = s0 := ⟨_, rfl⟩
          rw [hsrr] at hsr hnl hnl2 HRD HDR ⊢
          have hsub : IntKind.i64.wrap ((s.size : Int) - (sr.size : Int)) = (at_ : Int) := by have := HSZ.out; rw [IntWalk.i64_in _ (by omega)]; omega
          have HSR := Lib.hid hsr
          clear hgl hall hlex hq hbq hat hna hrr hdr hsrr hown HLEX hsr hNl
          cases q with
          | error cc =>
            have hcc := read_err HQ.out
            have hc0 : (cc == 0) = false := by
              rw [beq_eq_false_iff_ne]
              omega
            have hc1 : ¬ cc = 0 := by omega
            have HX2 : Hid (X = .error (cc, at_)) := Lib.hid HLX.out.symm
            have HF := Lib.hid (fun (W : World) => fail_calls cc (at_ : Int) W hc0)
            unfold FailOut at HF
            unfold rdV at HRD
            dsimp only at HRD
            clear hcc
            go_wp2_with fail
            with_reducible refine HOP.out.mono ?_
            rintro e w4 ⟨rfl, hb4⟩
            have HRD4 := Lib.hid (HRD.out w4 hb4)
            have HB4 := Lib.hid (below_then HB.out hb4)
            clear hb4 HRD
            go_wp2_with fail
            with_reducible refine HRD4.out.mono ?_
            rintro e w5 ⟨rfl, hb5⟩
            have HB5 := Lib.hid (below_then HB4.out hb5)
            clear hb5 HRD4
            go_wp2_with fail
            with_reducible refine (HF.out _).mono ?_
            rintro e w6 ⟨ev, rfl, her, hb6⟩
            have HB6 : Hid (Below w.heap.size w w6) := Lib.hid (below_then (HB5.out.alloc HB5.out.size _) hb6)
            have HER : Hid (ErrAt w.heap.size w6 cc (at_ : Int) ev) := Lib.hid (her.low (by have := HB5.out.size; simp; omega))
            obtain ⟨eb, rfl⟩ : ∃ eb, ev = .iface 61 (.pointer (some ⟨eb, 0, none⟩)) := by
              rcases her with ⟨h0, _⟩ | ⟨_, eb, h1, _⟩
              · exact absurd h0 hc1
              · exact ⟨eb, h1⟩
            clear her hb6 HF
            go_wp2_with fail
            exact bodyPost_ret (v := .tuple #[.slice none 0 0, .iface 61 (.pointer (some ⟨eb, 0, none⟩))]) (by simp [results, Tryd.results7, go_sem]) rfl ⟨_, _, rfl, HB6.out, .inr ⟨cc, at_, HX2.out, rfl, HER.out⟩⟩
          | ok x =>
            obtain ⟨k, tx, z⟩ := x
            have R := read_reads HOK.out HQ.out
            have hzl := R.le
            rw [List.length_cons] at hzl
            have hz0 := R.pos
            have HR := Lib.hid R
            have hlx : lexQ N g' (blk ((c :: t).drop z)) (acc ++ [⟨k, at_, tx⟩]) = X := HLX.out
            have HLX2 := Lib.hid hlx
            have hbl := blk_le ((c :: t).drop z)
            rw [List.length_drop, List.length_cons] at hbl
            have HBL := Lib.hid hbl
            have x1 := HDR.out z
            have HBR := Lib.hid (fun (W : World) => bare_calls ((c :: t).drop z) W)
            obtain ⟨sd, hsd⟩ : ∃ s0, strB ((c :: t).drop z) = s0 := ⟨_, rfl⟩
            rw [hsd] at x1 HBR
            obtain ⟨r', hr'⟩ : ∃ r', blk ((c :: t).drop z) = r' := ⟨_, rfl⟩
            have HOK' : Hid (Ok8 r') := Lib.hid (by rw [← hr']; exact ok_blk R.ok)
            rw [hr'] at HLX2 HBL HBR
            unfold rdV at HRD
            dsimp only at HRD
            have hzs : (z : Int) ≤ (sr.size : Int) := by have := HSR.out; omega
            have hz00 : (0 : Int) ≤ (z : Int) := by omega
            have HZ0 := Lib.hid hz0
            clear R hzl hz0 hlx hbl hsd hr' HLX HDR HQ
            go_wp2_with fail
            with_reducible refine HOP.out.mono ?_
            rintro e w4 ⟨rfl, hb4⟩
            have HRD4 := Lib.hid (HRD.out w4 hb4)
            have HB4 := Lib.hid (below_then HB.out hb4)
            have HO4 := Lib.hid (HOWN.out.below hb4)
            clear hb4 HRD
            go_wp2_with fail
            with_reducible refine HRD4.out.mono ?_
            rintro e w5 ⟨rfl, hb5⟩
            have HB5 := Lib.hid (below_then HB4.out hb5)
            have HO5 := Lib.hid (HO4.out.below hb5)
            clear hb5 HRD4 HO4
            have hb6 : Below w5.heap.size w5 (w5.alloc (.cells #[.int .i64 k, .int .i64 (at_ : Int), .string (strB tx)] 31)) := (Below.refl _ _).alloc (Nat.le_refl _) _
            have hsz6 : (w5.alloc (.cells #[.int .i64 k, .int .i64 (at_ : Int), .string (strB tx)] 31)).heap.size = w5.heap.size + 1 := by simp
            obtain ⟨v', w9, hrun, hown9, hkp9⟩ := (HO5.out.below hb6).append ⟨k, at_, tx⟩ (by rw [hsz6]; have := HB5.out.size; omega) (by have := HAL.out; have := HL.out; omega)
            dsimp only at hrun
            rw [hsz6] at hrun
            obtain ⟨va9, vc9, hv9⟩ := hown9.form
            rw [List.length_append, HNA.out, List.length_singleton] at hv9
            have HO9 := Lib.hid hown9
            have HB9 : Hid (Below w.heap.size w w9) := Lib.hid ((HB5.out.trans (hb6.mono HB5.out.size)).trans (hkp9.toBelow (by rw [hsz6]; have := HB5.out.size; omega) (fun q e => HO5.out.new q e)))
            subst hv9
            obtain ⟨stx, hstx⟩ : ∃ s0, strB tx = s0 := ⟨_, rfl⟩
            rw [hstx] at hrun ⊢
            have HRUN := Lib.hid hrun
            clear hrun hown9 hkp9 hb6 hsz6 hstx
            go_wp2_with (at_builtin; refine wpList_step (fun K hK => step_app HRUN.out (.tmp 46) (.tmp 48) rfl rfl rfl rfl (hK _ _ ?_)))
            with_reducible refine (HBR.out w9).mono ?_
            rintro e w10 ⟨rfl, hb10⟩
            have HB10 := Lib.hid (below_then HB9.out hb10)
            have HO10 := Lib.hid (HO9.out.below hb10)
            clear hb10 HBR
            go_wp2_with fail
            go_roundg g'
            case measure => omega
            case rel => exact ⟨acc ++ [⟨k, at_, tx⟩], r', rfl, by have := HBL.out; have := HG.out; rw [List.length_cons] at this; have := HZ0.out; omega, by have := HBL.out; have := HAL.out; rw [List.length_cons] at this; have := HZ0.out; rw [List.length_append, List.length_singleton]; omega, HOK'.out, HLX2.out, HO10.out, HB10.out⟩
end Go.Proofs.YtkpgbcackphdbaaDoor
