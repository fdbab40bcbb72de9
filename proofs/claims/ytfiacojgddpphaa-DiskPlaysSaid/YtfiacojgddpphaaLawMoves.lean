/-
  The walk of the law DiskMoves at every list of files and every two names. Conditions: no list, no file and no name is longer than 2 to the 48.
-/
import Derived.Test.YtfiacojgddpphaaLawP
import Derived.Test.YtfiacojgddpphaaAwake
namespace Go.Proofs.Ytfiacojgddpphaa
open Go.RowKit Go.Lib Go.Joins

/-- What a disk without troubles makes of a new name. -/
theorem moves_pure {d : Dsk} {n : Nat} (hn : New d n) (hi : Inv d) (s t : ByteArray) :
    ∃ v d', step d ⟨5, s, t, 0, []⟩ = (v, d') ∧
      ((fnd s d.L = none ∨ nmd t = false) → v ≠ 0 ∧ used d'.L = n) ∧
      (∀ f, fnd s d.L = some f → nmd t = true → v = 0 ∧ fnd t d'.L = some { f with name := t } ∧ (s = t → used d'.L = n) ∧
        (s ≠ t → fnd s d'.L = none ∧ (used d'.L : Int) = (n : Int) - ((dataO (fnd t d.L)).length : Int))) ∧ used d'.L ≤ n := by
  obtain ⟨v, d', hst⟩ : ∃ v d', step d ⟨5, s, t, 0, []⟩ = (v, d') := ⟨_, _, rfl⟩
  have hi' : Inv d' := by have := inv_step (o := ⟨5, s, t, 0, []⟩) hi (fun c hc => by cases hc); rw [hst] at this; exact this
  refine ⟨v, d', hst, ?_⟩
  rw [step_calm hn.down hn.tr] at hst
  cases hf : fnd s d.L with
  | none =>
    have hr : ref d ⟨5, s, t, 0, []⟩ = 42 := ref_none (show (5 : Nat) ≠ 1 by decide) hf
    rw [hr, if_neg (by decide)] at hst
    obtain ⟨rfl, rfl⟩ := Prod.mk.inj hst
    exact ⟨fun _ => ⟨by decide, hn.used⟩, (fun f h => by cases h), Nat.le_of_eq hn.used⟩
  | some f =>
    have hr : ref d ⟨5, s, t, 0, []⟩ = if nmd t = false then 44 else 0 := ref_some (show (5 : Nat) ≠ 1 by decide) hf
    cases ht : nmd t with
    | false =>
      rw [hr, ht, if_pos rfl, if_neg (by decide)] at hst
      obtain ⟨rfl, rfl⟩ := Prod.mk.inj hst
      exact ⟨fun _ => ⟨by decide, hn.used⟩, (fun f _ h => by cases h), Nat.le_of_eq hn.used⟩
    | true =>
      rw [hr, ht, if_pos (by decide)] at hst
      obtain ⟨rfl, rfl⟩ := Prod.mk.inj hst
      have hsr : Srt (ren s t d.L) := hi'.srt
      refine ⟨(fun h => by rcases h with h | h <;> cases h), fun g hg _ => ?_, ?_⟩
      · obtain rfl : f = g := Option.some.inj hg
        refine ⟨rfl, ren_there hsr hf, fun e => ?_, fun hne => ⟨ren_gone hne hf, ?_⟩⟩
        · subst e
          exact (used_ren_self hi.srt hf).trans hn.used
        · show (used (ren s t d.L) : Int) = _
          cases hg : fnd t d.L with
          | none => rw [used_ren_free hi.srt hne hf hg, hn.used]; simp [dataO]
          | some g =>
            have := used_ren_over hi.srt hne hf hg
            rw [hn.used] at this
            show _ = (n : Int) - (g.data.length : Int)
            omega
      · show used (ren s t d.L) ≤ n
        by_cases hne : s = t
        · subst hne
          exact Nat.le_of_eq ((used_ren_self hi.srt hf).trans hn.used)
        · cases hg : fnd t d.L with
          | none => exact Nat.le_of_eq ((used_ren_free hi.srt hne hf hg).trans hn.used)
          | some g =>
            have := used_ren_over hi.srt hne hf hg
            rw [hn.used] at this
            omega

theorem used_live {w0 w : World} {S : Nat → Prop} {B : Nat} {d : Dsk} (h : Live w0 w S B d) (hu : used d.L ≤ 1073741824) : Calls Try.prog 17 #[.pointer (some ⟨B, 0, none⟩)] w (Leaves (.int .i64 (used d.L : Int)) w) := by
  obtain ⟨hi, _, F, T, cs, hd⟩ := h.disk
  exact used_calls w hd hi hu

set_option maxRecDepth 100000 in
set_option maxHeartbeats 8000000 in
theorem law_moves (a : Option Addr) (L : List FilI) (c n : Nat) (s t : ByteArray) (w : World) {S0 : Nat → Prop} (hr : Fils w S0 a L) (hn : L.length = n) (hb : n ≤ 281474976710656) (hd : ∀ f ∈ L, f.data.length ≤ 281474976710656) (hS0 : ∀ k, S0 k → k < w.heap.size) :
    Calls Try.prog 7 #[.slice a n c, .string s, .string t] w (Leaves (.bool true) w) := by
  have HR := Lib.hid hr
  have HN := Lib.hid hn
  have HD := Lib.hid hd
  have HS0 := Lib.hid hS0
  clear hr hn hd hS0
  go_enter Try.func7, Try.ntmps7
  go_wp2_with fail
  with_reducible refine (awake_calls w).mono ?_
  rintro e w1 ⟨rfl, hb1⟩
  have HB1 := Lib.hid hb1
  have HR1 := Lib.hid (HR.out.below hb1)
  clear hb1
  cases hsm : smallF L 0 0 with
  | false =>
    go_wp2_with fail
    have hc := small_calls a L c n w1 HR1.out HN.out hb HD.out
    rw [hsm] at hc
    with_reducible refine hc.mono ?_
    rintro e w2 ⟨rfl, k, rfl⟩
    go_wp2
    go_ret
    exact ⟨rfl, below_then HB1.out (below_drewN w1 k)⟩
  | true =>
    obtain ⟨ht1, hnm1, hlen1⟩ := smallF_total L 0 0 hsm
    have HT := Lib.hid ht1
    have HNM := Lib.hid hnm1
    have HLEN := Lib.hid hlen1
    have HSM := Lib.hid (small_calls a L c n w1 HR1.out HN.out hb HD.out)
    rw [hsm] at HSM
    clear ht1 hnm1 hlen1 hsm
    by_cases hls : 1000 < s.size
    · have hd1 : decide ((1000 : Int) < (s.size : Int)) = true := by simp; omega
      go_wp2_with fail
      with_reducible refine HSM.out.mono ?_
      rintro e w2 ⟨rfl, k, rfl⟩
      go_wp2
      go_ret
      exact ⟨rfl, below_then HB1.out (below_drewN w1 k)⟩
    by_cases hlt : 1000 < t.size
    · have hd1 : decide ((1000 : Int) < (s.size : Int)) = false := by simp; omega
      have hd2 : decide ((1000 : Int) < (t.size : Int)) = true := by simp; omega
      go_wp2_with fail
      with_reducible refine HSM.out.mono ?_
      rintro e w2 ⟨rfl, k, rfl⟩
      go_wp2
      go_ret
      exact ⟨rfl, below_then HB1.out (below_drewN w1 k)⟩
    have hd1 : decide ((1000 : Int) < (s.size : Int)) = false := by simp; omega
    have hd2 : decide ((1000 : Int) < (t.size : Int)) = false := by simp; omega
    go_wp2_with fail
    with_reducible refine HSM.out.mono ?_
    rintro e w2 ⟨rfl, k, rfl⟩
    have HB2 := Lib.hid (below_then HB1.out (below_drewN w1 k))
    have HR2 := Lib.hid (HR1.out.below (below_drewN w1 k))
    obtain ⟨w2, hw2⟩ : ∃ w2, w1.drewN k = w2 := ⟨_, rfl⟩
    rw [hw2] at HB2 HR2
    simp only [hw2]
    clear hw2 HR1 HB1 HSM
    go_wp2_with fail
    have hld := load_calls a L c n 32768 w2 HR2.out HN.out (by have := HT.out; omega) (fun f hf => by have := HNM.out f hf; omega) (by have h1 := HN.out; rcases HLEN.out with h | h; omega; rw [h] at h1; simp at h1; omega) (by decide)
    cases hq : loadS L (dsk0 32768) with
    | none =>
      rw [hq] at hld
      with_reducible refine hld.mono ?_
      rintro e w3 ⟨rfl, hb3⟩
      have HB3 := Lib.hid (below_then HB2.out hb3)
      clear hld hq hb3
      go_wp2
      go_ret
      exact ⟨rfl, HB3.out⟩
    | some d =>
      rw [hq] at hld
      obtain ⟨m, hm⟩ : ∃ m, 0 + total L = m := ⟨_, rfl⟩
      have hnew := (loadS_new (new_dsk0 32768) hq).1
      have hm2 : m ≤ 16384 := by rw [← hm]; exact HT.out
      rw [hm] at hnew
      with_reducible refine hld.mono ?_
      rintro e w3 ⟨B, S, rfl, hd3, hf3, hb3⟩
      have HL3 := Lib.hid (Live.born HB2.out hd3 hf3 hb3)
      have HSML := Lib.hid (hnew.sml (by omega))
      obtain ⟨v, d', hst, h1, h2, h3⟩ := moves_pure hnew hd3.1 s t
      have HNEW := Lib.hid hnew
      have HST := Lib.hid hst
      have H1 := Lib.hid h1
      have H2 := Lib.hid h2
      have H3 := Lib.hid h3
      clear hld hq hd3 hf3 hb3 hnew hst h1 h2 h3 hm HT HNM HLEN HR HR2 HB2
      obtain ⟨oa, hoa⟩ : ∃ oa, fnd s d.L = oa := ⟨_, rfl⟩
      obtain ⟨ob, hob⟩ : ∃ ob, fnd t d.L = ob := ⟨_, rfl⟩
      have HOA := Lib.hid hoa
      have HOB := Lib.hid hob
      have hra := read_any s HL3.out HSML.out.used (by omega)
      rw [hoa] at hra
      go_wp2_with fail
      with_reducible refine hra.mono ?_
      rintro e w4 ⟨aa, ca, Sa, rfl, hrow4, hSa, hb4⟩
      have HROW4 := Lib.hid hrow4
      have HOFF4 := Lib.hid (Off.new HL3.out hSa)
      have HL4 := Lib.hid (HL3.out.quiet hb4)
      clear hra hrow4 hSa hb4 hoa HL3
      have hrb := read_any t HL4.out HSML.out.used (by omega)
      rw [hob] at hrb
      go_wp2_with fail
      with_reducible refine hrb.mono ?_
      rintro e w5 ⟨ab, cb, Sb, rfl, _, _, hb5⟩
      obtain ⟨ql, hql⟩ : ∃ ql, (dataO ob).length = ql := ⟨_, rfl⟩
      obtain ⟨vb, hvb⟩ : ∃ vb, codeO ob = vb := ⟨_, rfl⟩
      rw [hql, hvb]
      have HQL := Lib.hid hql
      have HVB := Lib.hid hvb
      clear hql hvb
      have HROW5 := Lib.hid (HROW4.out.below hb5)
      have HOFF5 := Lib.hid (HOFF4.out.below hb5)
      have HL5 := Lib.hid (HL4.out.quiet hb5)
      clear hrb hb5 hob HL4 HROW4 HOFF4
      have huu := used_live HL5.out HSML.out.used
      rw [HNEW.out.used] at huu
      go_wp2_with fail
      with_reducible refine huu.mono ?_
      rintro e w6 ⟨rfl, hb6⟩
      have HROW6 := Lib.hid (HROW5.out.below hb6)
      have HOFF6 := Lib.hid (HOFF5.out.below hb6)
      have HL6 := Lib.hid (HL5.out.quiet hb6)
      clear huu hb6 HL5 HROW5 HOFF5
      have hrn := rename_calls s t w6 HL6.out.disk HSML.out (by omega) (by omega) 0
      rw [HST.out] at hrn
      go_wp2_with fail
      with_reducible refine hrn.mono ?_
      rintro e w7 ⟨rfl, ht7⟩
      obtain ⟨S7, hl7, hf7, hk7⟩ := HL6.out.turns ht7
      have HL7 : Hid (Live w w7 S7 B d') := Lib.hid hl7
      have HROW7 := Lib.hid (HROW6.out.keep hk7 HOFF6.out.not)
      have HU7 : Hid (used d'.L ≤ 1073741824) := Lib.hid (by have := H3.out; omega)
      have huse := used_live HL7.out HU7.out
      have HUSE := Lib.hid huse
      clear hrn ht7 hl7 hf7 hk7 huse HL6 HROW6 HOFF6
      by_cases hcase : oa = none ∨ nmd t = false
      · obtain ⟨hv, hu⟩ := H1.out (by rw [HOA.out]; exact hcase)
        rw [hu] at HUSE
        have hvn : (v != 0) = true := by simpa using hv
        have hvn2 : (v == 0) = false := by simpa using hv
        have hvn3 : decide (v = 0) = false := by simpa using hv
        by_cases hoa : oa = none
        · subst hoa
          dsimp only [codeO, dataO]
          clear hcase hu hv H1 H2
          go_wp2_with fail
          with_reducible refine HUSE.out.mono ?_
          rintro e w8 ⟨rfl, hb8⟩
          have HB8 := Lib.hid (below_then HL7.out.bel hb8)
          clear hb8
          go_wp2
          go_ret
          exact ⟨rfl, HB8.out⟩
        · obtain ⟨f, rfl⟩ : ∃ f, oa = some f := by cases oa with | none => exact absurd rfl hoa | some f => exact ⟨f, rfl⟩
          have hnt : nmd t = false := by rcases hcase with h | h; cases h; exact h
          have hmay := may_calls t w7 (by omega)
          rw [hnt] at hmay
          dsimp only [codeO]
          clear hcase hu hv hoa hnt H1 H2
          go_wp2_with fail
          with_reducible refine hmay.mono ?_
          rintro e w8 ⟨rfl, rfl⟩
          clear hmay
          go_wp2_with fail
          with_reducible refine HUSE.out.mono ?_
          rintro e w9 ⟨rfl, hb8⟩
          have HB8 := Lib.hid (below_then HL7.out.bel hb8)
          clear hb8
          go_wp2
          go_ret
          exact ⟨rfl, HB8.out⟩
      · obtain ⟨f, rfl⟩ : ∃ f, oa = some f := by cases oa with | none => exact absurd (.inl rfl) hcase | some f => exact ⟨f, rfl⟩
        have hnt : nmd t = true := by cases h : nmd t with | false => exact absurd (.inr h) hcase | true => rfl
        obtain ⟨rfl, hft, hsame, hdiff⟩ := H2.out f HOA.out hnt
        have hmay := may_calls t w7 (by omega)
        rw [hnt] at hmay
        have HFT := Lib.hid hft
        have HSAME := Lib.hid hsame
        have HDIFF := Lib.hid hdiff
        have hlf : f.data.length ≤ 1073741824 := Nat.le_trans (used_mem (fnd_some HOA.out).1) HSML.out.used
        have HLF := Lib.hid hlf
        clear hcase hnt hft hsame hdiff hlf H1 H2
        change Hid (Row w7 Sa aa f.data) at HROW7
        dsimp only [codeO, dataO]
        go_wp2_with fail
        with_reducible refine hmay.mono ?_
        rintro e w8 ⟨rfl, rfl⟩
        clear hmay
        have hrx := read_any t HL7.out HU7.out (by omega)
        rw [HFT.out] at hrx
        go_wp2_with fail
        with_reducible refine hrx.mono ?_
        rintro e w8 ⟨ax, cx, Sx, rfl, hrow8, _, hb8⟩
        change Row w8 Sx ax f.data at hrow8
        dsimp only [dataO, codeO]
        have HB := Lib.hid (bytes_calls ax aa f.data f.data cx ca _ _ w8 hrow8 (HROW7.out.below hb8) rfl rfl HLF.out HLF.out)
        rw [decide_eq_true rfl] at HB
        have HL8 := Lib.hid (HL7.out.quiet hb8)
        clear hrx hrow8 hb8 HROW7
        obtain ⟨fl, hfl⟩ : ∃ fl, f.data.length = fl := ⟨_, rfl⟩
        rw [hfl] at HB
        simp only [hfl]
        clear hfl
        go_wp2_with fail
        with_reducible refine HB.out.mono ?_
        rintro e w9 ⟨rfl, k, rfl⟩
        have HL9 := Lib.hid (HL8.out.drewN k)
        obtain ⟨w9, hw9⟩ : ∃ w9, w8.drewN k = w9 := ⟨_, rfl⟩
        rw [hw9] at HL9
        simp only [hw9]
        clear hw9 HL8 HL7 HB HUSE
        have HUSE := Lib.hid (used_live HL9.out HU7.out)
        by_cases hst : s = t
        · subst hst
          have hu := HSAME.out rfl
          rw [hu] at HUSE
          have hee : (s.toList == s.toList) = true := by simp
          go_wp2_with fail
          with_reducible refine HUSE.out.mono ?_
          rintro e w10 ⟨rfl, hb10⟩
          have HB10 := Lib.hid (below_then HL9.out.bel hb10)
          clear hb10
          go_wp2
          go_ret
          exact ⟨rfl, HB10.out⟩
        · have hee : (s.toList == t.toList) = false := by
            rw [ByteArray.toList_eq, ByteArray.toList_eq]
            have := same_is s t
            rw [decide_eq_false hst] at this
            exact this
          obtain ⟨hfs, hus⟩ := HDIFF.out hst
          rw [HOB.out, HQL.out] at hus
          have hry := read_any s HL9.out HU7.out (by omega)
          rw [hfs] at hry
          clear HUSE hfs
          go_wp2_with fail
          with_reducible refine hry.mono ?_
          rintro e w10 ⟨ay, cy, Sy, rfl, _, _, hb10⟩
          dsimp only [dataO, codeO, List.length_nil]
          have HL10 := Lib.hid (HL9.out.quiet hb10)
          have HUSE := Lib.hid (used_live HL10.out HU7.out)
          clear hry hb10
          cases ob with
          | none =>
            obtain rfl : 0 = ql := HQL.out
            obtain rfl : 42 = vb := HVB.out
            have h00 : (m : Int) - ((0 : Nat) : Int) = (m : Int) := by omega
            rw [hus, h00] at HUSE
            clear hus h00
            go_wp2_with fail
            with_reducible refine HUSE.out.mono ?_
            rintro e w11 ⟨rfl, hb11⟩
            have HB11 := Lib.hid (below_then HL10.out.bel hb11)
            clear hb11
            go_wp2
            go_ret
            exact ⟨rfl, HB11.out⟩
          | some g =>
            obtain rfl : 0 = vb := HVB.out
            rw [hus] at HUSE
            have hsub : IntKind.i64.wrap ((m : Int) - (ql : Int)) = (m : Int) - (ql : Int) := IntWalk.i64_in _ ⟨by omega, by omega⟩
            clear hus
            go_wp2_with fail
            with_reducible refine HUSE.out.mono ?_
            rintro e w11 ⟨rfl, hb11⟩
            have HB11 := Lib.hid (below_then HL10.out.bel hb11)
            clear hb11
            go_wp2
            go_ret
            exact ⟨rfl, HB11.out⟩

end Go.Proofs.Ytfiacojgddpphaa
