/-
  The walk of the law DiskSafe at all bytes, every steps and every tails. Conditions: the arguments lie in memory; no list is longer than 2 to the 48.
-/
import Derived.Test.YtfiacojgddpphaaLawK
import Derived.Test.YtfiacojgddpphaaAwake
import Derived.Test.YtfiacojgddpphaaPick
import Derived.Test.YtfiacojgddpphaaLawMoves
namespace Go.Proofs.Ytfiacojgddpphaa
open Go.RowKit Go.Lib Go.Joins

theorem toList_ne2 {a b : ByteArray} (h : a ≠ b) : (a.toList == b.toList) = false := by
  rw [ByteArray.toList_eq, ByteArray.toList_eq]
  have := same_is a b
  rw [decide_eq_false h] at this
  exact this

theorem kept_ne {a : ByteArray} (h : a ≠ nK) : (a.toList == ([107, 101, 112, 116] : List UInt8)) = false := by
  have h1 := toList_ne2 h
  rw [show nK.toList = [107, 101, 112, 116] from ByteArray.toList_eq nK] at h1
  exact h1

/-- What is read of a file, with its slice's room. -/
def ReadFull (f : Fil) (w : World) (e : Ending) (w' : World) : Prop :=
  ∃ a c S', e = .returned (.tuple #[.slice a f.data.length c, .int .i64 0]) ∧ Row w' S' a f.data ∧ ((a = none ∧ c = 0) ∨ ∃ g, a = some ⟨g, 0, none⟩) ∧ f.data.length ≤ c ∧ Below w.heap.size w w'
theorem read_full (s : ByteArray) {w : World} {S : Nat → Prop} {B : Nat} {d : Dsk} (h : Disk w S B d) (hu : used d.L ≤ 1073741824) (hz : s.size ≤ 1099511627776) {f : Fil} (hf : fnd s d.L = some f) :
    Calls Try.prog 21 #[.pointer (some ⟨B, 0, none⟩), .string s] w (ReadFull f w) := by
  refine (read_calls s w h hu hz).mono ?_
  rintro e w' ⟨hb, hm⟩
  rw [hf] at hm
  obtain ⟨v, he, ho⟩ := hm
  obtain ⟨a, c, rfl, hr, _, h2, _⟩ := (row_of_own (h.1.byte f (fnd_some hf).1) rfl ho).is
  refine ⟨a, c, _, he, hr, ?_, h2, hb⟩
  rcases ho.2 with ⟨h1, _⟩ | ⟨g, cap, _, h1, _⟩
  · obtain ⟨rfl, _, rfl⟩ := Value.slice.inj h1
    exact .inl ⟨rfl, rfl⟩
  · obtain ⟨rfl, _, _⟩ := Value.slice.inj h1
    exact .inr ⟨g, rfl⟩

set_option maxRecDepth 100000 in
set_option maxHeartbeats 16000000 in
theorem law_safe (a : Option Addr) (b : List Nat) (cap n : Nat) (sa : Option Addr) (l : List DoI) (sc sn : Nat) (ta : Option Addr) (ts : List Int) (tc tn : Nat) (w : World) {S0 : Nat → Prop} (hr : Row w S0 a b) (hn : b.length = n) (hn0 : a = none → cap = 0) (hbc : n ≤ cap) (hbm : cap ≤ maxLen)
    (hl : Dos w S0 sa l) (hsn : l.length = sn) (hsb : sn ≤ 281474976710656) (ht : RowI w S0 ta ts) (htn : ts.length = tn) (htc : tn ≤ tc) (hS0 : ∀ k, S0 k → k < w.heap.size) :
    Calls Try.prog 4 #[.slice a n cap, .slice sa sn sc, .slice ta tn tc] w (Leaves (.bool true) w) := by
  have HR := Lib.hid hr
  have HN := Lib.hid hn
  have HN0 := Lib.hid hn0
  have HBC := Lib.hid hbc
  have HBM := Lib.hid hbm
  have HL := Lib.hid hl
  have HSN := Lib.hid hsn
  have HTA := Lib.hid ht
  have HTN := Lib.hid htn
  have HTC := Lib.hid htc
  have HS0 := Lib.hid hS0
  clear hr hn hn0 hbc hbm hl hsn ht htn htc hS0
  go_enter Try.func4, Try.ntmps4
  go_wp2_with fail
  with_reducible refine (awake_calls w).mono ?_
  rintro e w1 ⟨rfl, hb1⟩
  have HB1 := Lib.hid hb1
  clear hb1
  by_cases hbig : 1000 < n
  · have e0 : decide ((1000 : Int) < (n : Int)) = true := by simp; omega
    go_wp2
    go_ret
    exact ⟨rfl, HB1.out⟩
  have e0 : decide ((1000 : Int) < (n : Int)) = false := by simp; omega
  have HSD := Lib.hid (dsmall_calls sa l sc sn w1 (HL.out.below HB1.out) HSN.out hsb)
  go_wp2_with fail
  clear e0
  with_reducible refine HSD.out.mono ?_
  clear HSD
  rintro e w4 ⟨rfl, rfl⟩
  cases hsd : smallD l 0 with
  | false =>
    go_wp2
    go_ret
    exact ⟨rfl, HB1.out⟩
  | true =>
  have HX : Hid (∀ j x, l[j]? = some x → j < 60 → DoS x) := Lib.hid (fun j x hx hj => smallD_at hsd hx (by omega))
  clear hsd
  by_cases htl : 200 < tn
  · have e1 : decide ((200 : Int) < (tn : Int)) = true := by simp; omega
    go_wp2
    go_ret
    exact ⟨rfl, HB1.out⟩
  have e1 : decide ((200 : Int) < (tn : Int)) = false := by simp; omega
  go_wp2_with fail
  clear e1
  with_reducible refine (new_calls 4000 w1 (by decide)).mono ?_
  rintro e w2 ⟨B, S2, rfl, hd2, hf2, hb2⟩
  have HL2 := Lib.hid (Live.born HB1.out hd2 hf2 hb2)
  clear hd2 hf2 hb2
  have hc3 : Calls Try.prog 26 #[.pointer (some ⟨B, 0, none⟩), .string nK] w2 (Does w2 S2 B (.int .i64 (step (dsk0 4000) ⟨1, nK, nK, 0, []⟩).1) kd1) := create_calls nK w2 HL2.out.disk ⟨by decide, by decide, by decide⟩ (by decide) nK 0
  rw [kdA1] at hc3
  have HC3 := Lib.hid hc3
  clear hc3
  go_wp2_with fail
  with_reducible refine HC3.out.mono ?_
  rintro e w3 ⟨rfl, ht3⟩
  obtain ⟨S3, hl3, _⟩ := HL2.out.turns ht3
  have HL3 := Lib.hid hl3
  clear ht3 hl3 HC3 HL2
  obtain ⟨d2, d3, hs2, hs3, hfw2, hfw3, hkept⟩ := kept_start (b := b) (by rw [HN.out]; omega)
  have hc4 := append_calls nK a b cap w3 HL3.out.disk (by rw [kd1_is]; exact ⟨by decide, by decide, by decide⟩) (by decide) (HR.out.below HL3.out.bel) (Off.old HL3.out HS0.out) HN0.out (by rw [HN.out]; exact HBC.out) HBM.out (by rw [HN.out]; omega) nK 0
  rw [hs2, HN.out] at hc4
  have HC4 := Lib.hid hc4
  have HS3 := Lib.hid hs3
  have HFW2 := Lib.hid hfw2
  have HFW3 := Lib.hid hfw3
  have HKEPT := Lib.hid hkept
  clear hc4 hs2 hs3 hfw2 hfw3 hkept
  go_wp2_with fail
  with_reducible refine HC4.out.mono ?_
  rintro e w4 ⟨rfl, ht4⟩
  obtain ⟨S4, hl4, _⟩ := HL3.out.turns ht4
  have HL4 : Hid (Live w w4 S4 B d2) := Lib.hid hl4
  clear ht4 hl4 HC4 HL3
  have hc5 := sync_calls nK w4 HL4.out.disk (HFW2.out.sml HL4.out.disk.1 (by decide) (by decide)) (by decide) nK 0
  rw [HS3.out] at hc5
  have HC5 := Lib.hid hc5
  clear hc5
  go_wp2_with fail
  with_reducible refine HC5.out.mono ?_
  rintro e w5 ⟨rfl, ht5⟩
  obtain ⟨S5, hl5, _⟩ := HL4.out.turns ht5
  have HL5 : Hid (Live w w5 S5 B d3) := Lib.hid hl5
  clear ht5 hl5 HC5 HL4 HS3 HFW2
  go_wp2
  go_loopg [8, 9] sn (fun g idx bx wr => ∃ (i : Nat) (d : Dsk) (S : Nat → Prop), idx = .int .i64 (i : Int) ∧ g + i = sn ∧ i ≤ 60 ∧ Live w wr S B d ∧ Few d 4000 (i + 3) ∧ Kept b d.L)
  case atStart => exact ⟨0, d3, S5, rfl, rfl, by decide, HL5.out, HFW3.out, HKEPT.out⟩
  case round =>
    obtain ⟨i, d, Si, rfl, hg, hi60, hlv, hfw, hkp⟩ := hrel
    have HG0 := Lib.hid hg
    have HLV := Lib.hid hlv
    have HFW := Lib.hid hfw
    have HKP := Lib.hid hkp
    have HSML := Lib.hid (hfw.sml hlv.disk.1 (by decide) (by omega))
    clear hg hlv hfw hkp HFW3 HL5 HKEPT
    by_cases hlt : i < sn ∧ i < 60
    · obtain ⟨hlt, h60⟩ := hlt
      obtain ⟨g', rfl⟩ : ∃ g', gk = g' + 1 := ⟨gk - 1, by have := HG0.out; omega⟩
      have hdd : decide ((i : Int) < (sn : Int)) = true := by simp; omega
      have hdd6 : decide ((i : Int) < 60) = true := by simp; omega
      obtain ⟨x, hx⟩ : ∃ x, l[i]? = some x := ⟨l[i]'(by rw [HSN.out]; exact hlt), List.getElem?_eq_getElem _⟩
      have HXX := Lib.hid (HX.out i x hx h60)
      obtain ⟨sb, so, dc, rfl, hv, c0, c1, c2, c3, c4, c5, c6⟩ := dos_at (HL.out.below HLV.out.bel) hx
      have HV := Lib.hid hv
      clear hx hv
      obtain ⟨k, s, t, nn, xb, xts, xtl⟩ := x
      obtain ⟨xab, xcb, xat, xct, xal, xcl⟩ := dc
      dsimp only at c0 c1 c2 c3 c4 c5 c6
      by_cases hk3 : k = 3
      · subst hk3
        by_cases hs : s = nK
        · subst hs
          have hee : (({ data := #[107, 101, 112, 116] } : ByteArray).toList == ({ data := #[107, 101, 112, 116] } : ByteArray).toList) = true := by simp
          go_wp2
          go_roundg g'
          case measure => omega
          case rel => exact ⟨i + 1, d, Si, by go_num, by have := HG0.out; omega, by omega, HLV.out.quiet ((Below.refl _ wr).alloc (Nat.le_refl _) _), ⟨HFW.out.room, HFW.out.ops0, by have := HFW.out.ops1; omega⟩, HKP.out⟩
        · have hnes : (s.toList == ([107, 101, 112, 116] : List UInt8)) = false := kept_ne hs
          have hnqs : ¬ s.toList = ([107, 101, 112, 116] : List UInt8) := by simpa using hnes
          obtain ⟨r, hr⟩ : ∃ r, actS d ⟨3, s, t, nn, xb, xts, xtl⟩ = r := ⟨_, rfl⟩
          have hkp2 : Kept b r.2.L := by rw [← hr]; exact kept_act HLV.out.disk.1 HKP.out ⟨3, s, t, nn, xb, xts, xtl⟩ (fun _ => hs) (fun h => absurd h (show ¬ ((3 : Int) = 5) by decide))
          have hfw2 : Few r.2 4000 (i + 1 + 3) := by
            rw [← hr]
            have h := HFW.out.act ⟨3, s, t, nn, xb, xts, xtl⟩
            exact ⟨h.room, h.ops0, by have := h.ops1; omega⟩
          have hl7 : Live w (wr.alloc (.cells #[.int .i64 3, .string s, .string t, .int .i64 nn, .slice xab xb.length xcb, .slice xat xts.length xct, .slice xal xtl.length xcl] 39)) Si B d := HLV.out.quiet ((Below.refl _ wr).alloc (Nat.le_refl _) _)
          have hac := act_calls ⟨3, s, t, nn, xb, xts, xtl⟩ ⟨xab, xcb, xat, xct, xal, xcl⟩ hl7 HSML.out (HV.out.below ((Below.refl _ wr).alloc (Nat.le_refl _) _)) (Off.old hl7 HS0.out) HXX.out
          rw [hr] at hac
          have HL7 := Lib.hid hl7
          have HAC := Lib.hid hac
          have HKP2 := Lib.hid hkp2
          have HFW2 := Lib.hid hfw2
          clear hr hac hl7 hkp2 hfw2
          go_wp2_with fail
          clear hs hnes hnqs
          with_reducible refine HAC.out.mono ?_
          rintro e w8 ⟨rfl, ht8⟩
          obtain ⟨S8, hl8, _, _⟩ := HL7.out.turns ht8
          have hfit := hl8.disk.1.fit
          rw [HFW2.out.room] at hfit
          have HUSE := Lib.hid (used_live hl8 (by omega))
          have HL8 := Lib.hid hl8
          obtain ⟨u, hu⟩ : ∃ u : Nat, used r.2.L = u := ⟨_, rfl⟩
          rw [hu] at HUSE hfit
          have hub : decide ((4000 : Int) < (u : Int)) = false := by simp; omega
          clear hu ht8 hl8 HAC HL7
          go_wp2_with fail
          with_reducible refine HUSE.out.mono ?_
          rintro e w9 ⟨rfl, hb9⟩
          have HL9 := Lib.hid (HL8.out.quiet hb9)
          clear hb9 HUSE HL8
          go_wp2
          go_roundg g'
          case measure => omega
          case rel => exact ⟨i + 1, r.2, S8, by go_num, by have := HG0.out; omega, by omega, HL9.out, HFW2.out, HKP2.out⟩
      by_cases hk6 : k = 6
      · subst hk6
        by_cases hs : s = nK
        · subst hs
          have hee : (({ data := #[107, 101, 112, 116] } : ByteArray).toList == ({ data := #[107, 101, 112, 116] } : ByteArray).toList) = true := by simp
          go_wp2
          go_roundg g'
          case measure => omega
          case rel => exact ⟨i + 1, d, Si, by go_num, by have := HG0.out; omega, by omega, HLV.out.quiet ((Below.refl _ wr).alloc (Nat.le_refl _) _), ⟨HFW.out.room, HFW.out.ops0, by have := HFW.out.ops1; omega⟩, HKP.out⟩
        · have hnes : (s.toList == ([107, 101, 112, 116] : List UInt8)) = false := kept_ne hs
          have hnqs : ¬ s.toList = ([107, 101, 112, 116] : List UInt8) := by simpa using hnes
          obtain ⟨r, hr⟩ : ∃ r, actS d ⟨6, s, t, nn, xb, xts, xtl⟩ = r := ⟨_, rfl⟩
          have hkp2 : Kept b r.2.L := by rw [← hr]; exact kept_act HLV.out.disk.1 HKP.out ⟨6, s, t, nn, xb, xts, xtl⟩ (fun _ => hs) (fun h => absurd h (show ¬ ((6 : Int) = 5) by decide))
          have hfw2 : Few r.2 4000 (i + 1 + 3) := by
            rw [← hr]
            have h := HFW.out.act ⟨6, s, t, nn, xb, xts, xtl⟩
            exact ⟨h.room, h.ops0, by have := h.ops1; omega⟩
          have hl7 : Live w (wr.alloc (.cells #[.int .i64 6, .string s, .string t, .int .i64 nn, .slice xab xb.length xcb, .slice xat xts.length xct, .slice xal xtl.length xcl] 39)) Si B d := HLV.out.quiet ((Below.refl _ wr).alloc (Nat.le_refl _) _)
          have hac := act_calls ⟨6, s, t, nn, xb, xts, xtl⟩ ⟨xab, xcb, xat, xct, xal, xcl⟩ hl7 HSML.out (HV.out.below ((Below.refl _ wr).alloc (Nat.le_refl _) _)) (Off.old hl7 HS0.out) HXX.out
          rw [hr] at hac
          have HL7 := Lib.hid hl7
          have HAC := Lib.hid hac
          have HKP2 := Lib.hid hkp2
          have HFW2 := Lib.hid hfw2
          clear hr hac hl7 hkp2 hfw2
          go_wp2_with fail
          clear hs hnes hnqs
          with_reducible refine HAC.out.mono ?_
          rintro e w8 ⟨rfl, ht8⟩
          obtain ⟨S8, hl8, _, _⟩ := HL7.out.turns ht8
          have hfit := hl8.disk.1.fit
          rw [HFW2.out.room] at hfit
          have HUSE := Lib.hid (used_live hl8 (by omega))
          have HL8 := Lib.hid hl8
          obtain ⟨u, hu⟩ : ∃ u : Nat, used r.2.L = u := ⟨_, rfl⟩
          rw [hu] at HUSE hfit
          have hub : decide ((4000 : Int) < (u : Int)) = false := by simp; omega
          clear hu ht8 hl8 HAC HL7
          go_wp2_with fail
          with_reducible refine HUSE.out.mono ?_
          rintro e w9 ⟨rfl, hb9⟩
          have HL9 := Lib.hid (HL8.out.quiet hb9)
          clear hb9 HUSE HL8
          go_wp2
          go_roundg g'
          case measure => omega
          case rel => exact ⟨i + 1, r.2, S8, by go_num, by have := HG0.out; omega, by omega, HL9.out, HFW2.out, HKP2.out⟩
      by_cases hk5 : k = 5
      · subst hk5
        by_cases hs : s = nK
        · subst hs
          have hee : (({ data := #[107, 101, 112, 116] } : ByteArray).toList == ({ data := #[107, 101, 112, 116] } : ByteArray).toList) = true := by simp
          go_wp2
          go_roundg g'
          case measure => omega
          case rel => exact ⟨i + 1, d, Si, by go_num, by have := HG0.out; omega, by omega, HLV.out.quiet ((Below.refl _ wr).alloc (Nat.le_refl _) _), ⟨HFW.out.room, HFW.out.ops0, by have := HFW.out.ops1; omega⟩, HKP.out⟩
        · have hnes : (s.toList == ([107, 101, 112, 116] : List UInt8)) = false := kept_ne hs
          have hnqs : ¬ s.toList = ([107, 101, 112, 116] : List UInt8) := by simpa using hnes
          by_cases ht : t = nK
          · subst ht
            have hee : (({ data := #[107, 101, 112, 116] } : ByteArray).toList == ({ data := #[107, 101, 112, 116] } : ByteArray).toList) = true := by simp
            go_wp2
            go_roundg g'
            case measure => omega
            case rel => exact ⟨i + 1, d, Si, by go_num, by have := HG0.out; omega, by omega, HLV.out.quiet ((Below.refl _ wr).alloc (Nat.le_refl _) _), ⟨HFW.out.room, HFW.out.ops0, by have := HFW.out.ops1; omega⟩, HKP.out⟩
          · have hnet : (t.toList == ([107, 101, 112, 116] : List UInt8)) = false := kept_ne ht
            have hnqt : ¬ t.toList = ([107, 101, 112, 116] : List UInt8) := by simpa using hnet
            obtain ⟨r, hr⟩ : ∃ r, actS d ⟨5, s, t, nn, xb, xts, xtl⟩ = r := ⟨_, rfl⟩
            have hkp2 : Kept b r.2.L := by rw [← hr]; exact kept_act HLV.out.disk.1 HKP.out ⟨5, s, t, nn, xb, xts, xtl⟩ (fun _ => hs) (fun _ => ht)
            have hfw2 : Few r.2 4000 (i + 1 + 3) := by
              rw [← hr]
              have h := HFW.out.act ⟨5, s, t, nn, xb, xts, xtl⟩
              exact ⟨h.room, h.ops0, by have := h.ops1; omega⟩
            have hl7 : Live w (wr.alloc (.cells #[.int .i64 5, .string s, .string t, .int .i64 nn, .slice xab xb.length xcb, .slice xat xts.length xct, .slice xal xtl.length xcl] 39)) Si B d := HLV.out.quiet ((Below.refl _ wr).alloc (Nat.le_refl _) _)
            have hac := act_calls ⟨5, s, t, nn, xb, xts, xtl⟩ ⟨xab, xcb, xat, xct, xal, xcl⟩ hl7 HSML.out (HV.out.below ((Below.refl _ wr).alloc (Nat.le_refl _) _)) (Off.old hl7 HS0.out) HXX.out
            rw [hr] at hac
            have HL7 := Lib.hid hl7
            have HAC := Lib.hid hac
            have HKP2 := Lib.hid hkp2
            have HFW2 := Lib.hid hfw2
            clear hr hac hl7 hkp2 hfw2
            go_wp2_with fail
            clear hs ht hnes hnet hnqs hnqt
            with_reducible refine HAC.out.mono ?_
            rintro e w8 ⟨rfl, ht8⟩
            obtain ⟨S8, hl8, _, _⟩ := HL7.out.turns ht8
            have hfit := hl8.disk.1.fit
            rw [HFW2.out.room] at hfit
            have HUSE := Lib.hid (used_live hl8 (by omega))
            have HL8 := Lib.hid hl8
            obtain ⟨u, hu⟩ : ∃ u : Nat, used r.2.L = u := ⟨_, rfl⟩
            rw [hu] at HUSE hfit
            have hub : decide ((4000 : Int) < (u : Int)) = false := by simp; omega
            clear hu ht8 hl8 HAC HL7
            go_wp2_with fail
            with_reducible refine HUSE.out.mono ?_
            rintro e w9 ⟨rfl, hb9⟩
            have HL9 := Lib.hid (HL8.out.quiet hb9)
            clear hb9 HUSE HL8
            go_wp2
            go_roundg g'
            case measure => omega
            case rel => exact ⟨i + 1, r.2, S8, by go_num, by have := HG0.out; omega, by omega, HL9.out, HFW2.out, HKP2.out⟩
      have f3 : (k == 3) = false := by simpa using hk3
      have g3 : decide (k = 3) = false := by simpa using hk3
      have f5 : (k == 5) = false := by simpa using hk5
      have g5 : decide (k = 5) = false := by simpa using hk5
      have f6 : (k == 6) = false := by simpa using hk6
      have g6 : decide (k = 6) = false := by simpa using hk6
      obtain ⟨r, hr⟩ : ∃ r, actS d ⟨k, s, t, nn, xb, xts, xtl⟩ = r := ⟨_, rfl⟩
      have hkp2 : Kept b r.2.L := by rw [← hr]; exact kept_act HLV.out.disk.1 HKP.out ⟨k, s, t, nn, xb, xts, xtl⟩ (fun h => absurd h (by dsimp only; omega)) (fun h => absurd h hk5)
      have hfw2 : Few r.2 4000 (i + 1 + 3) := by
        rw [← hr]
        have h := HFW.out.act ⟨k, s, t, nn, xb, xts, xtl⟩
        exact ⟨h.room, h.ops0, by have := h.ops1; omega⟩
      have hl7 : Live w (wr.alloc (.cells #[.int .i64 k, .string s, .string t, .int .i64 nn, .slice xab xb.length xcb, .slice xat xts.length xct, .slice xal xtl.length xcl] 39)) Si B d := HLV.out.quiet ((Below.refl _ wr).alloc (Nat.le_refl _) _)
      have hac := act_calls ⟨k, s, t, nn, xb, xts, xtl⟩ ⟨xab, xcb, xat, xct, xal, xcl⟩ hl7 HSML.out (HV.out.below ((Below.refl _ wr).alloc (Nat.le_refl _) _)) (Off.old hl7 HS0.out) HXX.out
      rw [hr] at hac
      have HL7 := Lib.hid hl7
      have HAC := Lib.hid hac
      have HKP2 := Lib.hid hkp2
      have HFW2 := Lib.hid hfw2
      clear hr hac hl7 hkp2 hfw2
      go_wp2_with fail
      clear f3 f5 f6 g3 g5 g6
      with_reducible refine HAC.out.mono ?_
      rintro e w8 ⟨rfl, ht8⟩
      obtain ⟨S8, hl8, _, _⟩ := HL7.out.turns ht8
      have hfit := hl8.disk.1.fit
      rw [HFW2.out.room] at hfit
      have HUSE := Lib.hid (used_live hl8 (by omega))
      have HL8 := Lib.hid hl8
      obtain ⟨u, hu⟩ : ∃ u : Nat, used r.2.L = u := ⟨_, rfl⟩
      rw [hu] at HUSE hfit
      have hub : decide ((4000 : Int) < (u : Int)) = false := by simp; omega
      clear hu ht8 hl8 HAC HL7
      go_wp2_with fail
      with_reducible refine HUSE.out.mono ?_
      rintro e w9 ⟨rfl, hb9⟩
      have HL9 := Lib.hid (HL8.out.quiet hb9)
      clear hb9 HUSE HL8
      go_wp2
      go_roundg g'
      case measure => omega
      case rel => exact ⟨i + 1, r.2, S8, by go_num, by have := HG0.out; omega, by omega, HL9.out, HFW2.out, HKP2.out⟩
    · skip
      have hex : (¬ i < sn ∧ decide ((i : Int) < (sn : Int)) = false) ∨ (i < sn ∧ decide ((i : Int) < (sn : Int)) = true ∧ ¬ i < 60 ∧ decide ((i : Int) < 60) = false) := by
        by_cases h1 : i < sn
        · exact .inr ⟨h1, by simp; omega, by omega, by simp; omega⟩
        · exact .inl ⟨h1, by simp; omega⟩
      clear hlt HG0
      rcases hex with ⟨hlt, hdd⟩ | ⟨hlt, hdd, hlt6, hd6⟩
      · skip
        have hcr := crash_calls ta ts tc tn wr HLV.out.disk HSML.out.used (HTA.out.keep (keeps_below HLV.out.bel Non) (fun _ _ h => h)) HTN.out (fun k hk hs => by have := HLV.out.own k hs; have := HS0.out k hk; omega) HTC.out (by omega)
        have HCR := Lib.hid hcr
        have hk16 := kept_crash HLV.out.disk.1 HKP.out ts
        have hu16 : used (crash ts d).L ≤ 1073741824 := Nat.le_trans (used_crs ts 0 d.L) HSML.out.used
        obtain ⟨f, hff, hpf, hlf⟩ := hk16
        have hsf := (inv_crash HLV.out.disk.1 ts).safe f (fnd_some hff).1
        have HPF : Hid (f.data.take n = b) := Lib.hid (by rw [← HN.out]; exact (List.prefix_iff_eq_take.1 hpf).symm)
        have HNF : Hid (n ≤ f.data.length) := Lib.hid (by rw [← HN.out]; omega)
        have HFF := Lib.hid hff
        have HU16 := Lib.hid hu16
        clear hcr hff hpf hlf hsf hu16
        go_wp2_with fail
        clear hdd hlt
        with_reducible refine HCR.out.mono ?_
        rintro e w16 ⟨rfl, ht16⟩
        obtain ⟨S16, hl16, _, _⟩ := HLV.out.turns ht16
        have HL16 := Lib.hid hl16
        have HRD := Lib.hid (read_full nK hl16.disk HU16.out (by decide) HFF.out)
        clear ht16 hl16 HCR HLV
        go_wp2_with fail
        with_reducible refine HRD.out.mono ?_
        rintro e w17 ⟨av, cv, Sv, rfl, hrv, hform, hlc, hb17⟩
        have HL17 := Lib.hid (HL16.out.quiet hb17)
        have hnf := HNF.out
        have htl : (f.data.take n).length = n := by rw [List.length_take]; omega
        have HBY := Lib.hid (fun c' => bytes_calls av a (f.data.take n) b c' cap n n w17 (hrv.take n) (HR.out.below HL17.out.bel) htl HN.out (by omega) (by omega))
        rw [decide_eq_true HPF.out] at HBY
        obtain ⟨fl, hfl⟩ : ∃ fl, f.data.length = fl := ⟨_, rfl⟩
        rw [hfl] at hlc hnf ⊢
        have g1 : decide ((n : Int) ≤ (fl : Int)) = true := by simp; omega
        have g2 : (n : Int) ≤ (cv : Int) := by omega
        clear hrv hb17 HRD HL16 htl hfl
        rcases hform with ⟨rfl, rfl⟩ | ⟨gb, rfl⟩
        · obtain rfl : n = 0 := by omega
          go_wp2_with fail
          with_reducible refine (HBY.out _).mono ?_
          rintro e w18 ⟨rfl, q, rfl⟩
          go_wp2
          go_ret
          exact ⟨rfl, (HL17.out.drewN q).bel⟩
        · go_wp2_with fail
          with_reducible refine (HBY.out _).mono ?_
          rintro e w18 ⟨rfl, q, rfl⟩
          go_wp2
          go_ret
          exact ⟨rfl, (HL17.out.drewN q).bel⟩
      · skip
        have hcr := crash_calls ta ts tc tn wr HLV.out.disk HSML.out.used (HTA.out.keep (keeps_below HLV.out.bel Non) (fun _ _ h => h)) HTN.out (fun k hk hs => by have := HLV.out.own k hs; have := HS0.out k hk; omega) HTC.out (by omega)
        have HCR := Lib.hid hcr
        have hk16 := kept_crash HLV.out.disk.1 HKP.out ts
        have hu16 : used (crash ts d).L ≤ 1073741824 := Nat.le_trans (used_crs ts 0 d.L) HSML.out.used
        obtain ⟨f, hff, hpf, hlf⟩ := hk16
        have hsf := (inv_crash HLV.out.disk.1 ts).safe f (fnd_some hff).1
        have HPF : Hid (f.data.take n = b) := Lib.hid (by rw [← HN.out]; exact (List.prefix_iff_eq_take.1 hpf).symm)
        have HNF : Hid (n ≤ f.data.length) := Lib.hid (by rw [← HN.out]; omega)
        have HFF := Lib.hid hff
        have HU16 := Lib.hid hu16
        clear hcr hff hpf hlf hsf hu16
        go_wp2_with fail
        clear hdd hlt hd6 hlt6
        with_reducible refine HCR.out.mono ?_
        rintro e w16 ⟨rfl, ht16⟩
        obtain ⟨S16, hl16, _, _⟩ := HLV.out.turns ht16
        have HL16 := Lib.hid hl16
        have HRD := Lib.hid (read_full nK hl16.disk HU16.out (by decide) HFF.out)
        clear ht16 hl16 HCR HLV
        go_wp2_with fail
        with_reducible refine HRD.out.mono ?_
        rintro e w17 ⟨av, cv, Sv, rfl, hrv, hform, hlc, hb17⟩
        have HL17 := Lib.hid (HL16.out.quiet hb17)
        have hnf := HNF.out
        have htl : (f.data.take n).length = n := by rw [List.length_take]; omega
        have HBY := Lib.hid (fun c' => bytes_calls av a (f.data.take n) b c' cap n n w17 (hrv.take n) (HR.out.below HL17.out.bel) htl HN.out (by omega) (by omega))
        rw [decide_eq_true HPF.out] at HBY
        obtain ⟨fl, hfl⟩ : ∃ fl, f.data.length = fl := ⟨_, rfl⟩
        rw [hfl] at hlc hnf ⊢
        have g1 : decide ((n : Int) ≤ (fl : Int)) = true := by simp; omega
        have g2 : (n : Int) ≤ (cv : Int) := by omega
        clear hrv hb17 HRD HL16 htl hfl
        rcases hform with ⟨rfl, rfl⟩ | ⟨gb, rfl⟩
        · obtain rfl : n = 0 := by omega
          go_wp2_with fail
          with_reducible refine (HBY.out _).mono ?_
          rintro e w18 ⟨rfl, q, rfl⟩
          go_wp2
          go_ret
          exact ⟨rfl, (HL17.out.drewN q).bel⟩
        · go_wp2_with fail
          with_reducible refine (HBY.out _).mono ?_
          rintro e w18 ⟨rfl, q, rfl⟩
          go_wp2
          go_ret
          exact ⟨rfl, (HL17.out.drewN q).bel⟩

end Go.Proofs.Ytfiacojgddpphaa
