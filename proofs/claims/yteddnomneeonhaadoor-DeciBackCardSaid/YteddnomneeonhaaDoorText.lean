/-
  The program's Text: a number as a text, as the document says. Condition: the library's table of powers of ten holds what its initialiser lays.
-/
import Derived.Test.YteddnomneeonhaaDoorMade
import Derived.Test.YteddnomneeonhaaDoorTrimWalk
import Derived.Test.YteddnomneeonhaaDoorTextBack
import Derived.Lib.ItoaLen
import Derived.Lib.ItoaMem
import Derived.BigQuiet
import Derived.Deep.QuietTactic
namespace Go.Proofs.YteddnomneeonhaaDoor
open Go.RowKit Go.Lib Go.Sort

theorem app_bytes (x y : List UInt8) : (⟨x.toArray⟩ : ByteArray) ++ ⟨y.toArray⟩ = ⟨(x ++ y).toArray⟩ := by
  apply ByteArray.ext
  simp [ByteArray.data_append]

theorem fmt_calls (n : Int) (u : Nat) (hu : (u : Int) = n) (h1 : n ≤ 9223372036854775807) (w : World) (hL : Laid w) :
    Calls Tryd.prog 48 #[.int .i64 n, .int .i64 10] w (Leaves (.string ⟨(decDigits u).toArray⟩) w) := by
  refine (Tryd.strconv_FormatInt_10 n (by omega) h1 w hL.2.1).mono ?_
  rintro e w' ⟨rfl, k, os, rfl⟩
  refine ⟨by rw [← hu, itoa_nonneg], ⟨rfl, rfl, rfl, by simp [grow], fun k hk => by simp [grow, Array.getElem?_append, hk]⟩⟩

theorem dec_len {u : Nat} (h : u ≤ 9223372036854775807) : (decDigits u).length ≤ 21 := by
  have := Lib.itoa_length_le (u : Int) (by omega) (by omega)
  rwa [itoa_nonneg] at this
theorem trimRightB_len (l : List UInt8) (c : UInt8) : (trimRightB l c).length ≤ l.length := by
  obtain ⟨n, hn⟩ := trim_pad l c
  conv => rhs; rw [hn]
  rw [List.length_append]
  omega

theorem last_calls (s : ByteArray) (w : World) (hs : s.size ≤ 100) : Calls Tryd.prog 49 #[.string s, .string ⟨#[48]⟩] w (Leaves (.string ⟨(trimRightB s.data.toList 48).toArray⟩) w) :=
  (Tryd.strings_TrimRight_one s 48 (by decide) w (by omega)).mono fun e w' ⟨h1, h2⟩ => ⟨h1, h2 ▸ Below.refl _ _⟩

set_option maxRecDepth 100000 in
set_option maxHeartbeats 2000000 in
theorem text_calls (a : Num) (w : World) (hL : Laid w) : Calls Tryd.prog 34 #[numV a] w (Leaves (.string ⟨(textP a).toArray⟩) w) := by
  obtain ⟨q, hq⟩ : ∃ q, oddN a = q := ⟨_, rfl⟩
  have HQ := Lib.hid hq
  have HL := Lib.hid hL
  obtain ⟨na, va⟩ := a
  unfold numV
  clear hq hL
  go_enter Tryd.func34, Tryd.ntmps34
  go_wp2_with fail
  refine (known1 ⟨na, va⟩ (w.heap.size + 1) 1 _ (numsAt_one (by go_simp) (by go_simp))).mono ?_
  rintro e w1 ⟨rfl, hb⟩
  rw [HQ.out]
  have HB : Hid (Below w.heap.size w w1) := Lib.hid (((Below.refl _ w).alloc (Nat.le_refl _) _).alloc (by simp) _ |>.trans (hb.mono (by simp; omega)))
  have HX : Hid (Own2 w.heap.size (.bool na) (.int .i64 va) w1) := Lib.hid (Own2.below ⟨by go_simp, by go_simp, by go_simp, by go_simp⟩ hb)
  clear hb
  cases q with
  | true =>
    have hres : Hid (textP ⟨na, va⟩ = [78, 97, 78]) := Lib.hid (by unfold textP; rw [HQ.out]; rfl)
    go_wp2
    go_ret
    exact ⟨by rw [hres.out]; rfl, HB.out⟩
  | false =>
    have g1 := (oddN_false.1 HQ.out).2
    obtain ⟨g1, g1'⟩ := g1
    simp only at g1 g1'
    have HRES : Hid (textP ⟨na, va⟩ = signT va ++ (decDigits (va.natAbs / 1000000) ++ fracT (va.natAbs % 1000000))) := Lib.hid (by unfold textP; rw [HQ.out]; rfl)
    obtain ⟨W, hW⟩ : ∃ W, va.natAbs / 1000000 = W := ⟨_, rfl⟩
    obtain ⟨f, hf⟩ : ∃ f, va.natAbs % 1000000 = f := ⟨_, rfl⟩
    rw [hW, hf] at HRES
    have lW := dec_len (u := W) (by omega)
    obtain ⟨sW, hsW⟩ : ∃ sW : ByteArray, (⟨(decDigits W).toArray⟩ : ByteArray) = sW := ⟨_, rfl⟩
    have lsW : sW.size ≤ 21 := by rw [← hsW]; simpa [ByteArray.size] using lW
    obtain ⟨sF, hsF⟩ : ∃ sF : ByteArray, (⟨(decDigits (1000000 + f)).toArray⟩ : ByteArray) = sF := ⟨_, rfl⟩
    obtain ⟨x6, hx6, h6l, h6d, h6v⟩ := six_split (f := f) (by omega)
    have lsF : sF.size = 7 := by rw [← hsF]; simp [ByteArray.size, hx6, h6l]
    have hext : (sF.extract 1 7).data.toList = sixT f := by
      have h7 : (decDigits (1000000 + f)).length = 7 := by rw [hx6, List.length_cons, h6l]
      rw [← hsF, Lib.extract_data]
      show ((decDigits (1000000 + f)).drop 1).take (7 - 1) = sixT f
      unfold sixT
      rw [List.take_of_length_le (by rw [List.length_drop, h7]; omega)]
    obtain ⟨sT, hsT⟩ : ∃ sT : ByteArray, (⟨(trimRightB (sixT f) 48).toArray⟩ : ByteArray) = sT := ⟨_, rfl⟩
    have lsT : sT.size ≤ 6 := by
      have := trimRightB_len (sixT f) 48
      rw [← hsT]
      simp only [ByteArray.size, List.size_toArray]
      omega
    have cT : Hid (∀ V, Calls Tryd.prog 49 #[.string (sF.extract 1 7), .string ⟨#[48]⟩] V (Leaves (.string sT) V)) := Lib.hid fun V => by
      have := last_calls (sF.extract 1 7) V (by rw [ByteArray.size_extract]; omega)
      rwa [hext, hsT] at this
    obtain ⟨va', hva'⟩ : ∃ v : Int, (va.natAbs : Int) = v := ⟨_, rfl⟩
    have hx0 : 0 ≤ va' ∧ va' ≤ 1000000000000000 := by omega
    obtain ⟨hx0, hx1⟩ := hx0
    have cW : Hid (∀ V, Below w.heap.size w V → Calls Tryd.prog 48 #[.int .i64 (va' / 1000000), .int .i64 10] V (Leaves (.string sW) V)) := Lib.hid fun V hb => by
      have := fmt_calls (va' / 1000000) W (by omega) (by omega) V (HL.out.below hb)
      rwa [hsW] at this
    have cF : Hid (∀ V, Below w.heap.size w V → Calls Tryd.prog 48 #[.int .i64 (1000000 + va' % 1000000), .int .i64 10] V (Leaves (.string sF) V)) := Lib.hid fun V hb => by
      have := fmt_calls (1000000 + va' % 1000000) (1000000 + f) (by omega) (by omega) V (HL.out.below hb)
      rwa [hsF] at this
    have hfz : Hid ((f : Int) = va' % 1000000) := Lib.hid (by omega)
    have HSW := Lib.hid hsW
    have HST := Lib.hid hsT
    have hneg' : va < 0 → -va = va' := fun h => by omega
    have hpos' : ¬ va < 0 → va = va' := fun h => by omega
    obtain ⟨x0, x1, _, _⟩ := HX.out
    clear hW hf lW hsW hsF hx6 h6l h6d h6v hext hsT hva'
    go_wp2
    go_quiet (fail)
    by_cases hneg : va < 0
    · skip
      have HSG : Hid (signT va = [45]) := Lib.hid (if_pos hneg)
      have HBq : Hid (RowKit.Below w.heap.size w (w1.drewN nq)) := Lib.hid (HB.out.trans ⟨rfl, rfl, rfl, Nat.le_refl _, fun _ _ => rfl⟩)
      have hv := hneg' hneg
      clear hneg' hpos' x0 x1
      go_wp2_with fail
      refine (cW.out _ HBq.out).mono ?_
      rintro e w2 ⟨rfl, hb2⟩
      have HB2 := Lib.hid (below_then HBq.out hb2)
      clear hb2
      have n1 : ¬ 9223372036854775807 < 1 + sW.size := by omega
      have n1' : ¬ 9223372036854775807 < sW.size := by omega
      by_cases hz : va' % 1000000 = 0
      · have hz2 : (va' % 1000000 == 0) = true := by simpa using hz
        have hfr : Hid (fracT f = []) := Lib.hid (if_pos (by have := hfz.out; omega))
        go_wp2
        go_ret
        refine ⟨?_, HB2.out⟩
        rw [HRES.out, HSG.out, hfr.out]
        show Ending.returned (.string (⟨#[45]⟩ ++ sW)) = _
        rw [← HSW.out, show (⟨#[45]⟩ : ByteArray) = ⟨(([45] : List UInt8)).toArray⟩ from rfl, app_bytes, List.append_nil]
      · have hz2 : (va' % 1000000 == 0) = false := by simpa using hz
        have hfr : Hid (fracT f = 46 :: trimRightB (sixT f) 48) := Lib.hid (if_neg (by have := hfz.out; omega))
        go_wp2_with fail
        refine (cF.out _ HB2.out).mono ?_
        rintro e w3 ⟨rfl, hb3⟩
        have HB3 := Lib.hid (below_then HB2.out hb3)
        clear hb3
        have n2 : ¬ 9223372036854775807 < 1 + sW.size + 1 := by omega
        have n2' : ¬ 9223372036854775807 < sW.size + 1 := by omega
        go_wp2_with fail
        refine (cT.out _).mono ?_
        rintro e w4 ⟨rfl, hb4⟩
        have HB4 := Lib.hid (below_then HB3.out hb4)
        clear hb4
        have n3 : ¬ 9223372036854775807 < 1 + sW.size + 1 + sT.size := by omega
        have n3' : ¬ 9223372036854775807 < sW.size + 1 + sT.size := by omega
        go_wp2
        go_ret
        refine ⟨?_, HB4.out⟩
        rw [HRES.out, HSG.out, hfr.out]
        show Ending.returned (.string (⟨#[45]⟩ ++ sW ++ ⟨#[46]⟩ ++ sT)) = _
        rw [← HSW.out, ← HST.out, show (⟨#[45]⟩ : ByteArray) = ⟨(([45] : List UInt8)).toArray⟩ from rfl, show (⟨#[46]⟩ : ByteArray) = ⟨([46] : List UInt8).toArray⟩ from rfl, app_bytes, app_bytes, app_bytes]
        simp only [List.append_assoc, List.cons_append, List.nil_append]
    · skip
      have HSG : Hid (signT va = []) := Lib.hid (if_neg hneg)
      have HBq : Hid (RowKit.Below w.heap.size w (w1.drewN nq)) := Lib.hid (HB.out.trans ⟨rfl, rfl, rfl, Nat.le_refl _, fun _ _ => rfl⟩)
      obtain rfl := hpos' (by omega)
      clear hneg' hpos' x0 x1
      go_wp2_with fail
      refine (cW.out _ HBq.out).mono ?_
      rintro e w2 ⟨rfl, hb2⟩
      have HB2 := Lib.hid (below_then HBq.out hb2)
      clear hb2
      have n1 : ¬ 9223372036854775807 < 0 + sW.size := by omega
      have n1' : ¬ 9223372036854775807 < sW.size := by omega
      by_cases hz : va % 1000000 = 0
      · have hz2 : (va % 1000000 == 0) = true := by simpa using hz
        have hfr : Hid (fracT f = []) := Lib.hid (if_pos (by have := hfz.out; omega))
        go_wp2
        go_ret
        refine ⟨?_, HB2.out⟩
        rw [HRES.out, HSG.out, hfr.out]
        show Ending.returned (.string (⟨#[]⟩ ++ sW)) = _
        rw [← HSW.out, show (⟨#[]⟩ : ByteArray) = ⟨(([] : List UInt8)).toArray⟩ from rfl, app_bytes, List.append_nil]
      · have hz2 : (va % 1000000 == 0) = false := by simpa using hz
        have hfr : Hid (fracT f = 46 :: trimRightB (sixT f) 48) := Lib.hid (if_neg (by have := hfz.out; omega))
        go_wp2_with fail
        refine (cF.out _ HB2.out).mono ?_
        rintro e w3 ⟨rfl, hb3⟩
        have HB3 := Lib.hid (below_then HB2.out hb3)
        clear hb3
        have n2 : ¬ 9223372036854775807 < 0 + sW.size + 1 := by omega
        have n2' : ¬ 9223372036854775807 < sW.size + 1 := by omega
        go_wp2_with fail
        refine (cT.out _).mono ?_
        rintro e w4 ⟨rfl, hb4⟩
        have HB4 := Lib.hid (below_then HB3.out hb4)
        clear hb4
        have n3 : ¬ 9223372036854775807 < 0 + sW.size + 1 + sT.size := by omega
        have n3' : ¬ 9223372036854775807 < sW.size + 1 + sT.size := by omega
        go_wp2
        go_ret
        refine ⟨?_, HB4.out⟩
        rw [HRES.out, HSG.out, hfr.out]
        show Ending.returned (.string (⟨#[]⟩ ++ sW ++ ⟨#[46]⟩ ++ sT)) = _
        rw [← HSW.out, ← HST.out, show (⟨#[]⟩ : ByteArray) = ⟨(([] : List UInt8)).toArray⟩ from rfl, show (⟨#[46]⟩ : ByteArray) = ⟨([46] : List UInt8).toArray⟩ from rfl, app_bytes, app_bytes, app_bytes]
        simp only [List.append_assoc, List.cons_append, List.nil_append]

end Go.Proofs.YteddnomneeonhaaDoor
