/-
  The walk of the law UtfTexts at every text. Conditions: the tables hold what their initialisers lay; the library's length variable holds an integer; a text is shorter than 2 to the 63.
-/
import Derived.Test.YtbaehldglmibeaaDoorPureSides
import Derived.Test.YtbaehldglmibeaaDoorTrimWalk
import Derived.Test.YtbaehldglmibeaaDoorAwake
namespace Go.Proofs.YtbaehldglmibeaaDoor
open Go.RowKit Go.Lib

theorem size_mk (l : List UInt8) : (⟨l.toArray⟩ : ByteArray).size = l.length := by
  show l.toArray.size = l.length
  simp

theorem trimL_length (l : List UInt8) : (trimL l).length ≤ l.length := by
  unfold trimL
  rw [List.length_take, List.length_drop]
  omega

set_option maxRecDepth 100000 in
set_option maxHeartbeats 2000000 in
theorem law_texts (s : ByteArray) (w : World) (hL : Laid w) (hM : MaxLen w) : Calls Tryd.prog 5 #[.string s] w (Leaves (.bool true) w) := by
  have HL := Lib.hid hL
  have HM := Lib.hid hM
  clear hL hM
  go_enter Tryd.func5, Tryd.ntmps5
  go_wp2_with fail
  refine (awake_calls w HL.out HM.out).mono ?_
  rintro e w1 ⟨rfl, hb1⟩
  have HB1 := Lib.hid hb1
  clear hb1
  by_cases hbig : 16384 < s.size
  · have hd : decide ((s.size : Int) > 16384) = true := by simp; omega
    go_wp2
    go_ret
    exact ⟨rfl, HB1.out⟩
  · have hd : decide ((s.size : Int) > 16384) = false := by simp; omega
    have hlen : s.data.toList.length = s.size := Array.length_toList
    have hs : s.size ≤ 1073741824 := by omega
    have e1 := eols_again s.data.toList
    have e2 := trim_again s.data.toList
    have l1 := eols_length s.data.toList
    have l2 := trimL_length s.data.toList
    have nm := (nameR_eq s.data.toList).trans (nameP_eq s.data.toList).symm
    rw [hlen] at nm
    have CL := fun W (hb : Below w.heap.size w W) => lines_calls s W hs (HM.out.below hb)
    have CT := fun W (hb : Below w.heap.size w W) => trim_calls s W hs (HL.out.below hb)
    have CRL := fun W => refLines_calls s W hs
    have CRT := fun W => refTrim_calls s W hs
    have CN := fun W (hb : Below w.heap.size w W) => name_calls s W hs (HL.out.below hb)
    have CRN := fun W => refName_calls s W hs
    rw [nm] at CRN
    obtain ⟨b, hb⟩ : ∃ b, nameP s.data.toList = b := ⟨_, rfl⟩
    rw [hb] at CN CRN
    obtain ⟨l, hl⟩ : ∃ l, eols s.data.toList = l := ⟨_, rfl⟩
    obtain ⟨t, ht⟩ : ∃ t, trimL s.data.toList = t := ⟨_, rfl⟩
    rw [hl] at CL CRL e1 l1
    rw [ht] at CT CRT e2 l2
    have CL2 := fun W (hb : Below w.heap.size w W) => lines_calls ⟨l.toArray⟩ W (by rw [size_mk]; omega) (HM.out.below hb)
    have CT2 := fun W (hb : Below w.heap.size w W) => trim_calls ⟨t.toArray⟩ W (by rw [size_mk]; omega) (HL.out.below hb)
    have e1' : eols (⟨l.toArray⟩ : ByteArray).data.toList = l := by simpa using e1
    have e2' : trimL (⟨t.toArray⟩ : ByteArray).data.toList = t := by simpa using e2
    rw [e1'] at CL2
    rw [e2'] at CT2
    obtain ⟨lb, hlb⟩ : ∃ lb, (⟨l.toArray⟩ : ByteArray) = lb := ⟨_, rfl⟩
    obtain ⟨tb, htb⟩ : ∃ tb, (⟨t.toArray⟩ : ByteArray) = tb := ⟨_, rfl⟩
    rw [hlb] at CL CRL CL2
    rw [htb] at CT CRT CT2
    have hbb : (b == b) = true := by simp
    have hll : (lb.toList == lb.toList) = true := by simp
    have htt : (tb.toList == tb.toList) = true := by simp
    have HCL := Lib.hid CL
    have HCT := Lib.hid CT
    have HCRL := Lib.hid CRL
    have HCRT := Lib.hid CRT
    have HCN := Lib.hid CN
    have HCRN := Lib.hid CRN
    have HCL2 := Lib.hid CL2
    have HCT2 := Lib.hid CT2
    clear e1 e2 l1 l2 nm CL CT CRL CRT CN CRN CL2 CT2 e1' e2' hb hl ht hlb htb hlen
    go_wp2_with fail
    refine (HCL.out w1 HB1.out).mono ?_
    rintro e w2 ⟨rfl, hb2⟩
    have HB2 := Lib.hid (below_then HB1.out hb2)
    clear hb2
    go_wp2_with fail
    refine (HCT.out w2 HB2.out).mono ?_
    rintro e w3 ⟨rfl, hb3⟩
    have HB3 := Lib.hid (below_then HB2.out hb3)
    clear hb3
    go_wp2_with fail
    refine (HCN.out w3 HB3.out).mono ?_
    rintro e w4 ⟨rfl, hb4⟩
    have HB4 := Lib.hid (below_then HB3.out hb4)
    clear hb4
    go_wp2_with fail
    refine (HCRN.out w4).mono ?_
    rintro e w5 ⟨rfl, hb5⟩
    have HB5 := Lib.hid (below_then HB4.out hb5)
    clear hb5
    go_wp2_with fail
    refine (HCRL.out w5).mono ?_
    rintro e w6 ⟨rfl, hb6⟩
    have HB6 := Lib.hid (below_then HB5.out hb6)
    clear hb6
    go_wp2_with fail
    refine (HCRT.out w6).mono ?_
    rintro e w7 ⟨rfl, hb7⟩
    have HB7 := Lib.hid (below_then HB6.out hb7)
    clear hb7
    go_wp2_with fail
    refine (HCL2.out w7 HB7.out).mono ?_
    rintro e w8 ⟨rfl, hb8⟩
    have HB8 := Lib.hid (below_then HB7.out hb8)
    clear hb8
    go_wp2_with fail
    refine (HCT2.out w8 HB8.out).mono ?_
    rintro e w9 ⟨rfl, hb9⟩
    have HB9 := Lib.hid (below_then HB8.out hb9)
    clear hb9
    go_wp2
    go_ret
    exact ⟨rfl, HB9.out⟩

end Go.Proofs.YtbaehldglmibeaaDoor
