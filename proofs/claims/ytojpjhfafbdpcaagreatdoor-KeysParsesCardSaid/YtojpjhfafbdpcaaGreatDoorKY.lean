/-
  The reference's Split; whether a key's path may be, told by the program and by the reference. Conditions: the texts are no longer than 2 to the 30; the tables and the library's bound are laid.
-/
import Derived.Test.YtojpjhfafbdpcaaGreatDoorKS
import Derived.Test.YtojpjhfafbdpcaaGreatDoorName
import Derived.Test.YtojpjhfafbdpcaaGreatDoorRefName
import Derived.Test.YtojpjhfafbdpcaaGreatDoorTrimWalk
namespace Go.Proofs.YtojpjhfafbdpcaaGreatDoor
open Go.RowKit Go.Lib Go.Joins

theorem extract_strB (s : ByteArray) (f i : Nat) : s.extract f i = strB ((s.data.toList.drop f).take (i - f)) := by
  apply ByteArray.ext
  apply Array.toList_inj.1
  rw [extract_data]
  rfl
theorem size_list (s : ByteArray) : s.data.toList.length = s.size := Array.length_toList

/-- What a call that makes texts of its own leaves. -/
def TextsOut (l : List (List UInt8)) (w : World) (e : Ending) (w' : World) : Prop := ∃ v, e = .returned v ∧ OwnS w.heap.size w' v l ∧ Below w.heap.size w w'

set_option maxRecDepth 100000 in
set_option maxHeartbeats 4000000 in
theorem rsplit_calls (s : ByteArray) (c : UInt8) (w : World) (hs : s.size ≤ 1073741824) : Calls Tryz.prog 28 #[.string s, .int .u8 (c.toNat : Int)] w (TextsOut (pieces c s.data.toList) w) := by
  obtain ⟨d, hd⟩ : ∃ d, s.data.toList = d := ⟨_, rfl⟩
  have hlen : d.length = s.size := by rw [← hd]; exact size_list s
  rw [hd]
  have HD := Lib.hid hd
  have HLEN := Lib.hid hlen
  clear hd hlen
  have lc := c.toNat_lt
  go_enter Tryz.func28, Tryz.ntmps28
  go_wp2
  go_loopg [5, 6, 7] (s.size + 1) (fun gk v fr k wr => ∃ (i f : Nat) (out : List (List UInt8)), k = .int .i64 (i : Int) ∧ fr = .int .i64 (f : Int) ∧ gk + i = s.size + 1 ∧ out.length ≤ i ∧ f ≤ i ∧ ((i ≤ s.size ∧ pieces c d = out ++ pieces c (d.drop f) ∧ c ∉ (d.drop f).take (i - f)) ∨ (i = s.size + 1 ∧ pieces c d = out)) ∧ OwnS w.heap.size wr v out ∧ Below w.heap.size w wr)
  case atStart => exact ⟨0, 0, [], rfl, rfl, rfl, Nat.le_refl _, Nat.le_refl _, .inl ⟨Nat.zero_le _, by rw [List.drop_zero]; rfl, by simp⟩, OwnS.nil _ _, Below.refl _ _⟩
  case round =>
    obtain ⟨i, f, out, rfl, rfl, hg, hol, hfi, hst, hown, hb⟩ := hrel
    have HG := Lib.hid hg
    have HST := Lib.hid hst
    obtain ⟨a0, c0, rfl, _⟩ := hown.in.form
    have HOWN := Lib.hid hown
    have HB := Lib.hid hb
    have HOL := Lib.hid hol
    clear hg hst hown hb hol
    by_cases hle : i ≤ s.size
    · obtain ⟨g', rfl⟩ : ∃ g', gk = g' + 1 := ⟨gk - 1, by have := HG.out; omega⟩
      have h12 : pieces c d = out ++ pieces c (d.drop f) ∧ c ∉ (d.drop f).take (i - f) := by
        rcases HST.out with h | h
        · exact h.2
        · have := h.1; omega
      have HP := Lib.hid h12.1
      have HN := Lib.hid h12.2
      clear h12 HST
      have hdd : decide ((i : Int) ≤ (s.size : Int)) = true := by simp; omega
      obtain ⟨out0, hout0⟩ : ∃ x, (d.drop f).take (i - f) = x := ⟨_, rfl⟩
      have hex : strB out0 = s.extract f i := by rw [extract_strB, HD.out, hout0]
      obtain ⟨v', w', hrun, hown', hkeep⟩ := HOWN.out.append out0 HB.out.size (by have := HOL.out; omega)
      rw [hex] at hrun
      have HRUN := Lib.hid hrun
      have HOWN2 := Lib.hid hown'
      have HB2 : Hid (Below w.heap.size w w') := Lib.hid (HB.out.trans (hkeep.toBelow HB.out.size (fun k e => HOWN.out.new k e)))
      have HOUT := Lib.hid hout0
      clear hrun hown' hkeep hex hout0
      by_cases he : i = s.size
      · have hee : ((i : Int) == (s.size : Int)) = true := by rw [beq_iff_eq]; omega
        have HF : Hid (pieces c d = out ++ [out0]) := Lib.hid (by
          rw [HP.out]
          congr 1
          have h1 : (d.drop f).take (i - f) = d.drop f := List.take_of_length_le (by rw [List.length_drop, HLEN.out]; omega)
          have h2 := HN.out
          rw [h1] at h2
          rw [pieces_clean h2, ← HOUT.out, h1])
        have HE := Lib.hid he
        have hfz : f ≤ s.size := by omega
        have hfi2 : (f : Int) ≤ (i : Int) := by omega
        have hie : (i : Int) ≤ (s.size : Int) := by omega
        clear he
        go_wp2_with (at_builtin; refine wpList_step (fun K hK => step_app HRUN.out (.tmp 25) (.tmp 30) rfl rfl rfl rfl (hK _ _ ?_)))
        go_roundg g'
        case measure => omega
        case rel => exact ⟨i + 1, i + 1, out ++ [out0], by go_num, by go_num, by have := HG.out; omega, by rw [List.length_append, List.length_singleton]; have := HOL.out; omega, Nat.le_refl _, .inr ⟨by have := HE.out; omega, HF.out⟩, HOWN2.out, HB2.out⟩
      · have hlt : i < s.size := by omega
        have hee : ((i : Int) == (s.size : Int)) = false := by rw [beq_eq_false_iff_ne]; omega
        have hi1 : (i : Int) < (s.size : Int) := by omega
        obtain ⟨x, hxi⟩ : ∃ x, s[i]'hlt = x := ⟨_, rfl⟩
        have lx := x.toNat_lt
        have hdi : d.drop i = x :: d.drop (i + 1) := by
          rw [List.drop_eq_getElem_cons (by rw [HLEN.out]; exact hlt), ← hxi]
          congr 1
          have := HD.out
          subst this
          rfl
        have HDI := Lib.hid hdi
        have HSP : Hid (d.drop f = (d.drop f).take (i - f) ++ d.drop i) := Lib.hid (by
          rw [show d.drop i = (d.drop f).drop (i - f) by rw [List.drop_drop]; congr 1; omega, List.take_append_drop])
        clear hdi
        by_cases hxc : x = c
        · have hcc : ((x.toNat : Int) == (c.toNat : Int)) = true := by rw [hxc, beq_iff_eq]
          have HF : Hid (pieces c d = (out ++ [out0]) ++ pieces c (d.drop (i + 1))) := Lib.hid (by
            rw [HP.out, HSP.out, HDI.out, hxc, pieces_app HN.out, List.append_assoc, HOUT.out]
            rfl)
          have hfi2 : (f : Int) ≤ (i : Int) := by omega
          have hie : (i : Int) ≤ (s.size : Int) := by omega
          go_wp2_with (at_builtin; refine wpList_step (fun K hK => step_app HRUN.out (.tmp 25) (.tmp 30) rfl rfl rfl rfl (hK _ _ ?_)))
          go_roundg g'
          case measure => omega
          case rel => exact ⟨i + 1, i + 1, out ++ [out0], by go_num, by go_num, by have := HG.out; omega, by rw [List.length_append, List.length_singleton]; have := HOL.out; omega, Nat.le_refl _, .inl ⟨by omega, HF.out, by rw [Nat.sub_self]; simp⟩, HOWN2.out, HB2.out⟩
        · have hcc : ((x.toNat : Int) == (c.toNat : Int)) = false := by
            rw [beq_eq_false_iff_ne]
            intro e
            exact hxc (UInt8.toNat_inj.1 (by omega))
          have HN2 : Hid (c ∉ (d.drop f).take (i + 1 - f)) := Lib.hid (by
            have h1 : (d.drop f).take (i + 1 - f) = (d.drop f).take (i - f) ++ [x] := by
              have h2 : i + 1 - f = i - f + 1 := by omega
              have h3 : (d.drop f)[i - f]? = some x := by
                rw [List.getElem?_drop, show f + (i - f) = i by omega]
                have := congrArg List.head? HDI.out
                rw [List.head?_drop] at this
                exact this
              obtain ⟨h4, h5⟩ := List.getElem?_eq_some_iff.1 h3
              rw [h2, List.take_succ_eq_append_getElem h4, h5]
            rw [h1]
            intro h
            rcases List.mem_append.1 h with h | h
            · exact HN.out h
            · exact hxc (List.mem_singleton.1 h).symm)
          clear HRUN HOWN2 HB2
          go_wp2
          go_roundg g'
          case measure => omega
          case rel => exact ⟨i + 1, f, out, by go_num, rfl, by have := HG.out; omega, by have := HOL.out; omega, by omega, .inl ⟨by omega, HP.out, HN2.out⟩, HOWN.out, HB.out⟩
    · have hdd : decide ((i : Int) ≤ (s.size : Int)) = false := by simp; omega
      have HF : Hid (pieces c d = out) := Lib.hid (by
        rcases HST.out with h | h
        · exact absurd h.1 hle
        · exact h.2)
      go_wp2
      go_ret
      exact ⟨_, rfl, by rw [HF.out]; exact HOWN.out, HB.out⟩

end Go.Proofs.YtojpjhfafbdpcaaGreatDoor
