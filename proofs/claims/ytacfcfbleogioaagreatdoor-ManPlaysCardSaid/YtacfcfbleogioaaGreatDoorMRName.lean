/-
  Names and generations, told by the reference. Condition: the name is short.
-/
import Derived.Test.YtacfcfbleogioaaGreatDoorSNameA
import Derived.Test.YtacfcfbleogioaaGreatDoorMName
namespace Go.Proofs.YtacfcfbleogioaaGreatDoor
open Go.RowKit Go.Lib Go.Joins

set_option maxRecDepth 100000 in
set_option maxHeartbeats 1000000 in
theorem rname8_calls (n : Int) (w : World) : Calls Tryz.prog 49 #[.int .i64 n] w (Leaves (.string (mnameB n)) w) := by
  have HM := Lib.hid (rmay7_calls n w)
  cases hm : mayN n with
  | false =>
    rw [mnameB_not hm]
    rw [hm] at HM
    clear hm
    go_enter Tryz.func49, Tryz.ntmps49
    go_wp2_with fail
    with_reducible refine HM.out.mono ?_
    rintro e w1 ⟨rfl, rfl⟩
    go_wp2
    go_ret
    exact ⟨rfl, Below.refl _ _⟩
  | true =>
    rw [hm] at HM
    obtain ⟨h1, h2⟩ := mayN_is.1 hm
    rw [mnameB_may hm]
    obtain ⟨m, rfl⟩ : ∃ m : Nat, n = (m : Int) := ⟨n.toNat, by omega⟩
    rw [Int.toNat_natCast, mnameL, pad_suf8]
    have HE := Lib.hid (eight_calls m w (by omega))
    have hcat : (⟨#[109, 97, 110, 46]⟩ : ByteArray) ++ ⟨(suf 8 m).toArray⟩ = ⟨([109, 97, 110, 46] ++ suf 8 m).toArray⟩ := app_bytes [109, 97, 110, 46] (suf 8 m)
    have hsl : (⟨(suf 8 m).toArray⟩ : ByteArray).size = 8 := by show (suf 8 m).toArray.size = 8; rw [List.size_toArray, suf_len]
    obtain ⟨Y, hY⟩ : ∃ Y : ByteArray, ⟨(suf 8 m).toArray⟩ = Y := ⟨_, rfl⟩
    rw [hY] at HE hcat hsl
    obtain ⟨V, hV⟩ : ∃ V : ByteArray, ⟨([109, 97, 110, 46] ++ suf 8 m).toArray⟩ = V := ⟨_, rfl⟩
    rw [hV] at hcat ⊢
    have HC := Lib.hid hcat
    have hl1 : ¬ 9223372036854775807 < 4 + Y.size := by omega
    clear hm h1 h2 hY hV hcat
    go_enter Tryz.func49, Tryz.ntmps49
    go_wp2_with fail
    with_reducible refine HM.out.mono ?_
    rintro e w1 ⟨rfl, rfl⟩
    go_wp2_with fail
    with_reducible refine HE.out.mono ?_
    rintro e w2 ⟨rfl, hb2⟩
    have HB2 := Lib.hid hb2
    clear hb2
    go_wp2
    go_ret
    exact ⟨congrArg (fun z => Ending.returned (Value.string z)) HC.out, HB2.out⟩

theorem gen_size {s : ByteArray} (h : genB s ≠ 0) : s.size = 12 ∧ s.data.toList.take 4 = manP := by
  obtain ⟨h1, h2⟩ := genB_inv h
  have h3 : s.data.toList = manP ++ pad 8 ((genB s : Int)).toNat := by
    rw [← mnameB_list h1, ← h2]
  refine ⟨?_, by rw [h3]; rfl⟩
  show s.data.size = 12
  rw [← Array.length_toList, h3, List.length_append, pad_len]
  rfl

set_option maxRecDepth 100000 in
set_option maxHeartbeats 2000000 in
theorem rgen8_calls (s : ByteArray) (w : World) : Calls Tryz.prog 44 #[.string s] w (GenOut s w) := by
  obtain ⟨PST, hP⟩ : ∃ P, GenOut s w = P := ⟨_, rfl⟩
  have HBAD : Hid (genB s = 0 → PST (.returned (.tuple #[.int .i64 0, .bool false])) w) := Lib.hid (fun h => by
    rw [← hP]
    unfold GenOut
    rw [h]
    exact ⟨rfl, Below.refl _ _⟩)
  have HPO : Hid (∀ W, Below w.heap.size w W → PST (.returned (.tuple #[.int .i64 (genB s : Int), .bool (decide (0 < genB s))])) W) := Lib.hid (fun W hb => by rw [← hP]; exact ⟨rfl, hb⟩)
  rw [hP]
  clear hP
  by_cases h12 : s.size = 12
  · have d12 : ((s.size : Int) != 12) = false := by rw [h12]; rfl
    obtain ⟨P, hPe⟩ : ∃ P : ByteArray, s.extract 0 4 = P := ⟨_, rfl⟩
    have hpl : P.data.toList = s.data.toList.take 4 := by
      rw [← hPe]
      simp [ByteArray.data_extract]
    obtain ⟨Q, hQe⟩ : ∃ Q : ByteArray, s.extract 4 12 = Q := ⟨_, rfl⟩
    have hql : Q.data.toList = s.data.toList.drop 4 := by
      rw [← hQe]
      have : s.data.toList.length = 12 := by rw [Array.length_toList]; exact h12
      simp [ByteArray.data_extract, List.extract_eq_take_drop]
      rw [List.take_of_length_le (by rw [List.length_drop]; omega)]
    by_cases hp : s.data.toList.take 4 = manP
    · have hpp : P = ⟨#[109, 97, 110, 46]⟩ := ext_list (by rw [hpl, hp]; rfl)
      have hcat : (⟨#[115, 101, 103, 46]⟩ : ByteArray) ++ Q = asSeg s := by
        refine ext_list ?_
        rw [asSeg_list, ← hql]
        simp [segP]
      have hqs : Q.size = 8 := by
        show Q.data.size = 8
        rw [← Array.length_toList, hql, List.length_drop, Array.length_toList]
        show s.size - 4 = 8
        omega
      have hg : genB s = numB (asSeg s) := by unfold genB; rw [if_pos hp]
      have hsz : (asSeg s).size ≤ 1099511627776 := by
        rw [← hcat]
        have : (⟨#[115, 101, 103, 46]⟩ ++ Q : ByteArray).size = 4 + Q.size := by rw [ByteArray.size_append]; rfl
        rw [this, hqs]
        decide
      have HNUM := Lib.hid (rnumber_calls (asSeg s) w hsz)
      unfold NumOut at HNUM
      rw [← hg] at HNUM
      obtain ⟨k, hk⟩ : ∃ k, genB s = k := ⟨_, rfl⟩
      rw [hk] at HNUM HPO
      have HCAT := Lib.hid hcat
      have hl1 : ¬ 9223372036854775807 < 4 + Q.size := by omega
      subst hpp
      clear hp hpl hql hg hk hsz hcat HBAD
      go_enter Tryz.func44, Tryz.ntmps44
      go_wp2_with fail
      rw [HCAT.out]
      with_reducible refine HNUM.out.mono ?_
      rintro e w1 ⟨rfl, hb1⟩
      have HF := Lib.hid (HPO.out _ hb1)
      clear hb1
      go_wp2
      exact HF.out
    · have hpp : P ≠ ⟨#[109, 97, 110, 46]⟩ := fun e => hp (by rw [← hpl, e]; rfl)
      have HB := Lib.hid (HBAD.out (by unfold genB; rw [if_neg hp]))
      have hpe : (P.toList == [109, 97, 110, 46]) = false := by
        have h1 := toList_ne hpp
        rw [ByteArray.toList_eq (⟨#[109, 97, 110, 46]⟩ : ByteArray)] at h1
        exact h1
      clear HBAD HPO hp hpl hpp hql hQe
      go_enter Tryz.func44, Tryz.ntmps44
      go_wp2
      exact HB.out
  · have HB := Lib.hid (HBAD.out (by
      refine Classical.byContradiction fun h => h12 ?_
      exact (gen_size h).1))
    have d12 : ((s.size : Int) != 12) = true := by simp; omega
    clear HBAD HPO
    go_enter Tryz.func44, Tryz.ntmps44
    go_wp2
    exact HB.out

end Go.Proofs.YtacfcfbleogioaaGreatDoor
