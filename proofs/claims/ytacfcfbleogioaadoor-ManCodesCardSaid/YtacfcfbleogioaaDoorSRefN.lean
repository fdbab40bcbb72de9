/-
  The number of a name, told by the reference. Condition: the name is short.
-/
import Derived.Test.YtacfcfbleogioaaDoorSNum
import Derived.Test.YtacfcfbleogioaaDoorSRef
namespace Go.Proofs.YtacfcfbleogioaaDoor
open Go.RowKit Go.Lib Go.Joins

theorem take_at {l : List UInt8} {j : Nat} {c : UInt8} (h : l[j]? = some c) (acc : Nat) : dval acc (l.take (j + 1)) = dval acc (l.take j) * 10 + (c.toNat - 48) := by
  rw [List.take_add_one, h, Option.toList_some, dval_app]

set_option maxRecDepth 100000 in
set_option maxHeartbeats 4000000 in
theorem rnumber_calls (s : ByteArray) (w : World) (_hs : s.size ≤ 1099511627776) : Calls Tryd.prog 24 #[.string s] w (NumOut s w) := by
  obtain ⟨PST, hP⟩ : ∃ P, NumOut s w = P := ⟨_, rfl⟩
  have HBAD : Hid (numB s = 0 → PST (.returned (.tuple #[.int .i64 0, .bool false])) w) := Lib.hid (fun h => by
    rw [← hP]
    unfold NumOut
    rw [h]
    exact ⟨rfl, Below.refl _ _⟩)
  have HOK : Hid (PST (.returned (.tuple #[.int .i64 (numB s : Int), .bool (decide (0 < numB s))])) w) := Lib.hid (by rw [← hP]; exact ⟨rfl, Below.refl _ _⟩)
  rw [hP]
  clear hP
  by_cases h12 : s.size = 12
  · have d12 : ((s.size : Int) != 12) = false := by rw [h12]; rfl
    obtain ⟨P, hPe⟩ : ∃ P : ByteArray, s.extract 0 4 = P := ⟨_, rfl⟩
    have hpl : P.data.toList = s.data.toList.take 4 := by
      rw [← hPe]
      simp [ByteArray.data_extract]
    by_cases hp : s.data.toList.take 4 = segP
    · have hpp : P = ⟨#[115, 101, 103, 46]⟩ := ext_list (by rw [hpl, hp]; rfl)
      have HSP := Lib.hid hp
      have HNB : Hid ((s.data.toList.drop 4).all digC = true → numB s = dval 0 (s.data.toList.drop 4)) := Lib.hid (fun h => by unfold numB; rw [if_pos ⟨h12, hp, h⟩])
      have HND : Hid ((s.data.toList.drop 4).all digC = false → numB s = 0) := Lib.hid (fun h => by unfold numB; rw [if_neg (fun h2 => by rw [h] at h2; exact absurd h2.2.2 (by decide))])
      have hdl : (s.data.toList.drop 4).length = 8 := by
        rw [List.length_drop, Array.length_toList]
        show s.size - 4 = 8
        omega
      have HAT : Hid (∀ i (hi : i < s.size), 4 ≤ i → (s.data.toList.drop 4)[i - 4]? = some (s[i])) := Lib.hid (fun i hi h4 => by
        rw [List.getElem?_drop, show 4 + (i - 4) = i by omega]
        have h5 : i < s.data.toList.length := by rw [Array.length_toList]; exact hi
        rw [List.getElem?_eq_getElem h5]
        rfl)
      obtain ⟨D, hD⟩ : ∃ D, s.data.toList.drop 4 = D := ⟨_, rfl⟩
      rw [hD] at HNB HND hdl HAT
      have HDL := Lib.hid hdl
      clear hD hdl hp hpl
      go_enter Tryd.func24, Tryd.ntmps24
      go_wp2
      go_loopg [4, 5] 8 (fun g acc idx wr => ∃ (i m : Nat), acc = .int .i64 (m : Int) ∧ idx = .int .i64 (i : Int) ∧ g + i = 12 ∧ 4 ≤ i ∧ (D.take (i - 4)).all digC = true ∧ dval 0 (D.take (i - 4)) = m ∧ w = wr)
      case atStart => exact ⟨4, 0, rfl, rfl, rfl, Nat.le_refl _, rfl, rfl, rfl⟩
      case round =>
        obtain ⟨i, m, rfl, rfl, hg, h4, hall, hval, rfl⟩ := hrel
        have HG := Lib.hid hg
        have HAL := Lib.hid hall
        have HV := Lib.hid hval
        have hm1 : m < 100000000000 := by
          have h1 := dval_lt _ 0 hall
          rw [hval] at h1
          have h2 : (D.take (i - 4)).length ≤ 8 := by rw [List.length_take, HDL.out]; omega
          have h3 : 10 ^ (D.take (i - 4)).length ≤ 10 ^ 8 := Nat.pow_le_pow_right (by decide) h2
          omega
        clear hg hall hval
        by_cases hlt : i < 12
        · obtain ⟨g', rfl⟩ : ∃ g', gk = g' + 1 := ⟨gk - 1, by have := HG.out; omega⟩
          have hdd : decide ((i : Int) < 12) = true := by simp; omega
          have his : i < s.size := by omega
          have hx0 := HAT.out i his h4
          have htk : i + 1 - 4 = i - 4 + 1 := by omega
          have HTK := Lib.hid htk
          obtain ⟨x, hx⟩ : ∃ x, s[i] = x := ⟨_, rfl⟩
          rw [hx] at hx0
          have HX0 := Lib.hid hx0
          have hii : (i : Int) < 12 := by omega
          clear htk hx0
          by_cases hc : 48 ≤ x.toNat ∧ x.toNat ≤ 57
          · have h48 : decide ((x.toNat : Int) < 48) = false := by simp; omega
            have h57 : decide ((x.toNat : Int) > 57) = false := by simp; omega
            have h1 : (48 : Int) ≤ (x.toNat : Int) := by omega
            have h2 : (x.toNat : Int) ≤ 57 := by omega
            have HR : Hid ((D.take (i + 1 - 4)).all digC = true ∧ dval 0 (D.take (i + 1 - 4)) = m * 10 + (x.toNat - 48)) := Lib.hid (by
              rw [HTK.out]
              refine ⟨?_, by rw [take_at HX0.out, HV.out]⟩
              rw [List.take_add_one, HX0.out, Option.toList_some, List.all_append, HAL.out]
              simp [digC, hc])
            clear hc HAL HV
            go_wp2
            go_roundg g'
            case measure => omega
            case rel => exact ⟨i + 1, m * 10 + (x.toNat - 48), by go_num, by go_num, by have := HG.out; omega, by omega, HR.out.1, HR.out.2, rfl⟩
          · have HB := Lib.hid (HBAD.out (HND.out (by
              rw [Bool.eq_false_iff]
              intro h
              rw [List.all_eq_true] at h
              have := h x (List.mem_of_getElem? HX0.out)
              unfold digC at this
              simp at this
              exact hc this)))
            by_cases hlo : x.toNat < 48
            · have h48 : decide ((x.toNat : Int) < 48) = true := by simp; omega
              clear hc HAL HV
              go_wp2
              exact HB.out
            · have h48 : decide ((x.toNat : Int) < 48) = false := by simp; omega
              have h57 : decide ((x.toNat : Int) > 57) = true := by simp; omega
              clear hc HAL HV
              go_wp2
              exact HB.out
        · have hdd : decide ((i : Int) < 12) = false := by simp; omega
          have hfull : D.take (i - 4) = D := List.take_of_length_le (by rw [HDL.out]; have := HG.out; omega)
          have h1 := HAL.out
          have h2 := HV.out
          rw [hfull] at h1 h2
          have h3 := HNB.out h1
          rw [h2] at h3
          have HOK2 := HOK
          rw [h3] at HOK2
          have hdm : decide ((m : Int) > 0) = decide (0 < m) := by simp
          clear h1 h2 h3 hfull HAL HV HOK
          go_wp2
          exact HOK2.out
    · have hpp : P ≠ ⟨#[115, 101, 103, 46]⟩ := fun e => hp (by rw [← hpl, e]; rfl)
      have HB := Lib.hid (HBAD.out (by unfold numB; rw [if_neg (fun h => hp h.2.1)]))
      have hpe : (P.toList == [115, 101, 103, 46]) = false := by
        have h1 := toList_ne hpp
        rw [ByteArray.toList_eq (⟨#[115, 101, 103, 46]⟩ : ByteArray)] at h1
        exact h1
      clear HBAD HOK hp hpl hpp
      go_enter Tryd.func24, Tryd.ntmps24
      go_wp2
      exact HB.out
  · have HB := Lib.hid (HBAD.out (by unfold numB; rw [if_neg (fun h => h12 h.1)]))
    have d12 : ((s.size : Int) != 12) = true := by simp; omega
    clear HBAD HOK
    go_enter Tryd.func24, Tryd.ntmps24
    go_wp2
    exact HB.out

end Go.Proofs.YtacfcfbleogioaaDoor
