/-
  The reference's Number; the walk of the law SegNames at every number and name. Conditions: the library's table of powers of ten and its two errors are laid.
-/
import Derived.Test.YtjhiekijbcjohaaGreatDoorSNum
import Derived.Test.YtjhiekijbcjohaaGreatDoorSRef
import Derived.Test.YtjhiekijbcjohaaGreatDoorSAwake
namespace Go.Proofs.YtjhiekijbcjohaaGreatDoor
open Go.RowKit Go.Lib Go.Joins

theorem take_at {l : List UInt8} {j : Nat} {c : UInt8} (h : l[j]? = some c) (acc : Nat) : dval acc (l.take (j + 1)) = dval acc (l.take j) * 10 + (c.toNat - 48) := by
  rw [List.take_add_one, h, Option.toList_some, dval_app]

set_option maxRecDepth 100000 in
set_option maxHeartbeats 4000000 in
theorem rnumber_calls (s : ByteArray) (w : World) (_hs : s.size ≤ 1099511627776) : Calls Tryz.prog 8 #[.string s] w (NumOut s w) := by
  obtain ⟨PST, hP⟩ : ∃ P, NumOut s w = P := ⟨_, rfl⟩
  have HBAD : Hid (numB s = 0 → PST (.returned (.tuple #[.int .i64 0, .bool false])) w) := Lib.hid (fun h => by
    rw [← hP]
    unfold NumOut
    rw [h]
    exact ⟨rfl, Below.refl _ _⟩)
  have HOK : Hid (PST (.returned (.tuple #[.int .i64 (numB s : Int), .bool (decide (0 < numB s))])) w) := Lib.hid (by rw [← hP]; exact ⟨rfl, Below.refl _ _⟩)
  rw [hP]
  clear hP
  by_cases h12 : s.size = 12
  · have d12 : ((s.size : Int) != 12) = false := by rw [h12]; rfl
    obtain ⟨P, hPe⟩ : ∃ P : ByteArray, s.extract 0 4 = P := ⟨_, rfl⟩
    have hpl : P.data.toList = s.data.toList.take 4 := by
      rw [← hPe]
      simp [ByteArray.data_extract]
    by_cases hp : s.data.toList.take 4 = segP
    · have hpp : P = ⟨#[115, 101, 103, 46]⟩ := ext_list (by rw [hpl, hp]; rfl)
      have HSP := Lib.hid hp
      have HNB : Hid ((s.data.toList.drop 4).all digC = true → numB s = dval 0 (s.data.toList.drop 4)) := Lib.hid (fun h => by unfold numB; rw [if_pos ⟨h12, hp, h⟩])
      have HND : Hid ((s.data.toList.drop 4).all digC = false → numB s = 0) := Lib.hid (fun h => by unfold numB; rw [if_neg (fun h2 => by rw [h] at h2; exact absurd h2.2.2 (by decide))])
      have hdl : (s.data.toList.drop 4).length = 8 := by
        rw [List.length_drop, Array.length_toList]
        show s.size - 4 = 8
        omega
      have HAT : Hid (∀ i (hi : i < s.size), 4 ≤ i → (s.data.toList.drop 4)[i - 4]? = some (s[i])) := Lib.hid (fun i hi h4 => by
        rw [List.getElem?_drop, show 4 + (i - 4) = i by omega]
        have h5 : i < s.data.toList.length := by rw [Array.length_toList]; exact hi
        rw [List.getElem?_eq_getElem h5]
        rfl)
      obtain ⟨D, hD⟩ : ∃ D, s.data.toList.drop 4 = D := ⟨_, rfl⟩
      rw [hD] at HNB HND hdl HAT
      have HDL := Lib.hid hdl
      clear hD hdl hp hpl
      go_enter Tryz.func8, Tryz.ntmps8
      go_wp2
      go_loopg [4, 5] 8 (fun g acc idx wr => ∃ (i m : Nat), acc = .int .i64 (m : Int) ∧ idx = .int .i64 (i : Int) ∧ g + i = 12 ∧ 4 ≤ i ∧ (D.take (i - 4)).all digC = true ∧ dval 0 (D.take (i - 4)) = m ∧ w = wr)
      case atStart => exact ⟨4, 0, rfl, rfl, rfl, Nat.le_refl _, rfl, rfl, rfl⟩
      case round =>
        obtain ⟨i, m, rfl, rfl, hg, h4, hall, hval, rfl⟩ := hrel
        have HG := Lib.hid hg
        have HAL := Lib.hid hall
        have HV := Lib.hid hval
        have hm1 : m < 100000000000 := by
          have h1 := dval_lt _ 0 hall
          rw [hval] at h1
          have h2 : (D.take (i - 4)).length ≤ 8 := by rw [List.length_take, HDL.out]; omega
          have h3 : 10 ^ (D.take (i - 4)).length ≤ 10 ^ 8 := Nat.pow_le_pow_right (by decide) h2
          omega
        clear hg hall hval
        by_cases hlt : i < 12
        · obtain ⟨g', rfl⟩ : ∃ g', gk = g' + 1 := ⟨gk - 1, by have := HG.out; omega⟩
          have hdd : decide ((i : Int) < 12) = true := by simp; omega
          have his : i < s.size := by omega
          have hx0 := HAT.out i his h4
          have htk : i + 1 - 4 = i - 4 + 1 := by omega
          have HTK := Lib.hid htk
          obtain ⟨x, hx⟩ : ∃ x, s[i] = x := ⟨_, rfl⟩
          rw [hx] at hx0
          have HX0 := Lib.hid hx0
          have hii : (i : Int) < 12 := by omega
          clear htk hx0
          by_cases hc : 48 ≤ x.toNat ∧ x.toNat ≤ 57
          · have h48 : decide ((x.toNat : Int) < 48) = false := by simp; omega
            have h57 : decide ((x.toNat : Int) > 57) = false := by simp; omega
            have h1 : (48 : Int) ≤ (x.toNat : Int) := by omega
            have h2 : (x.toNat : Int) ≤ 57 := by omega
            have HR : Hid ((D.take (i + 1 - 4)).all digC = true ∧ dval 0 (D.take (i + 1 - 4)) = m * 10 + (x.toNat - 48)) := Lib.hid (by
              rw [HTK.out]
              refine ⟨?_, by rw [take_at HX0.out, HV.out]⟩
              rw [List.take_add_one, HX0.out, Option.toList_some, List.all_append, HAL.out]
              simp [digC, hc])
            clear hc HAL HV
            go_wp2
            go_roundg g'
            case measure => omega
            case rel => exact ⟨i + 1, m * 10 + (x.toNat - 48), by go_num, by go_num, by have := HG.out; omega, by omega, HR.out.1, HR.out.2, rfl⟩
          · have HB := Lib.hid (HBAD.out (HND.out (by
              rw [Bool.eq_false_iff]
              intro h
              rw [List.all_eq_true] at h
              have := h x (List.mem_of_getElem? HX0.out)
              unfold digC at this
              simp at this
              exact hc this)))
            by_cases hlo : x.toNat < 48
            · have h48 : decide ((x.toNat : Int) < 48) = true := by simp; omega
              clear hc HAL HV
              go_wp2
              exact HB.out
            · have h48 : decide ((x.toNat : Int) < 48) = false := by simp; omega
              have h57 : decide ((x.toNat : Int) > 57) = true := by simp; omega
              clear hc HAL HV
              go_wp2
              exact HB.out
        · have hdd : decide ((i : Int) < 12) = false := by simp; omega
          have hfull : D.take (i - 4) = D := List.take_of_length_le (by rw [HDL.out]; have := HG.out; omega)
          have h1 := HAL.out
          have h2 := HV.out
          rw [hfull] at h1 h2
          have h3 := HNB.out h1
          rw [h2] at h3
          have HOK2 := HOK
          rw [h3] at HOK2
          have hdm : decide ((m : Int) > 0) = decide (0 < m) := by simp
          clear h1 h2 h3 hfull HAL HV HOK
          go_wp2
          exact HOK2.out
    · have hpp : P ≠ ⟨#[115, 101, 103, 46]⟩ := fun e => hp (by rw [← hpl, e]; rfl)
      have HB := Lib.hid (HBAD.out (by unfold numB; rw [if_neg (fun h => hp h.2.1)]))
      have hpe : (P.toList == [115, 101, 103, 46]) = false := by
        have h1 := toList_ne hpp
        rw [ByteArray.toList_eq (⟨#[115, 101, 103, 46]⟩ : ByteArray)] at h1
        exact h1
      clear HBAD HOK hp hpl hpp
      go_enter Tryz.func8, Tryz.ntmps8
      go_wp2
      exact HB.out
  · have HB := Lib.hid (HBAD.out (by unfold numB; rw [if_neg (fun h => h12 h.1)]))
    have d12 : ((s.size : Int) != 12) = true := by simp; omega
    clear HBAD HOK
    go_enter Tryz.func8, Tryz.ntmps8
    go_wp2
    exact HB.out

set_option maxRecDepth 100000 in
set_option maxHeartbeats 4000000 in
theorem law_names (n : Int) (s : ByteArray) (w : World) (ht : Tab w) (he : Errs w) : Calls Tryz.prog 3 #[.int .i64 n, .string s] w (Leaves (.bool true) w) := by
  have HTAB := Lib.hid ht
  have HERR := Lib.hid he
  have HAW := Lib.hid (awake_calls w ht)
  clear ht he
  by_cases hs : s.size ≤ 1000
  · have hd : decide ((s.size : Int) > 1000) = false := by simp; omega
    obtain ⟨k, hk⟩ : ∃ k, numB s = k := ⟨_, rfl⟩
    have HN1 := Lib.hid (fun W hb => number_calls s W (by omega) (HTAB.out.below hb) (HERR.out.below hb))
    have HN2 := Lib.hid (fun W => rnumber_calls s W (by omega))
    have HN3 := Lib.hid (fun W hb => number_calls (nameB n) W (by have := nameB_size n; omega) (HTAB.out.below hb) (HERR.out.below hb))
    unfold NumOut at HN1 HN2 HN3
    simp only [hk] at HN1 HN2
    obtain ⟨q, hq⟩ : ∃ q, decide (0 < k) = q := ⟨_, rfl⟩
    simp only [hq] at HN1 HN2
    obtain ⟨V, hV⟩ : ∃ V, nameB n = V := ⟨_, rfl⟩
    have HNM := Lib.hid (fun W hb => name_calls n W (HTAB.out.below hb))
    have HRN := Lib.hid (fun W => rname_calls n W)
    have HFN : Hid (mayN n = true ∧ (numB V : Int) = n ∧ decide (0 < numB V) = true ∨ mayN n = false ∧ numB V = 0) := Lib.hid (by
      rw [← hV]
      cases hm : mayN n with
      | true =>
        have h1 := mayN_is.1 hm
        left
        rw [numB_name hm]
        exact ⟨rfl, by omega, by simp; omega⟩
      | false => exact .inr ⟨rfl, numB_not hm⟩)
    simp only [hV] at HNM HRN HN3
    have HBY := Lib.hid (fun W a a' c c' m S S' (h1 : Row W S a (headB n)) (h2 : Row W S' a' (headB n)) (hm : (headB n).length = m) (hm2 : m ≤ 12) => by
      have h := bytes_calls a a' (headB n) (headB n) c c' m m W h1 h2 hm hm (by omega) (by omega)
      rw [decide_eq_true rfl] at h
      exact h)
    have HHL : Hid ((headB n).length ≤ 12) := Lib.hid (by unfold headB; split <;> simp [w32])
    obtain ⟨hl, hhl⟩ : ∃ hl, (headB n).length = hl := ⟨_, rfl⟩
    have HHE := Lib.hid hhl
    have HM := Lib.hid (fun W => rmay7_calls n W)
    have e1 : (V.toList == V.toList) = true := by simp
    have e2 : ((k : Int) != (k : Int)) = false := by simp
    have e3 : (q != q) = false := by simp
    clear hk hq hV hhl
    go_enter Tryz.func3, Tryz.ntmps3
    go_wp2_with fail
    with_reducible refine HAW.out.mono ?_
    rintro e w1 ⟨rfl, hb1⟩
    have HB1 := Lib.hid hb1
    clear hb1
    go_wp2_with fail
    with_reducible refine (HN1.out w1 HB1.out).mono ?_
    rintro e w2 ⟨rfl, hb2⟩
    have HB2 := Lib.hid (below_then HB1.out hb2)
    clear hb2
    go_wp2_with fail
    with_reducible refine (HN2.out w2).mono ?_
    rintro e w3 ⟨rfl, hb3⟩
    have HB3 := Lib.hid (below_then HB2.out hb3)
    clear hb3
    go_wp2_with fail
    with_reducible refine (HNM.out w3 HB3.out).mono ?_
    rintro e w4 ⟨rfl, hb4⟩
    have HB4 := Lib.hid (below_then HB3.out hb4)
    clear hb4
    go_wp2_with fail
    with_reducible refine (HRN.out w4).mono ?_
    rintro e w5 ⟨rfl, hb5⟩
    have HB5 := Lib.hid (below_then HB4.out hb5)
    clear hb5
    go_wp2_with fail
    with_reducible refine (head_calls n w5).mono ?_
    rintro e w6 ⟨v6, rfl, hown6⟩
    have HB6 := Lib.hid (below_then HB5.out hown6.bel)
    obtain ⟨a6, c6, rfl, hr6, -⟩ := hown6.form
    have HR6 := Lib.hid hr6
    rw [HHE.out]
    clear hown6 hr6
    go_wp2_with fail
    with_reducible refine (rhead_calls n w6).mono ?_
    rintro e w7 ⟨v7, rfl, hown7⟩
    have HB7 := Lib.hid (below_then HB6.out hown7.bel)
    obtain ⟨a7, c7, rfl, hr7, -⟩ := hown7.form
    have hby := HBY.out w7 a6 a7 c6 c7 hl _ _ (HR6.out.below hown7.bel) hr7 HHE.out (by rw [← HHE.out]; exact HHL.out)
    have HBYT := Lib.hid hby
    rw [HHE.out]
    clear hown7 hr7 hby
    go_wp2_with fail
    with_reducible refine HBYT.out.mono ?_
    rintro e w8 ⟨rfl, k8, rfl⟩
    have HB8 : Hid (Below w.heap.size w (w7.drewN k8)) := Lib.hid (below_then HB7.out (below_drewN w7 k8))
    obtain ⟨w8, hw8⟩ : ∃ w8, w7.drewN k8 = w8 := ⟨_, rfl⟩
    simp only [hw8] at HB8 ⊢
    clear hw8 HBYT
    go_wp2_with fail
    with_reducible refine (HNM.out w8 HB8.out).mono ?_
    rintro e w9 ⟨rfl, hb9⟩
    have HB9 := Lib.hid (below_then HB8.out hb9)
    clear hb9
    go_wp2_with fail
    with_reducible refine (HN3.out w9 HB9.out).mono ?_
    rintro e w10 ⟨rfl, hb10⟩
    have HB10 := Lib.hid (below_then HB9.out hb10)
    clear hb10
    rcases HFN.out with ⟨hm, hn, hp⟩ | ⟨hm, hn⟩
    · rw [hn, hp]
      rw [hm] at HM
      have e4 : (n == n) = true := by simp
      clear hn hp hm
      go_wp2_with fail
      with_reducible refine (HM.out w10).mono ?_
      rintro e w11 ⟨rfl, rfl⟩
      go_wp2
      go_ret
      exact ⟨rfl, HB10.out⟩
    · rw [hn]
      rw [hm] at HM
      clear hn hm
      go_wp2_with fail
      with_reducible refine (HM.out w10).mono ?_
      rintro e w11 ⟨rfl, rfl⟩
      go_wp2
      go_ret
      exact ⟨rfl, HB10.out⟩
  · have hd : decide ((s.size : Int) > 1000) = true := by simp; omega
    go_enter Tryz.func3, Tryz.ntmps3
    go_wp2_with fail
    with_reducible refine HAW.out.mono ?_
    rintro e w1 ⟨rfl, hb1⟩
    have HB1 := Lib.hid hb1
    clear hb1
    go_wp2
    go_ret
    exact ⟨rfl, HB1.out⟩

end Go.Proofs.YtjhiekijbcjohaaGreatDoor
