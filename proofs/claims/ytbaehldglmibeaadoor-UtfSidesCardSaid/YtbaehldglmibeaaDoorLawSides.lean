/-
  The walk of the law UtfSides at every text and rune. Conditions: the tables hold what their initialisers lay; the library's length variable holds an integer.
-/
import Derived.Test.YtbaehldglmibeaaDoorLawTexts
namespace Go.Proofs.YtbaehldglmibeaaDoor
open Go.RowKit Go.Lib

theorem data_append (a b : ByteArray) : (a ++ b).data.toList = a.data.toList ++ b.data.toList := by
  rw [ByteArray.data_append, Array.toList_append]

theorem size_append' (a b : ByteArray) : (a ++ b).size = a.size + b.size := by
  have h := congrArg List.length (data_append a b)
  rw [List.length_append, Array.length_toList, Array.length_toList, Array.length_toList] at h
  exact h

/-- string(b) of a row of bytes. -/
theorem back_list {w : World} {a : Option Addr} {c : Nat} {l : List Nat} (hl : ∀ x ∈ l, x < 256) (h : Row8 w a l.length (nth l)) : (convert 22 9 (.slice a l.length c)).run Tryd.prog w = .ok (.string ⟨(l.map fun x => UInt8.ofNat x).toArray⟩) w := by
  obtain ⟨_, _, h⟩ := h
  rcases h with h0 | ⟨b, o, rfl, hc⟩
  · have he : l = [] := List.length_eq_zero_iff.1 h0
    subst he
    rw [List.length_nil, run_convert_bytes_string w 22 9 5 a 0 c Tryd.underlying22 Tryd.underlying5 Tryd.underlying9]
    cases a with
    | none => simp [Conv.bytesToString]; rfl
    | some x =>
      have hz : (loadCells x 0).run Tryd.prog w = .ok (([] : List Int).map (Value.int .u8)).toArray w := run_loadCells_list w x [] (fun j v hj => by cases hj)
      rw [run_bytesToString w x 0 c [] hz]
      rfl
  · have hm : (l.map fun x => UInt8.ofNat x).length = l.length := List.length_map _
    rw [← hm]
    refine run_convert_bytes_back w 22 9 5 ⟨b, o, none⟩ c _ Tryd.underlying22 Tryd.underlying5 Tryd.underlying9 (fun j hj => ?_)
    have hj2 : j < l.length := by rw [← hm]; exact hj
    have e : ((l.map fun x => UInt8.ofNat x)[j]'hj).toNat = nth l j := by
      rw [List.getElem_map]
      unfold nth
      rw [List.getD_eq_getElem?_getD, List.getElem?_eq_getElem hj2, Option.getD_some]
      exact UInt8.toNat_ofNat_of_lt' (by have := hl _ (List.getElem_mem hj2); simpa using this)
    rw [Addr.add_mid, e]
    exact hc j hj2

theorem no_enc {r : Int} (h : (encL r).length = 0) : inTab charsT r = false := by
  cases hq : inTab charsT r with
  | false => rfl
  | true =>
    have h0 : 0 ≤ r := by
      simp only [inTab, charsT, List.any_cons, List.any_nil, inPair, Bool.or_false, Bool.or_eq_true, Bool.and_eq_true, decide_eq_true_eq] at hq
      omega
    obtain ⟨m, rfl⟩ : ∃ m : Nat, r = (m : Int) := ⟨r.toNat, by omega⟩
    have hc := (chars_nat m).1 hq
    rw [encL_nat] at h
    unfold encN at h
    rw [if_neg (by omega)] at h
    repeat' split at h
    all_goals simp at h

set_option maxRecDepth 100000 in
set_option maxHeartbeats 4000000 in
theorem law_sides (s : ByteArray) (r : Int) (w : World) (hr0 : -2147483648 ≤ r) (hr : r ≤ 2147483647) (hL : Laid w) (hM : MaxLen w) : Calls Tryd.prog 7 #[.string s, .int .i32 r] w (Leaves (.bool true) w) := by
  have HL := Lib.hid hL
  have HM := Lib.hid hM
  clear hL hM
  go_enter Tryd.func7, Tryd.ntmps7
  go_wp2_with fail
  refine (awake_calls w HL.out HM.out).mono ?_
  rintro e w1 ⟨rfl, hb1⟩
  have HB1 := Lib.hid hb1
  clear hb1
  by_cases hbig : 1000 < s.size
  · have hd : decide ((s.size : Int) > 1000) = true := by simp; omega
    go_wp2
    go_ret
    exact ⟨rfl, HB1.out⟩
  · have hd : decide ((s.size : Int) > 1000) = false := by simp; omega
    have hlen : s.data.toList.length = s.size := Array.length_toList
    have CN := Lib.hid (fun W (hb : Below w.heap.size w W) => name_calls s W (by omega) (HL.out.below hb))
    obtain ⟨b, hb⟩ : ∃ b, nameP s.data.toList = b := ⟨_, rfl⟩
    rw [hb] at CN
    have HNB := Lib.hid hb
    clear hb
    go_wp2_with fail
    refine (CN.out w1 HB1.out).mono ?_
    rintro e w2 ⟨rfl, hb2⟩
    have HB2 := Lib.hid (below_then HB1.out hb2)
    clear hb2 CN
    cases b with
    | false =>
      go_wp2
      go_ret
      exact ⟨rfl, HB2.out⟩
    | true =>
      have hname : Hid (nameW s.data.toList = true) := Lib.hid ((nameP_eq _).symm.trans HNB.out)
      clear HNB
      go_wp2_with fail
      refine (encode_calls r w2 hr0 hr).mono ?_
      rintro e w3 ⟨a3, c3, rfl, hc3, hm3, hrow3, hb3⟩
      have HB3 := Lib.hid (below_then HB2.out hb3)
      clear hb3
      by_cases hneg : (encL r).length = 0
      · have hback := back_list (c := c3) (encL_lt r) hrow3
        rw [List.length_eq_zero_iff.1 hneg] at hback ⊢
        rw [List.length_nil, List.map_nil] at hback
        have hnc := Lib.hid (no_enc hneg)
        clear hneg hc3 hm3 hrow3
        go_wp2_with fail
        refine (chars_calls r w3 (HL.out.below HB3.out).2.1).mono ?_
        rintro e w4 ⟨rfl, hb4⟩
        have HB4 := Lib.hid (below_then HB3.out hb4)
        clear hb4
        rw [hnc.out]
        go_wp2
        go_ret
        exact ⟨rfl, HB4.out⟩
      · obtain ⟨m, rfl⟩ : ∃ m : Nat, r = (m : Int) := ⟨r.toNat, by
          have : ¬ r < 0 := fun h => hneg (by unfold encL; rw [if_pos h]; rfl)
          omega⟩
        rw [encL_nat] at hneg hc3 hrow3 ⊢
        have hk : 0 < (encN m).length := by omega
        have h4 := encL_len (m : Int)
        rw [encL_nat] at h4
        have hback := back_list (c := c3) (encN_lt m) hrow3
        rw [show (encN m).map (fun x => UInt8.ofNat x) = encB m from rfl] at hback
        have hxl : (encB m).length = (encN m).length := encB_length m
        have g1 := name_behind s.data.toList m hname.out hk
        have g2 := name_ahead s.data.toList m hname.out hk
        have g3 := name_clean hname.out
        have g4 := trim_sides s.data.toList g3.1 g3.2
        obtain ⟨x, hx⟩ : ∃ x, (⟨(encB m).toArray⟩ : ByteArray) = x := ⟨_, rfl⟩
        have hxs : x.size = (encN m).length := by rw [← hx, size_mk, hxl]
        have hxd : x.data.toList = encB m := by rw [← hx]
        rw [hx] at hback
        have N1 := fun W (hb : Below w.heap.size w W) => name_calls (s ++ x) W (by rw [size_append', hxs]; omega) (HL.out.below hb)
        have N2 := fun W (hb : Below w.heap.size w W) => name_calls (x ++ s) W (by rw [size_append', hxs]; omega) (HL.out.below hb)
        have T1 := fun W (hb : Below w.heap.size w W) => trim_calls ((⟨#[32, 9]⟩ : ByteArray) ++ s ++ ⟨#[13, 10]⟩) W (by rw [size_append', size_append']; show 2 + s.size + 2 ≤ _; omega) (HL.out.below hb)
        rw [data_append, hxd, nameP_eq, g1] at N1
        rw [data_append, hxd, nameP_eq, g2] at N2
        rw [data_append, data_append, show (⟨#[32, 9]⟩ : ByteArray).data.toList ++ s.data.toList ++ (⟨#[13, 10]⟩ : ByteArray).data.toList = 32 :: 9 :: (s.data.toList ++ [13, 10]) from rfl, g4, Lib.mk_data] at T1
        have hxe : x.toList.isEmpty = false := by
          rw [Lib.toList_data, hxd]
          cases hq : encB m with
          | nil => rw [hq] at hxl; simp at hxl; omega
          | cons => rfl
        have hxe2 : ¬ x.toList = [] := fun h => by rw [h] at hxe; exact absurd hxe (by decide)
        have z1 : ¬ 9223372036854775807 < s.size + x.size := by omega
        have z2 : ¬ 9223372036854775807 < x.size + s.size := by omega
        have z3 : ¬ 9223372036854775807 < 2 + s.size := by omega
        have z4 : ¬ 9223372036854775807 < 2 + s.size + 2 := by omega
        have hss : (s.toList == s.toList) = true := by simp
        obtain ⟨b1, h1⟩ : ∃ b, goesB (m : Int) = b := ⟨_, rfl⟩
        obtain ⟨b2, h2⟩ : ∃ b, beginsB (m : Int) = b := ⟨_, rfl⟩
        rw [h1] at N1
        rw [h2] at N2
        have H1 : Hid ((inTab furtherT (m : Int) || inTab firstsT (m : Int)) = b1) := Lib.hid h1
        have H2 : Hid (inTab firstsT (m : Int) = b2) := Lib.hid h2
        have hbb1 : (b1 == b1) = true := by simp
        have hbb2 : (b2 == b2) = true := by simp
        have HN1 := Lib.hid N1
        have HN2 := Lib.hid N2
        have HT1 := Lib.hid T1
        clear N1 N2 T1 g1 g2 g3 g4 hx hxd hxl hrow3 h1 h2 hneg hk h4 hname hxs hlen hc3 hm3
        go_wp2_with fail
        refine (HN1.out w3 HB3.out).mono ?_
        rintro e w4 ⟨rfl, hb4⟩
        have HB4 := Lib.hid (below_then HB3.out hb4)
        clear hb4
        go_wp2_with fail
        refine (further_calls (m : Int) w4 (HL.out.below HB4.out).2.2.2 (HL.out.below HB4.out).2.2.1).mono ?_
        rintro e w5 ⟨rfl, hb5⟩
        have HB5 := Lib.hid (below_then HB4.out hb5)
        clear hb5
        rw [H1.out]
        go_wp2_with fail
        refine (HN2.out w5 HB5.out).mono ?_
        rintro e w6 ⟨rfl, hb6⟩
        have HB6 := Lib.hid (below_then HB5.out hb6)
        clear hb6
        go_wp2_with fail
        refine (firsts_calls (m : Int) w6 (HL.out.below HB6.out).2.2.1).mono ?_
        rintro e w7 ⟨rfl, hb7⟩
        have HB7 := Lib.hid (below_then HB6.out hb7)
        clear hb7
        rw [H2.out]
        go_wp2_with fail
        refine (HT1.out w7 HB7.out).mono ?_
        rintro e w8 ⟨rfl, hb8⟩
        have HB8 := Lib.hid (below_then HB7.out hb8)
        clear hb8
        go_wp2
        go_ret
        exact ⟨rfl, HB8.out⟩

end Go.Proofs.YtbaehldglmibeaaDoor
