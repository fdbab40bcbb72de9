/-
  The program's Parse: a text as a number, as the document says. Conditions: the text is shorter than 2 to the 30; the library's tables hold what their initialisers lay.
-/
import Derived.Test.YteddnomneeonhaaDoorMade
import Derived.Test.YteddnomneeonhaaDoorTrimWalk
import Derived.Test.YteddnomneeonhaaDoorDigits
namespace Go.Proofs.YteddnomneeonhaaDoor
open Go.RowKit Go.Lib

theorem sixD_ge : ∀ (l : List UInt8) (k u : Nat), u * 10 ^ k ≤ sixD u k l
  | l, 0, u => by rw [sixD_zero, Nat.pow_zero, Nat.mul_one]; exact Nat.le_refl _
  | [], k + 1, u => by rw [sixD_nil]; exact Nat.le_refl _
  | b :: t, k + 1, u => by
    have ih := sixD_ge t k (u * 10 + dgV b)
    have e : sixD u (k + 1) (b :: t) = sixD (u * 10 + dgV b) k t := rfl
    rw [e, Nat.pow_succ, Nat.mul_comm (10 ^ k) 10, ← Nat.mul_assoc]
    refine Nat.le_trans ?_ ih
    exact Nat.mul_le_mul_right _ (by omega)
theorem sixD_lt : ∀ (l : List UInt8) (k u : Nat), l.all isDg = true → sixD u k l + 1 ≤ (u + 1) * 10 ^ k
  | l, 0, u, _ => by rw [sixD_zero, Nat.pow_zero, Nat.mul_one]; exact Nat.le_refl _
  | [], k + 1, u, _ => by
    rw [sixD_nil, Nat.add_mul, Nat.one_mul]
    have : 0 < 10 ^ (k + 1) := Nat.pow_pos (by decide)
    omega
  | b :: t, k + 1, u, h => by
    rw [List.all_cons, Bool.and_eq_true] at h
    have ih := sixD_lt t k (u * 10 + dgV b) h.2
    have hb : dgV b ≤ 9 := by
      have := h.1
      unfold isDg at this
      unfold dgV
      simp at this
      omega
    have e : sixD u (k + 1) (b :: t) = sixD (u * 10 + dgV b) k t := rfl
    rw [e, Nat.pow_succ, Nat.mul_comm (10 ^ k) 10, ← Nat.mul_assoc]
    refine Nat.le_trans ih ?_
    exact Nat.mul_le_mul_right _ (by omega)

theorem fit_numOf (g : Bool) (n : Nat) : fitP (sgnd g n) = numOf g n := by
  unfold fitP numOf
  rw [outB_sgnd]
  by_cases h : 1000000000000000 < n
  · rw [if_pos (decide_eq_true h), if_pos h]
  · rw [if_neg (by simpa using h), if_neg h]
theorem numOf_big (g : Bool) (A B : List UInt8) (h : 1000000000 < valD 0 A) : numOf g (sixD (valD 0 A) 6 B) = (zeroN, 66) := by
  unfold numOf
  have h1 := sixD_ge B 6 (valD 0 A)
  have h2 : (1000000000 + 1) * 10 ^ 6 ≤ valD 0 A * 10 ^ 6 := Nat.mul_le_mul_right _ h
  rw [if_pos (by omega)]

theorem prefix_calls (s : ByteArray) (w : World) : Calls Tryd.prog 50 #[.string s, .string ⟨#[45]⟩] w (Leaves (.tuple #[.string ⟨(sizeT s.data.toList).toArray⟩, .bool (minusB s.data.toList)]) w) :=
  (Tryd.strings_CutPrefix s ⟨#[45]⟩ w).mono fun _e _w' ⟨h1, h2⟩ => ⟨h1, h2 ▸ Below.refl _ _⟩

theorem cut_calls (s : ByteArray) (w : World) (hs : s.size ≤ 1073741824) (hm : ∃ m, w.cell? ⟨3, 0, none⟩ = some (.int .i64 m)) :
    ∃ f, Calls Tryd.prog 52 #[.string s, .string ⟨#[46]⟩] w (Leaves (.tuple #[.string ⟨(splitDot s.data.toList).1.toArray⟩, .string ⟨(splitDot s.data.toList).2.toArray⟩, .bool f]) w) := by
  obtain ⟨m, hm⟩ := hm
  refine ⟨(cut s.data.toList [46]).2.2, (Tryd.strings_Cut s ⟨#[46]⟩ m w (by omega) hm).mono ?_⟩
  rintro e w' ⟨h1, n, h2⟩
  refine ⟨?_, ?_⟩
  · rw [h1, ← (cut_dot s.data.toList).1, ← (cut_dot s.data.toList).2]
  · subst h2
    exact ⟨rfl, rfl, rfl, Nat.le_refl _, fun _ _ => rfl⟩

theorem splitDot_len : ∀ l : List UInt8, (splitDot l).1.length + (splitDot l).2.length ≤ l.length
  | [] => Nat.le_refl _
  | b :: t => by
    have := splitDot_len t
    unfold splitDot
    split
    · simp
    · simp only [List.length_cons]
      omega
theorem sizeT_len (l : List UInt8) : (sizeT l).length ≤ l.length := by
  unfold sizeT
  split
  · rw [List.length_drop]; omega
  · exact Nat.le_refl _
theorem trimL_len (l : List UInt8) : (trimL l).length ≤ l.length := by
  unfold trimL
  rw [List.length_take, List.length_drop]
  omega
theorem mk_toList (l : List UInt8) : (⟨l.toArray⟩ : ByteArray).data.toList = l := rfl
theorem mk_size (l : List UInt8) : (⟨l.toArray⟩ : ByteArray).size = l.length := by simp [ByteArray.size]

set_option maxRecDepth 100000 in
set_option maxHeartbeats 2000000 in
theorem parse_calls (s : ByteArray) (w : World) (hs : s.size ≤ 1073741824) (hL : Laid w) : Calls Tryd.prog 37 #[.string s] w (Leaves (numC (parseP s.data.toList)) w) := by
  have hlen : s.data.toList.length = s.size := Array.length_toList
  obtain ⟨d, hd⟩ : ∃ d, parseP s.data.toList = d := ⟨_, rfl⟩
  rw [hd]
  unfold parseP parseS parseZ goodZ at hd
  have hl1 := trimL_len s.data.toList
  obtain ⟨t, ht⟩ : ∃ t, trimL s.data.toList = t := ⟨_, rfl⟩
  rw [ht] at hd hl1
  have hl2 := sizeT_len t
  obtain ⟨z, hz⟩ : ∃ z, sizeT t = z := ⟨_, rfl⟩
  obtain ⟨g, hg⟩ : ∃ g, minusB t = g := ⟨_, rfl⟩
  rw [hz, hg] at hd
  rw [hz] at hl2
  have hl3 := splitDot_len z
  obtain ⟨A, hA⟩ : ∃ A, (splitDot z).1 = A := ⟨_, rfl⟩
  obtain ⟨B, hB⟩ : ∃ B, (splitDot z).2 = B := ⟨_, rfl⟩
  rw [hA, hB] at hd hl3
  have HD := Lib.hid hd
  have HT := Lib.hid ht
  have HZ := Lib.hid hz
  have HGG := Lib.hid hg
  have HA := Lib.hid hA
  have HB' := Lib.hid hB
  have HL := Lib.hid hL
  obtain ⟨sA, hsA⟩ : ∃ sA : ByteArray, (⟨A.toArray⟩ : ByteArray) = sA := ⟨_, rfl⟩
  obtain ⟨sB, hsB⟩ : ∃ sB : ByteArray, (⟨B.toArray⟩ : ByteArray) = sB := ⟨_, rfl⟩
  have hlA : sA.size = A.length := by rw [← hsA, mk_size]
  have hlB : sB.size = B.length := by rw [← hsB, mk_size]
  have cT : Hid (∀ W, Below w.heap.size w W → Calls Tryd.prog 51 #[.string s] W (Leaves (.string ⟨t.toArray⟩) W)) := Lib.hid fun W hb => by
    have := trim_calls s W hs (hL.below hb)
    rwa [ht] at this
  have cP : Hid (∀ W, Calls Tryd.prog 50 #[.string ⟨t.toArray⟩, .string ⟨#[45]⟩] W (Leaves (.tuple #[.string ⟨z.toArray⟩, .bool g]) W)) := Lib.hid fun W => by
    have := prefix_calls ⟨t.toArray⟩ W
    rwa [mk_toList, hz, hg] at this
  have cC : Hid (∀ W, Below w.heap.size w W → ∃ f, Calls Tryd.prog 52 #[.string ⟨z.toArray⟩, .string ⟨#[46]⟩] W (Leaves (.tuple #[.string sA, .string sB, .bool f]) W)) := Lib.hid fun W hb => by
    have := cut_calls ⟨z.toArray⟩ W (by rw [mk_size]; omega) (hL.below hb).2.2
    rwa [mk_toList, hA, hB, hsA, hsB] at this
  obtain ⟨xA, hxA⟩ : ∃ x, A.all isDg = x := ⟨_, rfl⟩
  obtain ⟨xB, hxB⟩ : ∃ x, B.all isDg = x := ⟨_, rfl⟩
  have cDA : Hid (∀ W, Calls Tryd.prog 53 #[.string sA] W (Leaves (.bool xA) W)) := Lib.hid fun W => by
    have := digits_calls sA W (by omega)
    rwa [← hsA, mk_toList, hxA, hsA] at this
  have cDB : Hid (∀ W, Calls Tryd.prog 53 #[.string sB] W (Leaves (.bool xB) W)) := Lib.hid fun W => by
    have := digits_calls sB W (by omega)
    rwa [← hsB, mk_toList, hxB, hsB] at this
  have cM : Hid (xA = true → xB = true → ∀ W, Calls Tryd.prog 54 #[.string sA, .string sB] W (Leaves (.tuple #[.int .i64 (milP A B).1, .bool (milP A B).2]) W)) := Lib.hid fun h1 h2 W => by
    have := millionths_calls sA sB W (by omega) (by omega) (by rw [← hsA, mk_toList, hxA]; exact h1) (by rw [← hsB, mk_toList, hxB]; exact h2)
    rwa [← hsA, ← hsB, mk_toList, mk_toList, hsA, hsB] at this
  rw [hxA, hxB, ← hlA, ← hlB] at hd
  have HDD := Lib.hid hd
  have HXB := Lib.hid hxB
  have sA1 : sA.size ≤ 1073741824 := by omega
  have sB1 : sB.size ≤ 1073741824 := by omega
  clear hd ht hz hg hA hB hsA hsB hlA hlB hxA hxB hl1 hl2 hl3 hL HD
  go_enter Tryd.func37, Tryd.ntmps37
  go_wp2_with fail
  have hb0 : Below w.heap.size w (w.alloc (.cells #[.bool false, .int .i64 0] 23)) := (Below.refl _ w).alloc (Nat.le_refl _) _
  refine (cT.out _ hb0).mono ?_
  rintro e w1 ⟨rfl, hb1⟩
  have HB1 : Hid (Below w.heap.size w w1) := Lib.hid (hb0.trans (hb1.mono (by simp)))
  have HR1 : Hid (Own2 w.heap.size (.bool false) (.int .i64 0) w1) := Lib.hid (Own2.below ⟨by go_simp, by go_simp, by go_simp, by go_simp⟩ hb1)
  clear hb1 hb0
  go_wp2_with fail
  refine (cP.out _).mono ?_
  rintro e w2 ⟨rfl, hb2⟩
  have HB2 := Lib.hid (below_then HB1.out hb2)
  have HR2 := Lib.hid (HR1.out.below hb2)
  clear hb2
  go_wp2_with fail
  obtain ⟨fc, cC2⟩ := cC.out _ HB2.out
  refine cC2.mono ?_
  clear cC2
  rintro e w3 ⟨rfl, hb3⟩
  have HB3 := Lib.hid (below_then HB2.out hb3)
  have HR3 := Lib.hid (HR2.out.below hb3)
  clear hb3
  by_cases h0 : sA.size + sB.size = 0
  · have hres : Hid (d = (nanN, 0)) := Lib.hid (by rw [← HDD.out, decide_eq_true h0]; rfl)
    have hz0 : ((sA.size : Int) + (sB.size : Int) == 0) = true := by simp; omega
    go_wp2_with fail
    refine (nan_calls _).mono ?_
    rintro e w9 ⟨rfl, hb9⟩
    have HB9 := Lib.hid (below_then HB3.out hb9)
    obtain ⟨c0, c1, f0, f1⟩ := HR3.out.below hb9
    clear hb9
    unfold numV nanN
    go_wp2
    rw [hres.out]
    exact bodyPost_ret (v := numC (nanN, 0)) (by simp [results, Tryd.results37, go_sem, numC, numV, nanN, c0, c1]) rfl ⟨rfl, (HB9.out.setCell (by simp) _).setCell (by simp) _⟩
  · have hz0 : ((sA.size : Int) + (sB.size : Int) == 0) = false := by simp; omega
    have HN0 := Lib.hid h0
    clear h0
    cases xA with
    | false =>
      have hres : Hid (d = (nanN, 0)) := Lib.hid (by rw [← HDD.out, decide_eq_false HN0.out]; rfl)
      go_wp2_with fail
      refine (cDA.out _).mono ?_
      rintro e w4 ⟨rfl, hb4⟩
      have HB4 := Lib.hid (below_then HB3.out hb4)
      have HR4 := Lib.hid (HR3.out.below hb4)
      clear hb4
      go_wp2_with fail
      refine (nan_calls _).mono ?_
      rintro e w9 ⟨rfl, hb9⟩
      have HB9 := Lib.hid (below_then HB4.out hb9)
      obtain ⟨c0, c1, f0, f1⟩ := HR4.out.below hb9
      clear hb9
      unfold numV nanN
      go_wp2
      rw [hres.out]
      exact bodyPost_ret (v := numC (nanN, 0)) (by simp [results, Tryd.results37, go_sem, numC, numV, nanN, c0, c1]) rfl ⟨rfl, (HB9.out.setCell (by simp) _).setCell (by simp) _⟩
    | true =>
      go_wp2_with fail
      refine (cDA.out _).mono ?_
      rintro e w4 ⟨rfl, hb4⟩
      have HB4 := Lib.hid (below_then HB3.out hb4)
      have HR4 := Lib.hid (HR3.out.below hb4)
      clear hb4
      go_wp2_with fail
      refine (cDB.out _).mono ?_
      rintro e w5 ⟨rfl, hb5⟩
      have HB5 := Lib.hid (below_then HB4.out hb5)
      have HR5 := Lib.hid (HR4.out.below hb5)
      clear hb5
      cases xB with
      | false =>
        have hres : Hid (d = (nanN, 0)) := Lib.hid (by rw [← HDD.out, decide_eq_false HN0.out]; rfl)
        go_wp2_with fail
        refine (nan_calls _).mono ?_
        rintro e w9 ⟨rfl, hb9⟩
        have HB9 := Lib.hid (below_then HB5.out hb9)
        obtain ⟨c0, c1, f0, f1⟩ := HR5.out.below hb9
        clear hb9
        unfold numV nanN
        go_wp2
        rw [hres.out]
        exact bodyPost_ret (v := numC (nanN, 0)) (by simp [results, Tryd.results37, go_sem, numC, numV, nanN, c0, c1]) rfl ⟨rfl, (HB9.out.setCell (by simp) _).setCell (by simp) _⟩
      | true =>
        have hres : Hid (d = numOf g (sixD (valD 0 A) 6 B)) := Lib.hid (by rw [← HDD.out, decide_eq_false HN0.out]; rfl)
        go_wp2_with fail
        refine (cM.out (by first | rfl | trivial) (by first | rfl | trivial) _).mono ?_
        rintro e w6 ⟨rfl, hb6⟩
        have HB6 := Lib.hid (below_then HB5.out hb6)
        have HR6 := Lib.hid (HR5.out.below hb6)
        clear hb6
        by_cases hbig : 1000000000 < valD 0 A
        · have hres2 : Hid (d = (zeroN, 66)) := Lib.hid (by rw [hres.out, numOf_big g A B hbig])
          have hmil : milP A B = (0, false) := if_pos hbig
          rw [hmil]
          obtain ⟨c0, c1, f0, f1⟩ := HR6.out
          clear hbig hmil
          go_wp2
          rw [hres2.out]
          exact bodyPost_ret (v := numC (zeroN, 66)) (by simp [results, Tryd.results37, go_sem, numC, numV, zeroN, c0, c1]) rfl ⟨rfl, (HB6.out.setCell (by simp) _).setCell (by simp) _⟩
        · have hmil : milP A B = (((sixD (valD 0 A) 6 B : Nat) : Int), true) := if_neg hbig
          rw [hmil]
          have hlt := sixD_lt B 6 (valD 0 A) HXB.out
          obtain ⟨x, hx⟩ : ∃ x : Int, ((sixD (valD 0 A) 6 B : Nat) : Int) = x := ⟨_, rfl⟩
          have hx1 : 0 ≤ x ∧ x ≤ 1000001000000000 := by
            have : (valD 0 A + 1) * 10 ^ 6 ≤ 1000000001 * 10 ^ 6 := Nat.mul_le_mul_right _ (by omega)
            omega
          obtain ⟨hx0, hx1⟩ := hx1
          have hres2 : Hid (d = fitP (if g = true then -x else x)) := Lib.hid (by rw [hres.out, ← fit_numOf, ← hx]; rfl)
          rw [hx]
          clear hbig hmil hlt hx
          cases g with
          | true =>
            have hres : Hid (d = fitP (-x)) := Lib.hid hres2.out
            go_wp2_with fail
            refine (made_calls (-x) _).mono ?_
            rintro e w9 ⟨rfl, hb9⟩
            have HB9 := Lib.hid (below_then HB6.out hb9)
            obtain ⟨c0, c1, f0, f1⟩ := HR6.out.below hb9
            obtain ⟨⟨⟨n, v⟩, c⟩, hd⟩ : ∃ d, fitP (-x) = d := ⟨_, rfl⟩
            rw [hd]
            have HD9 := Lib.hid (hres.out.trans hd)
            clear hb9 hd
            unfold numC numV
            go_wp2
            rw [HD9.out]
            exact bodyPost_ret (v := numC (⟨n, v⟩, c)) (by simp [results, Tryd.results37, go_sem, numC, numV, c0, c1]) rfl ⟨rfl, (HB9.out.setCell (by simp) _).setCell (by simp) _⟩
          | false =>
            have hres : Hid (d = fitP x) := Lib.hid hres2.out
            go_wp2_with fail
            refine (made_calls (x) _).mono ?_
            rintro e w9 ⟨rfl, hb9⟩
            have HB9 := Lib.hid (below_then HB6.out hb9)
            obtain ⟨c0, c1, f0, f1⟩ := HR6.out.below hb9
            obtain ⟨⟨⟨n, v⟩, c⟩, hd⟩ : ∃ d, fitP (x) = d := ⟨_, rfl⟩
            rw [hd]
            have HD9 := Lib.hid (hres.out.trans hd)
            clear hb9 hd
            unfold numC numV
            go_wp2
            rw [HD9.out]
            exact bodyPost_ret (v := numC (⟨n, v⟩, c)) (by simp [results, Tryd.results37, go_sem, numC, numV, c0, c1]) rfl ⟨rfl, (HB9.out.setCell (by simp) _).setCell (by simp) _⟩

end Go.Proofs.YteddnomneeonhaaDoor
