/-
  Small functions of package qlex, told by the program: a text without blanks at its beginning, how many digits it begins with, its number, a token of a kind. Conditions: the texts are no longer than 2 to the 30.
-/
import Derived.Test.YtkpgbcackphdbaaDoorQB
import Derived.Test.YtkpgbcackphdbaaDoorNext
namespace Go.Proofs.YtkpgbcackphdbaaDoor
open Go.RowKit Go.Lib Go.Joins

theorem blank_nat (m : Nat) : blankB (m : Int) = pBl m := by
  unfold blankB pBl
  rw [Bool.eq_iff_iff]
  simp only [Bool.or_eq_true, beq_iff_eq]
  omega
set_option maxRecDepth 100000 in
set_option maxHeartbeats 2000000 in
theorem bare_calls (l : List UInt8) (w : World) : Calls Tryd.prog 14 #[.string (strB l)] w (Leaves (.string (strB (blk l))) w) := by
  have hp : PredAt Tryd.prog 23 #[] encR pBl w := fun W x _ => (blank_calls (x : Int) W).mono fun e w' ⟨h1, h2⟩ => ⟨by rw [h1, blank_nat], 0, h2⟩
  have T := Tryd.strings_TrimLeftFunc 23 #[] (enters_of Tryd.func23 (by kernel_rfl) rfl) pBl (strB l) w hp
  have he : trimLeftF pBl (strB l) = strB (blk l) := by
    apply ByteArray.ext
    apply Array.toList_inj.1
    rw [left_eq]
    rfl
  rw [he] at T
  obtain ⟨s, hs⟩ : ∃ s, strB l = s := ⟨_, rfl⟩
  obtain ⟨t, ht⟩ : ∃ t, strB (blk l) = t := ⟨_, rfl⟩
  rw [hs, ht] at T
  rw [hs, ht]
  have HT := Lib.hid T
  clear T hp he hs ht
  go_enter Tryd.func14, Tryd.ntmps14
  go_wp2_with fail
  with_reducible refine HT.out.mono ?_
  rintro e w1 ⟨rfl, hb⟩
  have HB := Lib.hid hb
  clear hb
  go_wp2
  go_ret
  exact ⟨rfl, HB.out⟩

def tenQ : List UInt8 := [48, 49, 50, 51, 52, 53, 54, 55, 56, 57]
theorem ten_digit (b : UInt8) : tenQ.contains b = digitB b := by
  unfold tenQ digitB
  rw [Bool.eq_iff_iff]
  simp only [List.contains_cons, List.contains_nil, Bool.or_false, Bool.or_eq_true, beq_iff_eq, Bool.and_eq_true, decide_eq_true_eq]
  constructor
  · rintro (rfl | rfl | rfl | rfl | rfl | rfl | rfl | rfl | rfl | rfl) <;> decide
  · intro h
    have := b.toNat_lt
    simp only [← UInt8.toNat_inj]
    simp
    omega
theorem left_ten : ∀ l : List UInt8, trimLeftS l tenQ = l.drop (digs l)
  | [] => rfl
  | b :: t => by
    have ih := left_ten t
    unfold trimLeftS at ih ⊢
    rw [List.dropWhile_cons, ten_digit, digs]
    by_cases h : digitB b = true
    · rw [if_pos h, if_pos h, ih, List.drop_succ_cons]
    · rw [if_neg h, if_neg h, List.drop_zero]
set_option maxRecDepth 100000 in
set_option maxHeartbeats 2000000 in
theorem digits_calls (l : List UInt8) (w : World) (hl : l.length ≤ 1073741824) : Calls Tryd.prog 27 #[.string (strB l)] w (Leaves (.int .i64 (digs l : Int)) w) := by
  have T := Tryd.strings_TrimLeft (strB l) (strB tenQ) w (by decide) (by
    intro j b hj
    have : b ∈ tenQ := List.mem_of_getElem? hj
    have h2 : digitB b = true := by rw [← ten_digit]; exact List.contains_iff_mem.2 this
    have := digit_low h2
    omega)
  have he : (⟨(trimLeftS (strB l).data.toList (strB tenQ).data.toList).toArray⟩ : ByteArray) = strB (l.drop (digs l)) := by
    show strB (trimLeftS l tenQ) = _
    rw [left_ten]
  rw [he] at T
  have hd := digs_le l
  have hs1 := strB_size l
  have hs2 := strB_size (l.drop (digs l))
  rw [List.length_drop] at hs2
  obtain ⟨s, hs⟩ : ∃ s, strB l = s := ⟨_, rfl⟩
  obtain ⟨t, ht⟩ : ∃ t, strB (l.drop (digs l)) = t := ⟨_, rfl⟩
  rw [show strB tenQ = ⟨#[48, 49, 50, 51, 52, 53, 54, 55, 56, 57]⟩ from rfl] at T
  rw [hs, ht] at T
  rw [hs] at hs1 ⊢
  rw [ht] at hs2
  have hsub : IntKind.i64.wrap ((s.size : Int) - (t.size : Int)) = (digs l : Int) := by rw [IntWalk.i64_in _ (by omega)]; omega
  have HT := Lib.hid T
  clear T he hs ht hs1 hs2 hd
  go_enter Tryd.func27, Tryd.ntmps27
  go_wp2_with fail
  with_reducible refine HT.out.mono ?_
  rintro e w1 ⟨rfl, hb⟩
  have HB := Lib.hid hb
  clear hb
  go_wp2
  go_ret
  exact ⟨rfl, HB.out⟩

set_option maxRecDepth 100000 in
set_option maxHeartbeats 2000000 in
theorem none_calls (w : World) : Calls Tryd.prog 40 #[] w (Leaves (rdV (.error 60)) w) := by
  unfold rdV
  dsimp only
  obtain ⟨W1, hW1⟩ : ∃ W1, w.alloc (.cells #[.int .i64 0, .int .i64 0, .string ⟨#[]⟩] 31) = W1 := ⟨_, rfl⟩
  have hk : W1.heap[w.heap.size]? = some (.cells #[.int .i64 0, .int .i64 0, .string ⟨#[]⟩] 31 (0, 0)) := by rw [← hW1]; exact heap_alloc_new _ _
  have hb1 : Below w.heap.size w W1 := by rw [← hW1]; exact (Below.refl _ _).alloc (Nat.le_refl _) _
  obtain ⟨c0, c1, c2⟩ := three_cells hk
  have HK := Lib.hid hk
  have HB := Lib.hid hb1
  have HW1 := Lib.hid hW1
  clear hk hb1 hW1
  go_enter Tryd.func40, Tryd.ntmps40
  go_wp2_with fail
  rw [HW1.out]
  exact bodyPost_ret (v := .tuple #[.agg #[.int .i64 0, .int .i64 0, .string ⟨#[]⟩], .int .i64 0, .int .i64 60]) (by simp [results, Tryd.results40, go_sem, c0, c1, c2]) rfl ⟨rfl, HB.out⟩

set_option maxRecDepth 100000 in
set_option maxHeartbeats 2000000 in
theorem token_calls (k : Int) (t : List UInt8) (w : World) (_ht : t.length ≤ 1073741824) : Calls Tryd.prog 26 #[.int .i64 k, .string (strB t)] w (Leaves (rdV (tokQ k t)) w) := by
  unfold rdV tokQ
  dsimp only
  have hs1 := strB_size t
  obtain ⟨s, hs⟩ : ∃ s, strB t = s := ⟨_, rfl⟩
  rw [hs] at hs1 ⊢
  rw [← hs1]
  clear hs hs1
  go_enter Tryd.func26, Tryd.ntmps26
  go_wp2_with fail
  exact bodyPost_ret (v := .tuple #[.agg #[.int .i64 k, .int .i64 0, .string s], .int .i64 s.size, .int .i64 0]) (by simp [results, Tryd.results26, go_sem]) rfl ⟨rfl, (Below.refl _ _).alloc (Nat.le_refl _) _⟩

set_option maxRecDepth 100000 in
set_option maxHeartbeats 2000000 in
theorem operates_calls (l : List UInt8) (w : World) : Calls Tryd.prog 45 #[.string (strB l)] w (fun e w' => e = .returned (.bool (wordsQ.contains l)) ∧ w = w') := by
  have hl : (strB l).toList = l := by rw [Go.Lib.toList_data, strB_list]
  obtain ⟨s, hs⟩ : ∃ s, strB l = s := ⟨_, rfl⟩
  rw [hs] at hl ⊢
  obtain ⟨q, hq⟩ : ∃ q, wordsQ.contains l = q := ⟨_, rfl⟩
  rw [hq]
  have HQ : Hid ((l == [97, 110, 100] || (l == [111, 114] || (l == [100, 105, 118] || (l == [109, 111, 100] || false)))) = q) := Lib.hid (by
    rw [← hq]
    unfold wordsQ
    simp only [List.contains_cons, List.contains_nil])
  clear hs hq
  cases h1 : (l == [97, 110, 100]) with
  | true =>
    rw [h1] at HQ
    have e1 : (s.toList == [97, 110, 100]) = true := by rw [hl]; exact h1
    clear hl h1
    go_enter Tryd.func45, Tryd.ntmps45
    go_wp2_with fail
    go_ret
    exact ⟨by rw [← HQ.out]; rfl, rfl⟩
  | false =>
    have e1 : (s.toList == [97, 110, 100]) = false := by rw [hl]; exact h1
    cases h2 : (l == [111, 114]) with
    | true =>
      rw [h1, h2] at HQ
      have e2 : (s.toList == [111, 114]) = true := by rw [hl]; exact h2
      clear hl h1 h2
      go_enter Tryd.func45, Tryd.ntmps45
      go_wp2_with fail
      go_ret
      exact ⟨by rw [← HQ.out]; rfl, rfl⟩
    | false =>
      have e2 : (s.toList == [111, 114]) = false := by rw [hl]; exact h2
      cases h3 : (l == [100, 105, 118]) with
      | true =>
        rw [h1, h2, h3] at HQ
        have e3 : (s.toList == [100, 105, 118]) = true := by rw [hl]; exact h3
        clear hl h1 h2 h3
        go_enter Tryd.func45, Tryd.ntmps45
        go_wp2_with fail
        go_ret
        exact ⟨by rw [← HQ.out]; rfl, rfl⟩
      | false =>
        have e3 : (s.toList == [100, 105, 118]) = false := by rw [hl]; exact h3
        cases h4 : (l == [109, 111, 100]) with
        | true =>
          rw [h1, h2, h3, h4] at HQ
          have e4 : (s.toList == [109, 111, 100]) = true := by rw [hl]; exact h4
          clear hl h1 h2 h3 h4
          go_enter Tryd.func45, Tryd.ntmps45
          go_wp2_with fail
          go_ret
          exact ⟨by rw [← HQ.out]; rfl, rfl⟩
        | false =>
          rw [h1, h2, h3, h4] at HQ
          have e4 : (s.toList == [109, 111, 100]) = false := by rw [hl]; exact h4
          clear hl h1 h2 h3 h4
          go_enter Tryd.func45, Tryd.ntmps45
          go_wp2_with fail
          go_ret
          exact ⟨by rw [← HQ.out]; rfl, rfl⟩
end Go.Proofs.YtkpgbcackphdbaaDoor
