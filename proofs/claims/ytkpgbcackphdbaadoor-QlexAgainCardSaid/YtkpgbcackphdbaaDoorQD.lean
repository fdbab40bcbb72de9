/-
  Numbers, names by what stands beside them, variables and texts in quotes, told by the program. Conditions: the texts are no longer than 2 to the 30; the library's bound is laid.
-/
import Derived.Test.YtkpgbcackphdbaaDoorQC
namespace Go.Proofs.YtkpgbcackphdbaaDoor
open Go.RowKit Go.Lib Go.Joins

theorem has_pre (s : ByteArray) (l m : List UInt8) (hs : s = strB l) (p : ByteArray) (hp : p = strB m) (w : World) : Calls Tryd.prog 42 #[.string s, .string p] w (fun e w' => e = .returned (.bool (hasPre m l)) ∧ w = w') := by
  subst hs hp
  exact (Tryd.strings_HasPrefix (strB l) (strB m) w).mono fun _ _ h => ⟨h.1, h.2.symm⟩
theorem rdV_form (r : Rd) : ∃ k t z c, rdV r = .tuple #[.agg #[.int .i64 k, .int .i64 0, .string t], .int .i64 z, .int .i64 c] := by
  cases r with
  | error c => exact ⟨_, _, _, _, rfl⟩
  | ok x => exact ⟨_, _, _, _, rfl⟩
/-- The block in which a result will lie. -/
def ResAt (b : Nat) (w : World) : Prop := w.heap[b]? = some (.cells #[.int .i64 0, .int .i64 0, .string ⟨#[]⟩] 31 (0, 0))
theorem ResAt.below {b : Nat} {w w' : World} (h : ResAt b w) (hb : Below w.heap.size w w') : ResAt b w' := block_below hb h

set_option maxRecDepth 100000 in
set_option maxHeartbeats 2000000 in
theorem number_calls (l : List UInt8) (w : World) (hl : l.length ≤ 1073741824) : Calls Tryd.prog 28 #[.string (strB l)] w (Leaves (.string (strB (l.take (numLen l)))) w) := by
  have hnum : numLen l = if hasPre [46] (l.drop (digs l)) = true then digs l + (1 + digs (l.drop (digs l + 1))) else digs l := rfl
  have HD := digits_calls l w hl
  have HP := fun W => has_pre (strB (l.drop (digs l))) (l.drop (digs l)) [46] rfl ⟨#[46]⟩ rfl W
  have HD2 := fun W => digits_calls (l.drop (digs l + 1)) W (by rw [List.length_drop]; omega)
  have hd := digs_le l
  have hs1 := strB_size l
  have x1 := drop_strB l (digs l)
  have x2 := drop_strB l (digs l + 1)
  have x3 := take_strB l (numLen l)
  have hm := numLen_le l
  have hne : hasPre [46] (l.drop (digs l)) = true → digs l + 1 ≤ l.length := fun h => by
    have h3 : l.drop (digs l) ≠ [] := fun e => by rw [e] at h; exact absurd h (by decide)
    have h4 := List.length_pos_iff.2 h3
    rw [List.length_drop] at h4
    omega
  obtain ⟨q, hq⟩ : ∃ q, hasPre [46] (l.drop (digs l)) = q := ⟨_, rfl⟩
  obtain ⟨r, hr⟩ : ∃ r, strB (l.take (numLen l)) = r := ⟨_, rfl⟩
  rw [hr] at x3 ⊢
  rw [hq] at HP hnum hne
  obtain ⟨n, hn⟩ : ∃ n, digs l = n := ⟨_, rfl⟩
  rw [hn] at HD HP HD2 hd x1 x2 hnum hne
  obtain ⟨k, hk⟩ : ∃ k, digs (l.drop (n + 1)) = k := ⟨_, rfl⟩
  rw [hk] at HD2 hnum
  obtain ⟨m, hmm⟩ : ∃ m, numLen l = m := ⟨_, rfl⟩
  rw [hmm] at hnum x3 hm
  obtain ⟨s, hs⟩ : ∃ s, strB l = s := ⟨_, rfl⟩
  rw [hs] at HD hs1 x1 x2 x3 ⊢
  obtain ⟨s1, hs11⟩ : ∃ s1, strB (l.drop n) = s1 := ⟨_, rfl⟩
  rw [hs11] at HP x1
  obtain ⟨s2, hs22⟩ : ∃ s2, strB (l.drop (n + 1)) = s2 := ⟨_, rfl⟩
  rw [hs22] at HD2 x2
  obtain ⟨p, hp⟩ : ∃ p, n + 1 = p := ⟨_, rfl⟩
  rw [hp] at x2 hne
  have hns : (n : Int) ≤ (s.size : Int) := by omega
  have hms : (m : Int) ≤ (s.size : Int) := by omega
  have hn0 : (0 : Int) ≤ (n : Int) := by omega
  have hm0 : (0 : Int) ≤ (m : Int) := by omega
  have hwp : IntKind.i64.wrap ((n : Int) + 1) = (p : Int) := by rw [IntWalk.i64_in _ (by omega)]; omega
  have HDH := Lib.hid HD
  have HPH := Lib.hid HP
  have HD2H := Lib.hid HD2
  have X1 := Lib.hid x1
  have X2 := Lib.hid x2
  have X3 := Lib.hid x3
  have HNE := Lib.hid hne
  have HNUM := Lib.hid hnum
  have HS1 := Lib.hid hs1
  have HHL := Lib.hid hl
  clear HD HP HD2 x1 x2 x3 hnum hne hq hr hn hk hmm hs hs11 hs22 hs1 hl hd hm hp
  cases q with
  | false =>
    obtain rfl : m = n := HNUM.out
    have e1 := X1.out
    have e3 := X3.out
    go_enter Tryd.func28, Tryd.ntmps28
    go_wp2_with fail
    with_reducible refine HDH.out.mono ?_
    rintro e w1 ⟨rfl, hb⟩
    have HB := Lib.hid hb
    clear hb
    go_wp2_with fail
    with_reducible refine (HPH.out w1).mono ?_
    rintro e w2 ⟨rfl, rfl⟩
    go_wp2_with fail
    go_ret
    exact ⟨rfl, HB.out⟩
  | true =>
    have hps : (p : Int) ≤ (s.size : Int) := by have := HNE.out rfl; have := HS1.out; omega
    have hp0 : (0 : Int) ≤ (p : Int) := by omega
    obtain ⟨j, hj⟩ : ∃ j, 1 + k = j := ⟨_, rfl⟩
    have hnum : m = n + j := by rw [← hj]; exact HNUM.out
    have hms' : m ≤ 1073741824 := by have := HS1.out; have := HHL.out; omega
    have hw1 : IntKind.i64.wrap (1 + (k : Int)) = (j : Int) := by rw [IntWalk.i64_in _ (by omega)]; omega
    have hw2 : IntKind.i64.wrap ((n : Int) + (j : Int)) = (m : Int) := by rw [IntWalk.i64_in _ (by omega)]; omega
    have e1 := X1.out
    have e2 := X2.out
    have e3 := X3.out
    clear hj hnum hms'
    go_enter Tryd.func28, Tryd.ntmps28
    go_wp2_with fail
    with_reducible refine HDH.out.mono ?_
    rintro e w1 ⟨rfl, hb⟩
    have HB := Lib.hid hb
    clear hb
    go_wp2_with fail
    with_reducible refine (HPH.out w1).mono ?_
    rintro e w2 ⟨rfl, rfl⟩
    go_wp2_with fail
    with_reducible refine (HD2H.out _).mono ?_
    rintro e w3 ⟨rfl, hb3⟩
    have HB3 := Lib.hid (below_then HB.out hb3)
    clear hb3
    go_wp2_with fail
    go_ret
    exact ⟨rfl, HB3.out⟩

set_option maxRecDepth 100000 in
set_option maxHeartbeats 2000000 in
theorem called_calls (l : List UInt8) (w : World) : Calls Tryd.prog 46 #[.string (strB l)] w (fun e w' => e = .returned (.int .i64 (if typesQ.contains l = true then (3 : Int) else 2)) ∧ w = w') := by
  have hl : (strB l).toList = l := by rw [Go.Lib.toList_data, strB_list]
  obtain ⟨s, hs⟩ : ∃ s, strB l = s := ⟨_, rfl⟩
  rw [hs] at hl ⊢
  obtain ⟨q, hq⟩ : ∃ q, typesQ.contains l = q := ⟨_, rfl⟩
  rw [hq]
  have HQ : Hid ((l == [99, 111, 109, 109, 101, 110, 116] || (l == [116, 101, 120, 116] || (l == [112, 114, 111, 99, 101, 115, 115, 105, 110, 103, 45, 105, 110, 115, 116, 114, 117, 99, 116, 105, 111, 110] || (l == [110, 111, 100, 101] || false)))) = q) := Lib.hid (by
    rw [← hq]
    unfold typesQ
    simp only [List.contains_cons, List.contains_nil])
  clear hs hq
  cases h1 : (l == [99, 111, 109, 109, 101, 110, 116]) with
  | true =>
    rw [h1] at HQ
    have e1 : (s.toList == [99, 111, 109, 109, 101, 110, 116]) = true := by rw [hl]; exact h1
    obtain rfl : q = true := HQ.out.symm
    clear hl h1
    go_enter Tryd.func46, Tryd.ntmps46
    go_wp2_with fail
    go_ret
    exact ⟨rfl, rfl⟩
  | false =>
    have e1 : (s.toList == [99, 111, 109, 109, 101, 110, 116]) = false := by rw [hl]; exact h1
    cases h2 : (l == [116, 101, 120, 116]) with
    | true =>
      rw [h1, h2] at HQ
      have e2 : (s.toList == [116, 101, 120, 116]) = true := by rw [hl]; exact h2
      obtain rfl : q = true := HQ.out.symm
      clear hl h1 h2
      go_enter Tryd.func46, Tryd.ntmps46
      go_wp2_with fail
      go_ret
      exact ⟨rfl, rfl⟩
    | false =>
      have e2 : (s.toList == [116, 101, 120, 116]) = false := by rw [hl]; exact h2
      cases h3 : (l == [112, 114, 111, 99, 101, 115, 115, 105, 110, 103, 45, 105, 110, 115, 116, 114, 117, 99, 116, 105, 111, 110]) with
      | true =>
        rw [h1, h2, h3] at HQ
        have e3 : (s.toList == [112, 114, 111, 99, 101, 115, 115, 105, 110, 103, 45, 105, 110, 115, 116, 114, 117, 99, 116, 105, 111, 110]) = true := by rw [hl]; exact h3
        obtain rfl : q = true := HQ.out.symm
        clear hl h1 h2 h3
        go_enter Tryd.func46, Tryd.ntmps46
        go_wp2_with fail
        go_ret
        exact ⟨rfl, rfl⟩
      | false =>
        have e3 : (s.toList == [112, 114, 111, 99, 101, 115, 115, 105, 110, 103, 45, 105, 110, 115, 116, 114, 117, 99, 116, 105, 111, 110]) = false := by rw [hl]; exact h3
        cases h4 : (l == [110, 111, 100, 101]) with
        | true =>
          rw [h1, h2, h3, h4] at HQ
          have e4 : (s.toList == [110, 111, 100, 101]) = true := by rw [hl]; exact h4
          obtain rfl : q = true := HQ.out.symm
          clear hl h1 h2 h3 h4
          go_enter Tryd.func46, Tryd.ntmps46
          go_wp2_with fail
          go_ret
          exact ⟨rfl, rfl⟩
        | false =>
          have e4 : (s.toList == [110, 111, 100, 101]) = false := by rw [hl]; exact h4
          rw [h1, h2, h3, h4] at HQ
          obtain rfl : q = false := HQ.out.symm
          clear hl h1 h2 h3 h4
          go_enter Tryd.func46, Tryd.ntmps46
          go_wp2_with fail
          go_ret
          exact ⟨rfl, rfl⟩

end Go.Proofs.YtkpgbcackphdbaaDoor
