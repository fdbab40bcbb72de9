/-
  slices.Contains of texts and of numbers. Condition: the slice leads to them.
  Whether two slices of texts are the same, told by the reference. Condition: the slices lead to texts.
-/
import Derived.Test.YtacfcfbleogioaaGreatDoorMDo
import Derived.Test.YtacfcfbleogioaaGreatDoorSNameA
import Derived.Deep.QuietTactic
import Derived.BigQuiet
namespace Go.Proofs.YtacfcfbleogioaaGreatDoor
open Go.RowKit Go.Lib Go.Joins

/-- Where something is, or -1. -/
def IxOut (there : Bool) (w : World) (e : Ending) (w' : World) : Prop := ∃ r : Int, e = .returned (.int .i64 r) ∧ w = w' ∧ ((there = true ∧ 0 ≤ r ∧ r ≤ 9223372036854775807) ∨ (there = false ∧ r = -1))

theorem among_drop {l : List ByteArray} {i : Nat} {x : ByteArray} (n : ByteArray) (hx : l[i]? = some x) : among (l.drop i) n = (decide (x = n) || among (l.drop (i + 1)) n) := by
  obtain ⟨h1, rfl⟩ := List.getElem?_eq_some_iff.1 hx
  rw [List.drop_eq_getElem_cons h1, among_cons]

set_option maxRecDepth 100000 in
set_option maxHeartbeats 4000000 in
theorem sindex_calls {S : Nat → Prop} (a : Option Addr) (L : List ByteArray) (s : ByteArray) (n c : Nat) (w : World) (hr : VRow w S a (L.map Value.string)) (hn : L.length = n) (hm : n ≤ 1099511627776) :
    Calls Tryz.prog 97 #[.slice a n c, .string s] w (IxOut (among L s) w) := by
  obtain ⟨q, hq⟩ : ∃ q, among L s = q := ⟨_, rfl⟩
  rw [hq]
  have HQ := Lib.hid hq
  have HR := Lib.hid hr
  have HN := Lib.hid hn
  clear hq hr hn
  go_enter Tryz.func97, Tryz.ntmps97
  go_wp2
  go_loopg [8] n (fun gk idx wr => ∃ (i : Nat), idx = .int .i64 (i : Int) ∧ gk + i = n ∧ among (L.drop i) s = q ∧ wr = w)
  case atStart => exact ⟨0, rfl, rfl, HQ.out, rfl⟩
  case round =>
    obtain ⟨i, rfl, hg, hq, rfl⟩ := hrel
    have HG := Lib.hid hg
    have HE := Lib.hid hq
    clear hg hq HQ
    by_cases hlt : i < n
    · obtain ⟨g', rfl⟩ : ∃ g', gk = g' + 1 := ⟨gk - 1, by have := HG.out; omega⟩
      have hdd : decide ((i : Int) < (n : Int)) = true := by simp; omega
      obtain ⟨x, hx⟩ : ∃ x, L[i]? = some x := ⟨L[i]'(by rw [HN.out]; exact hlt), List.getElem?_eq_getElem _⟩
      obtain ⟨ab, ao, rfl, hcx⟩ := vrow_at HR.out (i := i) (x := .string x) (by rw [List.getElem?_map, hx]; rfl)
      have hst := among_drop s hx
      rw [HE.out] at hst
      clear HE hx
      by_cases hxs : x = s
      · subst hxs
        have HT : Hid (q = true) := Lib.hid (by rw [hst]; simp)
        have e1 : (x.toList == x.toList) = true := by simp
        have hi63 : (i : Int) ≤ 9223372036854775807 := by omega
        clear hst
        go_wp2
        go_ret
        exact ⟨_, rfl, rfl, .inl ⟨HT.out, by simp, hi63⟩⟩
      · have HST : Hid (among (L.drop (i + 1)) s = q) := Lib.hid (by rw [hst, decide_eq_false hxs, Bool.false_or])
        have e1 := toList_ne (fun e : s = x => hxs e.symm)
        clear hst
        go_wp2
        go_roundg g'
        case measure => omega
        case rel => exact ⟨i + 1, by go_num, by have := HG.out; omega, HST.out, rfl⟩
    · have hdd : decide ((i : Int) < (n : Int)) = false := by simp; omega
      have HT : Hid (q = false) := Lib.hid (by rw [← HE.out, List.drop_eq_nil_of_le (by rw [HN.out]; omega)]; rfl)
      clear HE
      go_wp2
      go_ret
      exact ⟨_, rfl, rfl, .inr ⟨HT.out, rfl⟩⟩

set_option maxRecDepth 100000 in
set_option maxHeartbeats 2000000 in
theorem scont_calls {S : Nat → Prop} (a : Option Addr) (L : List ByteArray) (s : ByteArray) (n c : Nat) (w : World) (hr : VRow w S a (L.map Value.string)) (hn : L.length = n) (hm : n ≤ 1099511627776) :
    Calls Tryz.prog 53 #[.slice a n c, .string s] w (Stays (.bool (among L s)) w) := by
  have HI := Lib.hid (sindex_calls a L s n c w hr hn hm)
  obtain ⟨q, hq⟩ : ∃ q, among L s = q := ⟨_, rfl⟩
  rw [hq] at HI ⊢
  clear hq hr hn
  go_enter Tryz.func53, Tryz.ntmps53
  go_wp2_with fail
  with_reducible refine HI.out.mono ?_
  rintro e w1 ⟨r, rfl, rfl, ⟨rfl, h0, _⟩ | ⟨rfl, rfl⟩⟩
  · have hd : decide (r ≥ 0) = true := by simpa using h0
    have hd2 : decide ((0 : Int) ≤ r) = true := by simpa using h0
    go_wp2
    go_ret
    exact ⟨rfl, rfl⟩
  · go_wp2
    go_ret
    exact ⟨rfl, rfl⟩

/-- Is a number among these? -/
theorem imem_drop {l : List Int} {i : Nat} {x : Int} (n : Int) (hx : l[i]? = some x) : decide (n ∈ l.drop i) = (decide (n = x) || decide (n ∈ l.drop (i + 1))) := by
  obtain ⟨h1, rfl⟩ := List.getElem?_eq_some_iff.1 hx
  rw [List.drop_eq_getElem_cons h1, Bool.eq_iff_iff, decide_eq_true_eq, Bool.or_eq_true, decide_eq_true_eq, decide_eq_true_eq, List.mem_cons]

set_option maxRecDepth 100000 in
set_option maxHeartbeats 4000000 in
theorem iindex_calls {S : Nat → Prop} (a : Option Addr) (L : List Int) (s : Int) (n c : Nat) (w : World) (hr : IRow w S a L) (hn : L.length = n) (hm : n ≤ 1099511627776) :
    Calls Tryz.prog 131 #[.slice a n c, .int .i64 s] w (IxOut (decide (s ∈ L)) w) := by
  obtain ⟨q, hq⟩ : ∃ q, decide (s ∈ L) = q := ⟨_, rfl⟩
  rw [hq]
  have HQ := Lib.hid hq
  have HR := Lib.hid hr
  have HN := Lib.hid hn
  clear hq hr hn
  go_enter Tryz.func131, Tryz.ntmps131
  go_wp2
  go_loopg [8] n (fun gk idx wr => ∃ (i : Nat), idx = .int .i64 (i : Int) ∧ gk + i = n ∧ decide (s ∈ L.drop i) = q ∧ wr = w)
  case atStart => exact ⟨0, rfl, rfl, HQ.out, rfl⟩
  case round =>
    obtain ⟨i, rfl, hg, hq, rfl⟩ := hrel
    have HG := Lib.hid hg
    have HE := Lib.hid hq
    clear hg hq HQ
    by_cases hlt : i < n
    · obtain ⟨g', rfl⟩ : ∃ g', gk = g' + 1 := ⟨gk - 1, by have := HG.out; omega⟩
      have hdd : decide ((i : Int) < (n : Int)) = true := by simp; omega
      obtain ⟨x, hx⟩ : ∃ x, L[i]? = some x := ⟨L[i]'(by rw [HN.out]; exact hlt), List.getElem?_eq_getElem _⟩
      obtain ⟨ab, ao, rfl, _, hcx⟩ := irow_at HR.out hx
      have hst := imem_drop s hx
      rw [HE.out] at hst
      clear HE hx
      by_cases hxs : s = x
      · have HT : Hid (q = true) := Lib.hid (by rw [hst, decide_eq_true hxs]; rfl)
        have e1 : (s == x) = true := by simpa using hxs
        have hi63 : (i : Int) ≤ 9223372036854775807 := by omega
        clear hst hxs
        go_wp2
        go_ret
        exact ⟨_, rfl, rfl, .inl ⟨HT.out, by simp, hi63⟩⟩
      · have HST : Hid (decide (s ∈ L.drop (i + 1)) = q) := Lib.hid (by rw [hst, decide_eq_false hxs, Bool.false_or])
        have e1 : (s == x) = false := by simpa using hxs
        clear hst hxs
        go_wp2
        go_roundg g'
        case measure => omega
        case rel => exact ⟨i + 1, by go_num, by have := HG.out; omega, HST.out, rfl⟩
    · have hdd : decide ((i : Int) < (n : Int)) = false := by simp; omega
      have HT : Hid (q = false) := Lib.hid (by rw [← HE.out, List.drop_eq_nil_of_le (by rw [HN.out]; omega)]; simp)
      clear HE
      go_wp2
      go_ret
      exact ⟨_, rfl, rfl, .inr ⟨HT.out, rfl⟩⟩

set_option maxRecDepth 100000 in
set_option maxHeartbeats 2000000 in
theorem icont_calls {S : Nat → Prop} (a : Option Addr) (L : List Int) (s : Int) (n c : Nat) (w : World) (hr : IRow w S a L) (hn : L.length = n) (hm : n ≤ 1099511627776) :
    Calls Tryz.prog 93 #[.slice a n c, .int .i64 s] w (Stays (.bool (decide (s ∈ L))) w) := by
  have HI := Lib.hid (iindex_calls a L s n c w hr hn hm)
  obtain ⟨q, hq⟩ : ∃ q, decide (s ∈ L) = q := ⟨_, rfl⟩
  rw [hq] at HI ⊢
  clear hq hr hn
  go_enter Tryz.func93, Tryz.ntmps93
  go_wp2_with fail
  with_reducible refine HI.out.mono ?_
  rintro e w1 ⟨r, rfl, rfl, ⟨rfl, h0, _⟩ | ⟨rfl, rfl⟩⟩
  · have hd : decide (r ≥ 0) = true := by simpa using h0
    have hd2 : decide ((0 : Int) ≤ r) = true := by simpa using h0
    go_wp2
    go_ret
    exact ⟨rfl, rfl⟩
  · go_wp2
    go_ret
    exact ⟨rfl, rfl⟩

end Go.Proofs.YtacfcfbleogioaaGreatDoor

namespace Go.Proofs.YtacfcfbleogioaaGreatDoor
open Go.RowKit Go.Lib Go.Joins

theorem drop_stepT {l m : List ByteArray} {i : Nat} {x y : ByteArray} (hx : l[i]? = some x) (hy : m[i]? = some y) : decide (l.drop i = m.drop i) = (decide (x = y) && decide (l.drop (i + 1) = m.drop (i + 1))) := by
  obtain ⟨h1, rfl⟩ := List.getElem?_eq_some_iff.1 hx
  obtain ⟨h2, rfl⟩ := List.getElem?_eq_some_iff.1 hy
  rw [List.drop_eq_getElem_cons h1, List.drop_eq_getElem_cons h2, Bool.eq_iff_iff, Bool.and_eq_true, decide_eq_true_eq, decide_eq_true_eq, decide_eq_true_eq, List.cons.injEq]

set_option maxRecDepth 100000 in
set_option maxHeartbeats 4000000 in
theorem texts_calls {S S' : Nat → Prop} (a a' : Option Addr) (L M : List ByteArray) (n c n' c' : Nat) (w : World) (hr : VRow w S a (L.map Value.string)) (hn : L.length = n) (hm : n ≤ 1099511627776) (hr' : VRow w S' a' (M.map Value.string)) (hn' : M.length = n') (hm' : n' ≤ 1099511627776) :
    Calls Tryz.prog 14 #[.slice a n c, .slice a' n' c'] w (Leaves (.bool (decide (L = M))) w) := by
  obtain ⟨q, hq⟩ : ∃ q, decide (L = M) = q := ⟨_, rfl⟩
  rw [hq]
  have HR := Lib.hid hr
  have HR2 := Lib.hid hr'
  have HN := Lib.hid hn
  have HN2 := Lib.hid hn'
  have HQ := Lib.hid hq
  clear hr hr' hn hn' hq
  by_cases h3 : n = n'
  · subst h3
    have d3 : ((n : Int) != (n : Int)) = false := by simp
    have HQ2 : Hid (decide (L.drop 0 = M.drop 0) = q) := Lib.hid (by rw [List.drop_zero, List.drop_zero]; exact HQ.out)
    clear HQ
    go_enter Tryz.func14, Tryz.ntmps14
    go_wp2_with fail
    go_loopg [5] n (fun gk idx wr => ∃ (i : Nat), idx = .int .i64 (i : Int) ∧ gk + i = n ∧ decide (L.drop i = M.drop i) = q ∧ Below w.heap.size w wr)
    case atStart => exact ⟨0, rfl, rfl, HQ2.out, Below.refl _ _⟩
    case round =>
      obtain ⟨i, rfl, hg, hq, hb⟩ := hrel
      have HG := Lib.hid hg
      have HE := Lib.hid hq
      have HB := Lib.hid hb
      clear hg hq hb HQ2
      by_cases hlt : i < n
      · obtain ⟨g', rfl⟩ : ∃ g', gk = g' + 1 := ⟨gk - 1, by have := HG.out; omega⟩
        have hdd : decide ((i : Int) < (n : Int)) = true := by simp; omega
        obtain ⟨x, hx⟩ : ∃ x, L[i]? = some x := ⟨L[i]'(by rw [HN.out]; exact hlt), List.getElem?_eq_getElem _⟩
        obtain ⟨y, hy⟩ : ∃ y, M[i]? = some y := ⟨M[i]'(by rw [HN2.out]; exact hlt), List.getElem?_eq_getElem _⟩
        obtain ⟨ab, ao, rfl, hcx⟩ := vrow_at (HR.out.below HB.out) (i := i) (x := .string x) (by rw [List.getElem?_map, hx]; rfl)
        obtain ⟨ab2, ao2, rfl, hcy⟩ := vrow_at (HR2.out.below HB.out) (i := i) (x := .string y) (by rw [List.getElem?_map, hy]; rfl)
        have hst := HE.out
        rw [drop_stepT hx hy] at hst
        clear HE hx hy
        by_cases hxy : x = y
        · subst hxy
          have HNX : Hid (decide (L.drop (i + 1) = M.drop (i + 1)) = q) := Lib.hid (by rw [← hst, decide_eq_true rfl, Bool.true_and])
          have dx : (x.toList != x.toList) = false := by simp
          clear hst
          go_wp2_with fail
          go_quiet (fail)
          go_wp2
          go_roundg g'
          case measure => omega
          case rel => exact ⟨i + 1, by go_num, by have := HG.out; omega, HNX.out, HB.out.trans (keeps_below (below_drewN _ _) Non |>.toBelow HB.out.size (fun _ h => h.elim))⟩
        · have HNX : Hid (false = q) := Lib.hid (by rw [← hst, decide_eq_false hxy, Bool.false_and])
          have dx := toList_ne hxy
          clear hst hxy
          go_wp2_with fail
          go_quiet (fail)
          go_wp2
          go_ret
          exact ⟨by rw [← HNX.out]; rfl, HB.out.trans (keeps_below (below_drewN _ _) Non |>.toBelow HB.out.size (fun _ h => h.elim))⟩
      · have hdd : decide ((i : Int) < (n : Int)) = false := by simp; omega
        have HT : Hid (true = q) := Lib.hid (by rw [← HE.out, List.drop_eq_nil_of_le (by rw [HN.out]; omega), List.drop_eq_nil_of_le (by rw [HN2.out]; omega)]; rfl)
        clear HE
        go_wp2
        go_ret
        exact ⟨by rw [← HT.out]; rfl, HB.out⟩
  · have d3 : ((n : Int) != (n' : Int)) = true := by simp; omega
    have HF : Hid (false = q) := Lib.hid (by
      rw [← HQ.out]
      exact (decide_eq_false (fun e => h3 (by rw [← HN.out, ← HN2.out, e]))).symm)
    clear HQ h3
    go_enter Tryz.func14, Tryz.ntmps14
    go_wp2_with fail
    go_ret
    exact ⟨by rw [← HF.out]; rfl, Below.refl _ _⟩

end Go.Proofs.YtacfcfbleogioaaGreatDoor
