/-
  The walk of the statement FaultWraps: true, for every code, place and text. Conditions: the listed variables are laid; code and place are ints; the text is no longer than a string can be.
-/
import Derived.Test.YtgncdbclpokkhaaDoorAwake
namespace Go.Proofs.YtgncdbclpokkhaaDoor
open Go.RowKit Go.Extern.Stop Go.Stop Go.Extern

/-- New blocks, and then new blocks. -/
theorem Below.then {w w1 w2 : World} (h : Below w.heap.size w w1) (k : Below w1.heap.size w1 w2) : Below w.heap.size w w2 := h.trans (k.mono h.size)

theorem plainText_length (c a : Int) (hc0 : -9223372036854775808 ≤ c) (hc1 : c ≤ 9223372036854775807) (ha0 : -9223372036854775808 ≤ a) (ha1 : a ≤ 9223372036854775807) : (plainText c a).length ≤ 51 := by
  have h1 := Lib.itoa_length_le c hc0 hc1
  have h2 := Lib.itoa_length_le a ha0 ha1
  simp only [plainText, List.length_append, List.length_cons, List.length_nil]
  omega

theorem join_two (s : ByteArray) (p : List UInt8) : (⟨(Lib.join ([s].map (·.data.toList) ++ [p]) [58, 32]).toArray⟩ : ByteArray) = s ++ ⟨#[58, 32]⟩ ++ ⟨p.toArray⟩ := by
  have e : Lib.join ([s].map (·.data.toList) ++ [p]) [58, 32] = s.data.toList ++ [58, 32] ++ p := by
    show Lib.join (s.data.toList :: [p]) [58, 32] = _
    rw [Lib.join_cons]
    simp [Lib.joinTail]
  rw [e, ← app_bytes, ← app_bytes]

theorem text_one (c a : Int) (s : ByteArray) (P : ByteArray) (hP : (⟨(plainText c a).toArray⟩ : ByteArray) = P) (v : Value) (w : World) (hc0 : -9223372036854775808 ≤ c) (hc1 : c ≤ 9223372036854775807) (ha0 : -9223372036854775808 ≤ a) (ha1 : a ≤ 9223372036854775807)
    (hs : s.size ≤ 140737488351232) (ht : Tab w) (hch : Chain w (plainV c a) [s] v) : Calls Tryd.prog 12 #[v] w (Leaves1 (.string (s ++ ⟨#[58, 32]⟩ ++ P)) w) := by
  subst hP
  have h := text_chain c a [s] v w hc0 hc1 ha0 ha1 ht hch (by simp) (by
    show (Lib.join (s.data.toList :: [plainText c a]) [58, 32]).length ≤ _
    rw [Lib.join_cons]
    have h1 := plainText_length c a hc0 hc1 ha0 ha1
    have h2 : s.data.toList.length = s.size := Array.length_toList
    simp [Lib.joinTail]
    simp at h2
    omega)
  rwa [join_two] at h
theorem text_bare (c a : Int) (P : ByteArray) (hP : (⟨(plainText c a).toArray⟩ : ByteArray) = P) (w : World) (hc0 : -9223372036854775808 ≤ c) (hc1 : c ≤ 9223372036854775807) (ha0 : -9223372036854775808 ≤ a) (ha1 : a ≤ 9223372036854775807)
    (ht : Tab w) : Calls Tryd.prog 12 #[.iface 40 (.agg #[.int .i64 c, .int .i64 a])] w (Leaves1 (.string P) w) := by
  subst hP
  have h1 := plainText_length c a hc0 hc1 ha0 ha1
  have h := text_chain c a [] _ w hc0 hc1 ha0 ha1 ht rfl (by simp) (by
    show (Lib.join [plainText c a] [58, 32]).length ≤ _
    rw [Lib.join_one]; omega)
  have e : Lib.join (([] : List ByteArray).map (·.data.toList) ++ [plainText c a]) [58, 32] = plainText c a := Lib.join_one _ _
  rwa [e] at h

set_option maxRecDepth 100000 in
set_option maxHeartbeats 2000000 in
theorem law_wraps_ok (a : Int) (s : ByteArray) (w : World) (ht : Tab w) (hg : Handle w) : Calls Tryd.prog 5 #[.int .i64 0, .int .i64 a, .string s] w (Leaves1 (.bool true) w) := by
  have HA := Lib.hid (awake_true w ht hg)
  go_enter Tryd.func5, Tryd.ntmps5
  go_wp2_with fail
  refine HA.out.mono ?_
  rintro e w1 ⟨rfl, hb⟩
  have HB := Lib.hid hb
  clear hb
  go_wp2_with fail
  refine (new_ok a w1).mono ?_
  rintro e w2 ⟨rfl, rfl⟩
  go_wp2_with fail
  refine (wrap_nil s w1).mono ?_
  rintro e w2 ⟨rfl, rfl⟩
  go_wp2_with fail
  go_ret
  exact ⟨rfl, HB.out⟩

set_option maxRecDepth 100000 in
set_option maxHeartbeats 4000000 in
theorem law_wraps (c a : Int) (s : ByteArray) (w : World) (hc : c ≠ 0) (hc0 : -9223372036854775808 ≤ c) (hc1 : c ≤ 9223372036854775807) (ha0 : -9223372036854775808 ≤ a) (ha1 : a ≤ 9223372036854775807) (hs : s.size ≤ 140737488351232) (ht : Tab w) (hg : Handle w) :
    Calls Tryd.prog 5 #[.int .i64 c, .int .i64 a, .string s] w (Leaves1 (.bool true) w) := by
  have HA := Lib.hid (awake_true w ht hg)
  have h0 : (c == 0) = false := beq_eq_false_iff_ne.2 hc
  have HN := Lib.hid hc
  have HT := Lib.hid ht
  have HG := Lib.hid hg
  have hpl := plainText_length c a hc0 hc1 ha0 ha1
  obtain ⟨P, hP⟩ : ∃ P : ByteArray, (⟨(plainText c a).toArray⟩ : ByteArray) = P := ⟨_, rfl⟩
  have hPs : P.size ≤ 51 := by rw [← hP]; simpa [ByteArray.size] using hpl
  have HP := Lib.hid hP
  clear hc ht hg hpl hP
  have n1 : ¬ 9223372036854775807 < s.size + 2 := by omega
  have n2 : ¬ 9223372036854775807 < s.size + 2 + P.size := by omega
  go_enter Tryd.func5, Tryd.ntmps5
  go_wp2_with fail
  refine HA.out.mono ?_
  rintro e w1 ⟨rfl, hb⟩
  have HB1 := Lib.hid hb
  clear hb
  go_wp2_with fail
  refine (new_code c a w1 h0).mono ?_
  rintro e w2 ⟨rfl, rfl⟩
  go_wp2_with fail
  refine (wrap_some s _ _ w1).mono ?_
  rintro e w2 ⟨rfl, hw2⟩
  have hch : Chain w2 (plainV c a) [s] (.iface 47 (.pointer (some ⟨w1.heap.size, 0, none⟩))) := by rw [← hw2]; exact wrap_chain (c := c) (a := a) (ss := []) s rfl
  have HC2 := Lib.hid hch
  have HB2 := Lib.hid (Below.then HB1.out (show Below w1.heap.size w1 w2 by rw [← hw2]; exact (Below.refl _ _).alloc (Nat.le_refl _) _))
  clear hch hw2
  generalize w1.heap.size = N at *
  go_wp2_with fail
  refine (code_chain c a [s] _ w2 HN.out HC2.out (HG.out.below HB2.out)).mono ?_
  rintro e w3 ⟨rfl, hb⟩
  have HC3 := Lib.hid (HC2.out.below hb)
  have HB3 := Lib.hid (Below.then HB2.out hb)
  clear hb HC2 HB2
  go_wp2_with fail
  refine (code_chain c a [] _ w3 HN.out rfl (HG.out.below HB3.out)).mono ?_
  rintro e w4 ⟨rfl, hb⟩
  have HC4 := Lib.hid (HC3.out.below hb)
  have HB4 := Lib.hid (Below.then HB3.out hb)
  clear hb HC3 HB3
  go_wp2_with fail
  refine (at_chain c a [s] _ w4 HN.out HC4.out (HG.out.below HB4.out)).mono ?_
  rintro e w5 ⟨rfl, hb⟩
  have HC5 := Lib.hid (HC4.out.below hb)
  have HB5 := Lib.hid (Below.then HB4.out hb)
  clear hb HC4 HB4
  go_wp2_with fail
  refine (at_chain c a [] _ w5 HN.out rfl (HG.out.below HB5.out)).mono ?_
  rintro e w6 ⟨rfl, hb⟩
  have HC6 := Lib.hid (HC5.out.below hb)
  have HB6 := Lib.hid (Below.then HB5.out hb)
  clear hb HC5 HB5
  go_wp2_with fail
  refine (depth_chain c a [s] _ w6 HC6.out (by simp)).mono ?_
  rintro e w7 ⟨rfl, hb⟩
  have HC7 := Lib.hid (HC6.out.below hb)
  have HB7 := Lib.hid (Below.then HB6.out hb)
  clear hb HC6 HB6
  go_wp2_with fail
  refine (text_one c a s P HP.out _ w7 hc0 hc1 ha0 ha1 hs (HT.out.below HB7.out) HC7.out).mono ?_
  rintro e w8 ⟨rfl, hb⟩
  have HB8 := Lib.hid (Below.then HB7.out hb)
  clear hb HC7 HB7
  go_wp2_with fail
  refine (text_bare c a P HP.out w8 hc0 hc1 ha0 ha1 (HT.out.below HB8.out)).mono ?_
  rintro e w9 ⟨rfl, hb⟩
  have HB9 := Lib.hid (Below.then HB8.out hb)
  clear hb HB8
  go_wp2_with fail
  go_ret
  exact ⟨rfl, HB9.out⟩
end Go.Proofs.YtgncdbclpokkhaaDoor
