/-
  The document's own Text, as the statements' reference tells it, by its contract: the texts, the last one first, each with ": " behind it, and "code C at P". Conditions: code and place are ints, the code is not OK; 50 texts or fewer, whose cells are there.
-/
import Derived.Test.YtgncdbclpokkhaaDoorRef
import Derived.Test.YtgncdbclpokkhaaDoorAwake
import Derived.Test.YtgncdbclpokkhaaDoorLawWraps
namespace Go.Proofs.YtgncdbclpokkhaaDoor
open Go.RowKit Go.Extern.Stop Go.Stop Go.Extern

/-- What the reference tells of texts in their order. -/
def refOf (c a : Int) (xs : List ByteArray) : List UInt8 := tails (xs.reverse.map (·.data.toList)) ++ plainText c a

theorem size_of_list {s : ByteArray} {l : List UInt8} (h : s.data.toList = l) : s.size = l.length := by rw [← h]; exact Array.length_toList.symm
theorem eq_of_list {s : ByteArray} {l : List UInt8} (h : s.data.toList = l) : s = ⟨l.toArray⟩ := by rw [← h]
theorem list_append (s t : ByteArray) : (s ++ t).data.toList = s.data.toList ++ t.data.toList := by simp [ByteArray.data_append]

/-- The last line: behind the loop. -/
def RefOut (c a : Int) (xs : List ByteArray) (w : World) : Ending → World → Prop := Leaves1 (.string ⟨(refOf c a xs).toArray⟩) w

theorem drop_step (xs : List ByteArray) (j : Nat) (x : ByteArray) (hx : xs[j]? = some x) (out : ByteArray) (ho : out.data.toList = tails ((xs.drop (j + 1)).reverse.map (·.data.toList))) :
    (out ++ x ++ ⟨#[58, 32]⟩).data.toList = tails ((xs.drop j).reverse.map (·.data.toList)) := by
  have hj := List.getElem?_eq_some_iff.1 hx
  obtain ⟨hlt, rfl⟩ := hj
  rw [List.drop_eq_getElem_cons hlt, List.reverse_cons, List.map_append, tails_append, list_append, list_append, ho]
  simp [tails]

set_option maxRecDepth 100000 in
set_option maxHeartbeats 2000000 in
theorem ref_text (c a : Int) (b o cap : Nat) (xs : List ByteArray) (w : World) (hc : (c == 0) = false) (hc0 : -9223372036854775808 ≤ c) (hc1 : c ≤ 9223372036854775807) (ha0 : -9223372036854775808 ≤ a) (ha1 : a ≤ 9223372036854775807)
    (hx : TextsAt w b o xs) (h50 : xs.length ≤ 50) (hall : ∀ x ∈ xs, x.size ≤ 140737488355328) :
    Calls Tryd.prog 13 #[.int .i64 c, .int .i64 a, .slice (some ⟨b, o, none⟩) xs.length cap] w (RefOut c a xs w) := by
  obtain ⟨n, hn⟩ : ∃ n, n = xs.length := ⟨_, rfl⟩
  have HN := Lib.hid hn
  rw [← hn] at h50 ⊢
  have HX := Lib.hid hx
  have HL := Lib.hid hall
  have kc := Lib.itoa_length_le c hc0 hc1
  have ka := Lib.itoa_length_le a ha0 ha1
  obtain ⟨sc, hsc⟩ : ∃ sc : ByteArray, sc = ⟨(Lib.itoa c).toArray⟩ := ⟨_, rfl⟩
  obtain ⟨sa, hsa⟩ : ∃ sa : ByteArray, sa = ⟨(Lib.itoa a).toArray⟩ := ⟨_, rfl⟩
  have lc : sc.size ≤ 21 := by rw [hsc]; simpa [ByteArray.size] using kc
  have la : sa.size ≤ 21 := by rw [hsa]; simpa [ByteArray.size] using ka
  have HSC := Lib.hid hsc
  have HSA := Lib.hid hsa
  clear hn hx hall kc ka hsc hsa
  go_enter Tryd.func13, Tryd.ntmps13
  go_wp2
  go_loopg [7, 8] n (fun g ov i wr => ∃ (k : Nat) (y : Int) (out : ByteArray), g = k ∧ k ≤ n ∧ y = (k : Int) - 1 ∧ i = .int .i64 y ∧ ov = .string out ∧ out.data.toList = tails ((xs.drop k).reverse.map (·.data.toList)) ∧ out.size ≤ (n - k) * 140737488355330 ∧ wr = w)
  case atStart => exact ⟨n, _, ⟨#[]⟩, rfl, Nat.le_refl _, rfl, rfl, rfl, by rw [HN.out]; simp [tails], by simp [ByteArray.size], rfl⟩
  case round =>
    obtain ⟨k, y, out, hg, hk, hy, rfl, rfl, ho, hos, rfl⟩ := hrel
    have HG := Lib.hid hg
    have HO := Lib.hid ho
    clear hg ho
    cases k with
    | zero =>
      obtain rfl : y = -1 := by omega
      have n1 : ¬ 9223372036854775807 < out.size + 5 := by omega
      have n2 : ¬ 9223372036854775807 < out.size + 5 + sc.size := by omega
      have n3 : ¬ 9223372036854775807 < out.size + 5 + sc.size + 4 := by omega
      have n4 : ¬ 9223372036854775807 < out.size + 5 + sc.size + 4 + sa.size := by omega
      have HK := Lib.hid hk
      clear hy hk
      go_wp2_with fail
      refine (ref_itoa c hc0 hc1 wr).mono ?_
      rintro e w1 ⟨rfl, hb1⟩
      rw [← HSC.out]
      have HB1 := Lib.hid hb1
      clear hb1
      go_wp2_with fail
      refine (ref_itoa a ha0 ha1 w1).mono ?_
      rintro e w2 ⟨rfl, hb2⟩
      rw [← HSA.out]
      have HB2 := Lib.hid (Below.then HB1.out hb2)
      clear hb2
      go_wp2_with fail
      go_ret
      refine ⟨?_, HB2.out⟩
      have ho := HO.out
      rw [List.drop_zero] at ho
      show Ending.returned (.string (out ++ ⟨#[99, 111, 100, 101, 32]⟩ ++ sc ++ ⟨#[32, 97, 116, 32]⟩ ++ sa)) = _
      rw [eq_of_list (l := refOf c a xs) (s := out ++ ⟨#[99, 111, 100, 101, 32]⟩ ++ sc ++ ⟨#[32, 97, 116, 32]⟩ ++ sa) (by
        rw [list_append, list_append, list_append, list_append, ho, HSC.out, HSA.out]
        simp [refOf, plainText])]
    | succ j =>
      obtain rfl : y = (j : Int) := by omega
      obtain ⟨x, hxj⟩ : ∃ x, xs[j]? = some x := ⟨_, List.getElem?_eq_getElem (by rw [← HN.out]; omega)⟩
      have hcell : wr.cell? ⟨b, o + j, none⟩ = some (.string x) := HX.out j x hxj
      have hxs : x.size ≤ 140737488355328 := HL.out x (List.mem_of_getElem? hxj)
      have n1 : ¬ 9223372036854775807 < out.size + x.size := by omega
      have n2 : ¬ 9223372036854775807 < out.size + x.size + 2 := by omega
      have hn2 : (out ++ x ++ ⟨#[58, 32]⟩).size ≤ (n - j) * 140737488355330 := by
        have e : (out ++ x ++ ⟨#[58, 32]⟩).size = out.size + x.size + 2 := by
          rw [size_of_list (l := out.data.toList ++ x.data.toList ++ [58, 32]) (by rw [list_append, list_append]), List.length_append, List.length_append]
          have e1 : out.data.toList.length = out.size := Array.length_toList
          have e2 : x.data.toList.length = x.size := Array.length_toList
          simp only [List.length_cons, List.length_nil]
          omega
        rw [e]
        omega
      have HS := Lib.hid hn2
      have HD := Lib.hid (drop_step xs j x hxj out HO.out)
      have HK := Lib.hid hk
      have hjn : (j : Int) ≤ 50 := by omega
      clear hxj hn2 hy hk
      go_wp2
      go_roundg j
      case measure => rw [HG.out]; omega
      case rel => exact ⟨j, _, _, rfl, by have := HK.out; omega, rfl, rfl, rfl, HD.out, HS.out, rfl⟩
theorem ref_text_none (c a : Int) (sl : Option Addr) (cap : Nat) (w : World) (hc : (c == 0) = false) (hc0 : -9223372036854775808 ≤ c) (hc1 : c ≤ 9223372036854775807) (ha0 : -9223372036854775808 ≤ a) (ha1 : a ≤ 9223372036854775807) :
    Calls Tryd.prog 13 #[.int .i64 c, .int .i64 a, .slice sl 0 cap] w (RefOut c a [] w) := by
  have kc := Lib.itoa_length_le c hc0 hc1
  have ka := Lib.itoa_length_le a ha0 ha1
  obtain ⟨sc, hsc⟩ : ∃ sc : ByteArray, sc = ⟨(Lib.itoa c).toArray⟩ := ⟨_, rfl⟩
  obtain ⟨sa, hsa⟩ : ∃ sa : ByteArray, sa = ⟨(Lib.itoa a).toArray⟩ := ⟨_, rfl⟩
  have lc : sc.size ≤ 21 := by rw [hsc]; simpa [ByteArray.size] using kc
  have la : sa.size ≤ 21 := by rw [hsa]; simpa [ByteArray.size] using ka
  have HSC := Lib.hid hsc
  have HSA := Lib.hid hsa
  clear kc ka hsc hsa
  have n2 : ¬ 9223372036854775807 < 5 + sc.size := by omega
  have n3 : ¬ 9223372036854775807 < 5 + sc.size + 4 := by omega
  have n4 : ¬ 9223372036854775807 < 5 + sc.size + 4 + sa.size := by omega
  go_enter Tryd.func13, Tryd.ntmps13
  go_wp2
  refine wp_loop_rounds 1 ?_
  rw [rounds_succ]
  go_wp2_with fail
  refine (ref_itoa c hc0 hc1 w).mono ?_
  rintro e w1 ⟨rfl, hb1⟩
  rw [← HSC.out]
  have HB1 := Lib.hid hb1
  clear hb1
  go_wp2_with fail
  refine (ref_itoa a ha0 ha1 w1).mono ?_
  rintro e w2 ⟨rfl, hb2⟩
  rw [← HSA.out]
  have HB2 := Lib.hid (Below.then HB1.out hb2)
  clear hb2
  go_wp2_with fail
  go_ret
  refine ⟨?_, HB2.out⟩
  show Ending.returned (.string (⟨#[]⟩ ++ ⟨#[99, 111, 100, 101, 32]⟩ ++ sc ++ ⟨#[32, 97, 116, 32]⟩ ++ sa)) = _
  rw [eq_of_list (l := refOf c a []) (s := ⟨#[]⟩ ++ ⟨#[99, 111, 100, 101, 32]⟩ ++ sc ++ ⟨#[32, 97, 116, 32]⟩ ++ sa) (by
    rw [list_append, list_append, list_append, list_append, HSC.out, HSA.out]
    simp [refOf, plainText, tails])]
end Go.Proofs.YtgncdbclpokkhaaDoor
