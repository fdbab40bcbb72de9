/-
  A segment's name: seg's may and Name. Condition: the library's table of powers of ten is laid.
-/
import Derived.Test.YtacfcfbleogioaaGreatDoorBase
import Derived.Test.YtacfcfbleogioaaGreatDoorPureS
import Derived.Test.YtacfcfbleogioaaGreatDoorShelves
import Derived.Lib.QuietBelow
import Derived.Lib.AppendIntMem
namespace Go.Proofs.YtacfcfbleogioaaGreatDoor
open Go.RowKit Go.Lib Go.Sort

/-- The library's table of powers of ten is laid. -/
def Tab (w : World) : Prop := Lib.TabIs Tryz.prog w "internal/strconv.uint64pow10" .u64 Lib.pow10Tab
theorem Tab.below {w w' : World} (h : Tab w) (hb : Below w.heap.size w w') : Tab w' := Lib.tabBelow_of_tabIs h w' hb

theorem smay_calls (n : Int) (w : World) : Calls Tryz.prog 121 #[.int .i64 n] w fun e w' => e = .returned (.bool (mayN n)) ∧ w = w' := by
  by_cases h1 : 1 ≤ n
  · have d1 : decide (1 ≤ n) = true := by simpa using h1
    by_cases h2 : n ≤ 99999999
    · have d2 : decide (n ≤ 99999999) = true := by simpa using h2
      have hm : mayN n = true := mayN_is.2 ⟨h1, h2⟩
      rw [hm]
      go_enter Tryz.func121, Tryz.ntmps121
      go_wp2
      go_ret
      exact ⟨rfl, rfl⟩
    · have d2 : decide (n ≤ 99999999) = false := by simpa using h2
      have hm : mayN n = false := by unfold mayN; rw [d2, Bool.and_false]
      rw [hm]
      go_enter Tryz.func121, Tryz.ntmps121
      go_wp2
      go_ret
      exact ⟨rfl, rfl⟩
  · have d1 : decide (1 ≤ n) = false := by simpa using h1
    have hm : mayN n = false := by unfold mayN; rw [d1, Bool.false_and]
    rw [hm]
    go_enter Tryz.func121, Tryz.ntmps121
    go_wp2
    go_ret
    exact ⟨rfl, rfl⟩

theorem itoa_any (n : Int) (h0 : -9223372036854775808 ≤ n) (h1 : n ≤ 9223372036854775807) (w : World) (ht : Tab w) :
    Calls Tryz.prog 122 #[.int .i64 n] w (Leaves (.string ⟨(Lib.itoa n).toArray⟩) w) := by
  refine (Tryz.strconv_Itoa n h0 h1 w ht).mono ?_
  rintro e w' ⟨rfl, k, os, rfl⟩
  exact ⟨rfl, ⟨rfl, rfl, rfl, by simp [grow], fun k hk => by simp [grow, Array.getElem?_append, hk]⟩⟩
theorem app_bytes (x y : List UInt8) : (⟨x.toArray⟩ : ByteArray) ++ ⟨y.toArray⟩ = ⟨(x ++ y).toArray⟩ := by
  apply ByteArray.ext
  simp [ByteArray.data_append]
theorem repeatL_rep (c : UInt8) : ∀ k, Lib.repeatL [c] k = List.replicate k c
  | 0 => rfl
  | k + 1 => by rw [Lib.repeatL, repeatL_rep c k]; rfl

set_option maxRecDepth 100000 in
set_option maxHeartbeats 1000000 in
theorem name_calls (n : Int) (w : World) (ht : Tab w) : Calls Tryz.prog 80 #[.int .i64 n] w (Leaves (.string (nameB n)) w) := by
  cases hm : mayN n with
  | false =>
    rw [nameB_not hm]
    have HM := Lib.hid (smay_calls n w)
    rw [hm] at HM
    clear hm
    go_enter Tryz.func80, Tryz.ntmps80
    go_wp2_with fail
    refine HM.out.mono ?_
    rintro e w' ⟨rfl, rfl⟩
    go_wp2_with fail
    go_ret
    exact ⟨rfl, Below.refl _ _⟩
  | true =>
    obtain ⟨h1, h2⟩ := mayN_is.1 hm
    have hit : Lib.itoa n = Lib.decDigits n.toNat := by unfold Lib.itoa; rw [if_neg (by omega)]
    have hlen : (Lib.decDigits n.toNat).length ≤ 8 := decDigits_le 7 n.toNat (by omega)
    have hname : nameB n = ⟨([115, 101, 103, 46] ++ (List.replicate (8 - (Lib.decDigits n.toNat).length) 48 ++ Lib.decDigits n.toNat)).toArray⟩ := by
      rw [nameB_may hm, nameL, pad_is 8 _ hlen]
    rw [hname]
    have HM := Lib.hid (smay_calls n w)
    rw [hm] at HM
    have HI := Lib.hid (itoa_any n (by omega) (by omega) w ht)
    rw [hit] at HI
    obtain ⟨D, hD⟩ : ∃ D, Lib.decDigits n.toNat = D := ⟨_, rfl⟩
    rw [hD] at HI hlen ⊢
    obtain ⟨k, hk⟩ : ∃ k, 8 - D.length = k := ⟨_, rfl⟩
    have hk2 : (8 : Int) - ((⟨D.toArray⟩ : ByteArray).size : Int) = (k : Int) := by
      have e : (⟨D.toArray⟩ : ByteArray).size = D.length := by show D.toArray.size = D.length; simp
      rw [e]
      omega
    have HR := Lib.hid (fun W => Tryz.strings_Repeat ⟨#[48]⟩ k W (by omega) (by show 1 * k ≤ _; omega))
    rw [hk]
    have hrep : Lib.repeatL (⟨#[48]⟩ : ByteArray).data.toList k = List.replicate k 48 := repeatL_rep 48 k
    rw [hrep] at HR
    have hres : (⟨#[115, 101, 103, 46]⟩ : ByteArray) ++ ⟨(List.replicate k 48).toArray⟩ ++ ⟨D.toArray⟩ = ⟨([115, 101, 103, 46] ++ (List.replicate k 48 ++ D)).toArray⟩ := by
      rw [show (⟨#[115, 101, 103, 46]⟩ : ByteArray) = ⟨([115, 101, 103, 46] : List UInt8).toArray⟩ from rfl, app_bytes, app_bytes, List.append_assoc]
    obtain ⟨V, hV⟩ : ∃ V : ByteArray, ⟨([115, 101, 103, 46] ++ (List.replicate k 48 ++ D)).toArray⟩ = V := ⟨_, rfl⟩
    rw [hV] at hres ⊢
    obtain ⟨X, hX⟩ : ∃ X : ByteArray, ⟨D.toArray⟩ = X := ⟨_, rfl⟩
    rw [hX] at HI hres hk2
    obtain ⟨Y, hY⟩ : ∃ Y : ByteArray, ⟨(List.replicate k 48).toArray⟩ = Y := ⟨_, rfl⟩
    rw [hY] at HR hres
    have hxs : X.size ≤ 8 := by rw [← hX]; show D.toArray.size ≤ 8; simpa using hlen
    have hys : Y.size ≤ 8 := by rw [← hY]; show (List.replicate k (48 : UInt8)).toArray.size ≤ 8; simp; omega
    have hl1 : ¬ 9223372036854775807 < 4 + Y.size := by omega
    have hl2 : ¬ 9223372036854775807 < 4 + Y.size + X.size := by omega
    have HRES := Lib.hid hres
    clear hm h1 h2 hit hname ht hD hk hrep hres hV hX hY
    go_enter Tryz.func80, Tryz.ntmps80
    go_wp2_with fail
    refine HM.out.mono ?_
    rintro e w' ⟨rfl, rfl⟩
    go_wp2_with fail
    refine HI.out.mono ?_
    rintro e w2 ⟨rfl, hb2⟩
    have HB2 := Lib.hid hb2
    clear hb2
    go_wp2_with fail
    refine (HR.out w2).mono ?_
    rintro e w3 ⟨rfl, hb3⟩
    have HB3 := Lib.hid (below_then HB2.out hb3)
    clear hb3
    go_wp2_with fail
    go_ret
    exact ⟨congrArg (fun z => Ending.returned (Value.string z)) HRES.out, HB3.out⟩

end Go.Proofs.YtacfcfbleogioaaGreatDoor
