/-
  A segment's name: seg's may and Name. Condition: the library's table of powers of ten is laid.
  The number of a name, told by the program. Conditions: the library's table of powers of ten and its two errors are laid; the name is short.
  Names, told by the reference. No condition.
  The number of a name, told by the reference. Condition: the name is short.
-/
import Derived.Test.YtacfcfbleogioaaGreatDoorBase
import Derived.Test.YtacfcfbleogioaaGreatDoorPureB
import Derived.Test.YtacfcfbleogioaaGreatDoorShelves
import Derived.Lib.QuietBelow
import Derived.Lib.AppendIntMem
import Derived.Test.YtacfcfbleogioaaGreatDoorMPureA
import Derived.Lib.SlBytesRow
import Derived.Lib.SlBytesConst
namespace Go.Proofs.YtacfcfbleogioaaGreatDoor
open Go.RowKit Go.Lib Go.Sort

/-- The library's table of powers of ten is laid. -/
def Tab (w : World) : Prop := Lib.TabIs Tryz.prog w "internal/strconv.uint64pow10" .u64 Lib.pow10Tab
theorem Tab.below {w w' : World} (h : Tab w) (hb : Below w.heap.size w w') : Tab w' := Lib.tabBelow_of_tabIs h w' hb

theorem smay_calls (n : Int) (w : World) : Calls Tryz.prog 121 #[.int .i64 n] w fun e w' => e = .returned (.bool (mayN n)) ∧ w = w' := by
  by_cases h1 : 1 ≤ n
  · have d1 : decide (1 ≤ n) = true := by simpa using h1
    by_cases h2 : n ≤ 99999999
    · have d2 : decide (n ≤ 99999999) = true := by simpa using h2
      have hm : mayN n = true := mayN_is.2 ⟨h1, h2⟩
      rw [hm]
      go_enter Tryz.func121, Tryz.ntmps121
      go_wp2
      go_ret
      exact ⟨rfl, rfl⟩
    · have d2 : decide (n ≤ 99999999) = false := by simpa using h2
      have hm : mayN n = false := by unfold mayN; rw [d2, Bool.and_false]
      rw [hm]
      go_enter Tryz.func121, Tryz.ntmps121
      go_wp2
      go_ret
      exact ⟨rfl, rfl⟩
  · have d1 : decide (1 ≤ n) = false := by simpa using h1
    have hm : mayN n = false := by unfold mayN; rw [d1, Bool.false_and]
    rw [hm]
    go_enter Tryz.func121, Tryz.ntmps121
    go_wp2
    go_ret
    exact ⟨rfl, rfl⟩

theorem itoa_any (n : Int) (h0 : -9223372036854775808 ≤ n) (h1 : n ≤ 9223372036854775807) (w : World) (ht : Tab w) :
    Calls Tryz.prog 122 #[.int .i64 n] w (Leaves (.string ⟨(Lib.itoa n).toArray⟩) w) := by
  refine (Tryz.strconv_Itoa n h0 h1 w ht).mono ?_
  rintro e w' ⟨rfl, k, os, rfl⟩
  exact ⟨rfl, ⟨rfl, rfl, rfl, by simp [grow], fun k hk => by simp [grow, Array.getElem?_append, hk]⟩⟩
theorem app_bytes (x y : List UInt8) : (⟨x.toArray⟩ : ByteArray) ++ ⟨y.toArray⟩ = ⟨(x ++ y).toArray⟩ := by
  apply ByteArray.ext
  simp [ByteArray.data_append]
theorem repeatL_rep (c : UInt8) : ∀ k, Lib.repeatL [c] k = List.replicate k c
  | 0 => rfl
  | k + 1 => by rw [Lib.repeatL, repeatL_rep c k]; rfl

set_option maxRecDepth 100000 in
set_option maxHeartbeats 1000000 in
theorem name_calls (n : Int) (w : World) (ht : Tab w) : Calls Tryz.prog 80 #[.int .i64 n] w (Leaves (.string (nameB n)) w) := by
  cases hm : mayN n with
  | false =>
    rw [nameB_not hm]
    have HM := Lib.hid (smay_calls n w)
    rw [hm] at HM
    clear hm
    go_enter Tryz.func80, Tryz.ntmps80
    go_wp2_with fail
    refine HM.out.mono ?_
    rintro e w' ⟨rfl, rfl⟩
    go_wp2_with fail
    go_ret
    exact ⟨rfl, Below.refl _ _⟩
  | true =>
    obtain ⟨h1, h2⟩ := mayN_is.1 hm
    have hit : Lib.itoa n = Lib.decDigits n.toNat := by unfold Lib.itoa; rw [if_neg (by omega)]
    have hlen : (Lib.decDigits n.toNat).length ≤ 8 := decDigits_le 7 n.toNat (by omega)
    have hname : nameB n = ⟨([115, 101, 103, 46] ++ (List.replicate (8 - (Lib.decDigits n.toNat).length) 48 ++ Lib.decDigits n.toNat)).toArray⟩ := by
      rw [nameB_may hm, nameL, pad_is 8 _ hlen]
    rw [hname]
    have HM := Lib.hid (smay_calls n w)
    rw [hm] at HM
    have HI := Lib.hid (itoa_any n (by omega) (by omega) w ht)
    rw [hit] at HI
    obtain ⟨D, hD⟩ : ∃ D, Lib.decDigits n.toNat = D := ⟨_, rfl⟩
    rw [hD] at HI hlen ⊢
    obtain ⟨k, hk⟩ : ∃ k, 8 - D.length = k := ⟨_, rfl⟩
    have hk2 : (8 : Int) - ((⟨D.toArray⟩ : ByteArray).size : Int) = (k : Int) := by
      have e : (⟨D.toArray⟩ : ByteArray).size = D.length := by show D.toArray.size = D.length; simp
      rw [e]
      omega
    have HR := Lib.hid (fun W => Tryz.strings_Repeat ⟨#[48]⟩ k W (by omega) (by show 1 * k ≤ _; omega))
    rw [hk]
    have hrep : Lib.repeatL (⟨#[48]⟩ : ByteArray).data.toList k = List.replicate k 48 := repeatL_rep 48 k
    rw [hrep] at HR
    have hres : (⟨#[115, 101, 103, 46]⟩ : ByteArray) ++ ⟨(List.replicate k 48).toArray⟩ ++ ⟨D.toArray⟩ = ⟨([115, 101, 103, 46] ++ (List.replicate k 48 ++ D)).toArray⟩ := by
      rw [show (⟨#[115, 101, 103, 46]⟩ : ByteArray) = ⟨([115, 101, 103, 46] : List UInt8).toArray⟩ from rfl, app_bytes, app_bytes, List.append_assoc]
    obtain ⟨V, hV⟩ : ∃ V : ByteArray, ⟨([115, 101, 103, 46] ++ (List.replicate k 48 ++ D)).toArray⟩ = V := ⟨_, rfl⟩
    rw [hV] at hres ⊢
    obtain ⟨X, hX⟩ : ∃ X : ByteArray, ⟨D.toArray⟩ = X := ⟨_, rfl⟩
    rw [hX] at HI hres hk2
    obtain ⟨Y, hY⟩ : ∃ Y : ByteArray, ⟨(List.replicate k 48).toArray⟩ = Y := ⟨_, rfl⟩
    rw [hY] at HR hres
    have hxs : X.size ≤ 8 := by rw [← hX]; show D.toArray.size ≤ 8; simpa using hlen
    have hys : Y.size ≤ 8 := by rw [← hY]; show (List.replicate k (48 : UInt8)).toArray.size ≤ 8; simp; omega
    have hl1 : ¬ 9223372036854775807 < 4 + Y.size := by omega
    have hl2 : ¬ 9223372036854775807 < 4 + Y.size + X.size := by omega
    have HRES := Lib.hid hres
    clear hm h1 h2 hit hname ht hD hk hrep hres hV hX hY
    go_enter Tryz.func80, Tryz.ntmps80
    go_wp2_with fail
    refine HM.out.mono ?_
    rintro e w' ⟨rfl, rfl⟩
    go_wp2_with fail
    refine HI.out.mono ?_
    rintro e w2 ⟨rfl, hb2⟩
    have HB2 := Lib.hid hb2
    clear hb2
    go_wp2_with fail
    refine (HR.out w2).mono ?_
    rintro e w3 ⟨rfl, hb3⟩
    have HB3 := Lib.hid (below_then HB2.out hb3)
    clear hb3
    go_wp2_with fail
    go_ret
    exact ⟨congrArg (fun z => Ending.returned (Value.string z)) HRES.out, HB3.out⟩

end Go.Proofs.YtacfcfbleogioaaGreatDoor

namespace Go.Proofs.YtacfcfbleogioaaGreatDoor
open Go.RowKit Go.Lib

/-- The library's variables of errors hold errors, or none. -/
def Errs (w : World) : Prop :=
  (∃ ev, w.cell? ⟨3, 0, none⟩ = some ev ∧ (ev = .nilIface ∨ ∃ te pe, ev = .iface te pe)) ∧ (∃ ev, w.cell? ⟨4, 0, none⟩ = some ev ∧ (ev = .nilIface ∨ ∃ te pe, ev = .iface te pe))
theorem Errs.below {w w' : World} (h : Errs w) (hb : Below w.heap.size w w') : Errs w' := by
  obtain ⟨⟨a, h1, h2⟩, ⟨b, h3, h4⟩⟩ := h
  exact ⟨⟨a, (hb.cell (p := ⟨_, 0, none⟩) (lt_of_cell h1)).trans h1, h2⟩, ⟨b, (hb.cell (p := ⟨_, 0, none⟩) (lt_of_cell h3)).trans h3, h4⟩⟩

theorem toList_ne {a b : ByteArray} (h : a ≠ b) : (a.toList == b.toList) = false := by
  rw [ByteArray.toList_eq, ByteArray.toList_eq]
  have := same_is a b
  rw [decide_eq_false h] at this
  exact this
/-- What Atoi leaves of a text. -/
def AtoiOut (l : List UInt8) (w : World) (e : Ending) (w' : World) : Prop :=
  Below w.heap.size w w' ∧ ((∃ v, Lib.atoiAll l = .ok v ∧ e = .returned (.tuple #[.int .i64 v, .nilIface])) ∨ ((∀ v, Lib.atoiAll l ≠ .ok v) ∧ ∃ v T x, e = .returned (.tuple #[.int .i64 v, .iface T x])))
theorem atoi_any (s : ByteArray) (w : World) (hs : s.size ≤ 281474976710656) (he : Errs w) : Calls Tryz.prog 154 #[.string s] w (AtoiOut s.data.toList w) := by
  obtain ⟨⟨a, h1, h2⟩, ⟨b, h3, h4⟩⟩ := he
  cases hr : Lib.atoiAll s.data.toList with
  | ok v =>
    refine (Tryz.strconv_Atoi_ok s (by omega) v hr w).mono ?_
    rintro e w' ⟨rfl, hw⟩
    refine ⟨?_, .inl ⟨v, hr, rfl⟩⟩
    rcases hw with rfl | ⟨t, rfl⟩
    · exact Below.refl _ _
    · exact Lib.bytesWorld_below _ _ _
  | range =>
    refine (Tryz.strconv_Atoi_range s hs hr b w h3 h4).mono ?_
    rintro e w' ⟨N, rfl, _, _, hb⟩
    exact ⟨hb, .inr ⟨(by rw [hr]; intro v h; cases h), _, _, _, rfl⟩⟩
  | _ =>
    refine (Tryz.strconv_Atoi_syntax s hs hr a w h1 h2).mono ?_
    rintro e w' ⟨N, rfl, _, _, hb⟩
    exact ⟨hb, .inr ⟨(by rw [hr]; intro v h; cases h), _, _, _, rfl⟩⟩

/-- A name's number, and whether there is one. -/
def NumOut (s : ByteArray) (w : World) (e : Ending) (w' : World) : Prop := e = .returned (.tuple #[.int .i64 (numB s : Int), .bool (decide (0 < numB s))]) ∧ Below w.heap.size w w'

set_option maxRecDepth 100000 in
set_option maxHeartbeats 2000000 in
theorem number_calls (s : ByteArray) (w : World) (hs : s.size ≤ 1099511627776) (ht : Tab w) (he : Errs w) : Calls Tryz.prog 130 #[.string s] w (NumOut s w) := by
  have hcl := cutP_le s
  have HTR : Hid (Calls Tryz.prog 129 #[.string s, .string ⟨#[115, 101, 103, 46]⟩] w fun e w' => e = .returned (.string ⟨(cutP s).toArray⟩) ∧ w' = w) := Lib.hid (Tryz.strings_TrimPrefix s ⟨#[115, 101, 103, 46]⟩ w)
  have hls : (⟨(cutP s).toArray⟩ : ByteArray).data.toList = cutP s := by simp
  have hsz : (⟨(cutP s).toArray⟩ : ByteArray).size ≤ 281474976710656 := by
    show (cutP s).toArray.size ≤ _
    rw [List.size_toArray]
    omega
  have hat := atoi_any ⟨(cutP s).toArray⟩ w hsz he
  rw [hls] at hat
  have HAT := Lib.hid hat
  have HNM := Lib.hid (fun W v (hb : Below w.heap.size w W) => name_calls v W (ht.below hb))
  have HBAD : Hid ((∀ v, Lib.atoiAll (cutP s) ≠ .ok v) → ∀ W, Below w.heap.size w W → NumOut s w (.returned (.tuple #[.int .i64 0, .bool false])) W) := Lib.hid (fun h W hb => by
    unfold NumOut
    rw [atoi_bad h]
    exact ⟨rfl, hb⟩)
  have HOK : Hid (∀ v, Lib.atoiAll (cutP s) = .ok v → ∀ W, Below w.heap.size w W → (s = nameB v → NumOut s w (.returned (.tuple #[.int .i64 v, .bool true])) W) ∧ (s ≠ nameB v → NumOut s w (.returned (.tuple #[.int .i64 0, .bool false])) W)) := Lib.hid (fun v h W hb => by
    obtain ⟨h1, h2⟩ := atoi_is h
    unfold NumOut
    refine ⟨fun e => ?_, fun e => ?_⟩
    · rw [(h1 e).1, decide_eq_true (h1 e).2]
      exact ⟨rfl, hb⟩
    · rw [h2 e]
      exact ⟨rfl, hb⟩)
  obtain ⟨X, hX⟩ : ∃ X : ByteArray, ⟨(cutP s).toArray⟩ = X := ⟨_, rfl⟩
  rw [hX] at HTR HAT
  obtain ⟨PST, hP⟩ : ∃ P, NumOut s w = P := ⟨_, rfl⟩
  simp only [hP] at HBAD HOK ⊢
  clear hcl hls hsz hat hX hP ht he hs
  go_enter Tryz.func130, Tryz.ntmps130
  go_wp2_with fail
  with_reducible refine HTR.out.mono ?_
  rintro e w1 ⟨rfl, rfl⟩
  go_wp2_with fail
  with_reducible refine HAT.out.mono ?_
  rintro e w2 ⟨hb2, h2⟩
  have HB2 := Lib.hid hb2
  clear hb2
  rcases h2 with ⟨v, hv, rfl⟩ | ⟨hv, v, T, x, rfl⟩
  · have HV := Lib.hid (fun W hb => HOK.out v hv W hb)
    clear hv
    go_wp2_with fail
    with_reducible refine (HNM.out w2 v HB2.out).mono ?_
    rintro e w3 ⟨rfl, hb3⟩
    have HB3 := Lib.hid (below_then HB2.out hb3)
    clear hb3
    obtain ⟨Y, hY⟩ : ∃ Y, nameB v = Y := ⟨_, rfl⟩
    simp only [hY] at HV
    rw [hY]
    clear hY
    by_cases hsy : s = Y
    · subst hsy
      have HF := Lib.hid ((HV.out _ HB3.out).1 rfl)
      have e1 : (s.toList == s.toList) = true := by simp
      clear HV
      go_wp2
      exact HF.out
    · have HF := Lib.hid ((HV.out _ HB3.out).2 hsy)
      have e1 := toList_ne hsy
      clear HV
      go_wp2
      exact HF.out
  · have HF := Lib.hid (HBAD.out hv _ HB2.out)
    clear hv
    go_wp2
    exact HF.out

end Go.Proofs.YtacfcfbleogioaaGreatDoor

namespace Go.Proofs.YtacfcfbleogioaaGreatDoor
open Go.RowKit Go.Lib Go.Joins

theorem rmay7_calls (n : Int) (w : World) : Calls Tryz.prog 71 #[.int .i64 n] w fun e w' => e = .returned (.bool (mayN n)) ∧ w = w' := by
  by_cases h1 : 1 ≤ n
  · have d1 : decide (1 ≤ n) = true := by simpa using h1
    have d1' : decide (n ≥ 1) = true := by simpa using h1
    by_cases h2 : n ≤ 99999999
    · have d2 : decide (n ≤ 99999999) = true := by simpa using h2
      have hm : mayN n = true := mayN_is.2 ⟨h1, h2⟩
      rw [hm]
      go_enter Tryz.func71, Tryz.ntmps71
      go_wp2
      go_ret
      exact ⟨rfl, rfl⟩
    · have d2 : decide (n ≤ 99999999) = false := by simpa using h2
      have hm : mayN n = false := by unfold mayN; rw [d2, Bool.and_false]
      rw [hm]
      go_enter Tryz.func71, Tryz.ntmps71
      go_wp2
      go_ret
      exact ⟨rfl, rfl⟩
  · have d1 : decide (1 ≤ n) = false := by simpa using h1
    have d1' : decide (n ≥ 1) = false := by simpa using h1
    have hm : mayN n = false := by unfold mayN; rw [d1, Bool.false_and]
    rw [hm]
    go_enter Tryz.func71, Tryz.ntmps71
    go_wp2
    go_ret
    exact ⟨rfl, rfl⟩

/-- The last digits of a number. -/
def suf : Nat → Nat → List UInt8
  | 0, _ => []
  | i + 1, m => UInt8.ofNat (48 + m / 10 ^ i % 10) :: suf i m
theorem pad_suf (m : Nat) : ∀ i k, pad (k + i) m = pad k (m / 10 ^ i) ++ suf i m
  | 0, k => by simp [suf]
  | i + 1, k => by
    have ih := pad_suf m i (k + 1)
    rw [show k + 1 + i = k + (i + 1) by omega] at ih
    rw [ih, pad, suf, List.append_assoc, Nat.div_div_eq_div_mul, ← Nat.pow_succ]
    rfl
theorem pad_suf8 (m : Nat) : pad 8 m = suf 8 m := by
  have := pad_suf m 8 0
  simpa [pad] using this
theorem suf_len : ∀ i m, (suf i m).length = i
  | 0, _ => rfl
  | i + 1, m => by rw [suf, List.length_cons, suf_len i]

set_option maxRecDepth 100000 in
set_option maxHeartbeats 2000000 in
theorem eight_calls (m : Nat) (w : World) (hm : m ≤ 99999999) : Calls Tryz.prog 94 #[.int .i64 (m : Int)] w (Leaves (.string ⟨(suf 8 m).toArray⟩) w) := by
  obtain ⟨PST, hP⟩ : ∃ P, Leaves (.string ⟨(suf 8 m).toArray⟩) w = P := ⟨_, rfl⟩
  have HFIN : Hid (∀ W, Below w.heap.size w W → PST (.returned (.string ⟨(suf 8 m).toArray⟩)) W) := Lib.hid (fun W hb => by rw [← hP]; exact ⟨rfl, hb⟩)
  rw [hP]
  clear hP
  go_enter Tryz.func94, Tryz.ntmps94
  go_wp2
  go_loopg [0, 3, 4] 8 (fun g nn out idx wr => ∃ (i : Nat), nn = .int .i64 ((m / 10 ^ i : Nat) : Int) ∧ out = .string ⟨(suf i m).toArray⟩ ∧ idx = .int .i64 (i : Int) ∧ g + i = 8 ∧ Below w.heap.size w wr)
  case atStart => exact ⟨0, by simp, rfl, rfl, rfl, Below.refl _ _⟩
  case round =>
    obtain ⟨i, rfl, rfl, rfl, hg, hb⟩ := hrel
    have HG := Lib.hid hg
    have HB := Lib.hid hb
    clear hg hb
    by_cases hlt : i < 8
    · obtain ⟨g', rfl⟩ : ∃ g', gk = g' + 1 := ⟨gk - 1, by have := HG.out; omega⟩
      have hd : decide ((i : Int) < 8) = true := by simp; omega
      have hq1 : m / 10 ^ i ≤ 99999999 := Nat.le_trans (Nat.div_le_self _ _) hm
      have HQ2 : Hid (m / 10 ^ (i + 1) = m / 10 ^ i / 10) := Lib.hid (by rw [Nat.pow_succ, Nat.div_div_eq_div_mul])
      have HS2 : Hid (suf (i + 1) m = UInt8.ofNat (48 + m / 10 ^ i % 10) :: suf i m) := Lib.hid rfl
      obtain ⟨q, hq⟩ : ∃ q, m / 10 ^ i = q := ⟨_, rfl⟩
      rw [hq] at hq1 HQ2 HS2 ⊢
      have hsl : (⟨(suf i m).toArray⟩ : ByteArray).size = i := by show (suf i m).toArray.size = i; rw [List.size_toArray, suf_len]
      have HCV : Hid (∀ X : Int, X = ((48 + q % 10 : Nat) : Int) → (convert 61 9 (.slice (some ⟨wr.heap.size, 0, none⟩) 1 1)).run Tryz.prog (wr.alloc (.cells #[.int .u8 X] 5)) = .ok (.string ⟨#[UInt8.ofNat (48 + q % 10)]⟩) (wr.alloc (.cells #[.int .u8 X] 5))) := Lib.hid (fun X hX => by
        subst hX
        have := Lib.run_convert_whole (P := Tryz.prog) (wr.alloc (.cells #[.int .u8 ((48 + q % 10 : Nat) : Int)] 5)) 61 5 9 Tryz.underlying61 Tryz.underlying5 Tryz.underlying9 wr.heap.size 0 ⟨#[UInt8.ofNat (48 + q % 10)]⟩ (fun i hi => by
          have h1 : i < 1 := hi
          obtain rfl : i = 0 := by omega
          rw [Nat.zero_add, World.cell?_alloc_mark wr _ 5 (0, 0) 0]
          show some (Value.int .u8 ((48 + q % 10 : Nat) : Int)) = some (Value.int .u8 (((UInt8.ofNat (48 + q % 10)).toNat : Nat) : Int))
          rw [UInt8.toNat_ofNat', Nat.mod_eq_of_lt (show 48 + q % 10 < 2 ^ 8 by omega)]) 1
        exact this)
      have hcat : (⟨#[UInt8.ofNat (48 + q % 10)]⟩ : ByteArray) ++ ⟨(suf i m).toArray⟩ = ⟨(UInt8.ofNat (48 + q % 10) :: suf i m).toArray⟩ := app_bytes [UInt8.ofNat (48 + q % 10)] (suf i m)
      rw [← HS2.out] at hcat
      obtain ⟨Y, hY⟩ : ∃ Y : ByteArray, ⟨(suf i m).toArray⟩ = Y := ⟨_, rfl⟩
      obtain ⟨c, hc⟩ : ∃ c : ByteArray, ⟨#[UInt8.ofNat (48 + q % 10)]⟩ = c := ⟨_, rfl⟩
      have hcs : c.size = 1 := by rw [← hc]; rfl
      rw [hY] at hsl hcat ⊢
      rw [hc] at HCV hcat
      have hl1 : ¬ 9223372036854775807 < c.size + Y.size := by omega
      have HCAT := Lib.hid hcat
      have hcv1 := HCV.out (48 + (q : Int) % 10) (by omega)
      clear hq hY hc hcat HCV HS2
      go_wp2_with fail
      go_roundg g'
      case measure => omega
      case rel => exact ⟨i + 1, by rw [HQ2.out]; go_num, by rw [← HCAT.out], by go_num, by have := HG.out; omega, HB.out.alloc HB.out.size _⟩
    · have hd : decide ((i : Int) < 8) = false := by simp; omega
      obtain rfl : i = 8 := by have := HG.out; omega
      go_wp2
      exact HFIN.out _ HB.out

set_option maxRecDepth 100000 in
set_option maxHeartbeats 1000000 in
theorem rname_calls (n : Int) (w : World) : Calls Tryz.prog 50 #[.int .i64 n] w (Leaves (.string (nameB n)) w) := by
  have HM := Lib.hid (rmay7_calls n w)
  cases hm : mayN n with
  | false =>
    rw [nameB_not hm]
    rw [hm] at HM
    clear hm
    go_enter Tryz.func50, Tryz.ntmps50
    go_wp2_with fail
    with_reducible refine HM.out.mono ?_
    rintro e w1 ⟨rfl, rfl⟩
    go_wp2
    go_ret
    exact ⟨rfl, Below.refl _ _⟩
  | true =>
    rw [hm] at HM
    obtain ⟨h1, h2⟩ := mayN_is.1 hm
    rw [nameB_may hm]
    obtain ⟨m, rfl⟩ : ∃ m : Nat, n = (m : Int) := ⟨n.toNat, by omega⟩
    rw [Int.toNat_natCast, nameL, pad_suf8]
    have HE := Lib.hid (eight_calls m w (by omega))
    have hcat : (⟨#[115, 101, 103, 46]⟩ : ByteArray) ++ ⟨(suf 8 m).toArray⟩ = ⟨([115, 101, 103, 46] ++ suf 8 m).toArray⟩ := app_bytes [115, 101, 103, 46] (suf 8 m)
    have hsl : (⟨(suf 8 m).toArray⟩ : ByteArray).size = 8 := by show (suf 8 m).toArray.size = 8; rw [List.size_toArray, suf_len]
    obtain ⟨Y, hY⟩ : ∃ Y : ByteArray, ⟨(suf 8 m).toArray⟩ = Y := ⟨_, rfl⟩
    rw [hY] at HE hcat hsl
    obtain ⟨V, hV⟩ : ∃ V : ByteArray, ⟨([115, 101, 103, 46] ++ suf 8 m).toArray⟩ = V := ⟨_, rfl⟩
    rw [hV] at hcat ⊢
    have HC := Lib.hid hcat
    have hl1 : ¬ 9223372036854775807 < 4 + Y.size := by omega
    clear hm h1 h2 hY hV hcat
    go_enter Tryz.func50, Tryz.ntmps50
    go_wp2_with fail
    with_reducible refine HM.out.mono ?_
    rintro e w1 ⟨rfl, rfl⟩
    go_wp2_with fail
    with_reducible refine HE.out.mono ?_
    rintro e w2 ⟨rfl, hb2⟩
    have HB2 := Lib.hid hb2
    clear hb2
    go_wp2
    go_ret
    exact ⟨congrArg (fun z => Ending.returned (Value.string z)) HC.out, HB2.out⟩

end Go.Proofs.YtacfcfbleogioaaGreatDoor

namespace Go.Proofs.YtacfcfbleogioaaGreatDoor
open Go.RowKit Go.Lib Go.Joins

theorem take_at {l : List UInt8} {j : Nat} {c : UInt8} (h : l[j]? = some c) (acc : Nat) : dval acc (l.take (j + 1)) = dval acc (l.take j) * 10 + (c.toNat - 48) := by
  rw [List.take_add_one, h, Option.toList_some, dval_app]

set_option maxRecDepth 100000 in
set_option maxHeartbeats 4000000 in
theorem rnumber_calls (s : ByteArray) (w : World) (_hs : s.size ≤ 1099511627776) : Calls Tryz.prog 89 #[.string s] w (NumOut s w) := by
  obtain ⟨PST, hP⟩ : ∃ P, NumOut s w = P := ⟨_, rfl⟩
  have HBAD : Hid (numB s = 0 → PST (.returned (.tuple #[.int .i64 0, .bool false])) w) := Lib.hid (fun h => by
    rw [← hP]
    unfold NumOut
    rw [h]
    exact ⟨rfl, Below.refl _ _⟩)
  have HOK : Hid (PST (.returned (.tuple #[.int .i64 (numB s : Int), .bool (decide (0 < numB s))])) w) := Lib.hid (by rw [← hP]; exact ⟨rfl, Below.refl _ _⟩)
  rw [hP]
  clear hP
  by_cases h12 : s.size = 12
  · have d12 : ((s.size : Int) != 12) = false := by rw [h12]; rfl
    obtain ⟨P, hPe⟩ : ∃ P : ByteArray, s.extract 0 4 = P := ⟨_, rfl⟩
    have hpl : P.data.toList = s.data.toList.take 4 := by
      rw [← hPe]
      simp [ByteArray.data_extract]
    by_cases hp : s.data.toList.take 4 = segP
    · have hpp : P = ⟨#[115, 101, 103, 46]⟩ := ext_list (by rw [hpl, hp]; rfl)
      have HSP := Lib.hid hp
      have HNB : Hid ((s.data.toList.drop 4).all digC = true → numB s = dval 0 (s.data.toList.drop 4)) := Lib.hid (fun h => by unfold numB; rw [if_pos ⟨h12, hp, h⟩])
      have HND : Hid ((s.data.toList.drop 4).all digC = false → numB s = 0) := Lib.hid (fun h => by unfold numB; rw [if_neg (fun h2 => by rw [h] at h2; exact absurd h2.2.2 (by decide))])
      have hdl : (s.data.toList.drop 4).length = 8 := by
        rw [List.length_drop, Array.length_toList]
        show s.size - 4 = 8
        omega
      have HAT : Hid (∀ i (hi : i < s.size), 4 ≤ i → (s.data.toList.drop 4)[i - 4]? = some (s[i])) := Lib.hid (fun i hi h4 => by
        rw [List.getElem?_drop, show 4 + (i - 4) = i by omega]
        have h5 : i < s.data.toList.length := by rw [Array.length_toList]; exact hi
        rw [List.getElem?_eq_getElem h5]
        rfl)
      obtain ⟨D, hD⟩ : ∃ D, s.data.toList.drop 4 = D := ⟨_, rfl⟩
      rw [hD] at HNB HND hdl HAT
      have HDL := Lib.hid hdl
      clear hD hdl hp hpl
      go_enter Tryz.func89, Tryz.ntmps89
      go_wp2
      go_loopg [4, 5] 8 (fun g acc idx wr => ∃ (i m : Nat), acc = .int .i64 (m : Int) ∧ idx = .int .i64 (i : Int) ∧ g + i = 12 ∧ 4 ≤ i ∧ (D.take (i - 4)).all digC = true ∧ dval 0 (D.take (i - 4)) = m ∧ w = wr)
      case atStart => exact ⟨4, 0, rfl, rfl, rfl, Nat.le_refl _, rfl, rfl, rfl⟩
      case round =>
        obtain ⟨i, m, rfl, rfl, hg, h4, hall, hval, rfl⟩ := hrel
        have HG := Lib.hid hg
        have HAL := Lib.hid hall
        have HV := Lib.hid hval
        have hm1 : m < 100000000000 := by
          have h1 := dval_lt _ 0 hall
          rw [hval] at h1
          have h2 : (D.take (i - 4)).length ≤ 8 := by rw [List.length_take, HDL.out]; omega
          have h3 : 10 ^ (D.take (i - 4)).length ≤ 10 ^ 8 := Nat.pow_le_pow_right (by decide) h2
          omega
        clear hg hall hval
        by_cases hlt : i < 12
        · obtain ⟨g', rfl⟩ : ∃ g', gk = g' + 1 := ⟨gk - 1, by have := HG.out; omega⟩
          have hdd : decide ((i : Int) < 12) = true := by simp; omega
          have his : i < s.size := by omega
          have hx0 := HAT.out i his h4
          have htk : i + 1 - 4 = i - 4 + 1 := by omega
          have HTK := Lib.hid htk
          obtain ⟨x, hx⟩ : ∃ x, s[i] = x := ⟨_, rfl⟩
          rw [hx] at hx0
          have HX0 := Lib.hid hx0
          have hii : (i : Int) < 12 := by omega
          clear htk hx0
          by_cases hc : 48 ≤ x.toNat ∧ x.toNat ≤ 57
          · have h48 : decide ((x.toNat : Int) < 48) = false := by simp; omega
            have h57 : decide ((x.toNat : Int) > 57) = false := by simp; omega
            have h1 : (48 : Int) ≤ (x.toNat : Int) := by omega
            have h2 : (x.toNat : Int) ≤ 57 := by omega
            have HR : Hid ((D.take (i + 1 - 4)).all digC = true ∧ dval 0 (D.take (i + 1 - 4)) = m * 10 + (x.toNat - 48)) := Lib.hid (by
              rw [HTK.out]
              refine ⟨?_, by rw [take_at HX0.out, HV.out]⟩
              rw [List.take_add_one, HX0.out, Option.toList_some, List.all_append, HAL.out]
              simp [digC, hc])
            clear hc HAL HV
            go_wp2
            go_roundg g'
            case measure => omega
            case rel => exact ⟨i + 1, m * 10 + (x.toNat - 48), by go_num, by go_num, by have := HG.out; omega, by omega, HR.out.1, HR.out.2, rfl⟩
          · have HB := Lib.hid (HBAD.out (HND.out (by
              rw [Bool.eq_false_iff]
              intro h
              rw [List.all_eq_true] at h
              have := h x (List.mem_of_getElem? HX0.out)
              unfold digC at this
              simp at this
              exact hc this)))
            by_cases hlo : x.toNat < 48
            · have h48 : decide ((x.toNat : Int) < 48) = true := by simp; omega
              clear hc HAL HV
              go_wp2
              exact HB.out
            · have h48 : decide ((x.toNat : Int) < 48) = false := by simp; omega
              have h57 : decide ((x.toNat : Int) > 57) = true := by simp; omega
              clear hc HAL HV
              go_wp2
              exact HB.out
        · have hdd : decide ((i : Int) < 12) = false := by simp; omega
          have hfull : D.take (i - 4) = D := List.take_of_length_le (by rw [HDL.out]; have := HG.out; omega)
          have h1 := HAL.out
          have h2 := HV.out
          rw [hfull] at h1 h2
          have h3 := HNB.out h1
          rw [h2] at h3
          have HOK2 := HOK
          rw [h3] at HOK2
          have hdm : decide ((m : Int) > 0) = decide (0 < m) := by simp
          clear h1 h2 h3 hfull HAL HV HOK
          go_wp2
          exact HOK2.out
    · have hpp : P ≠ ⟨#[115, 101, 103, 46]⟩ := fun e => hp (by rw [← hpl, e]; rfl)
      have HB := Lib.hid (HBAD.out (by unfold numB; rw [if_neg (fun h => hp h.2.1)]))
      have hpe : (P.toList == [115, 101, 103, 46]) = false := by
        have h1 := toList_ne hpp
        rw [ByteArray.toList_eq (⟨#[115, 101, 103, 46]⟩ : ByteArray)] at h1
        exact h1
      clear HBAD HOK hp hpl hpp
      go_enter Tryz.func89, Tryz.ntmps89
      go_wp2
      exact HB.out
  · have HB := Lib.hid (HBAD.out (by unfold numB; rw [if_neg (fun h => h12 h.1)]))
    have d12 : ((s.size : Int) != 12) = true := by simp; omega
    clear HBAD HOK
    go_enter Tryz.func89, Tryz.ntmps89
    go_wp2
    exact HB.out

end Go.Proofs.YtacfcfbleogioaaGreatDoor
