/-
  The program's Trim, over the library's TrimFunc, and the reference's: the same text without the blanks at both ends. Conditions: the text is shorter than 2 to the 30; the tables hold what their initialisers lay.
-/
import Derived.Test.YtojpjhfafbdpcaaGreatDoorTrim
import Derived.Test.YtojpjhfafbdpcaaGreatDoorRefTabs
import Derived.Test.YtojpjhfafbdpcaaGreatDoorNext
import Derived.Test.YtojpjhfafbdpcaaGreatDoorShelf
namespace Go.Proofs.YtojpjhfafbdpcaaGreatDoor
open Go.RowKit Go.Lib

theorem blank_nat (m : Nat) : blankB (m : Int) = pBl m := by
  unfold blankB pBl
  rw [Bool.eq_iff_iff]
  simp only [Bool.or_eq_true, beq_iff_eq]
  omega

theorem string_of {s : ByteArray} {l : List UInt8} (h : s.data.toList = l) : s = ⟨l.toArray⟩ := by
  rw [← h, Lib.mk_data]

set_option maxRecDepth 100000 in
set_option maxHeartbeats 1000000 in
theorem trim_calls (s : ByteArray) (w : World) (hs : s.size ≤ 1073741824) (hL : Laid w) : Calls Tryz.prog 48 #[.string s] w (Leaves (.string ⟨(trimL s.data.toList).toArray⟩) w) := by
  have hp : PredAt Tryz.prog 71 #[] encR pBl w := fun W x _ => (blank_calls (x : Int) W).mono fun e w' ⟨h1, h2⟩ => ⟨by rw [h1, blank_nat], 0, h2⟩
  have T := Tryz.strings_TrimFunc 71 #[] (enters_of Tryz.func71 (by kernel_rfl) rfl) pBl s w (by omega) hL.1 hp
  rw [string_of (trim_eq s)] at T
  have HT := Lib.hid T
  clear T hp hL
  go_enter Tryz.func48, Tryz.ntmps48
  go_wp2_with fail
  refine HT.out.mono ?_
  rintro e w1 ⟨rfl, hb⟩
  have HB := Lib.hid hb
  clear hb
  go_wp2
  go_ret
  exact ⟨rfl, HB.out⟩

set_option maxRecDepth 100000 in
set_option maxHeartbeats 2000000 in
theorem refTrim_calls (s : ByteArray) (w : World) (hs : s.size ≤ 1073741824) : Calls Tryz.prog 30 #[.string s] w (Leaves (.string ⟨(trimL s.data.toList).toArray⟩) w) := by
  have hlen : s.data.toList.length = s.size := Array.length_toList
  have hle := lead_le s.data.toList
  obtain ⟨a, ha⟩ : ∃ a, lead s.data.toList = a := ⟨_, rfl⟩
  rw [ha, hlen] at hle
  have HA := Lib.hid ha
  clear ha
  go_enter Tryz.func30, Tryz.ntmps30
  go_wp2
  go_loopg [3] s.size (fun g v wr => ∃ i : Nat, v = .int .i64 i ∧ g + i = s.size ∧ i + lead (s.data.toList.drop i) = a ∧ wr = w)
  case atStart => exact ⟨0, rfl, rfl, by rw [List.drop_zero, Nat.zero_add]; exact HA.out, rfl⟩
  case round =>
    obtain ⟨i, rfl, hg, hi, rfl⟩ := hrel
    have HG := Lib.hid hg
    have HI := Lib.hid hi
    clear hg hi
    by_cases hlt : i < s.size
    · have hd : decide ((i : Int) < (s.size : Int)) = true := by simp; omega
      have hii : (i : Int) < (s.size : Int) := by omega
      have hx : s.data.toList.drop i = s[i]'hlt :: s.data.toList.drop (i + 1) := List.drop_eq_getElem_cons (by omega)
      obtain ⟨x, hxi⟩ : ∃ x, s[i]'hlt = x := ⟨_, rfl⟩
      rw [hxi] at hx
      have HX := Lib.hid hx
      have lx := x.toNat_lt
      clear hx
      go_wp2_with fail
      refine (refBlank_calls (x.toNat : Int) _).mono ?_
      rintro e w2 ⟨rfl, rfl⟩
      obtain ⟨y, hy⟩ : ∃ y, blankB (x.toNat : Int) = y := ⟨_, rfl⟩
      rw [hy]
      have HY : Hid (isBl x = y) := Lib.hid (by rw [← hy, blank_nat]; rfl)
      clear hy
      cases y with
      | true =>
        go_wp2
        go_roundg (gk - 1)
        case measure => have := HG.out; omega
        case rel => exact ⟨i + 1, by go_num, by have := HG.out; omega, by have := HI.out; rw [HX.out, lead, if_pos HY.out] at this; omega, rfl⟩
      | false =>
        have hia : i = a := by have := HI.out; rw [HX.out, lead, if_neg (by rw [HY.out]; decide)] at this; omega
        subst hia
        clear HX HY HI hxi
        go_wp2
        obtain ⟨d, hdd⟩ : ∃ d, s.data.toList.drop i = d := ⟨_, rfl⟩
        have hdl : d.length = s.size - i := by rw [← hdd, List.length_drop, hlen]
        obtain ⟨m, hm⟩ : ∃ m, rl d (s.size - i) = m := ⟨_, rfl⟩
        have HT : Hid (trimL s.data.toList = d.take m) := Lib.hid (by unfold trimL; rw [HA.out, hdd, hdl, hm])
        have HD := Lib.hid hdd
        have HM := Lib.hid hm
        clear hdd hm
        go_loopg [4] s.size (fun g v wr2 => ∃ b : Nat, v = .int .i64 b ∧ g + s.size = s.size + b ∧ i ≤ b ∧ b ≤ s.size ∧ rl d (b - i) = m ∧ wr2 = w2)
        case atStart => exact ⟨s.size, rfl, rfl, by omega, Nat.le_refl _, HM.out, rfl⟩
        case round =>
          obtain ⟨b, rfl, hgb, hib, hbs, hrl, rfl⟩ := hrel
          have HGB := Lib.hid hgb
          have HRL := Lib.hid hrl
          clear hgb hrl
          have fin : Hid (rl d (b - i) = b - i → s.extract i b = ⟨(trimL s.data.toList).toArray⟩) := Lib.hid fun h => by
            refine string_of ?_
            have : m = b - i := by rw [← HRL.out, h]
            rw [HT.out, this, ← HD.out, Lib.extract_data]
          by_cases hbi : i < b
          · obtain ⟨c, rfl⟩ : ∃ c, b = c + 1 := ⟨b - 1, by omega⟩
            have hd2 : decide (((c + 1 : Nat) : Int) > (i : Int)) = true := by simp; omega
            have hcs : (c : Int) < (s.size : Int) := by omega
            have hcl : c < s.size := by omega
            obtain ⟨x, hxc⟩ : ∃ x, s[c]'hcl = x := ⟨_, rfl⟩
            have lx := x.toNat_lt
            have hgd : d.getD (c - i) 0 = x := by
              rw [← HD.out, getD_dropU, show i + (c - i) = c by omega, ← hxc, getD_get!']
              exact getElem!_pos s.data c hcl
            have HGD := Lib.hid hgd
            clear hgd
            go_wp2_with fail
            refine (refBlank_calls (x.toNat : Int) _).mono ?_
            rintro e w2 ⟨rfl, rfl⟩
            obtain ⟨y, hy⟩ : ∃ y, blankB (x.toNat : Int) = y := ⟨_, rfl⟩
            rw [hy]
            have HY : Hid (isBl x = y) := Lib.hid (by rw [← hy, blank_nat]; rfl)
            clear hy
            have hstep : Hid (rl d (c + 1 - i) = if isBl x = true then rl d (c - i) else c + 1 - i) := Lib.hid (by
              rw [show c + 1 - i = c - i + 1 by omega, rl, HGD.out])
            cases y with
            | true =>
              go_wp2
              go_roundg (gk - 1)
              case measure => have := HGB.out; omega
              case rel => exact ⟨c, by go_num, by have := HGB.out; omega, by omega, by omega, by have := HRL.out; rw [hstep.out, if_pos HY.out] at this; exact this, rfl⟩
            | false =>
              have hs1 : (i : Int) ≤ (c : Int) + 1 := by omega
              have hs2 : (c : Int) + 1 ≤ (s.size : Int) := by omega
              go_wp2
              go_ret
              exact ⟨by rw [← fin.out (by rw [hstep.out, if_neg (by rw [HY.out]; decide)])]; rfl, Below.refl _ _⟩
          · have hd2 : decide ((b : Int) > (i : Int)) = false := by simp; omega
            have hbi2 : b = i := by omega
            subst hbi2
            go_wp2
            go_ret
            exact ⟨by rw [HT.out, show m = 0 from by have := HRL.out; rw [Nat.sub_self] at this; exact this.symm]; rfl, Below.refl _ _⟩
    · have hd : decide ((i : Int) < (s.size : Int)) = false := by simp; omega
      have hia : i = a := by have := HI.out; have := HG.out; omega
      subst hia
      go_wp2
      obtain ⟨d, hdd⟩ : ∃ d, s.data.toList.drop i = d := ⟨_, rfl⟩
      have hdl : d.length = s.size - i := by rw [← hdd, List.length_drop, hlen]
      obtain ⟨m, hm⟩ : ∃ m, rl d (s.size - i) = m := ⟨_, rfl⟩
      have HT : Hid (trimL s.data.toList = d.take m) := Lib.hid (by unfold trimL; rw [HA.out, hdd, hdl, hm])
      have HD := Lib.hid hdd
      have HM := Lib.hid hm
      clear hdd hm
      go_loopg [4] s.size (fun g v wr2 => ∃ b : Nat, v = .int .i64 b ∧ g + s.size = s.size + b ∧ i ≤ b ∧ b ≤ s.size ∧ rl d (b - i) = m ∧ wr2 = wr)
      case atStart => exact ⟨s.size, rfl, rfl, by omega, Nat.le_refl _, HM.out, rfl⟩
      case round =>
        obtain ⟨b, rfl, hgb, hib, hbs, hrl, rfl⟩ := hrel
        have HGB := Lib.hid hgb
        have HRL := Lib.hid hrl
        clear hgb hrl
        have fin : Hid (rl d (b - i) = b - i → s.extract i b = ⟨(trimL s.data.toList).toArray⟩) := Lib.hid fun h => by
          refine string_of ?_
          have : m = b - i := by rw [← HRL.out, h]
          rw [HT.out, this, ← HD.out, Lib.extract_data]
        by_cases hbi : i < b
        · exfalso; omega
        · have hd2 : decide ((b : Int) > (i : Int)) = false := by simp; omega
          have hbi2 : b = i := by omega
          subst hbi2
          go_wp2
          go_ret
          exact ⟨by rw [HT.out, show m = 0 from by have := HRL.out; rw [Nat.sub_self] at this; exact this.symm]; rfl, Below.refl _ _⟩

end Go.Proofs.YtojpjhfafbdpcaaGreatDoor
