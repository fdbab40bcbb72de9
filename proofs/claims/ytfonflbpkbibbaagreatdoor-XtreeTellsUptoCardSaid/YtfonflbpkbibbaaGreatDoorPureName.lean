/-
  The reference's Next at every place, and both functions Bad: the first place at which there is no rune. Conditions: the slice is shorter than 2 to the 62; the tables hold what their initialisers lay. The program's Name, over the library's ValidString and a range over the text. Condition: the tables hold what their initialisers lay. What a name is, over the bytes of a text: one walk that the program's Name and the reference's both come to; names behind names, names ahead of names. No condition.
-/
import Derived.Test.YtfonflbpkbibbaaGreatDoorPureNext
import Derived.Shelf.Unicode.ValidAny
import Derived.Test.YtfonflbpkbibbaaGreatDoorNext
import Derived.Test.YtfonflbpkbibbaaGreatDoorShelf
import Derived.Lib.OthersKept
import Derived.Lib.TrimUEq
import Derived.Lib.ValidLaws
namespace Go.Proofs.YtfonflbpkbibbaaGreatDoor
open Go.RowKit Go.Lib

set_option maxRecDepth 100000 in
set_option maxHeartbeats 1000000 in
theorem refNext_calls (a : Option Addr) (n c : Nat) (f : Nat → Nat) (i : Int) (w : World) (hr : Row8 w a n f) (hn : n ≤ 4611686018427387904) :
    Calls Tryz.prog 86 #[.slice a n c, .int .i64 i] w (Leaves (runeOf (nextZ f n i)) w) := by
  obtain ⟨hf, _, hrow⟩ := hr
  unfold nextZ
  by_cases h0 : i < 0
  · have hd : decide (i < 0) = true := decide_eq_true h0
    rw [if_pos (Or.inl h0)]
    go_enter Tryz.func86, Tryz.ntmps86
    go_wp2
    go_ret2
    exact ⟨rfl, Below.refl _ _⟩
  · have hd : decide (i < 0) = false := decide_eq_false h0
    by_cases h1 : (n : Int) ≤ i
    · have hd1 : decide (i ≥ (n : Int)) = true := decide_eq_true h1
      rw [if_pos (Or.inr h1)]
      go_enter Tryz.func86, Tryz.ntmps86
      go_wp2
      go_ret2
      exact ⟨rfl, Below.refl _ _⟩
    · rw [if_neg (by omega)]
      obtain ⟨k, rfl⟩ : ∃ k : Nat, i = (k : Int) := ⟨i.toNat, by omega⟩
      rcases hrow with h | ⟨b, o, rfl, hcell⟩
      · omega
      rw [Int.toNat_natCast, ← ref_is_nx f n k (by omega) hf]
      exact refNext_in b o c n k f w hf (by omega) (by omega) hcell

def badFrom (f : Nat → Nat) (N : Nat) : Nat → Nat → Int
  | 0, _ => -1
  | g + 1, p => if p < N then (if (nx f N p).2 = 0 then (p : Int) else badFrom f N g (p + (nx f N p).2)) else -1
def badZ (f : Nat → Nat) (N : Nat) : Int := badFrom f N N 0

theorem decodeN_width (n b0 b1 b2 b3 : Nat) : 1 ≤ (decodeN n b0 b1 b2 b3).2 ∧ (decodeN n b0 b1 b2 b3).2 ≤ 4 := by
  unfold decodeN
  repeat' split
  all_goals simp

theorem nx_width (f : Nat → Nat) (N p : Nat) : (nx f N p).2 ≤ 4 := by
  unfold nx
  have := decodeN_width (N - p) (f p) (f (p + 1)) (f (p + 2)) (f (p + 3))
  simp only
  split
  · omega
  · simp

theorem nextZ_at (f : Nat → Nat) (N p : Nat) (h : p < N) : nextZ f N p = nx f N p := by
  unfold nextZ
  rw [if_neg (by omega), Int.toNat_natCast]

set_option maxRecDepth 100000 in
set_option maxHeartbeats 1000000 in
theorem bad_calls (a : Option Addr) (n c : Nat) (f : Nat → Nat) (w : World) (hL : Laid w) (hc : n ≤ c) (hc2 : c ≤ 9223372036854775807) (hr : Row8 w a n f) (hn : n ≤ 4611686018427387904) :
    Calls Tryz.prog 90 #[.slice a n c] w (Leaves (.int .i64 (badZ f n)) w) := by
  have HROW := Lib.hid hr
  obtain ⟨q, hq⟩ : ∃ q, badZ f n = q := ⟨_, rfl⟩
  rw [hq]
  have HQ := Lib.hid hq
  clear hq hr
  go_enter Tryz.func90, Tryz.ntmps90
  go_wp2
  go_loopg [3] n (fun g s wr => ∃ p : Nat, s = .int .i64 p ∧ n ≤ g + p ∧ p ≤ n + 4 ∧ badFrom f n g p = q ∧ Below w.heap.size w wr)
  case atStart => exact ⟨0, rfl, by omega, by omega, HQ.out, Below.refl _ _⟩
  case round =>
    obtain ⟨p, rfl, hg, hp4, hbad, hb⟩ := hrel
    have HG := Lib.hid hg
    have HBAD := Lib.hid hbad
    have HB := Lib.hid hb
    clear hg hbad hb HQ
    by_cases hlt : p < n
    · have hd : decide ((p : Int) < (n : Int)) = true := by simp; omega
      obtain ⟨g', rfl⟩ : ∃ g', gk = g' + 1 := ⟨gk - 1, by have := HG.out; omega⟩
      have hw := nx_width f n p
      obtain ⟨⟨r, z⟩, hrz⟩ : ∃ d, nx f n p = d := ⟨_, rfl⟩
      have hn1 : nextZ f n (p : Int) = (r, z) := by rw [nextZ_at f n p hlt, hrz]
      have hb2 : (if z = 0 then (p : Int) else badFrom f n g' (p + z)) = q := by
        have := HBAD.out
        rw [badFrom, if_pos hlt, hrz] at this
        exact this
      rw [hrz] at hw
      have HN1 := Lib.hid hn1
      have HB2 := Lib.hid hb2
      have HW := Lib.hid hw
      clear hn1 hb2 hrz hw HBAD
      go_wp2_with fail
      refine (next_calls a n c f (p : Int) wr (hL.below HB.out) (Row8.below HROW.out HB.out) hc hc2).mono ?_
      rintro e w2 ⟨rfl, hb3⟩
      have HB3 := Lib.hid hb3
      clear hb3
      rw [HN1.out]
      unfold runeOf
      by_cases hz : z = 0
      · have hz2 : ((z : Int) == 0) = true := by rw [beq_iff_eq]; omega
        go_wp2
        go_ret
        refine ⟨?_, below_then HB.out HB3.out⟩
        have := HB2.out
        rw [if_pos hz] at this
        rw [← this]
        rfl
      · have hz2 : ((z : Int) == 0) = false := by rw [beq_eq_false_iff_ne]; omega
        have hw4 : z ≤ 4 := HW.out
        go_wp2
        go_roundg g'
        case measure => omega
        case rel =>
          refine ⟨p + z, by go_num, by have := HG.out; omega, by omega, ?_, below_then HB.out HB3.out⟩
          have := HB2.out
          rw [if_neg hz] at this
          exact this
    · have hd : decide ((p : Int) < (n : Int)) = false := by simp; omega
      go_wp2
      go_ret
      refine ⟨?_, HB.out⟩
      have := HBAD.out
      cases gk with
      | zero => rw [badFrom] at this; rw [← this]; rfl
      | succ g => rw [badFrom, if_neg hlt] at this; rw [← this]; rfl

set_option maxRecDepth 100000 in
set_option maxHeartbeats 1000000 in
theorem refBad_calls (a : Option Addr) (n c : Nat) (f : Nat → Nat) (w : World) (hr : Row8 w a n f) (hn : n ≤ 4611686018427387904) :
    Calls Tryz.prog 53 #[.slice a n c] w (Leaves (.int .i64 (badZ f n)) w) := by
  have HROW := Lib.hid hr
  obtain ⟨q, hq⟩ : ∃ q, badZ f n = q := ⟨_, rfl⟩
  rw [hq]
  have HQ := Lib.hid hq
  clear hq hr
  go_enter Tryz.func53, Tryz.ntmps53
  go_wp2
  go_loopg [3] n (fun g s wr => ∃ p : Nat, s = .int .i64 p ∧ n ≤ g + p ∧ p ≤ n + 4 ∧ badFrom f n g p = q ∧ Below w.heap.size w wr)
  case atStart => exact ⟨0, rfl, by omega, by omega, HQ.out, Below.refl _ _⟩
  case round =>
    obtain ⟨p, rfl, hg, hp4, hbad, hb⟩ := hrel
    have HG := Lib.hid hg
    have HBAD := Lib.hid hbad
    have HB := Lib.hid hb
    clear hg hbad hb HQ
    by_cases hlt : p < n
    · have hd : decide ((p : Int) < (n : Int)) = true := by simp; omega
      obtain ⟨g', rfl⟩ : ∃ g', gk = g' + 1 := ⟨gk - 1, by have := HG.out; omega⟩
      have hw := nx_width f n p
      obtain ⟨⟨r, z⟩, hrz⟩ : ∃ d, nx f n p = d := ⟨_, rfl⟩
      have hn1 : nextZ f n (p : Int) = (r, z) := by rw [nextZ_at f n p hlt, hrz]
      have hb2 : (if z = 0 then (p : Int) else badFrom f n g' (p + z)) = q := by
        have := HBAD.out
        rw [badFrom, if_pos hlt, hrz] at this
        exact this
      rw [hrz] at hw
      have HN1 := Lib.hid hn1
      have HB2 := Lib.hid hb2
      have HW := Lib.hid hw
      clear hn1 hb2 hrz hw HBAD
      go_wp2_with fail
      refine (refNext_calls a n c f (p : Int) wr (Row8.below HROW.out HB.out) hn).mono ?_
      rintro e w2 ⟨rfl, hb3⟩
      have HB3 := Lib.hid hb3
      clear hb3
      rw [HN1.out]
      unfold runeOf
      by_cases hz : z = 0
      · have hz2 : ((z : Int) == 0) = true := by rw [beq_iff_eq]; omega
        go_wp2
        go_ret
        refine ⟨?_, below_then HB.out HB3.out⟩
        have := HB2.out
        rw [if_pos hz] at this
        rw [← this]
        rfl
      · have hz2 : ((z : Int) == 0) = false := by rw [beq_eq_false_iff_ne]; omega
        have hw4 : z ≤ 4 := HW.out
        go_wp2
        go_roundg g'
        case measure => omega
        case rel =>
          refine ⟨p + z, by go_num, by have := HG.out; omega, by omega, ?_, below_then HB.out HB3.out⟩
          have := HB2.out
          rw [if_neg hz] at this
          exact this
    · have hd : decide ((p : Int) < (n : Int)) = false := by simp; omega
      go_wp2
      go_ret
      refine ⟨?_, HB.out⟩
      have := HBAD.out
      cases gk with
      | zero => rw [badFrom] at this; rw [← this]; rfl
      | succ g => rw [badFrom, if_neg hlt] at this; rw [← this]; rfl

end Go.Proofs.YtfonflbpkbibbaaGreatDoor
namespace Go.Proofs
open Go.Shelf
def Tryz.lays196_ren : Go.Shelf.Ren := ⟨fun | 196 => 111 | 259 => 139 | n => n, fun | 9 => 9 | 4 => 4 | 3 => 3 | 5 => 5 | 12 => 12 | 119 => 182 | 0 => 0 | 46 => 186 | 139 => 185 | 138 => 184 | 53 => 211 | n => n, fun | 3 => 1 | 4 => 2 | n => n⟩
theorem Tryz.lays196 : Go.Proofs.Lays.n196 Tryz.prog Tryz.lays196_ren := {
  mixed := by kernel_rfl
  f196 := Tryz.func111.trans (congrArg some (by kernel_rfl))
  f259 := Tryz.func139.trans (congrArg some (by kernel_rfl))
  t0 := Tryz.underlying0
  a0 := Tryz.isAgg0
  z0 := Tryz.sizeOf0
  v0 := Tryz.zeroValue0
  t3 := Tryz.underlying3
  a3 := Tryz.isAgg3
  z3 := Tryz.sizeOf3
  v3 := Tryz.zeroValue3
  t4 := Tryz.underlying4
  a4 := Tryz.isAgg4
  z4 := Tryz.sizeOf4
  v4 := Tryz.zeroValue4
  t5 := Tryz.underlying5
  a5 := Tryz.isAgg5
  z5 := Tryz.sizeOf5
  v5 := Tryz.zeroValue5
  t9 := Tryz.underlying9
  a9 := Tryz.isAgg9
  z9 := Tryz.sizeOf9
  v9 := Tryz.zeroValue9
  t12 := Tryz.underlying12
  a12 := Tryz.isAgg12
  z12 := Tryz.sizeOf12
  v12 := Tryz.zeroValue12
  t46 := Tryz.underlying186
  a46 := Tryz.isAgg186
  z46 := Tryz.sizeOf186
  v46 := Tryz.zeroValue186
  t53 := Tryz.underlying211
  a53 := Tryz.isAgg211
  z53 := Tryz.sizeOf211
  v53 := Tryz.zeroValue211
  t119 := Tryz.underlying182
  a119 := Tryz.isAgg182
  z119 := Tryz.sizeOf182
  t138 := Tryz.underlying184
  a138 := Tryz.isAgg184
  z138 := Tryz.sizeOf184
  v138 := Tryz.zeroValue184
  t139 := Tryz.underlying185
  a139 := Tryz.isAgg185
  z139 := Tryz.sizeOf185
  v139 := Tryz.zeroValue185
  g3 := by kernel_rfl
  g4 := by kernel_rfl }
theorem Tryz.utf8_ValidString (s : ByteArray) (w : World) (hs : s.size ≤ 9223372036854775807) (hT : Lib.Utf8Tabs 1 2 w) :
    Calls Tryz.prog 111 #[.string s] w fun e w' => e = .returned (.bool (Lib.validD s.data.toList)) ∧ Go.RowKit.Below w.heap.size w w' := Any.utf8_ValidString Tryz.lays196 s w hs hT
end Go.Proofs
namespace Go.Proofs.YtfonflbpkbibbaaGreatDoor
open Go.RowKit Go.Lib

def beginsB (r : Int) : Bool := inTab firstsT r
def goesB (r : Int) : Bool := inTab furtherT r || inTab firstsT r

/-- A text's bytes as numbers. -/
def fs (l : List UInt8) (i : Nat) : Nat := (l.getD i 0).toNat
def dN (f : Nat → Nat) (N p : Nat) : Nat × Nat := decodeN (N - p) (f p) (f (p + 1)) (f (p + 2)) (f (p + 3))

theorem fs_lt (l : List UInt8) (i : Nat) : fs l i < 256 := (l.getD i 0).toNat_lt

/-- What the range over the text tells: each rune goes on, the first begins. -/
def walkP (f : Nat → Nat) (N : Nat) : Nat → Nat → Bool
  | 0, _ => true
  | g + 1, p => if p < N then (if p = 0 ∧ beginsB (dN f N p).1 = false then false else if goesB (dN f N p).1 = false then false else walkP f N g (p + (dN f N p).2)) else true

theorem decodeN_pos (n b0 b1 b2 b3 : Nat) : 1 ≤ (decodeN n b0 b1 b2 b3).2 := by
  unfold decodeN
  repeat' split
  all_goals simp

def nameP (l : List UInt8) : Bool := !l.isEmpty && validD l && walkP (fs l) l.length l.length 0

theorem iter_below {w w' : World} {k : Nat} {o : Obj} (hb : Below w.heap.size w w') (h : w.heap[k]? = some o) : w'.heap[k]? = some o := by
  rw [hb.block k (Array.getElem?_eq_some_iff.1 h).1, h]

set_option maxRecDepth 100000 in
set_option maxHeartbeats 2000000 in
theorem uname_calls (s : ByteArray) (w : World) (hs : s.size ≤ 1073741824) (hL : Laid w) : Calls Tryz.prog 77 #[.string s] w (Leaves (.bool (nameP s.data.toList)) w) := by
  have hlen : s.data.toList.length = s.size := Array.length_toList
  obtain ⟨q, hq⟩ : ∃ q, nameP s.data.toList = q := ⟨_, rfl⟩
  rw [hq]
  have HQ := Lib.hid hq
  clear hq
  by_cases h0 : s.size = 0
  · have he : s = ⟨#[]⟩ := by
      cases s with
      | mk d => simp [ByteArray.size] at h0; rw [h0]
    subst he
    go_enter Tryz.func77, Tryz.ntmps77
    go_wp2
    go_ret
    exact ⟨by rw [← HQ.out]; rfl, Below.refl _ _⟩
  · have hne0 : s ≠ ⟨#[]⟩ := by
      intro h
      rw [h] at h0
      exact h0 rfl
    have hne1 : s.data.toList.isEmpty = false := by
      cases hc : s.data.toList with
      | nil => rw [hc] at hlen; simp at hlen; omega
      | cons => rfl
    have hne : s.toList.isEmpty = false := by rw [Lib.toList_data]; exact hne1
    have hne2 : ¬ s.toList = [] := fun h => by rw [h] at hne; exact absurd hne (by decide)
    have hq2 : nameP s.data.toList = (validD s.data.toList && walkP (fs s.data.toList) s.size s.size 0) := by
      unfold nameP
      rw [hne1, hlen]
      rfl
    have HQ2 := Lib.hid (HQ.out.symm.trans hq2)
    have HVS := Lib.hid (fun W (hb : Below w.heap.size w W) => Tryz.utf8_ValidString s W (by omega) (hL.below hb).1)
    have HL := Lib.hid hL
    clear hq2 HQ hL
    go_enter Tryz.func77, Tryz.ntmps77
    go_wp2_with fail
    refine (HVS.out w (Below.refl _ _)).mono ?_
    rintro e w1 ⟨rfl, hb1⟩
    have HB1 := Lib.hid hb1
    clear hb1
    obtain ⟨v, hv⟩ : ∃ v, validD s.data.toList = v := ⟨_, rfl⟩
    rw [hv]
    have HV := Lib.hid hv
    clear hv
    cases v with
    | false =>
      go_wp2
      go_ret
      exact ⟨by rw [HQ2.out, HV.out]; rfl, HB1.out⟩
    | true =>
      have HQ3 : Hid (q = walkP (fs s.data.toList) s.size s.size 0) := Lib.hid (by rw [HQ2.out, HV.out]; rfl)
      clear HQ2 HV HVS
      have hw1 : w.heap.size ≤ w1.heap.size := HB1.out.size
      go_wp2
      go_loopg [] s.size (fun g wr => ∃ pos : Nat, wr.heap[w1.heap.size]? = some (.stringIter s pos) ∧ s.size ≤ g + pos ∧ q = walkP (fs s.data.toList) s.size g pos ∧ Below w.heap.size w wr)
      case atStart => exact ⟨0, World.iter_heap w1 s 0, by omega, HQ3.out, HB1.out.alloc hw1 _⟩
      case round =>
        obtain ⟨pos, hit, hg, hqw, hb⟩ := hrel
        have HG := Lib.hid hg
        have HQW := Lib.hid hqw
        have HB := Lib.hid hb
        clear hg hqw hb HQ3
        by_cases hp : pos < s.size
        · have hnx : ∀ ty, (Instr.next (.pointer (some ⟨w1.heap.size, 0, none⟩)) true ty).run Tryz.prog wr = _ := fun ty => Lib.run_next_any_at wr w1.heap.size s pos ty hit hp
          have hbw2 := Lib.hid (Lib.below_iterAt HB.out (k := w1.heap.size) (by omega) s (pos + (Utf8.decode s pos).2))
          have hit2 := Lib.hid (Lib.iterAt_heap wr w1.heap.size s pos (pos + (Utf8.decode s pos).2) hit)
          have hdd : Utf8.decode s pos = dN (fs s.data.toList) s.size pos := by rw [Lib.decode_N, hlen]; rfl
          obtain ⟨g', rfl⟩ : ∃ g', gk = g' + 1 := ⟨gk - 1, by have := HG.out; omega⟩
          have hst : q = (if pos = 0 ∧ beginsB (Utf8.decode s pos).1 = false then false else if goesB (Utf8.decode s pos).1 = false then false else walkP (fs s.data.toList) s.size g' (pos + (Utf8.decode s pos).2)) := by
            have := HQW.out
            rw [walkP, if_pos hp, ← hdd] at this
            exact this
          have hwd : 1 ≤ (Utf8.decode s pos).2 := by rw [hdd]; exact (decodeN_pos _ _ _ _ _)
          obtain ⟨⟨r, z⟩, hrz⟩ : ∃ d, Utf8.decode s pos = d := ⟨_, rfl⟩
          simp only [hrz] at hnx hbw2 hit2 hst hwd
          have HST := Lib.hid hst
          clear hst hdd hrz HQW
          by_cases h00 : pos = 0
          · subst h00
            rw [Nat.zero_add] at hbw2 hit2 HST
            go_wp2_with fail
            refine (firsts_calls r _ (HL.out.below hbw2.out).2.2.1).mono ?_
            rintro e w2 ⟨rfl, hb2⟩
            have hbw3 := Lib.hid (below_then hbw2.out hb2)
            have hit2' := Lib.hid (iter_below hb2 hit2.out)
            clear hb2
            obtain ⟨x, hx⟩ : ∃ x, inTab firstsT (r : Int) = x := ⟨_, rfl⟩
            rw [hx]
            have HX : Hid (beginsB r = x) := Lib.hid hx
            clear hx
            cases x with
            | false =>
              go_wp2
              go_ret
              refine ⟨?_, hbw3.out⟩
              rw [HST.out, if_pos ⟨by simp, HX.out⟩]
              rfl
            | true =>
              have hnb : Hid (¬ ((0 : Nat) = 0 ∧ beginsB r = false)) := Lib.hid (fun h => by rw [HX.out] at h; exact absurd h.2 (by decide))
              go_wp2_with fail
              refine (further_calls r _ (HL.out.below hbw3.out).2.2.2 (HL.out.below hbw3.out).2.2.1).mono ?_
              rintro e w3 ⟨rfl, hb3⟩
              have HB3 := Lib.hid hb3
              clear hb3
              have hit3 : w3.heap[w1.heap.size]? = some (.stringIter s z) := iter_below HB3.out hit2'.out
              have HIT3 := Lib.hid hit3
              clear hit3
              obtain ⟨y, hy⟩ : ∃ y, (inTab furtherT (r : Int) || inTab firstsT (r : Int)) = y := ⟨_, rfl⟩
              rw [hy]
              have HY : Hid (goesB r = y) := Lib.hid hy
              clear hy
              cases y with
              | false =>
                go_wp2
                go_ret
                refine ⟨?_, below_then hbw3.out HB3.out⟩
                rw [HST.out, if_neg hnb.out, if_pos HY.out]
                rfl
              | true =>
                go_wp2
                go_roundg g'
                case measure => omega
                case rel => exact ⟨z, HIT3.out, by have := HG.out; omega, by rw [HST.out, if_neg hnb.out, if_neg (by rw [HY.out]; decide)], below_then hbw3.out HB3.out⟩
          · have hz : ((pos : Int) == 0) = false := by rw [beq_eq_false_iff_ne]; omega
            go_wp2_with fail
            refine (further_calls r _ (HL.out.below hbw2.out).2.2.2 (HL.out.below hbw2.out).2.2.1).mono ?_
            rintro e w3 ⟨rfl, hb3⟩
            have HB3 := Lib.hid hb3
            clear hb3
            have hit3 : w3.heap[w1.heap.size]? = some (.stringIter s (pos + z)) := iter_below HB3.out hit2.out
            have HIT3 := Lib.hid hit3
            clear hit3
            obtain ⟨y, hy⟩ : ∃ y, (inTab furtherT (r : Int) || inTab firstsT (r : Int)) = y := ⟨_, rfl⟩
            rw [hy]
            have HY : Hid (goesB r = y) := Lib.hid hy
            clear hy
            cases y with
            | false =>
              go_wp2
              go_ret
              refine ⟨?_, below_then hbw2.out HB3.out⟩
              rw [HST.out, if_neg (fun h => h00 h.1), if_pos HY.out]
              rfl
            | true =>
              go_wp2
              go_roundg g'
              case measure => omega
              case rel => exact ⟨pos + z, HIT3.out, by have := HG.out; omega, by rw [HST.out, if_neg (fun h => h00 h.1), if_neg (by rw [HY.out]; decide)], below_then hbw2.out HB3.out⟩
        · have hnx : ∀ ty, (Instr.next (.pointer (some ⟨w1.heap.size, 0, none⟩)) true ty).run Tryz.prog wr = _ := fun ty => Lib.run_next_end_at wr w1.heap.size s pos ty hit hp
          go_wp2
          go_ret
          refine ⟨?_, HB.out⟩
          rw [HQW.out]
          cases gk with
          | zero => rfl
          | succ g => rw [walkP, if_neg hp]; rfl

end Go.Proofs.YtfonflbpkbibbaaGreatDoor
namespace Go.Proofs.YtfonflbpkbibbaaGreatDoor
set_option linter.unusedVariables false
open Go.RowKit Go.Lib

def errD (d : Nat × Nat) : Bool := d.1 == 65533 && d.2 == 1

theorem errD_iff (d : Nat × Nat) : errD d = true ↔ (d.1 = 65533 ∧ d.2 = 1) := by simp [errD]

/-- A name's walk: each rune is right and goes on; the first begins. -/
def walkW (f : Nat → Nat) (N : Nat) : Nat → Nat → Bool
  | 0, _ => true
  | g + 1, p => if p < N then (if errD (dN f N p) = true then false else if p = 0 ∧ beginsB (dN f N p).1 = false then false else if goesB (dN f N p).1 = false then false else walkW f N g (p + (dN f N p).2)) else true

def nameW (l : List UInt8) : Bool := !l.isEmpty && walkW (fs l) l.length l.length 0

theorem walkW_done (f : Nat → Nat) (N g p : Nat) (h : ¬ p < N) : walkW f N g p = true := by
  cases g with
  | zero => rfl
  | succ g => rw [walkW, if_neg h]

theorem walkP_done (f : Nat → Nat) (N g p : Nat) (h : ¬ p < N) : walkP f N g p = true := by
  cases g with
  | zero => rfl
  | succ g => rw [walkP, if_neg h]

theorem decodeL_at (l : List UInt8) (p : Nat) : decodeL (l.drop p) = dN (fs l) l.length p := by
  rw [decodeL_N, List.length_drop, getD_dropU, getD_dropU, getD_dropU, getD_dropU]
  rfl

theorem valid_at (l : List UInt8) (p : Nat) (h : p < l.length) : validD (l.drop p) = (!errD (dN (fs l) l.length p) && validD (l.drop (p + (dN (fs l) l.length p).2))) := by
  have hne : l.drop p ≠ [] := fun h2 => by have := congrArg List.length h2; simp at this; omega
  rw [validD_step _ hne, decodeL_at, List.drop_drop]
  by_cases he : (dN (fs l) l.length p).1 = 65533 ∧ (dN (fs l) l.length p).2 = 1
  · rw [if_pos he, (errD_iff _).2 he]
    rfl
  · rw [if_neg he]
    have : errD (dN (fs l) l.length p) = false := by
      cases hx : errD (dN (fs l) l.length p) with
      | false => rfl
      | true => exact absurd ((errD_iff _).1 hx) he
    rw [this]
    rfl

theorem name_merge (l : List UInt8) : ∀ (g p : Nat), l.length ≤ g + p → (validD (l.drop p) && walkP (fs l) l.length g p) = walkW (fs l) l.length g p
  | 0, p, h => by
    rw [List.drop_eq_nil_of_le (by omega)]
    rfl
  | g + 1, p, h => by
    by_cases hp : p < l.length
    · have hw := decodeN_pos (l.length - p) (fs l p) (fs l (p + 1)) (fs l (p + 2)) (fs l (p + 3))
      have ih := name_merge l g (p + (dN (fs l) l.length p).2) (by unfold dN; omega)
      rw [valid_at l p hp, walkP, walkW, if_pos hp, if_pos hp]
      cases he : errD (dN (fs l) l.length p) with
      | true => simp
      | false =>
        rw [if_neg (show ¬ false = true by decide)]
        by_cases hb : p = 0 ∧ beginsB (dN (fs l) l.length p).1 = false
        · rw [if_pos hb, if_pos hb]; simp
        · rw [if_neg hb, if_neg hb]
          by_cases hg : goesB (dN (fs l) l.length p).1 = false
          · rw [if_pos hg, if_pos hg]; simp
          · rw [if_neg hg, if_neg hg, ← ih]; simp
    · rw [List.drop_eq_nil_of_le (by omega), walkP_done _ _ _ _ hp, walkW_done _ _ _ _ hp]
      rfl

theorem nameP_eq (l : List UInt8) : nameP l = nameW l := by
  unfold nameP nameW
  have := name_merge l l.length 0 (by omega)
  rw [List.drop_zero] at this
  rw [← this, Bool.and_assoc]

/-! ### Decoding at a place: what it hangs on, how far it goes -/
theorem decodeN_grow (n n' b0 b1 b2 b3 c1 c2 c3 : Nat) (hn : 1 ≤ n) (he : ¬ ((decodeN n b0 b1 b2 b3).1 = 65533 ∧ (decodeN n b0 b1 b2 b3).2 = 1)) (hn' : (decodeN n b0 b1 b2 b3).2 ≤ n')
    (h1 : 1 < (decodeN n b0 b1 b2 b3).2 → c1 = b1) (h2 : 2 < (decodeN n b0 b1 b2 b3).2 → c2 = b2) (h3 : 3 < (decodeN n b0 b1 b2 b3).2 → c3 = b3) : decodeN n' b0 c1 c2 c3 = decodeN n b0 b1 b2 b3 := by
  by_cases a0 : b0 < 128
  · simp only [decodeN, a0, if_true]
  · by_cases a1 : b0 / 32 = 6 ∧ (1 < n ∧ b1 / 64 = 2)
    · by_cases a2 : b0 % 32 * 64 + b1 % 64 ≥ 128
      · have e : decodeN n b0 b1 b2 b3 = (b0 % 32 * 64 + b1 % 64, 2) := by unfold decodeN; rw [if_neg a0, if_pos a1, if_pos a2]
        rw [e] at hn' h1 h2 h3 ⊢
        simp only at hn' h1
        have := h1 (by omega)
        subst this
        unfold decodeN
        rw [if_neg a0, if_pos ⟨a1.1, by omega, a1.2.2⟩, if_pos a2]
      · exact absurd (by unfold decodeN; rw [if_neg a0, if_pos a1, if_neg a2]; exact ⟨rfl, rfl⟩) he
    · by_cases a3 : b0 / 16 = 14 ∧ (1 < n ∧ b1 / 64 = 2) ∧ (2 < n ∧ b2 / 64 = 2)
      · by_cases a4 : b0 % 16 * 4096 + b1 % 64 * 64 + b2 % 64 ≥ 2048 ∧ (b0 % 16 * 4096 + b1 % 64 * 64 + b2 % 64 < 55296 ∨ (57344 ≤ b0 % 16 * 4096 + b1 % 64 * 64 + b2 % 64 ∧ b0 % 16 * 4096 + b1 % 64 * 64 + b2 % 64 ≤ 1114111))
        · have e : decodeN n b0 b1 b2 b3 = (b0 % 16 * 4096 + b1 % 64 * 64 + b2 % 64, 3) := by unfold decodeN; rw [if_neg a0, if_neg a1, if_pos a3, if_pos a4]
          rw [e] at hn' h1 h2 h3 ⊢
          simp only at hn' h1 h2
          have t1 := h1 (by omega)
          have t2 := h2 (by omega)
          subst t1 t2
          unfold decodeN
          rw [if_neg a0, if_neg (by omega), if_pos ⟨a3.1, ⟨by omega, a3.2.1.2⟩, by omega, a3.2.2.2⟩, if_pos a4]
        · exact absurd (by unfold decodeN; rw [if_neg a0, if_neg a1, if_pos a3, if_neg a4]; exact ⟨rfl, rfl⟩) he
      · by_cases a5 : b0 / 8 = 30 ∧ (1 < n ∧ b1 / 64 = 2) ∧ (2 < n ∧ b2 / 64 = 2) ∧ (3 < n ∧ b3 / 64 = 2)
        · by_cases a6 : b0 % 8 * 262144 + b1 % 64 * 4096 + b2 % 64 * 64 + b3 % 64 ≥ 65536 ∧ (b0 % 8 * 262144 + b1 % 64 * 4096 + b2 % 64 * 64 + b3 % 64 < 55296 ∨ (57344 ≤ b0 % 8 * 262144 + b1 % 64 * 4096 + b2 % 64 * 64 + b3 % 64 ∧ b0 % 8 * 262144 + b1 % 64 * 4096 + b2 % 64 * 64 + b3 % 64 ≤ 1114111))
          · have e : decodeN n b0 b1 b2 b3 = (b0 % 8 * 262144 + b1 % 64 * 4096 + b2 % 64 * 64 + b3 % 64, 4) := by unfold decodeN; rw [if_neg a0, if_neg a1, if_neg a3, if_pos a5, if_pos a6]
            rw [e] at hn' h1 h2 h3 ⊢
            simp only at hn' h1 h2 h3
            have t1 := h1 (by omega)
            have t2 := h2 (by omega)
            have t3 := h3 (by omega)
            subst t1 t2 t3
            unfold decodeN
            rw [if_neg a0, if_neg (by omega), if_neg (by omega), if_pos ⟨a5.1, ⟨by omega, a5.2.1.2⟩, ⟨by omega, a5.2.2.1.2⟩, by omega, a5.2.2.2.2⟩, if_pos a6]
          · exact absurd (by unfold decodeN; rw [if_neg a0, if_neg a1, if_neg a3, if_pos a5, if_neg a6]; exact ⟨rfl, rfl⟩) he
        · exact absurd (by unfold decodeN; rw [if_neg a0, if_neg a1, if_neg a3, if_neg a5]; exact ⟨rfl, rfl⟩) he

/-- A rune that decodes right: its width fits; one byte below 128 or several from 128 on. -/
theorem decodeN_shape (n b0 b1 b2 b3 : Nat) (hn : 1 ≤ n) (he : ¬ ((decodeN n b0 b1 b2 b3).1 = 65533 ∧ (decodeN n b0 b1 b2 b3).2 = 1)) :
    (decodeN n b0 b1 b2 b3).2 ≤ n ∧ ((decodeN n b0 b1 b2 b3).2 = 1 → b0 < 128 ∧ (decodeN n b0 b1 b2 b3).1 = b0) ∧
      (1 < (decodeN n b0 b1 b2 b3).2 → 128 ≤ b0 ∧ 128 ≤ b1) ∧ (2 < (decodeN n b0 b1 b2 b3).2 → 128 ≤ b2) ∧ (3 < (decodeN n b0 b1 b2 b3).2 → 128 ≤ b3) := by
  revert he
  unfold decodeN
  repeat' split
  all_goals intro he
  all_goals simp only at he ⊢
  all_goals first
    | (simp at he; done)
    | refine ⟨?_, ?_, ?_, ?_, ?_⟩
  all_goals first
    | omega
    | (intro _; omega)
    | exact fun _ => ⟨by omega, by simp⟩
    | simp

theorem dN_shift (f : Nat → Nat) (N k p : Nat) : dN (fun i => f (i + k)) N p = dN f (N + k) (p + k) := by
  unfold dN
  simp only
  rw [show N + k - (p + k) = N - p by omega, show p + 1 + k = p + k + 1 by omega, show p + 2 + k = p + k + 2 by omega, show p + 3 + k = p + k + 3 by omega]

theorem dN_grow {f f' : Nat → Nat} {N N' p : Nat} (hp : p < N) (he : errD (dN f N p) = false) (hN : p + (dN f N p).2 ≤ N') (hf : ∀ i, i < p + (dN f N p).2 → f' i = f i) : dN f' N' p = dN f N p := by
  have hw := decodeN_pos (N - p) (f p) (f (p + 1)) (f (p + 2)) (f (p + 3))
  have he2 : ¬ ((dN f N p).1 = 65533 ∧ (dN f N p).2 = 1) := fun h => by rw [(errD_iff _).2 h] at he; cases he
  have h0 : f' p = f p := hf p (by unfold dN; omega)
  have := decodeN_grow (N - p) (N' - p) (f p) (f (p + 1)) (f (p + 2)) (f (p + 3)) (f' (p + 1)) (f' (p + 2)) (f' (p + 3)) (by omega) he2 (by unfold dN at hN; omega)
    (fun h => hf _ (by unfold dN; omega)) (fun h => hf _ (by unfold dN; omega)) (fun h => hf _ (by unfold dN; omega))
  unfold dN
  rw [h0]
  exact this

theorem dN_fits {f : Nat → Nat} {N p : Nat} (hp : p < N) (he : errD (dN f N p) = false) : p + (dN f N p).2 ≤ N := by
  have he2 : ¬ ((dN f N p).1 = 65533 ∧ (dN f N p).2 = 1) := fun h => by rw [(errD_iff _).2 h] at he; cases he
  have := (decodeN_shape (N - p) (f p) (f (p + 1)) (f (p + 2)) (f (p + 3)) (by omega) he2).1
  unfold dN
  omega

/-- A rune's own bytes decode as the rune. -/
theorem dN_enc (m : Nat) (f : Nat → Nat) (N p : Nat) (hk : 0 < (encN m).length) (hN : p + (encN m).length ≤ N) (hf : ∀ i, i < (encN m).length → f (p + i) = nth (encN m) i) : dN f N p = (m, (encN m).length) := by
  unfold dN
  unfold encN at hk hN hf ⊢
  by_cases c0 : 1114111 < m ∨ (55296 ≤ m ∧ m ≤ 57343)
  · rw [if_pos c0] at hk; simp at hk
  · rw [if_neg c0] at hk hN hf ⊢
    by_cases c1 : m < 128
    · rw [if_pos c1] at hk hN hf ⊢
      have h0 := hf 0 (by simp)
      simp only [nth, List.getD_cons_zero, Nat.add_zero] at h0
      rw [h0]
      unfold decodeN
      rw [if_pos c1]
      rfl
    · rw [if_neg c1] at hk hN hf ⊢
      by_cases c2 : m < 2048
      · rw [if_pos c2] at hk hN hf ⊢
        have h0 := hf 0 (by simp)
        have h1 := hf 1 (by simp)
        simp only [nth, List.getD_cons_zero, List.getD_cons_succ, Nat.add_zero, List.length_cons, List.length_nil] at h0 h1 hN
        rw [h0, h1]
        unfold decodeN
        rw [if_neg (by omega), if_pos (by omega), if_pos (by omega)]
        simp only [List.length_cons, List.length_nil]
        rw [show (192 + m / 64) % 32 * 64 + (128 + m % 64) % 64 = m by omega]
      · rw [if_neg c2] at hk hN hf ⊢
        by_cases c3 : m < 65536
        · rw [if_pos c3] at hk hN hf ⊢
          have h0 := hf 0 (by simp)
          have h1 := hf 1 (by simp)
          have h2 := hf 2 (by simp)
          simp only [nth, List.getD_cons_zero, List.getD_cons_succ, Nat.add_zero, List.length_cons, List.length_nil] at h0 h1 h2 hN
          rw [h0, h1, h2]
          have hv : (224 + m / 4096) % 16 * 4096 + (128 + m / 64 % 64) % 64 * 64 + (128 + m % 64) % 64 = m := by omega
          unfold decodeN
          rw [if_neg (by omega), if_neg (by omega), if_pos (by omega), if_pos (by rw [hv]; omega), hv]
          rfl
        · rw [if_neg c3] at hk hN hf ⊢
          have h0 := hf 0 (by simp)
          have h1 := hf 1 (by simp)
          have h2 := hf 2 (by simp)
          have h3 := hf 3 (by simp)
          simp only [nth, List.getD_cons_zero, List.getD_cons_succ, Nat.add_zero, List.length_cons, List.length_nil] at h0 h1 h2 h3 hN
          rw [h0, h1, h2, h3]
          have hv : (240 + m / 262144) % 8 * 262144 + (128 + m / 4096 % 64) % 64 * 4096 + (128 + m / 64 % 64) % 64 * 64 + (128 + m % 64) % 64 = m := by omega
          unfold decodeN
          rw [if_neg (by omega), if_neg (by omega), if_neg (by omega), if_pos (by omega), if_pos (by rw [hv]; omega), hv]
          rfl

theorem enc_right (m : Nat) (hk : 0 < (encN m).length) : errD (m, (encN m).length) = false := by
  cases he : errD (m, (encN m).length) with
  | false => rfl
  | true =>
    obtain ⟨h1, h2⟩ := (errD_iff _).1 he
    simp only at h1 h2
    subst h1
    exact absurd h2 (by decide)

end Go.Proofs.YtfonflbpkbibbaaGreatDoor
