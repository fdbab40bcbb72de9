/-
  The program's Name, over the library's ValidString and a range over the text. Condition: the tables hold what their initialisers lay.
-/
import Derived.Shelf.Unicode.ValidAny
import Derived.Test.YtojpjhfafbdpcaaGreatDoorNext
import Derived.Test.YtojpjhfafbdpcaaGreatDoorShelf
import Derived.Lib.OthersKept
import Derived.Lib.TrimUEq
namespace Go.Proofs
open Go.Shelf
def Tryz.lays196_ren : Go.Shelf.Ren := ⟨fun | 196 => 83 | 259 => 105 | n => n, fun | 9 => 9 | 4 => 4 | 3 => 3 | 5 => 5 | 12 => 12 | 119 => 132 | 0 => 0 | 46 => 136 | 139 => 135 | 138 => 134 | 53 => 148 | n => n, fun | 3 => 1 | 4 => 2 | n => n⟩
theorem Tryz.lays196 : Go.Proofs.Lays.n196 Tryz.prog Tryz.lays196_ren := {
  mixed := by kernel_rfl
  f196 := Tryz.func83.trans (congrArg some (by kernel_rfl))
  f259 := Tryz.func105.trans (congrArg some (by kernel_rfl))
  t0 := Tryz.underlying0
  a0 := Tryz.isAgg0
  z0 := Tryz.sizeOf0
  v0 := Tryz.zeroValue0
  t3 := Tryz.underlying3
  a3 := Tryz.isAgg3
  z3 := Tryz.sizeOf3
  v3 := Tryz.zeroValue3
  t4 := Tryz.underlying4
  a4 := Tryz.isAgg4
  z4 := Tryz.sizeOf4
  v4 := Tryz.zeroValue4
  t5 := Tryz.underlying5
  a5 := Tryz.isAgg5
  z5 := Tryz.sizeOf5
  v5 := Tryz.zeroValue5
  t9 := Tryz.underlying9
  a9 := Tryz.isAgg9
  z9 := Tryz.sizeOf9
  v9 := Tryz.zeroValue9
  t12 := Tryz.underlying12
  a12 := Tryz.isAgg12
  z12 := Tryz.sizeOf12
  v12 := Tryz.zeroValue12
  t46 := Tryz.underlying136
  a46 := Tryz.isAgg136
  z46 := Tryz.sizeOf136
  v46 := Tryz.zeroValue136
  t53 := Tryz.underlying148
  a53 := Tryz.isAgg148
  z53 := Tryz.sizeOf148
  v53 := Tryz.zeroValue148
  t119 := Tryz.underlying132
  a119 := Tryz.isAgg132
  z119 := Tryz.sizeOf132
  t138 := Tryz.underlying134
  a138 := Tryz.isAgg134
  z138 := Tryz.sizeOf134
  v138 := Tryz.zeroValue134
  t139 := Tryz.underlying135
  a139 := Tryz.isAgg135
  z139 := Tryz.sizeOf135
  v139 := Tryz.zeroValue135
  g3 := by kernel_rfl
  g4 := by kernel_rfl }
theorem Tryz.utf8_ValidString (s : ByteArray) (w : World) (hs : s.size ≤ 9223372036854775807) (hT : Lib.Utf8Tabs 1 2 w) :
    Calls Tryz.prog 83 #[.string s] w fun e w' => e = .returned (.bool (Lib.validD s.data.toList)) ∧ Go.RowKit.Below w.heap.size w w' := Any.utf8_ValidString Tryz.lays196 s w hs hT
end Go.Proofs
namespace Go.Proofs.YtojpjhfafbdpcaaGreatDoor
open Go.RowKit Go.Lib

def beginsB (r : Int) : Bool := inTab firstsT r
def goesB (r : Int) : Bool := inTab furtherT r || inTab firstsT r

/-- A text's bytes as numbers. -/
def fs (l : List UInt8) (i : Nat) : Nat := (l.getD i 0).toNat
def dN (f : Nat → Nat) (N p : Nat) : Nat × Nat := decodeN (N - p) (f p) (f (p + 1)) (f (p + 2)) (f (p + 3))

theorem fs_lt (l : List UInt8) (i : Nat) : fs l i < 256 := (l.getD i 0).toNat_lt

/-- What the range over the text tells: each rune goes on, the first begins. -/
def walkP (f : Nat → Nat) (N : Nat) : Nat → Nat → Bool
  | 0, _ => true
  | g + 1, p => if p < N then (if p = 0 ∧ beginsB (dN f N p).1 = false then false else if goesB (dN f N p).1 = false then false else walkP f N g (p + (dN f N p).2)) else true

theorem decodeN_pos (n b0 b1 b2 b3 : Nat) : 1 ≤ (decodeN n b0 b1 b2 b3).2 := by
  unfold decodeN
  repeat' split
  all_goals simp

def nameP (l : List UInt8) : Bool := !l.isEmpty && validD l && walkP (fs l) l.length l.length 0

theorem iter_below {w w' : World} {k : Nat} {o : Obj} (hb : Below w.heap.size w w') (h : w.heap[k]? = some o) : w'.heap[k]? = some o := by
  rw [hb.block k (Array.getElem?_eq_some_iff.1 h).1, h]

set_option maxRecDepth 100000 in
set_option maxHeartbeats 2000000 in
theorem uname_calls (s : ByteArray) (w : World) (hs : s.size ≤ 1073741824) (hL : Laid w) : Calls Tryz.prog 61 #[.string s] w (Leaves (.bool (nameP s.data.toList)) w) := by
  have hlen : s.data.toList.length = s.size := Array.length_toList
  obtain ⟨q, hq⟩ : ∃ q, nameP s.data.toList = q := ⟨_, rfl⟩
  rw [hq]
  have HQ := Lib.hid hq
  clear hq
  by_cases h0 : s.size = 0
  · have he : s = ⟨#[]⟩ := by
      cases s with
      | mk d => simp [ByteArray.size] at h0; rw [h0]
    subst he
    go_enter Tryz.func61, Tryz.ntmps61
    go_wp2
    go_ret
    exact ⟨by rw [← HQ.out]; rfl, Below.refl _ _⟩
  · have hne0 : s ≠ ⟨#[]⟩ := by
      intro h
      rw [h] at h0
      exact h0 rfl
    have hne1 : s.data.toList.isEmpty = false := by
      cases hc : s.data.toList with
      | nil => rw [hc] at hlen; simp at hlen; omega
      | cons => rfl
    have hne : s.toList.isEmpty = false := by rw [Lib.toList_data]; exact hne1
    have hne2 : ¬ s.toList = [] := fun h => by rw [h] at hne; exact absurd hne (by decide)
    have hq2 : nameP s.data.toList = (validD s.data.toList && walkP (fs s.data.toList) s.size s.size 0) := by
      unfold nameP
      rw [hne1, hlen]
      rfl
    have HQ2 := Lib.hid (HQ.out.symm.trans hq2)
    have HVS := Lib.hid (fun W (hb : Below w.heap.size w W) => Tryz.utf8_ValidString s W (by omega) (hL.below hb).1)
    have HL := Lib.hid hL
    clear hq2 HQ hL
    go_enter Tryz.func61, Tryz.ntmps61
    go_wp2_with fail
    refine (HVS.out w (Below.refl _ _)).mono ?_
    rintro e w1 ⟨rfl, hb1⟩
    have HB1 := Lib.hid hb1
    clear hb1
    obtain ⟨v, hv⟩ : ∃ v, validD s.data.toList = v := ⟨_, rfl⟩
    rw [hv]
    have HV := Lib.hid hv
    clear hv
    cases v with
    | false =>
      go_wp2
      go_ret
      exact ⟨by rw [HQ2.out, HV.out]; rfl, HB1.out⟩
    | true =>
      have HQ3 : Hid (q = walkP (fs s.data.toList) s.size s.size 0) := Lib.hid (by rw [HQ2.out, HV.out]; rfl)
      clear HQ2 HV HVS
      have hw1 : w.heap.size ≤ w1.heap.size := HB1.out.size
      go_wp2
      go_loopg [] s.size (fun g wr => ∃ pos : Nat, wr.heap[w1.heap.size]? = some (.stringIter s pos) ∧ s.size ≤ g + pos ∧ q = walkP (fs s.data.toList) s.size g pos ∧ Below w.heap.size w wr)
      case atStart => exact ⟨0, World.iter_heap w1 s 0, by omega, HQ3.out, HB1.out.alloc hw1 _⟩
      case round =>
        obtain ⟨pos, hit, hg, hqw, hb⟩ := hrel
        have HG := Lib.hid hg
        have HQW := Lib.hid hqw
        have HB := Lib.hid hb
        clear hg hqw hb HQ3
        by_cases hp : pos < s.size
        · have hnx : ∀ ty, (Instr.next (.pointer (some ⟨w1.heap.size, 0, none⟩)) true ty).run Tryz.prog wr = _ := fun ty => Lib.run_next_any_at wr w1.heap.size s pos ty hit hp
          have hbw2 := Lib.hid (Lib.below_iterAt HB.out (k := w1.heap.size) (by omega) s (pos + (Utf8.decode s pos).2))
          have hit2 := Lib.hid (Lib.iterAt_heap wr w1.heap.size s pos (pos + (Utf8.decode s pos).2) hit)
          have hdd : Utf8.decode s pos = dN (fs s.data.toList) s.size pos := by rw [Lib.decode_N, hlen]; rfl
          obtain ⟨g', rfl⟩ : ∃ g', gk = g' + 1 := ⟨gk - 1, by have := HG.out; omega⟩
          have hst : q = (if pos = 0 ∧ beginsB (Utf8.decode s pos).1 = false then false else if goesB (Utf8.decode s pos).1 = false then false else walkP (fs s.data.toList) s.size g' (pos + (Utf8.decode s pos).2)) := by
            have := HQW.out
            rw [walkP, if_pos hp, ← hdd] at this
            exact this
          have hwd : 1 ≤ (Utf8.decode s pos).2 := by rw [hdd]; exact (decodeN_pos _ _ _ _ _)
          obtain ⟨⟨r, z⟩, hrz⟩ : ∃ d, Utf8.decode s pos = d := ⟨_, rfl⟩
          simp only [hrz] at hnx hbw2 hit2 hst hwd
          have HST := Lib.hid hst
          clear hst hdd hrz HQW
          by_cases h00 : pos = 0
          · subst h00
            rw [Nat.zero_add] at hbw2 hit2 HST
            go_wp2_with fail
            refine (firsts_calls r _ (HL.out.below hbw2.out).2.2.1).mono ?_
            rintro e w2 ⟨rfl, hb2⟩
            have hbw3 := Lib.hid (below_then hbw2.out hb2)
            have hit2' := Lib.hid (iter_below hb2 hit2.out)
            clear hb2
            obtain ⟨x, hx⟩ : ∃ x, inTab firstsT (r : Int) = x := ⟨_, rfl⟩
            rw [hx]
            have HX : Hid (beginsB r = x) := Lib.hid hx
            clear hx
            cases x with
            | false =>
              go_wp2
              go_ret
              refine ⟨?_, hbw3.out⟩
              rw [HST.out, if_pos ⟨by simp, HX.out⟩]
              rfl
            | true =>
              have hnb : Hid (¬ ((0 : Nat) = 0 ∧ beginsB r = false)) := Lib.hid (fun h => by rw [HX.out] at h; exact absurd h.2 (by decide))
              go_wp2_with fail
              refine (further_calls r _ (HL.out.below hbw3.out).2.2.2 (HL.out.below hbw3.out).2.2.1).mono ?_
              rintro e w3 ⟨rfl, hb3⟩
              have HB3 := Lib.hid hb3
              clear hb3
              have hit3 : w3.heap[w1.heap.size]? = some (.stringIter s z) := iter_below HB3.out hit2'.out
              have HIT3 := Lib.hid hit3
              clear hit3
              obtain ⟨y, hy⟩ : ∃ y, (inTab furtherT (r : Int) || inTab firstsT (r : Int)) = y := ⟨_, rfl⟩
              rw [hy]
              have HY : Hid (goesB r = y) := Lib.hid hy
              clear hy
              cases y with
              | false =>
                go_wp2
                go_ret
                refine ⟨?_, below_then hbw3.out HB3.out⟩
                rw [HST.out, if_neg hnb.out, if_pos HY.out]
                rfl
              | true =>
                go_wp2
                go_roundg g'
                case measure => omega
                case rel => exact ⟨z, HIT3.out, by have := HG.out; omega, by rw [HST.out, if_neg hnb.out, if_neg (by rw [HY.out]; decide)], below_then hbw3.out HB3.out⟩
          · have hz : ((pos : Int) == 0) = false := by rw [beq_eq_false_iff_ne]; omega
            go_wp2_with fail
            refine (further_calls r _ (HL.out.below hbw2.out).2.2.2 (HL.out.below hbw2.out).2.2.1).mono ?_
            rintro e w3 ⟨rfl, hb3⟩
            have HB3 := Lib.hid hb3
            clear hb3
            have hit3 : w3.heap[w1.heap.size]? = some (.stringIter s (pos + z)) := iter_below HB3.out hit2.out
            have HIT3 := Lib.hid hit3
            clear hit3
            obtain ⟨y, hy⟩ : ∃ y, (inTab furtherT (r : Int) || inTab firstsT (r : Int)) = y := ⟨_, rfl⟩
            rw [hy]
            have HY : Hid (goesB r = y) := Lib.hid hy
            clear hy
            cases y with
            | false =>
              go_wp2
              go_ret
              refine ⟨?_, below_then hbw2.out HB3.out⟩
              rw [HST.out, if_neg (fun h => h00 h.1), if_pos HY.out]
              rfl
            | true =>
              go_wp2
              go_roundg g'
              case measure => omega
              case rel => exact ⟨pos + z, HIT3.out, by have := HG.out; omega, by rw [HST.out, if_neg (fun h => h00 h.1), if_neg (by rw [HY.out]; decide)], below_then hbw2.out HB3.out⟩
        · have hnx : ∀ ty, (Instr.next (.pointer (some ⟨w1.heap.size, 0, none⟩)) true ty).run Tryz.prog wr = _ := fun ty => Lib.run_next_end_at wr w1.heap.size s pos ty hit hp
          go_wp2
          go_ret
          refine ⟨?_, HB.out⟩
          rw [HQW.out]
          cases gk with
          | zero => rfl
          | succ g => rw [walkP, if_neg hp]; rfl

end Go.Proofs.YtojpjhfafbdpcaaGreatDoor
