/-
 The program's Name, over the library's ValidString and a range over the text. Condition: the tables hold what their initialisers lay.
-/
import Derived.Test.YtocnedpclllbhaaGreatDoorDecode
import Derived.Test.YtocnedpclllbhaaGreatDoorTabs
import Derived.Test.YtocnedpclllbhaaGreatDoorShelf
import Derived.Shelf.Unicode.ValidAny
import Derived.Lib.OthersKept
import Derived.Lib.TrimUEq
namespace Go.Proofs.YtocnedpclllbhaaGreatDoor
open Go.RowKit Go.Lib

/-- What the laid variables hold. -/
def Laid (w : World) : Prop := Lib.Utf8Tabs 1 2 w ∧ TabAt 9 charsT w ∧ TabAt 3 firstsT w ∧ TabAt 4 furtherT w

theorem Laid.below {w w' : World} (h : Laid w) (hb : Below w.heap.size w w') : Laid w' :=
  ⟨⟨fun c hc => cell_below hb (h.1.1 c hc), fun i hi => ⟨cell_below hb (h.1.2 i hi).1, cell_below hb (h.1.2 i hi).2⟩⟩, h.2.1.below hb, h.2.2.1.below hb, h.2.2.2.below hb⟩

/-- The rune at a place of a row of bytes and its width, if XML has it; else 0 and 0. -/
def nx (f : Nat → Nat) (n k : Nat) : Nat × Nat :=
  let d := decodeN (n - k) (f k) (f (k + 1)) (f (k + 2)) (f (k + 3))
  if inTab charsT d.1 = true ∧ ¬ (d.1 = 65533 ∧ d.2 = 1) then d else (0, 0)

def nextZ (f : Nat → Nat) (n : Nat) (at' : Int) : Nat × Nat := if at' < 0 ∨ (n : Int) ≤ at' then (0, 0) else nx f n at'.toNat

set_option maxRecDepth 100000 in
set_option maxHeartbeats 1000000 in
theorem decode_calls (b o c n : Nat) (f : Nat → Nat) (w : World) (hT : Lib.Utf8Tabs 1 2 w) (hf : ∀ i, f i < 256) (hn1 : 1 ≤ n) (hn : n ≤ 9223372036854775807) (hcell : ∀ i, i < n → w.cell? ⟨b, o + i, none⟩ = some (.int .u8 (f i))) :
    Calls Tryz.prog 93 #[.slice (some ⟨b, o, none⟩) n c] w (Leaves (runeOf (decodeN n (f 0) (f 1) (f 2) (f 3))) w) := by
  have hz0 : (0 : Int) < (n : Int) := by omega
  have hd : decide ((0 : Int) < (n : Int)) = true := decide_eq_true hz0
  have k0 : w.cell? ⟨b, o, none⟩ = some (.int .u8 (f 0)) := hcell 0 (by omega)
  have sl := slow_calls b o c n f w hT hf hn1 hn hcell
  have l0 := hf 0
  by_cases h : f 0 < 128
  · have hd2 : decide (((f 0 : Nat) : Int) < 128) = true := by simp; omega
    have he : decodeN n (f 0) (f 1) (f 2) (f 3) = (f 0, 1) := by unfold decodeN; rw [if_pos h]
    rw [he]
    clear sl he hcell hf hT
    go_enter Tryz.func93, Tryz.ntmps93
    go_wp2_with fail
    refine wp_loop_rounds 1 ?_
    rw [rounds_succ]
    go_wp2
    go_ret2
    exact ⟨rfl, Below.refl _ _⟩
  · have hd2 : decide (((f 0 : Nat) : Int) < 128) = false := by simp; omega
    clear hcell hf hT
    go_enter Tryz.func93, Tryz.ntmps93
    go_wp2_with fail
    refine wp_loop_rounds 1 ?_
    rw [rounds_succ]
    go_wp2_with fail
    refine sl.mono ?_
    rintro e w1 ⟨rfl, hb⟩
    have HB := Lib.hid hb
    clear hb
    unfold runeOf
    go_wp2
    go_ret2
    exact ⟨rfl, HB.out⟩

set_option maxRecDepth 100000 in
set_option maxHeartbeats 1000000 in
theorem next_calls (a : Option Addr) (n c : Nat) (f : Nat → Nat) (i : Int) (w : World) (hL : Laid w) (hr : Row8 w a n f) (hc : n ≤ c) (_hc2 : c ≤ 9223372036854775807) :
    Calls Tryz.prog 79 #[.slice a n c, .int .i64 i] w (Leaves (runeOf (nextZ f n i)) w) := by
  obtain ⟨hf, hn, hrow⟩ := hr
  unfold nextZ
  by_cases h0 : i < 0
  · have hd : decide (i < 0) = true := decide_eq_true h0
    rw [if_pos (Or.inl h0)]
    go_enter Tryz.func79, Tryz.ntmps79
    go_wp2
    go_ret2
    exact ⟨rfl, Below.refl _ _⟩
  · have hd : decide (i < 0) = false := decide_eq_false h0
    by_cases h1 : (n : Int) ≤ i
    · have hd1 : decide (i ≥ (n : Int)) = true := decide_eq_true h1
      rw [if_pos (Or.inr h1)]
      go_enter Tryz.func79, Tryz.ntmps79
      go_wp2
      go_ret2
      exact ⟨rfl, Below.refl _ _⟩
    · have hd1 : decide (i ≥ (n : Int)) = false := decide_eq_false h1
      rw [if_neg (by omega)]
      obtain ⟨k, rfl⟩ : ∃ k : Nat, i = (k : Int) := ⟨i.toNat, by omega⟩
      rcases hrow with h | ⟨b, o, rfl, hcell⟩
      · omega
      have dc := fun cc => decode_calls b (o + k) cc (n - k) (fun j => f (k + j)) w hL.1 (fun j => hf _) (by omega) (by omega) (fun j hj => by have := hcell (k + j) (by omega); rwa [← Nat.add_assoc] at this)
      have CH := fun r W (hb : Below w.heap.size w W) => chars_calls r W (hL.2.1.below hb)
      rw [Int.toNat_natCast]
      simp only [Nat.add_zero] at dc
      obtain ⟨⟨r, z⟩, hdec⟩ : ∃ d, decodeN (n - k) (f k) (f (k + 1)) (f (k + 2)) (f (k + 3)) = d := ⟨_, rfl⟩
      obtain ⟨q, hq⟩ : ∃ q, nx f n k = q := ⟨_, rfl⟩
      have HQ : Hid ((if inTab charsT r = true ∧ ¬ (r = 65533 ∧ z = 1) then (r, z) else (0, 0)) = q) := by
        refine Lib.hid ?_
        rw [← hq]
        unfold nx
        rw [hdec]
      rw [hq]
      rw [hdec] at dc
      clear hq
      have hkn : (k : Int) ≤ (n : Int) := by omega
      have DC := Lib.hid dc
      have CHH := Lib.hid CH
      clear hL hcell hdec dc CH hf
      go_enter Tryz.func79, Tryz.ntmps79
      go_wp2_with fail
      refine (DC.out _).mono ?_
      rintro e w1 ⟨rfl, hb⟩
      have HB := Lib.hid hb
      clear hb DC
      unfold runeOf
      by_cases hbad : r = 65533 ∧ z = 1
      · obtain ⟨rfl, rfl⟩ := hbad
        go_wp2
        go_ret2
        refine ⟨?_, HB.out⟩
        have h2 : ((0 : Nat), (0 : Nat)) = q := by simpa using HQ.out
        rw [← h2]
        rfl
      · cases he : ((r : Int) == 65533) with
        | true =>
          have hz : ((z : Int) == 1) = false := by
            rw [beq_eq_false_iff_ne]
            rw [beq_iff_eq] at he
            intro hz
            exact hbad ⟨by omega, by omega⟩
          go_wp2_with fail
          refine (CHH.out r w1 HB.out).mono ?_
          rintro e w2 ⟨rfl, hb2⟩
          have HB2 := Lib.hid hb2
          clear hb2
          obtain ⟨x, hx⟩ : ∃ x, inTab charsT r = x := ⟨_, rfl⟩
          rw [hx]
          have HX := Lib.hid hx
          clear hx
          cases x with
          | true =>
            go_wp2
            go_ret2
            refine ⟨?_, below_then HB.out HB2.out⟩
            have := HQ.out
            rw [if_pos ⟨HX.out, hbad⟩] at this
            rw [← this]
            rfl
          | false =>
            go_wp2
            go_ret2
            refine ⟨?_, below_then HB.out HB2.out⟩
            have := HQ.out
            rw [if_neg (fun h => by rw [HX.out] at h; exact absurd h.1 (by decide))] at this
            rw [← this]
            rfl
        | false =>
          go_wp2_with fail
          refine (CHH.out r w1 HB.out).mono ?_
          rintro e w2 ⟨rfl, hb2⟩
          have HB2 := Lib.hid hb2
          clear hb2
          obtain ⟨x, hx⟩ : ∃ x, inTab charsT r = x := ⟨_, rfl⟩
          rw [hx]
          have HX := Lib.hid hx
          clear hx
          cases x with
          | true =>
            go_wp2
            go_ret2
            refine ⟨?_, below_then HB.out HB2.out⟩
            have := HQ.out
            rw [if_pos ⟨HX.out, hbad⟩] at this
            rw [← this]
            rfl
          | false =>
            go_wp2
            go_ret2
            refine ⟨?_, below_then HB.out HB2.out⟩
            have := HQ.out
            rw [if_neg (fun h => by rw [HX.out] at h; exact absurd h.1 (by decide))] at this
            rw [← this]
            rfl

/-- Each 13 ahead of a 10 left out. -/
def r1 : List UInt8 → List UInt8
  | [] => []
  | b :: t => if b = 13 ∧ t.head? = some 10 then r1 t else b :: r1 t

/-- The library's variable of the search's longest word holds some integer. -/
def MaxLen (w : World) : Prop := ∃ m, w.cell? ⟨5, 0, none⟩ = some (.int .i64 m)
theorem MaxLen.below {w w' : World} (h : MaxLen w) (hb : Below w.heap.size w w') : MaxLen w' := by
  obtain ⟨m, hm⟩ := h
  exact ⟨m, cell_below hb hm⟩

end Go.Proofs.YtocnedpclllbhaaGreatDoor
namespace Go.Proofs
open Go.Shelf
def Tryz.lays196_ren : Go.Shelf.Ren := ⟨fun | 196 => 59 | 259 => 77 | n => n, fun | 9 => 9 | 4 => 4 | 3 => 3 | 5 => 5 | 12 => 12 | 119 => 117 | 0 => 0 | 46 => 121 | 139 => 120 | 138 => 119 | 53 => 151 | n => n, fun | 3 => 1 | 4 => 2 | n => n⟩
theorem Tryz.lays196 : Go.Proofs.Lays.n196 Tryz.prog Tryz.lays196_ren := {
  mixed := by kernel_rfl
  f196 := Tryz.func59.trans (congrArg some (by kernel_rfl))
  f259 := Tryz.func77.trans (congrArg some (by kernel_rfl))
  t0 := Tryz.underlying0
  a0 := Tryz.isAgg0
  z0 := Tryz.sizeOf0
  v0 := Tryz.zeroValue0
  t3 := Tryz.underlying3
  a3 := Tryz.isAgg3
  z3 := Tryz.sizeOf3
  v3 := Tryz.zeroValue3
  t4 := Tryz.underlying4
  a4 := Tryz.isAgg4
  z4 := Tryz.sizeOf4
  v4 := Tryz.zeroValue4
  t5 := Tryz.underlying5
  a5 := Tryz.isAgg5
  z5 := Tryz.sizeOf5
  v5 := Tryz.zeroValue5
  t9 := Tryz.underlying9
  a9 := Tryz.isAgg9
  z9 := Tryz.sizeOf9
  v9 := Tryz.zeroValue9
  t12 := Tryz.underlying12
  a12 := Tryz.isAgg12
  z12 := Tryz.sizeOf12
  v12 := Tryz.zeroValue12
  t46 := Tryz.underlying121
  a46 := Tryz.isAgg121
  z46 := Tryz.sizeOf121
  v46 := Tryz.zeroValue121
  t53 := Tryz.underlying151
  a53 := Tryz.isAgg151
  z53 := Tryz.sizeOf151
  v53 := Tryz.zeroValue151
  t119 := Tryz.underlying117
  a119 := Tryz.isAgg117
  z119 := Tryz.sizeOf117
  t138 := Tryz.underlying119
  a138 := Tryz.isAgg119
  z138 := Tryz.sizeOf119
  v138 := Tryz.zeroValue119
  t139 := Tryz.underlying120
  a139 := Tryz.isAgg120
  z139 := Tryz.sizeOf120
  v139 := Tryz.zeroValue120
  g3 := by kernel_rfl
  g4 := by kernel_rfl }
theorem Tryz.utf8_ValidString (s : ByteArray) (w : World) (hs : s.size ≤ 9223372036854775807) (hT : Lib.Utf8Tabs 1 2 w) :
    Calls Tryz.prog 59 #[.string s] w fun e w' => e = .returned (.bool (Lib.validD s.data.toList)) ∧ Go.RowKit.Below w.heap.size w w' := Any.utf8_ValidString Tryz.lays196 s w hs hT
end Go.Proofs
namespace Go.Proofs.YtocnedpclllbhaaGreatDoor
open Go.RowKit Go.Lib

def beginsB (r : Int) : Bool := inTab firstsT r
def goesB (r : Int) : Bool := inTab furtherT r || inTab firstsT r

/-- A text's bytes as numbers. -/
def fs (l : List UInt8) (i : Nat) : Nat := (l.getD i 0).toNat
def dN (f : Nat → Nat) (N p : Nat) : Nat × Nat := decodeN (N - p) (f p) (f (p + 1)) (f (p + 2)) (f (p + 3))

theorem fs_lt (l : List UInt8) (i : Nat) : fs l i < 256 := (l.getD i 0).toNat_lt

/-- What the range over the text tells: each rune goes on, the first begins. -/
def walkP (f : Nat → Nat) (N : Nat) : Nat → Nat → Bool
  | 0, _ => true
  | g + 1, p => if p < N then (if p = 0 ∧ beginsB (dN f N p).1 = false then false else if goesB (dN f N p).1 = false then false else walkP f N g (p + (dN f N p).2)) else true

theorem decodeN_pos (n b0 b1 b2 b3 : Nat) : 1 ≤ (decodeN n b0 b1 b2 b3).2 := by
  unfold decodeN
  repeat' split
  all_goals simp

def nameP (l : List UInt8) : Bool := !l.isEmpty && validD l && walkP (fs l) l.length l.length 0

theorem iter_below {w w' : World} {k : Nat} {o : Obj} (hb : Below w.heap.size w w') (h : w.heap[k]? = some o) : w'.heap[k]? = some o := by
  rw [hb.block k (Array.getElem?_eq_some_iff.1 h).1, h]

set_option maxRecDepth 100000 in
set_option maxHeartbeats 2000000 in
theorem uname_calls (s : ByteArray) (w : World) (hs : s.size ≤ 1073741824) (hL : Laid w) : Calls Tryz.prog 37 #[.string s] w (Leaves (.bool (nameP s.data.toList)) w) := by
  have hlen : s.data.toList.length = s.size := Array.length_toList
  obtain ⟨q, hq⟩ : ∃ q, nameP s.data.toList = q := ⟨_, rfl⟩
  rw [hq]
  have HQ := Lib.hid hq
  clear hq
  by_cases h0 : s.size = 0
  · have he : s = ⟨#[]⟩ := by
      cases s with
      | mk d => simp [ByteArray.size] at h0; rw [h0]
    subst he
    go_enter Tryz.func37, Tryz.ntmps37
    go_wp2
    go_ret
    exact ⟨by rw [← HQ.out]; rfl, Below.refl _ _⟩
  · have hne0 : s ≠ ⟨#[]⟩ := by
      intro h
      rw [h] at h0
      exact h0 rfl
    have hne1 : s.data.toList.isEmpty = false := by
      cases hc : s.data.toList with
      | nil => rw [hc] at hlen; simp at hlen; omega
      | cons => rfl
    have hne : s.toList.isEmpty = false := by rw [Lib.toList_data]; exact hne1
    have hne2 : ¬ s.toList = [] := fun h => by rw [h] at hne; exact absurd hne (by decide)
    have hq2 : nameP s.data.toList = (validD s.data.toList && walkP (fs s.data.toList) s.size s.size 0) := by
      unfold nameP
      rw [hne1, hlen]
      rfl
    have HQ2 := Lib.hid (HQ.out.symm.trans hq2)
    have HVS := Lib.hid (fun W (hb : Below w.heap.size w W) => Tryz.utf8_ValidString s W (by omega) (hL.below hb).1)
    have HL := Lib.hid hL
    clear hq2 HQ hL
    go_enter Tryz.func37, Tryz.ntmps37
    go_wp2_with fail
    refine (HVS.out w (Below.refl _ _)).mono ?_
    rintro e w1 ⟨rfl, hb1⟩
    have HB1 := Lib.hid hb1
    clear hb1
    obtain ⟨v, hv⟩ : ∃ v, validD s.data.toList = v := ⟨_, rfl⟩
    rw [hv]
    have HV := Lib.hid hv
    clear hv
    cases v with
    | false =>
      go_wp2
      go_ret
      exact ⟨by rw [HQ2.out, HV.out]; rfl, HB1.out⟩
    | true =>
      have HQ3 : Hid (q = walkP (fs s.data.toList) s.size s.size 0) := Lib.hid (by rw [HQ2.out, HV.out]; rfl)
      clear HQ2 HV HVS
      have hw1 : w.heap.size ≤ w1.heap.size := HB1.out.size
      go_wp2
      go_loopg [] s.size (fun g wr => ∃ pos : Nat, wr.heap[w1.heap.size]? = some (.stringIter s pos) ∧ s.size ≤ g + pos ∧ q = walkP (fs s.data.toList) s.size g pos ∧ Below w.heap.size w wr)
      case atStart => exact ⟨0, World.iter_heap w1 s 0, by omega, HQ3.out, HB1.out.alloc hw1 _⟩
      case round =>
        obtain ⟨pos, hit, hg, hqw, hb⟩ := hrel
        have HG := Lib.hid hg
        have HQW := Lib.hid hqw
        have HB := Lib.hid hb
        clear hg hqw hb HQ3
        by_cases hp : pos < s.size
        · have hnx : ∀ ty, (Instr.next (.pointer (some ⟨w1.heap.size, 0, none⟩)) true ty).run Tryz.prog wr = _ := fun ty => Lib.run_next_any_at wr w1.heap.size s pos ty hit hp
          have hbw2 := Lib.hid (Lib.below_iterAt HB.out (k := w1.heap.size) (by omega) s (pos + (Utf8.decode s pos).2))
          have hit2 := Lib.hid (Lib.iterAt_heap wr w1.heap.size s pos (pos + (Utf8.decode s pos).2) hit)
          have hdd : Utf8.decode s pos = dN (fs s.data.toList) s.size pos := by rw [Lib.decode_N, hlen]; rfl
          obtain ⟨g', rfl⟩ : ∃ g', gk = g' + 1 := ⟨gk - 1, by have := HG.out; omega⟩
          have hst : q = (if pos = 0 ∧ beginsB (Utf8.decode s pos).1 = false then false else if goesB (Utf8.decode s pos).1 = false then false else walkP (fs s.data.toList) s.size g' (pos + (Utf8.decode s pos).2)) := by
            have := HQW.out
            rw [walkP, if_pos hp, ← hdd] at this
            exact this
          have hwd : 1 ≤ (Utf8.decode s pos).2 := by rw [hdd]; exact (decodeN_pos _ _ _ _ _)
          obtain ⟨⟨r, z⟩, hrz⟩ : ∃ d, Utf8.decode s pos = d := ⟨_, rfl⟩
          simp only [hrz] at hnx hbw2 hit2 hst hwd
          have HST := Lib.hid hst
          clear hst hdd hrz HQW
          by_cases h00 : pos = 0
          · subst h00
            rw [Nat.zero_add] at hbw2 hit2 HST
            go_wp2_with fail
            refine (firsts_calls r _ (HL.out.below hbw2.out).2.2.1).mono ?_
            rintro e w2 ⟨rfl, hb2⟩
            have hbw3 := Lib.hid (below_then hbw2.out hb2)
            have hit2' := Lib.hid (iter_below hb2 hit2.out)
            clear hb2
            obtain ⟨x, hx⟩ : ∃ x, inTab firstsT (r : Int) = x := ⟨_, rfl⟩
            rw [hx]
            have HX : Hid (beginsB r = x) := Lib.hid hx
            clear hx
            cases x with
            | false =>
              go_wp2
              go_ret
              refine ⟨?_, hbw3.out⟩
              rw [HST.out, if_pos ⟨by simp, HX.out⟩]
              rfl
            | true =>
              have hnb : Hid (¬ ((0 : Nat) = 0 ∧ beginsB r = false)) := Lib.hid (fun h => by rw [HX.out] at h; exact absurd h.2 (by decide))
              go_wp2_with fail
              refine (further_calls r _ (HL.out.below hbw3.out).2.2.2 (HL.out.below hbw3.out).2.2.1).mono ?_
              rintro e w3 ⟨rfl, hb3⟩
              have HB3 := Lib.hid hb3
              clear hb3
              have hit3 : w3.heap[w1.heap.size]? = some (.stringIter s z) := iter_below HB3.out hit2'.out
              have HIT3 := Lib.hid hit3
              clear hit3
              obtain ⟨y, hy⟩ : ∃ y, (inTab furtherT (r : Int) || inTab firstsT (r : Int)) = y := ⟨_, rfl⟩
              rw [hy]
              have HY : Hid (goesB r = y) := Lib.hid hy
              clear hy
              cases y with
              | false =>
                go_wp2
                go_ret
                refine ⟨?_, below_then hbw3.out HB3.out⟩
                rw [HST.out, if_neg hnb.out, if_pos HY.out]
                rfl
              | true =>
                go_wp2
                go_roundg g'
                case measure => omega
                case rel => exact ⟨z, HIT3.out, by have := HG.out; omega, by rw [HST.out, if_neg hnb.out, if_neg (by rw [HY.out]; decide)], below_then hbw3.out HB3.out⟩
          · have hz : ((pos : Int) == 0) = false := by rw [beq_eq_false_iff_ne]; omega
            go_wp2_with fail
            refine (further_calls r _ (HL.out.below hbw2.out).2.2.2 (HL.out.below hbw2.out).2.2.1).mono ?_
            rintro e w3 ⟨rfl, hb3⟩
            have HB3 := Lib.hid hb3
            clear hb3
            have hit3 : w3.heap[w1.heap.size]? = some (.stringIter s (pos + z)) := iter_below HB3.out hit2.out
            have HIT3 := Lib.hid hit3
            clear hit3
            obtain ⟨y, hy⟩ : ∃ y, (inTab furtherT (r : Int) || inTab firstsT (r : Int)) = y := ⟨_, rfl⟩
            rw [hy]
            have HY : Hid (goesB r = y) := Lib.hid hy
            clear hy
            cases y with
            | false =>
              go_wp2
              go_ret
              refine ⟨?_, below_then hbw2.out HB3.out⟩
              rw [HST.out, if_neg (fun h => h00 h.1), if_pos HY.out]
              rfl
            | true =>
              go_wp2
              go_roundg g'
              case measure => omega
              case rel => exact ⟨pos + z, HIT3.out, by have := HG.out; omega, by rw [HST.out, if_neg (fun h => h00 h.1), if_neg (by rw [HY.out]; decide)], below_then hbw2.out HB3.out⟩
        · have hnx : ∀ ty, (Instr.next (.pointer (some ⟨w1.heap.size, 0, none⟩)) true ty).run Tryz.prog wr = _ := fun ty => Lib.run_next_end_at wr w1.heap.size s pos ty hit hp
          go_wp2
          go_ret
          refine ⟨?_, HB.out⟩
          rw [HQW.out]
          cases gk with
          | zero => rfl
          | succ g => rw [walkP, if_neg hp]; rfl

end Go.Proofs.YtocnedpclllbhaaGreatDoor
