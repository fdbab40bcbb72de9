/-
 The program's Trim, over the library's TrimFunc, and the reference's: the same text without the blanks at both ends.
-/
import Derived.Test.YtjpkkflhcjjefaaGreatDoorDecode
import Derived.Shelf.Unicode.ValidAny
import Derived.Test.YtjpkkflhcjjefaaGreatDoorShelf
import Derived.Lib.OthersKept
import Derived.Lib.TrimUEq
import Derived.Lib.ConvBytes
import Derived.Laws.IdiomStrings
import Derived.OwnWalk
import Derived.Maps.AppendAt
import Derived.Shelf.GgClosure.StringsTrimFunc
import Derived.Lib.TrimAscii
import Derived.Test.YtjpkkflhcjjefaaGreatDoorRefTabs
namespace Go.Proofs.YtjpkkflhcjjefaaGreatDoor
open Go.RowKit
set_option maxRecDepth 100000
set_option maxHeartbeats 32000000
theorem under39 : Tryz.prog.underlying 160 = some (.array 5 158) := by kernel_rfl
theorem under40 : Tryz.prog.underlying 159 = some (.array 15 158) := by kernel_rfl
theorem index_chars (i : Nat) (p : Int × Int) (hp : charsT[i]? = some p) (w : World) : (Instr.index 160 (.agg (flatT charsT).toArray) (.int .i64 (i : Int))).run Tryz.prog w = .ok (.agg #[.int .i32 p.1, .int .i32 p.2]) w := by
 have x0 : ∀ w : World, (Instr.index 160 (.agg (flatT charsT).toArray) (.int .i64 0)).run Tryz.prog w = .ok (.agg #[.int .i32 9, .int .i32 10]) w := fun _ => by kernel_rfl
 have x1 : ∀ w : World, (Instr.index 160 (.agg (flatT charsT).toArray) (.int .i64 1)).run Tryz.prog w = .ok (.agg #[.int .i32 13, .int .i32 13]) w := fun _ => by kernel_rfl
 have x2 : ∀ w : World, (Instr.index 160 (.agg (flatT charsT).toArray) (.int .i64 2)).run Tryz.prog w = .ok (.agg #[.int .i32 32, .int .i32 55295]) w := fun _ => by kernel_rfl
 have x3 : ∀ w : World, (Instr.index 160 (.agg (flatT charsT).toArray) (.int .i64 3)).run Tryz.prog w = .ok (.agg #[.int .i32 57344, .int .i32 65533]) w := fun _ => by kernel_rfl
 have x4 : ∀ w : World, (Instr.index 160 (.agg (flatT charsT).toArray) (.int .i64 4)).run Tryz.prog w = .ok (.agg #[.int .i32 65536, .int .i32 1114111]) w := fun _ => by kernel_rfl
 have hi : i < 5 := by
  rcases Nat.lt_or_ge i 5 with h | h
  ·exact h
  ·rw [List.getElem?_eq_none (show charsT.length ≤ i from h)] at hp
   cases hp
 rcases (show i = 0 ∨ i = 1 ∨ i = 2 ∨ i = 3 ∨ i = 4 from by omega) with rfl | rfl | rfl | rfl | rfl
 ·cases hp; exact x0 w
 ·cases hp; exact x1 w
 ·cases hp; exact x2 w
 ·cases hp; exact x3 w
 ·cases hp; exact x4 w
theorem chars_calls (r : Int) (w : World) (hT : TabAt 9 charsT w) : Calls Tryz.prog 142 #[.int .i32 r] w (Leaves (.bool (inTab charsT r)) w) := by
 have ix := index_chars
 obtain ⟨fl, hfl⟩ : ∃ fl, flatT charsT = fl := ⟨_, rfl⟩
 have hlen : fl.length = 10 := by rw [← hfl]; rfl
 unfold TabAt at hT
 rw [hfl] at hT ix
 go_enter Tryz.func142, Tryz.ntmps142
 go_wp2_with (refine wpList_load_mid rfl 160 _ rfl 9 0 rfl fl _ hT under39 rfl (by rw [hlen]; kernel_rfl) ?_)
 go_loopg [6] 5 (fun g s wr => ∃ i : Nat, s = .int .i64 i ∧ g + i = 5 ∧ inTab charsT r = inTab (charsT.drop i) r ∧ Below w.heap.size w wr)
 case atStart => exact ⟨0, rfl, rfl, rfl, Below.refl _ _⟩
 case round =>
  obtain ⟨i, rfl, hg, ht, hb⟩ := hrel
  have HG := Lib.hid hg
  have HT := Lib.hid ht
  have HB := Lib.hid hb
  clear hg ht hb
  by_cases hlt : i < 5
  ·have hd : decide ((i : Int) < 5) = true := by simp; omega
   obtain ⟨⟨a, b⟩, hp⟩ : ∃ p, charsT[i]? = some p := ⟨_, List.getElem?_eq_getElem (show i < charsT.length from hlt)⟩
   have ix2 := ix i (a, b) hp
   have HP := Lib.hid hp
   clear hp ix
   go_wp2_with fail
   refine (holds_pair (a, b) r _).mono ?_
   rintro e w2 ⟨rfl, hb2⟩
   have HB2 := Lib.hid hb2
   clear hb2
   cases hin : inPair r (a, b) with
   | true =>
    go_wp2
    go_ret
    refine ⟨by rw [HT.out, inTab_cons HP.out, hin]; rfl, ?_⟩
    exact below_then (HB.out.alloc HB.out.size _) HB2.out
   | false =>
    go_wp2
    go_roundg (gk - 1)
    case measure => have := HG.out; omega
    case rel => exact ⟨i + 1, by go_num, by have := HG.out; omega, by rw [HT.out, inTab_cons HP.out, hin]; rfl, below_then (HB.out.alloc HB.out.size _) HB2.out⟩
  ·have hd : decide ((i : Int) < 5) = false := by simp; omega
   have hi : i = 5 := by have := HG.out; omega
   have h0 : inTab (charsT.drop i) r = false := by rw [hi]; rfl
   have H0 := Lib.hid h0
   clear h0 ix
   go_wp2
   go_ret
   exact ⟨by rw [HT.out, H0.out]; rfl, HB.out⟩
theorem index_firsts (i : Nat) (p : Int × Int) (hp : firstsT[i]? = some p) (w : World) : (Instr.index 159 (.agg (flatT firstsT).toArray) (.int .i64 (i : Int))).run Tryz.prog w = .ok (.agg #[.int .i32 p.1, .int .i32 p.2]) w := by
 have x0 : ∀ w : World, (Instr.index 159 (.agg (flatT firstsT).toArray) (.int .i64 0)).run Tryz.prog w = .ok (.agg #[.int .i32 65, .int .i32 90]) w := fun _ => by kernel_rfl
 have x1 : ∀ w : World, (Instr.index 159 (.agg (flatT firstsT).toArray) (.int .i64 1)).run Tryz.prog w = .ok (.agg #[.int .i32 95, .int .i32 95]) w := fun _ => by kernel_rfl
 have x2 : ∀ w : World, (Instr.index 159 (.agg (flatT firstsT).toArray) (.int .i64 2)).run Tryz.prog w = .ok (.agg #[.int .i32 97, .int .i32 122]) w := fun _ => by kernel_rfl
 have x3 : ∀ w : World, (Instr.index 159 (.agg (flatT firstsT).toArray) (.int .i64 3)).run Tryz.prog w = .ok (.agg #[.int .i32 192, .int .i32 214]) w := fun _ => by kernel_rfl
 have x4 : ∀ w : World, (Instr.index 159 (.agg (flatT firstsT).toArray) (.int .i64 4)).run Tryz.prog w = .ok (.agg #[.int .i32 216, .int .i32 246]) w := fun _ => by kernel_rfl
 have x5 : ∀ w : World, (Instr.index 159 (.agg (flatT firstsT).toArray) (.int .i64 5)).run Tryz.prog w = .ok (.agg #[.int .i32 248, .int .i32 767]) w := fun _ => by kernel_rfl
 have x6 : ∀ w : World, (Instr.index 159 (.agg (flatT firstsT).toArray) (.int .i64 6)).run Tryz.prog w = .ok (.agg #[.int .i32 880, .int .i32 893]) w := fun _ => by kernel_rfl
 have x7 : ∀ w : World, (Instr.index 159 (.agg (flatT firstsT).toArray) (.int .i64 7)).run Tryz.prog w = .ok (.agg #[.int .i32 895, .int .i32 8191]) w := fun _ => by kernel_rfl
 have x8 : ∀ w : World, (Instr.index 159 (.agg (flatT firstsT).toArray) (.int .i64 8)).run Tryz.prog w = .ok (.agg #[.int .i32 8204, .int .i32 8205]) w := fun _ => by kernel_rfl
 have x9 : ∀ w : World, (Instr.index 159 (.agg (flatT firstsT).toArray) (.int .i64 9)).run Tryz.prog w = .ok (.agg #[.int .i32 8304, .int .i32 8591]) w := fun _ => by kernel_rfl
 have x10 : ∀ w : World, (Instr.index 159 (.agg (flatT firstsT).toArray) (.int .i64 10)).run Tryz.prog w = .ok (.agg #[.int .i32 11264, .int .i32 12271]) w := fun _ => by kernel_rfl
 have x11 : ∀ w : World, (Instr.index 159 (.agg (flatT firstsT).toArray) (.int .i64 11)).run Tryz.prog w = .ok (.agg #[.int .i32 12289, .int .i32 55295]) w := fun _ => by kernel_rfl
 have x12 : ∀ w : World, (Instr.index 159 (.agg (flatT firstsT).toArray) (.int .i64 12)).run Tryz.prog w = .ok (.agg #[.int .i32 63744, .int .i32 64975]) w := fun _ => by kernel_rfl
 have x13 : ∀ w : World, (Instr.index 159 (.agg (flatT firstsT).toArray) (.int .i64 13)).run Tryz.prog w = .ok (.agg #[.int .i32 65008, .int .i32 65533]) w := fun _ => by kernel_rfl
 have x14 : ∀ w : World, (Instr.index 159 (.agg (flatT firstsT).toArray) (.int .i64 14)).run Tryz.prog w = .ok (.agg #[.int .i32 65536, .int .i32 983039]) w := fun _ => by kernel_rfl
 have hi : i < 15 := by
  rcases Nat.lt_or_ge i 15 with h | h
  ·exact h
  ·rw [List.getElem?_eq_none (show firstsT.length ≤ i from h)] at hp
   cases hp
 rcases (show i = 0 ∨ i = 1 ∨ i = 2 ∨ i = 3 ∨ i = 4 ∨ i = 5 ∨ i = 6 ∨ i = 7 ∨ i = 8 ∨ i = 9 ∨ i = 10 ∨ i = 11 ∨ i = 12 ∨ i = 13 ∨ i = 14 from by omega) with rfl | rfl | rfl | rfl | rfl | rfl | rfl | rfl | rfl | rfl | rfl | rfl | rfl | rfl | rfl
 ·cases hp; exact x0 w
 ·cases hp; exact x1 w
 ·cases hp; exact x2 w
 ·cases hp; exact x3 w
 ·cases hp; exact x4 w
 ·cases hp; exact x5 w
 ·cases hp; exact x6 w
 ·cases hp; exact x7 w
 ·cases hp; exact x8 w
 ·cases hp; exact x9 w
 ·cases hp; exact x10 w
 ·cases hp; exact x11 w
 ·cases hp; exact x12 w
 ·cases hp; exact x13 w
 ·cases hp; exact x14 w
theorem firsts_calls (r : Int) (w : World) (hT : TabAt 3 firstsT w) : Calls Tryz.prog 83 #[.int .i32 r] w (Leaves (.bool (inTab firstsT r)) w) := by
 have ix := index_firsts
 obtain ⟨fl, hfl⟩ : ∃ fl, flatT firstsT = fl := ⟨_, rfl⟩
 have hlen : fl.length = 30 := by rw [← hfl]; rfl
 unfold TabAt at hT
 rw [hfl] at hT ix
 go_enter Tryz.func83, Tryz.ntmps83
 go_wp2_with (refine wpList_load_mid rfl 159 _ rfl 3 0 rfl fl _ hT under40 rfl (by rw [hlen]; kernel_rfl) ?_)
 go_loopg [6] 15 (fun g s wr => ∃ i : Nat, s = .int .i64 i ∧ g + i = 15 ∧ inTab firstsT r = inTab (firstsT.drop i) r ∧ Below w.heap.size w wr)
 case atStart => exact ⟨0, rfl, rfl, rfl, Below.refl _ _⟩
 case round =>
  obtain ⟨i, rfl, hg, ht, hb⟩ := hrel
  have HG := Lib.hid hg
  have HT := Lib.hid ht
  have HB := Lib.hid hb
  clear hg ht hb
  by_cases hlt : i < 15
  ·have hd : decide ((i : Int) < 15) = true := by simp; omega
   obtain ⟨⟨a, b⟩, hp⟩ : ∃ p, firstsT[i]? = some p := ⟨_, List.getElem?_eq_getElem (show i < firstsT.length from hlt)⟩
   have ix2 := ix i (a, b) hp
   have HP := Lib.hid hp
   clear hp ix
   go_wp2_with fail
   refine (holds_pair (a, b) r _).mono ?_
   rintro e w2 ⟨rfl, hb2⟩
   have HB2 := Lib.hid hb2
   clear hb2
   cases hin : inPair r (a, b) with
   | true =>
    go_wp2
    go_ret
    refine ⟨by rw [HT.out, inTab_cons HP.out, hin]; rfl, ?_⟩
    exact below_then (HB.out.alloc HB.out.size _) HB2.out
   | false =>
    go_wp2
    go_roundg (gk - 1)
    case measure => have := HG.out; omega
    case rel => exact ⟨i + 1, by go_num, by have := HG.out; omega, by rw [HT.out, inTab_cons HP.out, hin]; rfl, below_then (HB.out.alloc HB.out.size _) HB2.out⟩
  ·have hd : decide ((i : Int) < 15) = false := by simp; omega
   have hi : i = 15 := by have := HG.out; omega
   have h0 : inTab (firstsT.drop i) r = false := by rw [hi]; rfl
   have H0 := Lib.hid h0
   clear h0 ix
   go_wp2
   go_ret
   exact ⟨by rw [HT.out, H0.out]; rfl, HB.out⟩
theorem index_further (i : Nat) (p : Int × Int) (hp : furtherT[i]? = some p) (w : World) : (Instr.index 160 (.agg (flatT furtherT).toArray) (.int .i64 (i : Int))).run Tryz.prog w = .ok (.agg #[.int .i32 p.1, .int .i32 p.2]) w := by
 have x0 : ∀ w : World, (Instr.index 160 (.agg (flatT furtherT).toArray) (.int .i64 0)).run Tryz.prog w = .ok (.agg #[.int .i32 45, .int .i32 46]) w := fun _ => by kernel_rfl
 have x1 : ∀ w : World, (Instr.index 160 (.agg (flatT furtherT).toArray) (.int .i64 1)).run Tryz.prog w = .ok (.agg #[.int .i32 48, .int .i32 57]) w := fun _ => by kernel_rfl
 have x2 : ∀ w : World, (Instr.index 160 (.agg (flatT furtherT).toArray) (.int .i64 2)).run Tryz.prog w = .ok (.agg #[.int .i32 183, .int .i32 183]) w := fun _ => by kernel_rfl
 have x3 : ∀ w : World, (Instr.index 160 (.agg (flatT furtherT).toArray) (.int .i64 3)).run Tryz.prog w = .ok (.agg #[.int .i32 768, .int .i32 879]) w := fun _ => by kernel_rfl
 have x4 : ∀ w : World, (Instr.index 160 (.agg (flatT furtherT).toArray) (.int .i64 4)).run Tryz.prog w = .ok (.agg #[.int .i32 8255, .int .i32 8256]) w := fun _ => by kernel_rfl
 have hi : i < 5 := by
  rcases Nat.lt_or_ge i 5 with h | h
  ·exact h
  ·rw [List.getElem?_eq_none (show furtherT.length ≤ i from h)] at hp
   cases hp
 rcases (show i = 0 ∨ i = 1 ∨ i = 2 ∨ i = 3 ∨ i = 4 from by omega) with rfl | rfl | rfl | rfl | rfl
 ·cases hp; exact x0 w
 ·cases hp; exact x1 w
 ·cases hp; exact x2 w
 ·cases hp; exact x3 w
 ·cases hp; exact x4 w
theorem further_calls (r : Int) (w : World) (hT : TabAt 4 furtherT w) (hF : TabAt 3 firstsT w) : Calls Tryz.prog 84 #[.int .i32 r] w (Leaves (.bool (inTab furtherT r || inTab firstsT r)) w) := by
 have ix := index_further
 obtain ⟨fl, hfl⟩ : ∃ fl, flatT furtherT = fl := ⟨_, rfl⟩
 have hlen : fl.length = 10 := by rw [← hfl]; rfl
 unfold TabAt at hT
 rw [hfl] at hT ix
 go_enter Tryz.func84, Tryz.ntmps84
 go_wp2_with (refine wpList_load_mid rfl 160 _ rfl 4 0 rfl fl _ hT under39 rfl (by rw [hlen]; kernel_rfl) ?_)
 go_loopg [6] 5 (fun g s wr => ∃ i : Nat, s = .int .i64 i ∧ g + i = 5 ∧ inTab furtherT r = inTab (furtherT.drop i) r ∧ Below w.heap.size w wr)
 case atStart => exact ⟨0, rfl, rfl, rfl, Below.refl _ _⟩
 case round =>
  obtain ⟨i, rfl, hg, ht, hb⟩ := hrel
  have HG := Lib.hid hg
  have HT := Lib.hid ht
  have HB := Lib.hid hb
  clear hg ht hb
  by_cases hlt : i < 5
  ·have hd : decide ((i : Int) < 5) = true := by simp; omega
   obtain ⟨⟨a, b⟩, hp⟩ : ∃ p, furtherT[i]? = some p := ⟨_, List.getElem?_eq_getElem (show i < furtherT.length from hlt)⟩
   have ix2 := ix i (a, b) hp
   have HP := Lib.hid hp
   clear hp ix
   go_wp2_with fail
   refine (holds_pair (a, b) r _).mono ?_
   rintro e w2 ⟨rfl, hb2⟩
   have HB2 := Lib.hid hb2
   clear hb2
   cases hin : inPair r (a, b) with
   | true =>
    go_wp2
    go_ret
    refine ⟨by rw [HT.out, inTab_cons HP.out, hin]; rfl, ?_⟩
    exact below_then (HB.out.alloc HB.out.size _) HB2.out
   | false =>
    go_wp2
    go_roundg (gk - 1)
    case measure => have := HG.out; omega
    case rel => exact ⟨i + 1, by go_num, by have := HG.out; omega, by rw [HT.out, inTab_cons HP.out, hin]; rfl, below_then (HB.out.alloc HB.out.size _) HB2.out⟩
  ·have hd : decide ((i : Int) < 5) = false := by simp; omega
   have hi : i = 5 := by have := HG.out; omega
   have h0 : inTab (furtherT.drop i) r = false := by rw [hi]; rfl
   have H0 := Lib.hid h0
   clear h0 ix
   go_wp2_with fail
   refine (firsts_calls r _ (hF.below HB.out)).mono ?_
   rintro e w2 ⟨rfl, hb2⟩
   have HB2 := Lib.hid hb2
   clear hb2
   go_wp2
   go_ret
   exact ⟨by rw [HT.out, H0.out]; rfl, below_then HB.out HB2.out⟩
end Go.Proofs.YtjpkkflhcjjefaaGreatDoor
namespace Go.Proofs.YtjpkkflhcjjefaaGreatDoor
open Go.RowKit Go.Lib
set_option maxRecDepth 100000
set_option maxHeartbeats 32000000
def Laid (w : World) : Prop := Lib.Utf8Tabs 1 2 w ∧ TabAt 9 charsT w ∧ TabAt 3 firstsT w ∧ TabAt 4 furtherT w
theorem Laid.below {w w' : World} (h : Laid w) (hb : Below w.heap.size w w') : Laid w' :=
 ⟨⟨fun c hc => cell_below hb (h.1.1 c hc), fun i hi => ⟨cell_below hb (h.1.2 i hi).1, cell_below hb (h.1.2 i hi).2⟩⟩, h.2.1.below hb, h.2.2.1.below hb, h.2.2.2.below hb⟩
def nx (f : Nat → Nat) (n k : Nat) : Nat × Nat :=
 let d := decodeN (n - k) (f k) (f (k + 1)) (f (k + 2)) (f (k + 3))
 if inTab charsT d.1 = true ∧ ¬ (d.1 = 65533 ∧ d.2 = 1) then d else (0, 0)
def nextZ (f : Nat → Nat) (n : Nat) (at' : Int) : Nat × Nat := if at' < 0 ∨ (n : Int) ≤ at' then (0, 0) else nx f n at'.toNat
theorem decode_calls (b o c n : Nat) (f : Nat → Nat) (w : World) (hT : Lib.Utf8Tabs 1 2 w) (hf : ∀ i, f i < 256) (hn1 : 1 ≤ n) (hn : n ≤ 9223372036854775807) (hcell : ∀ i, i < n → w.cell? ⟨b, o + i, none⟩ = some (.int .u8 (f i))) :
  Calls Tryz.prog 141 #[.slice (some ⟨b, o, none⟩) n c] w (Leaves (runeOf (decodeN n (f 0) (f 1) (f 2) (f 3))) w) := by
 have hz0 : (0 : Int) < (n : Int) := by omega
 have hd : decide ((0 : Int) < (n : Int)) = true := decide_eq_true hz0
 have k0 : w.cell? ⟨b, o, none⟩ = some (.int .u8 (f 0)) := hcell 0 (by omega)
 have sl := slow_calls b o c n f w hT hf hn1 hn hcell
 have l0 := hf 0
 by_cases h : f 0 < 128
 ·have hd2 : decide (((f 0 : Nat) : Int) < 128) = true := by simp; omega
  have he : decodeN n (f 0) (f 1) (f 2) (f 3) = (f 0, 1) := by unfold decodeN; rw [if_pos h]
  rw [he]
  clear sl he hcell hf hT
  go_enter Tryz.func141, Tryz.ntmps141
  go_wp2_with fail
  refine wp_loop_rounds 1 ?_
  rw [rounds_succ]
  go_wp2
  go_ret2
  exact ⟨rfl, Below.refl _ _⟩
 ·have hd2 : decide (((f 0 : Nat) : Int) < 128) = false := by simp; omega
  clear hcell hf hT
  go_enter Tryz.func141, Tryz.ntmps141
  go_wp2_with fail
  refine wp_loop_rounds 1 ?_
  rw [rounds_succ]
  go_wp2_with fail
  refine sl.mono ?_
  rintro e w1 ⟨rfl, hb⟩
  have HB := hid hb
  clear hb
  unfold runeOf
  go_wp2
  go_ret2
  exact ⟨rfl, HB.out⟩
theorem next_calls (a : Option Addr) (n c : Nat) (f : Nat → Nat) (i : Int) (w : World) (hL : Laid w) (hr : Row8 w a n f) (hc : n ≤ c) (_hc2 : c ≤ 9223372036854775807) :
  Calls Tryz.prog 115 #[.slice a n c, .int .i64 i] w (Leaves (runeOf (nextZ f n i)) w) := by
 obtain ⟨hf, hn, hrow⟩ := hr
 unfold nextZ
 by_cases h0 : i < 0
 ·have hd : decide (i < 0) = true := decide_eq_true h0
  rw [if_pos (Or.inl h0)]
  go_enter Tryz.func115, Tryz.ntmps115
  go_wp2
  go_ret2
  exact ⟨rfl, Below.refl _ _⟩
 ·have hd : decide (i < 0) = false := decide_eq_false h0
  by_cases h1 : (n : Int) ≤ i
  ·have hd1 : decide (i ≥ (n : Int)) = true := decide_eq_true h1
   rw [if_pos (Or.inr h1)]
   go_enter Tryz.func115, Tryz.ntmps115
   go_wp2
   go_ret2
   exact ⟨rfl, Below.refl _ _⟩
  ·have hd1 : decide (i ≥ (n : Int)) = false := decide_eq_false h1
   rw [if_neg (by omega)]
   obtain ⟨k, rfl⟩ : ∃ k : Nat, i = (k : Int) := ⟨i.toNat, by omega⟩
   rcases hrow with h | ⟨b, o, rfl, hcell⟩
   ·omega
   have dc := fun cc => decode_calls b (o + k) cc (n - k) (fun j => f (k + j)) w hL.1 (fun j => hf _) (by omega) (by omega) (fun j hj => by have := hcell (k + j) (by omega); rwa [← Nat.add_assoc] at this)
   have CH := fun r W (hb : Below w.heap.size w W) => chars_calls r W (hL.2.1.below hb)
   rw [Int.toNat_natCast]
   simp only [Nat.add_zero] at dc
   obtain ⟨⟨r, z⟩, hdec⟩ : ∃ d, decodeN (n - k) (f k) (f (k + 1)) (f (k + 2)) (f (k + 3)) = d := ⟨_, rfl⟩
   obtain ⟨q, hq⟩ : ∃ q, nx f n k = q := ⟨_, rfl⟩
   have HQ : Hid ((if inTab charsT r = true ∧ ¬ (r = 65533 ∧ z = 1) then (r, z) else (0, 0)) = q) := by
    refine hid ?_
    rw [← hq]
    unfold nx
    rw [hdec]
   rw [hq]
   rw [hdec] at dc
   clear hq
   have hkn : (k : Int) ≤ (n : Int) := by omega
   have DC := hid dc
   have CHH := hid CH
   clear hL hcell hdec dc CH hf
   go_enter Tryz.func115, Tryz.ntmps115
   go_wp2_with fail
   refine (DC.out _).mono ?_
   rintro e w1 ⟨rfl, hb⟩
   have HB := hid hb
   clear hb DC
   unfold runeOf
   by_cases hbad : r = 65533 ∧ z = 1
   ·obtain ⟨rfl, rfl⟩ := hbad
    go_wp2
    go_ret2
    refine ⟨?_, HB.out⟩
    have h2 : ((0 : Nat), (0 : Nat)) = q := by simpa using HQ.out
    rw [← h2]
    rfl
   ·cases he : ((r : Int) == 65533) with
    | true =>
     have hz : ((z : Int) == 1) = false := by
      rw [beq_eq_false_iff_ne]
      rw [beq_iff_eq] at he
      intro hz
      exact hbad ⟨by omega, by omega⟩
     go_wp2_with fail
     refine (CHH.out r w1 HB.out).mono ?_
     rintro e w2 ⟨rfl, hb2⟩
     have HB2 := hid hb2
     clear hb2
     obtain ⟨x, hx⟩ : ∃ x, inTab charsT r = x := ⟨_, rfl⟩
     rw [hx]
     have HX := hid hx
     clear hx
     cases x with
     | true =>
      go_wp2
      go_ret2
      refine ⟨?_, below_then HB.out HB2.out⟩
      have := HQ.out
      rw [if_pos ⟨HX.out, hbad⟩] at this
      rw [← this]
      rfl
     | false =>
      go_wp2
      go_ret2
      refine ⟨?_, below_then HB.out HB2.out⟩
      have := HQ.out
      rw [if_neg (fun h => by rw [HX.out] at h; exact absurd h.1 (by decide))] at this
      rw [← this]
      rfl
    | false =>
     go_wp2_with fail
     refine (CHH.out r w1 HB.out).mono ?_
     rintro e w2 ⟨rfl, hb2⟩
     have HB2 := hid hb2
     clear hb2
     obtain ⟨x, hx⟩ : ∃ x, inTab charsT r = x := ⟨_, rfl⟩
     rw [hx]
     have HX := hid hx
     clear hx
     cases x with
     | true =>
      go_wp2
      go_ret2
      refine ⟨?_, below_then HB.out HB2.out⟩
      have := HQ.out
      rw [if_pos ⟨HX.out, hbad⟩] at this
      rw [← this]
      rfl
     | false =>
      go_wp2
      go_ret2
      refine ⟨?_, below_then HB.out HB2.out⟩
      have := HQ.out
      rw [if_neg (fun h => by rw [HX.out] at h; exact absurd h.1 (by decide))] at this
      rw [← this]
      rfl
end Go.Proofs.YtjpkkflhcjjefaaGreatDoor
namespace Go.Proofs
open Go.Shelf
set_option maxRecDepth 100000
set_option maxHeartbeats 32000000
def Tryz.lays196_ren : Go.Shelf.Ren := ⟨fun | 196 => 82 | 259 => 113 | n => n, fun | 9 => 9 | 4 => 4 | 3 => 3 | 5 => 5 | 12 => 12 | 119 => 152 | 0 => 0 | 46 => 156 | 139 => 155 | 138 => 154 | 53 => 197 | n => n, fun | 3 => 1 | 4 => 2 | n => n⟩
theorem Tryz.lays196 : Go.Proofs.Lays.n196 Tryz.prog Tryz.lays196_ren := {
 mixed := by kernel_rfl
 f196 := Tryz.func82.trans (congrArg some (by kernel_rfl))
 f259 := Tryz.func113.trans (congrArg some (by kernel_rfl))
 t0 := Tryz.underlying0
 a0 := Tryz.isAgg0
 z0 := Tryz.sizeOf0
 v0 := Tryz.zeroValue0
 t3 := Tryz.underlying3
 a3 := Tryz.isAgg3
 z3 := Tryz.sizeOf3
 v3 := Tryz.zeroValue3
 t4 := Tryz.underlying4
 a4 := Tryz.isAgg4
 z4 := Tryz.sizeOf4
 v4 := Tryz.zeroValue4
 t5 := Tryz.underlying5
 a5 := Tryz.isAgg5
 z5 := Tryz.sizeOf5
 v5 := Tryz.zeroValue5
 t9 := Tryz.underlying9
 a9 := Tryz.isAgg9
 z9 := Tryz.sizeOf9
 v9 := Tryz.zeroValue9
 t12 := Tryz.underlying12
 a12 := Tryz.isAgg12
 z12 := Tryz.sizeOf12
 v12 := Tryz.zeroValue12
 t46 := Tryz.underlying156
 a46 := Tryz.isAgg156
 z46 := Tryz.sizeOf156
 v46 := Tryz.zeroValue156
 t53 := Tryz.underlying197
 a53 := Tryz.isAgg197
 z53 := Tryz.sizeOf197
 v53 := Tryz.zeroValue197
 t119 := Tryz.underlying152
 a119 := Tryz.isAgg152
 z119 := Tryz.sizeOf152
 t138 := Tryz.underlying154
 a138 := Tryz.isAgg154
 z138 := Tryz.sizeOf154
 v138 := Tryz.zeroValue154
 t139 := Tryz.underlying155
 a139 := Tryz.isAgg155
 z139 := Tryz.sizeOf155
 v139 := Tryz.zeroValue155
 g3 := by kernel_rfl
 g4 := by kernel_rfl }
theorem Tryz.utf8_ValidString (s : ByteArray) (w : World) (hs : s.size ≤ 9223372036854775807) (hT : Lib.Utf8Tabs 1 2 w) :
  Calls Tryz.prog 82 #[.string s] w fun e w' => e = .returned (.bool (Lib.validD s.data.toList)) ∧ Go.RowKit.Below w.heap.size w w' := Any.utf8_ValidString Tryz.lays196 s w hs hT
end Go.Proofs
namespace Go.Proofs.YtjpkkflhcjjefaaGreatDoor
open Go.RowKit Go.Lib
def beginsB (r : Int) : Bool := inTab firstsT r
def goesB (r : Int) : Bool := inTab furtherT r || inTab firstsT r
def fs (l : List UInt8) (i : Nat) : Nat := (l.getD i 0).toNat
def dN (f : Nat → Nat) (N p : Nat) : Nat × Nat := decodeN (N - p) (f p) (f (p + 1)) (f (p + 2)) (f (p + 3))
theorem fs_lt (l : List UInt8) (i : Nat) : fs l i < 256 := (l.getD i 0).toNat_lt
def walkP (f : Nat → Nat) (N : Nat) : Nat → Nat → Bool
 | 0, _ => true
 | g + 1, p => if p < N then (if p = 0 ∧ beginsB (dN f N p).1 = false then false else if goesB (dN f N p).1 = false then false else walkP f N g (p + (dN f N p).2)) else true
theorem decodeN_pos (n b0 b1 b2 b3 : Nat) : 1 ≤ (decodeN n b0 b1 b2 b3).2 := by
 unfold decodeN
 repeat' split
 all_goals simp
def nameP (l : List UInt8) : Bool := !l.isEmpty && validD l && walkP (fs l) l.length l.length 0
theorem iter_below {w w' : World} {k : Nat} {o : Obj} (hb : Below w.heap.size w w') (h : w.heap[k]? = some o) : w'.heap[k]? = some o := by
 rw [hb.block k (Array.getElem?_eq_some_iff.1 h).1, h]
theorem uname_calls (s : ByteArray) (w : World) (hs : s.size ≤ 1073741824) (hL : Laid w) : Calls Tryz.prog 52 #[.string s] w (Leaves (.bool (nameP s.data.toList)) w) := by
 have hlen : s.data.toList.length = s.size := Array.length_toList
 obtain ⟨q, hq⟩ : ∃ q, nameP s.data.toList = q := ⟨_, rfl⟩
 rw [hq]
 have HQ := hid hq
 clear hq
 by_cases h0 : s.size = 0
 ·have he : s = ⟨#[]⟩ := by
   cases s with
   | mk d => simp [ByteArray.size] at h0; rw [h0]
  subst he
  go_enter Tryz.func52, Tryz.ntmps52
  go_wp2
  go_ret
  exact ⟨by rw [← HQ.out]; rfl, Below.refl _ _⟩
 ·have hne0 : s ≠ ⟨#[]⟩ := by
   intro h
   rw [h] at h0
   exact h0 rfl
  have hne1 : s.data.toList.isEmpty = false := by
   cases hc : s.data.toList with
   | nil => rw [hc] at hlen; simp at hlen; omega
   | cons => rfl
  have hne : s.toList.isEmpty = false := by rw [Lib.toList_data]; exact hne1
  have hne2 : ¬ s.toList = [] := fun h => by rw [h] at hne; exact absurd hne (by decide)
  have hq2 : nameP s.data.toList = (validD s.data.toList && walkP (fs s.data.toList) s.size s.size 0) := by
   unfold nameP
   rw [hne1, hlen]
   rfl
  have HQ2 := hid (HQ.out.symm.trans hq2)
  have HVS := hid (fun W (hb : Below w.heap.size w W) => Tryz.utf8_ValidString s W (by omega) (hL.below hb).1)
  have HL := hid hL
  clear hq2 HQ hL
  go_enter Tryz.func52, Tryz.ntmps52
  go_wp2_with fail
  refine (HVS.out w (Below.refl _ _)).mono ?_
  rintro e w1 ⟨rfl, hb1⟩
  have HB1 := hid hb1
  clear hb1
  obtain ⟨v, hv⟩ : ∃ v, validD s.data.toList = v := ⟨_, rfl⟩
  rw [hv]
  have HV := hid hv
  clear hv
  cases v with
  | false =>
   go_wp2
   go_ret
   exact ⟨by rw [HQ2.out, HV.out]; rfl, HB1.out⟩
  | true =>
   have HQ3 : Hid (q = walkP (fs s.data.toList) s.size s.size 0) := hid (by rw [HQ2.out, HV.out]; rfl)
   clear HQ2 HV HVS
   have hw1 : w.heap.size ≤ w1.heap.size := HB1.out.size
   go_wp2
   go_loopg [] s.size (fun g wr => ∃ pos : Nat, wr.heap[w1.heap.size]? = some (.stringIter s pos) ∧ s.size ≤ g + pos ∧ q = walkP (fs s.data.toList) s.size g pos ∧ Below w.heap.size w wr)
   case atStart => exact ⟨0, World.iter_heap w1 s 0, by omega, HQ3.out, HB1.out.alloc hw1 _⟩
   case round =>
    obtain ⟨pos, hit, hg, hqw, hb⟩ := hrel
    have HG := hid hg
    have HQW := hid hqw
    have HB := hid hb
    clear hg hqw hb HQ3
    by_cases hp : pos < s.size
    ·have hnx : ∀ ty, (Instr.next (.pointer (some ⟨w1.heap.size, 0, none⟩)) true ty).run Tryz.prog wr = _ := fun ty => Lib.run_next_any_at wr w1.heap.size s pos ty hit hp
     have hbw2 := hid (Lib.below_iterAt HB.out (k := w1.heap.size) (by omega) s (pos + (Utf8.decode s pos).2))
     have hit2 := hid (Lib.iterAt_heap wr w1.heap.size s pos (pos + (Utf8.decode s pos).2) hit)
     have hdd : Utf8.decode s pos = dN (fs s.data.toList) s.size pos := by rw [Lib.decode_N, hlen]; rfl
     obtain ⟨g', rfl⟩ : ∃ g', gk = g' + 1 := ⟨gk - 1, by have := HG.out; omega⟩
     have hst : q = (if pos = 0 ∧ beginsB (Utf8.decode s pos).1 = false then false else if goesB (Utf8.decode s pos).1 = false then false else walkP (fs s.data.toList) s.size g' (pos + (Utf8.decode s pos).2)) := by
      have := HQW.out
      rw [walkP, if_pos hp, ← hdd] at this
      exact this
     have hwd : 1 ≤ (Utf8.decode s pos).2 := by rw [hdd]; exact (decodeN_pos _ _ _ _ _)
     obtain ⟨⟨r, z⟩, hrz⟩ : ∃ d, Utf8.decode s pos = d := ⟨_, rfl⟩
     simp only [hrz] at hnx hbw2 hit2 hst hwd
     have HST := hid hst
     clear hst hdd hrz HQW
     by_cases h00 : pos = 0
     ·subst h00
      rw [Nat.zero_add] at hbw2 hit2 HST
      go_wp2_with fail
      refine (firsts_calls r _ (HL.out.below hbw2.out).2.2.1).mono ?_
      rintro e w2 ⟨rfl, hb2⟩
      have hbw3 := hid (below_then hbw2.out hb2)
      have hit2' := hid (iter_below hb2 hit2.out)
      clear hb2
      obtain ⟨x, hx⟩ : ∃ x, inTab firstsT (r : Int) = x := ⟨_, rfl⟩
      rw [hx]
      have HX : Hid (beginsB r = x) := hid hx
      clear hx
      cases x with
      | false =>
       go_wp2
       go_ret
       refine ⟨?_, hbw3.out⟩
       rw [HST.out, if_pos ⟨by simp, HX.out⟩]
       rfl
      | true =>
       have hnb : Hid (¬ ((0 : Nat) = 0 ∧ beginsB r = false)) := hid (fun h => by rw [HX.out] at h; exact absurd h.2 (by decide))
       go_wp2_with fail
       refine (further_calls r _ (HL.out.below hbw3.out).2.2.2 (HL.out.below hbw3.out).2.2.1).mono ?_
       rintro e w3 ⟨rfl, hb3⟩
       have HB3 := hid hb3
       clear hb3
       have hit3 : w3.heap[w1.heap.size]? = some (.stringIter s z) := iter_below HB3.out hit2'.out
       have HIT3 := hid hit3
       clear hit3
       obtain ⟨y, hy⟩ : ∃ y, (inTab furtherT (r : Int) || inTab firstsT (r : Int)) = y := ⟨_, rfl⟩
       rw [hy]
       have HY : Hid (goesB r = y) := hid hy
       clear hy
       cases y with
       | false =>
        go_wp2
        go_ret
        refine ⟨?_, below_then hbw3.out HB3.out⟩
        rw [HST.out, if_neg hnb.out, if_pos HY.out]
        rfl
       | true =>
        go_wp2
        go_roundg g'
        case measure => omega
        case rel => exact ⟨z, HIT3.out, by have := HG.out; omega, by rw [HST.out, if_neg hnb.out, if_neg (by rw [HY.out]; decide)], below_then hbw3.out HB3.out⟩
     ·have hz : ((pos : Int) == 0) = false := by rw [beq_eq_false_iff_ne]; omega
      go_wp2_with fail
      refine (further_calls r _ (HL.out.below hbw2.out).2.2.2 (HL.out.below hbw2.out).2.2.1).mono ?_
      rintro e w3 ⟨rfl, hb3⟩
      have HB3 := hid hb3
      clear hb3
      have hit3 : w3.heap[w1.heap.size]? = some (.stringIter s (pos + z)) := iter_below HB3.out hit2.out
      have HIT3 := hid hit3
      clear hit3
      obtain ⟨y, hy⟩ : ∃ y, (inTab furtherT (r : Int) || inTab firstsT (r : Int)) = y := ⟨_, rfl⟩
      rw [hy]
      have HY : Hid (goesB r = y) := hid hy
      clear hy
      cases y with
      | false =>
       go_wp2
       go_ret
       refine ⟨?_, below_then hbw2.out HB3.out⟩
       rw [HST.out, if_neg (fun h => h00 h.1), if_pos HY.out]
       rfl
      | true =>
       go_wp2
       go_roundg g'
       case measure => omega
       case rel => exact ⟨pos + z, HIT3.out, by have := HG.out; omega, by rw [HST.out, if_neg (fun h => h00 h.1), if_neg (by rw [HY.out]; decide)], below_then hbw2.out HB3.out⟩
    ·have hnx : ∀ ty, (Instr.next (.pointer (some ⟨w1.heap.size, 0, none⟩)) true ty).run Tryz.prog wr = _ := fun ty => Lib.run_next_end_at wr w1.heap.size s pos ty hit hp
     go_wp2
     go_ret
     refine ⟨?_, HB.out⟩
     rw [HQW.out]
     cases gk with
     | zero => rfl
     | succ g => rw [walkP, if_neg hp]; rfl
end Go.Proofs.YtjpkkflhcjjefaaGreatDoor
namespace Go.Proofs.YtjpkkflhcjjefaaGreatDoor
open Go.RowKit Go.Lib
set_option maxRecDepth 100000
set_option maxHeartbeats 32000000
def eols : List UInt8 → List UInt8
 | [] => []
 | b :: t => if b = 13 then (if t.head? = some 10 then eols t else 10 :: eols t) else b :: eols t
def r1 : List UInt8 → List UInt8
 | [] => []
 | b :: t => if b = 13 ∧ t.head? = some 10 then r1 t else b :: r1 t
theorem r1_cons (b : UInt8) (t : List UInt8) : r1 (b :: t) = if b = 13 ∧ t.head? = some 10 then r1 t else b :: r1 t := by rw [r1]
theorem r1_length : ∀ l, (r1 l).length ≤ l.length
 | [] => by simp [r1]
 | b :: t => by
  have := r1_length t
  unfold r1
  split
  ·simp; omega
  ·simp; omega
theorem map_r1 : ∀ l, (r1 l).map (fun b => if b = 13 then 10 else b) = eols l
 | [] => rfl
 | b :: t => by
  have ih := map_r1 t
  unfold r1 eols
  by_cases h : b = 13
  ·by_cases h2 : t.head? = some 10
   ·rw [if_pos ⟨h, h2⟩, if_pos h, if_pos h2, ih]
   ·rw [if_neg (fun x => h2 x.2), if_pos h, if_neg h2, List.map_cons, if_pos h, ih]
  ·rw [if_neg (fun x => h x.1), if_neg h, List.map_cons, if_neg h, ih]
theorem index_skip {sub : List UInt8} {b : UInt8} {t : List UInt8} (h : sub.isPrefixOf (b :: t) = false) : index (b :: t) sub = if index t sub == -1 then -1 else index t sub + 1 := by
 rw [index, if_neg (by rw [h]; exact Bool.false_ne_true)]
theorem index_here {sub : List UInt8} {b : UInt8} {t : List UInt8} (h : sub.isPrefixOf (b :: t) = true) : index (b :: t) sub = 0 := by
 rw [index, if_pos h]
theorem count_skip {sub : List UInt8} {b : UInt8} {t : List UInt8} (h : sub.isPrefixOf (b :: t) = false) (g : Nat) : countFrom sub g (b :: t) = countFrom sub g t := by
 cases g with
 | zero => rfl
 | succ g =>
  unfold countFrom
  rw [index_skip h]
  have hge := index_ge t sub
  by_cases hm : index t sub = -1
  ·simp [hm]
  ·have h1 : (index t sub == -1) = false := beq_eq_false_iff_ne.2 hm
   have h2 : (index t sub + 1 == -1) = false := beq_eq_false_iff_ne.2 (by omega)
   have h3 : (index t sub + 1).toNat + sub.length = ((index t sub).toNat + sub.length) + 1 := by omega
   simp only [h1, h2, Bool.false_eq_true, if_false, h3, List.drop_succ_cons]
theorem replaceK_skip {sub new : List UInt8} {b : UInt8} {t : List UInt8} (h : sub.isPrefixOf (b :: t) = false) (k : Nat) : replaceK sub new k (b :: t) = b :: replaceK sub new k t := by
 cases k with
 | zero => rfl
 | succ k =>
  rw [replaceK, replaceK, index_skip h]
  have hge := index_ge t sub
  by_cases hm : index t sub = -1
  ·simp [hm]
  ·have h1 : (index t sub == -1) = false := beq_eq_false_iff_ne.2 hm
   have h2 : (index t sub + 1 == -1) = false := beq_eq_false_iff_ne.2 (by omega)
   have h3 : (index t sub).toNat + 1 + sub.length = ((index t sub).toNat + sub.length) + 1 := by omega
   have h4 : (index t sub + 1).toNat = (index t sub).toNat + 1 := by omega
   simp only [h1, h2, Bool.false_eq_true, if_false, h3, h4, List.drop_succ_cons, List.take_succ_cons, List.cons_append]
theorem count_here {sub : List UInt8} {b : UInt8} {t : List UInt8} (h : sub.isPrefixOf (b :: t) = true) (g : Nat) : countFrom sub (g + 1) (b :: t) = 1 + countFrom sub g ((b :: t).drop sub.length) := by
 rw [countFrom, index_here h]
 simp
theorem replaceK_here {sub new : List UInt8} {b : UInt8} {t : List UInt8} (h : sub.isPrefixOf (b :: t) = true) (k : Nat) : replaceK sub new (k + 1) (b :: t) = new ++ replaceK sub new k ((b :: t).drop sub.length) := by
 rw [replaceK, index_here h]
 simp
theorem replaceK_nil (sub new : List UInt8) (hs : sub.isEmpty = false) (k : Nat) : replaceK sub new k [] = [] := by
 cases k with
 | zero => rfl
 | succ k => rw [replaceK, index, hs]; rfl
theorem crlf_gone : ∀ (n : Nat) (l : List UInt8) (g : Nat), l.length ≤ n → l.length < g → replaceK [13, 10] [10] (countFrom [13, 10] g l) l = r1 l
 | _, [], g, _, _ => by rw [replaceK_nil _ _ rfl]; rfl
 | 0, b :: t, _, h, _ => by simp at h
 | n + 1, b :: t, g, hn, hg => by
  obtain ⟨g', rfl⟩ : ∃ g', g = g' + 1 := ⟨g - 1, by omega⟩
  simp only [List.length_cons] at hn hg
  cases hp : ([13, 10] : List UInt8).isPrefixOf (b :: t) with
  | false =>
   rw [count_skip hp, replaceK_skip hp, crlf_gone n t (g' + 1) (by omega) (by omega)]
   rw [r1_cons, if_neg]
   rintro ⟨rfl, h2⟩
   cases t with
   | nil => simp at h2
   | cons c u =>
    simp only [List.head?_cons, Option.some.injEq] at h2
    subst h2
    simp [List.isPrefixOf] at hp
  | true =>
   have hbt : b = 13 ∧ ∃ u, t = 10 :: u := by
    cases t with
    | nil => simp [List.isPrefixOf] at hp
    | cons c u =>
     simp [List.isPrefixOf] at hp
     exact ⟨hp.1.symm, u, by rw [← hp.2]⟩
   obtain ⟨rfl, u, rfl⟩ := hbt
   rw [count_here hp, Nat.add_comm 1, replaceK_here hp]
   simp only [List.length_cons, List.length_nil, Nat.reduceAdd, List.drop_succ_cons, List.drop_zero] at hn hg ⊢
   rw [crlf_gone n u g' (by omega) (by omega)]
   simp [r1]
theorem cr_gone : ∀ (n : Nat) (l : List UInt8) (g : Nat), l.length ≤ n → l.length < g → replaceK [13] [10] (countFrom [13] g l) l = l.map (fun b => if b = 13 then 10 else b)
 | _, [], g, _, _ => by rw [replaceK_nil _ _ rfl]; rfl
 | 0, b :: t, _, h, _ => by simp at h
 | n + 1, b :: t, g, hn, hg => by
  obtain ⟨g', rfl⟩ : ∃ g', g = g' + 1 := ⟨g - 1, by omega⟩
  simp only [List.length_cons] at hn hg
  cases hp : ([13] : List UInt8).isPrefixOf (b :: t) with
  | false =>
   have hb : ¬ b = 13 := fun h => by subst h; simp [List.isPrefixOf] at hp
   rw [count_skip hp, replaceK_skip hp, cr_gone n t (g' + 1) (by omega) (by omega), List.map_cons, if_neg hb]
  | true =>
   have hb : b = 13 := by simp [List.isPrefixOf] at hp; exact hp.symm
   subst hb
   rw [count_here hp, Nat.add_comm 1, replaceK_here hp]
   simp only [List.length_cons, List.length_nil, Nat.reduceAdd, List.drop_succ_cons, List.drop_zero]
   rw [cr_gone n t g' (by omega) (by omega)]
   simp
theorem all_crlf (l : List UInt8) : replaceAll l [13, 10] [10] = r1 l := by
 unfold replaceAll replace replaceNum
 rw [if_neg (by decide), if_pos (Or.inl (by decide))]
 exact crlf_gone l.length l (l.length + 1) (Nat.le_refl _) (by omega)
theorem all_cr (l : List UInt8) : replaceAll l [13] [10] = l.map (fun b => if b = 13 then 10 else b) := by
 unfold replaceAll replace replaceNum
 rw [if_neg (by decide), if_pos (Or.inl (by decide))]
 exact cr_gone l.length l (l.length + 1) (Nat.le_refl _) (by omega)
def MaxLen (w : World) : Prop := ∃ m, w.cell? ⟨5, 0, none⟩ = some (.int .i64 m)
theorem MaxLen.below {w w' : World} (h : MaxLen w) (hb : Below w.heap.size w w') : MaxLen w' := by
 obtain ⟨m, hm⟩ := h
 exact ⟨m, cell_below hb hm⟩
theorem lines_calls (s : ByteArray) (w : World) (hs : s.size ≤ 1073741824) (hm : MaxLen w) : Calls Tryz.prog 131 #[.string s] w (Leaves (.string ⟨(eols s.data.toList).toArray⟩) w) := by
 obtain ⟨m, hm⟩ := hm
 have c1 := countB_le ⟨#[13, 10]⟩ (by decide) s.size s (Nat.le_refl _)
 have R1 := Tryz.strings_ReplaceAll s ⟨#[13, 10]⟩ ⟨#[10]⟩ m w (by omega) hm (by decide) (by show s.size + countB s ⟨#[13, 10]⟩ * 1 ≤ _; omega)
 have e1 := all_crlf s.data.toList
 have l1 := r1_length s.data.toList
 obtain ⟨u, hu⟩ : ∃ u, r1 s.data.toList = u := ⟨_, rfl⟩
 have hul : u.length ≤ 1073741824 := by rw [← hu]; exact Nat.le_trans l1 (by simpa using hs)
 have hsz : (⟨u.toArray⟩ : ByteArray).size = u.length := by simp [ByteArray.size]
 have R2 := fun W (hb : Below w.heap.size w W) => Tryz.strings_ReplaceAll ⟨u.toArray⟩ ⟨#[13]⟩ ⟨#[10]⟩ m W (by omega) (cell_below hb hm) (by decide) (by
  have c2 := countB_le ⟨#[13]⟩ (by decide) (⟨u.toArray⟩ : ByteArray).size ⟨u.toArray⟩ (Nat.le_refl _)
  show (⟨u.toArray⟩ : ByteArray).size + countB ⟨u.toArray⟩ ⟨#[13]⟩ * 1 ≤ _
  omega)
 have e2 : Hid (u.map (fun b => if b = 13 then 10 else b) = eols s.data.toList) := hid (by rw [← hu]; exact map_r1 _)
 have HR1 := hid R1
 have HR2 := hid R2
 have HE1 := hid e1
 have HU := hid hu
 clear c1 R1 R2 e1 l1 hu hul hsz hm
 go_enter Tryz.func131, Tryz.ntmps131
 go_wp2_with fail
 refine HR1.out.mono ?_
 rintro e w1 ⟨rfl, hb1⟩
 have HB1 := hid hb1
 clear hb1
 have hx : (⟨(replaceAll s.data.toList [13, 10] [10]).toArray⟩ : ByteArray) = ⟨u.toArray⟩ := by rw [HE1.out, HU.out]
 rw [hx]
 clear hx
 go_wp2_with fail
 refine (HR2.out w1 HB1.out).mono ?_
 rintro e w2 ⟨rfl, hb2⟩
 have HB2 := hid hb2
 clear hb2
 go_wp2
 go_ret
 refine ⟨?_, below_then HB1.out HB2.out⟩
 have := all_cr u
 rw [e2.out] at this
 rw [← this]
 rfl
theorem eols_cons (b : UInt8) (t : List UInt8) : eols (b :: t) = if b = 13 then (if t.head? = some 10 then eols t else 10 :: eols t) else b :: eols t := by rw [eols]
def pBl (m : Nat) : Bool := m == 9 || m == 10 || m == 13 || m == 32
def isBl (b : UInt8) : Bool := pBl b.toNat
theorem pBl_high {m : Nat} (h : 128 ≤ m) : pBl m = false := by
 unfold pBl
 simp
 omega
def lead : List UInt8 → Nat
 | [] => 0
 | b :: t => if isBl b = true then lead t + 1 else 0
def rl (l : List UInt8) : Nat → Nat
 | 0 => 0
 | i + 1 => if isBl (l.getD i 0) = true then rl l i else i + 1
def trimL (l : List UInt8) : List UInt8 := (l.drop (lead l)).take (rl (l.drop (lead l)) (l.drop (lead l)).length)
theorem lead_le : ∀ l, lead l ≤ l.length
 | [] => Nat.le_refl _
 | b :: t => by
  have := lead_le t
  unfold lead
  split
  ·simp; omega
  ·omega
theorem decodeN_high (n b0 b1 b2 b3 : Nat) (h : 128 ≤ b0) : 128 ≤ (decodeN n b0 b1 b2 b3).1 := by
 unfold decodeN
 repeat' split
 all_goals simp only
 all_goals omega
theorem rune_blank (b : UInt8) (t : List UInt8) : pBl (decodeL (b :: t)).1 = isBl b := by
 by_cases h : b.toNat < 128
 ·rw [decodeL_ascii b t h]
  rfl
 ·have h1 : isBl b = false := pBl_high (by omega)
  rw [h1, decodeL_N]
  exact pBl_high (decodeN_high _ _ _ _ _ (by show 128 ≤ b.toNat; omega))
theorem rune_width (b : UInt8) (t : List UInt8) (h : isBl b = true) : (decodeL (b :: t)).2 = 1 := by
 have h2 : b.toNat < 128 := by
  rcases Nat.lt_or_ge b.toNat 128 with h3 | h3
  ·exact h3
  ·rw [isBl, pBl_high h3] at h; cases h
 rw [decodeL_ascii b t h2]
theorem idx_lead (s : ByteArray) : ∀ (f pos : Nat), s.size ≤ pos + f →
  idxFuncFrom pBl false s f pos = if pos + lead (s.data.toList.drop pos) < s.size then ((pos + lead (s.data.toList.drop pos) : Nat) : Int) else -1
 | 0, pos, h => by rw [idxFuncFrom, if_neg (by omega)]
 | f + 1, pos, h => by
  have hlen : s.data.toList.length = s.size := Array.length_toList
  by_cases hp : pos < s.size
  ·obtain ⟨x, hd⟩ : ∃ x, s.data.toList.drop pos = x :: s.data.toList.drop (pos + 1) := ⟨_, List.drop_eq_getElem_cons (by omega)⟩
   have ih := idx_lead s f (pos + 1) (by omega)
   rw [idxFuncFrom, if_pos hp, ← decodeL_drop, hd, rune_blank]
   cases hb : isBl x with
   | true =>
    have hz : lead (x :: s.data.toList.drop (pos + 1)) = lead (s.data.toList.drop (pos + 1)) + 1 := by rw [lead, if_pos hb]
    rw [rune_width _ _ hb, hz, ih, if_neg (by decide), show pos + 1 + lead (s.data.toList.drop (pos + 1)) = pos + (lead (s.data.toList.drop (pos + 1)) + 1) by omega]
   | false =>
    have hz : lead (x :: s.data.toList.drop (pos + 1)) = 0 := by rw [lead, hb]; rfl
    rw [hz, if_pos rfl, Nat.add_zero, if_pos hp]
  ·rw [idxFuncFrom_end _ _ _ _ _ hp, if_neg (by omega)]
theorem left_eq (s : ByteArray) : (trimLeftF pBl s).data.toList = s.data.toList.drop (lead s.data.toList) := by
 have hlen : s.data.toList.length = s.size := Array.length_toList
 have hl := lead_le s.data.toList
 have h := idx_lead s s.size 0 (by omega)
 rw [Nat.zero_add, List.drop_zero] at h
 unfold trimLeftF idxFunc
 rw [h]
 by_cases hc : lead s.data.toList < s.size
 ·rw [if_pos hc, if_neg (by omega), Lib.extract_data, Int.toNat_natCast]
  exact List.take_of_length_le (by rw [List.length_drop]; omega)
 ·rw [if_neg hc, if_pos rfl, List.drop_eq_nil_of_le (by omega)]
theorem last_rl (s : ByteArray) : ∀ (f i : Nat), i ≤ f → i ≤ s.data.toList.length → OpenAt s.data.toList i →
  (rl s.data.toList i = 0 ∧ lastIdxFuncFrom pBl false s f i = -1) ∨
   ∃ j : Nat, lastIdxFuncFrom pBl false s f i = j ∧ j < s.data.toList.length ∧ j + (decodeL (s.data.toList.drop j)).2 = rl s.data.toList i
 | f, 0, _, _, _ => Or.inl ⟨rfl, lastIdxFuncFrom_zero _ _ _ _⟩
 | 0, i + 1, h, _, _ => by omega
 | f + 1, i + 1, hf, hi, ho => by
  have hw := fw_width s.data.toList (i + 1) (by omega) hi ho
  rw [lastIdxFuncFrom, if_pos (by omega)]
  rcases last_cases s.data.toList (i + 1) (by omega) hi with ⟨ha, hd⟩ | ⟨ha, hd⟩ | ⟨ha, st, hst, hd, hsum⟩
  ·rw [Nat.add_sub_cancel] at ha hd
   rw [hd] at hw ⊢
   simp only [Nat.add_sub_cancel] at hw ⊢
   rw [show pBl (s.data.toList.getD i 0).toNat = isBl (s.data.toList.getD i 0) from rfl, rl]
   cases hb : isBl (s.data.toList.getD i 0) with
   | true =>
    rw [if_pos rfl, if_neg (by decide)]
    exact last_rl s f i (by omega) (by omega) (Or.inr (by omega))
   | false =>
    rw [if_pos rfl, if_neg (by decide)]
    exact Or.inr ⟨i, rfl, by omega, by rw [hw]⟩
  all_goals
   rw [Nat.add_sub_cancel] at ha
   have hbl : isBl (s.data.toList.getD i 0) = false := pBl_high ha
   rw [rl, hbl, if_neg (by decide)]
  ·rw [hd] at hw ⊢
   simp only [Nat.add_sub_cancel] at hw ⊢
   rw [show pBl 65533 = false from rfl, if_pos rfl]
   exact Or.inr ⟨i, rfl, by omega, by rw [hw]⟩
  ·have hne : (s.data.toList.take (i + 1)).drop st ≠ [] := fun h => by
    have := congrArg List.length h
    rw [List.length_drop, List.length_take, List.length_nil] at this
    omega
   obtain ⟨b, t, hbt⟩ := List.exists_cons_of_ne_nil hne
   have hb0 : b = s.data.toList.getD st 0 := by
    have e : b = ((s.data.toList.take (i + 1)).drop st).getD 0 0 := by rw [hbt]; rfl
    rw [e, getD_dropU, getD_takeU _ _ _ (by omega)]
    rfl
   have hnb : pBl (decodeLastL (s.data.toList.take (i + 1))).1 = false := by
    rw [hd, hbt, rune_blank]
    cases hq : isBl b with
    | false => rfl
    | true =>
     have h1 := rune_width b t hq
     rw [hbt, h1] at hsum
     have : st = i := by omega
     subst this
     rw [hb0, hbl] at hq
     cases hq
   rw [hnb, if_pos rfl]
   have hw1 : (decodeLastL (s.data.toList.take (i + 1))).2 ≤ i + 1 := by rw [hd]; omega
   have hpos : 1 ≤ (decodeLastL (s.data.toList.take (i + 1))).2 := by
    rw [hd, hbt, decodeL_N]
    unfold decodeN
    repeat' split
    all_goals simp
   exact Or.inr ⟨_, rfl, by omega, by rw [hw]; omega⟩
theorem right_end (s : ByteArray) : rightEndF pBl s = rl s.data.toList s.data.toList.length := by
 have hlen : s.data.toList.length = s.size := Array.length_toList
 unfold rightEndF lastIdxFunc
 rw [← hlen]
 rcases last_rl s s.data.toList.length s.data.toList.length (Nat.le_refl _) (Nat.le_refl _) (Or.inl rfl) with ⟨h1, h2⟩ | ⟨j, h1, h2, h3⟩
 ·rw [h2, h1]
  rfl
 ·rw [h1, if_pos (by omega), Int.toNat_natCast, ← h3]
  have he : (s.extract j s.data.toList.length).data.toList = s.data.toList.drop j := by
   rw [Lib.extract_data]
   exact List.take_of_length_le (by rw [List.length_drop]; omega)
  have hs : (s.extract j s.data.toList.length).size ≠ 0 := by
   intro h0
   have := congrArg List.length he
   rw [Array.length_toList] at this
   simp only [List.length_drop] at this
   have e2 : (s.extract j s.data.toList.length).data.size = (s.extract j s.data.toList.length).size := rfl
   omega
  unfold decodeGoB
  rw [if_neg hs, ← decodeL_drop, he]
  rfl
theorem trim_eq (s : ByteArray) : (trimF pBl s).data.toList = trimL s.data.toList := by
 unfold trimF trimRightF
 rw [right_end, left_eq, Lib.extract_data]
 have hlen := left_eq s
 simp only [hlen, List.drop_zero, Nat.sub_zero]
 rfl
theorem blank_nat (m : Nat) : blankB (m : Int) = pBl m := by
 unfold blankB pBl
 rw [Bool.eq_iff_iff]
 simp only [Bool.or_eq_true, beq_iff_eq]
 omega
theorem string_of {s : ByteArray} {l : List UInt8} (h : s.data.toList = l) : s = ⟨l.toArray⟩ := by
 rw [← h, Lib.mk_data]
theorem trim_calls (s : ByteArray) (w : World) (hs : s.size ≤ 1073741824) (hL : Laid w) : Calls Tryz.prog 110 #[.string s] w (Leaves (.string ⟨(trimL s.data.toList).toArray⟩) w) := by
 have hp : PredAt Tryz.prog 60 #[] encR pBl w := fun W x _ => (blank_calls (x : Int) W).mono fun e w' ⟨h1, h2⟩ => ⟨by rw [h1, blank_nat], 0, h2⟩
 have T := Tryz.strings_TrimFunc 60 #[] (enters_of Tryz.func60 (by kernel_rfl) rfl) pBl s w (by omega) hL.1 hp
 rw [string_of (trim_eq s)] at T
 have HT := hid T
 clear T hp hL
 go_enter Tryz.func110, Tryz.ntmps110
 go_wp2_with fail
 refine HT.out.mono ?_
 rintro e w1 ⟨rfl, hb⟩
 have HB := hid hb
 clear hb
 go_wp2
 go_ret
 exact ⟨rfl, HB.out⟩
end Go.Proofs.YtjpkkflhcjjefaaGreatDoor
