/-
  The fixed answers that each law asks first; the walk of the law CrcSums at every slice of bytes. No condition.
-/
import Derived.Test.YtmjadapdajbmmaaRef
import Derived.Lib.SlBytesConst
namespace Go.Proofs.Ytmjadapdajbmmaa
open Go.RowKit Go.Lib

theorem row_nil (w : World) (a : Option Addr) : Row w a [] := ⟨fun c h => by simp at h, Or.inl rfl⟩

/-- The digits 1 to 9 as cells. -/
def digitsC : Array Value := #[.int .u8 49, .int .u8 50, .int .u8 51, .int .u8 52, .int .u8 53, .int .u8 54, .int .u8 55, .int .u8 56, .int .u8 57]

theorem row_digits (w : World) : Row (w.alloc (.cells digitsC 5 (9, 10))) (some ⟨w.heap.size, 0, none⟩) [49, 50, 51, 52, 53, 54, 55, 56, 57] := by
  refine ⟨by decide, Or.inr ⟨_, _, rfl, fun i c hi => ?_⟩⟩
  rw [Nat.zero_add, World.cell?_alloc_mark w digitsC 5 (9, 10) i]
  have hl : i < 9 := (List.getElem?_eq_some_iff.1 hi).1
  have hall : ∀ k : Fin 9, digitsC[k.val]? = (([49, 50, 51, 52, 53, 54, 55, 56, 57] : List Nat)[k.val]?).map fun c : Nat => Value.int .u8 (c : Int) := by
    intro k
    match k with
    | ⟨0, _⟩ => rfl
    | ⟨1, _⟩ => rfl
    | ⟨2, _⟩ => rfl
    | ⟨3, _⟩ => rfl
    | ⟨4, _⟩ => rfl
    | ⟨5, _⟩ => rfl
    | ⟨6, _⟩ => rfl
    | ⟨7, _⟩ => rfl
    | ⟨8, _⟩ => rfl
  rw [hall ⟨i, hl⟩, hi]
  rfl

set_option maxRecDepth 100000 in
set_option maxHeartbeats 1000000 in
theorem awake_calls (w : World) : Calls Try.prog 6 #[] w (Leaves (.bool true) w) := by
  have hcv : (convert 22 22 (.slice (some ⟨w.heap.size, 0, none⟩) 9 9)).run Try.prog (w.alloc (.cells digitsC 5)) = .ok (.slice (some ⟨w.heap.size, 0, none⟩) 9 9) (w.alloc (.cells digitsC 5 (9, 10))) :=
    Lib.run_convert_bytes_const w 22 5 digitsC 9 9 Try.underlying22 Try.underlying5
  have hb0 : Below w.heap.size w (w.alloc (.cells digitsC 5 (9, 10))) := (Below.refl _ _).alloc (Nat.le_refl _) _
  have hrow := row_digits w
  obtain ⟨W1, hW1⟩ : ∃ W1, w.alloc (.cells digitsC 5 (9, 10)) = W1 := ⟨_, rfl⟩
  rw [hW1] at hcv hb0 hrow
  unfold digitsC at hcv
  have HB0 := Lib.hid hb0
  have HROW := Lib.hid hrow
  clear hb0 hrow hW1
  go_enter Try.func6, Try.ntmps6
  go_wp2_with fail
  refine (sum_calls _ _ 9 9 W1 HROW.out rfl (by decide)).mono ?_
  rintro e w2 ⟨rfl, hb2⟩
  have HB2 := Lib.hid (below_then HB0.out hb2)
  clear hb2
  rw [sum_digits, show uv 0xcbf43926#32 = 3421780262 by decide]
  go_wp2_with fail
  refine (sum_calls none [] 0 0 w2 (row_nil _ _) rfl (by decide)).mono ?_
  rintro e w3 ⟨rfl, hb3⟩
  have HB3 := Lib.hid (below_then HB2.out hb3)
  clear hb3
  rw [sum_nil, show uv 0#32 = 0 by decide]
  go_wp2
  go_ret
  exact ⟨rfl, HB3.out⟩

set_option maxRecDepth 100000 in
set_option maxHeartbeats 1000000 in
theorem law_sums (a : Option Addr) (l : List Nat) (n c : Nat) (w : World) (hr : Row w a l) (hn : l.length = n) : Calls Try.prog 3 #[.slice a n c] w (Leaves (.bool true) w) := by
  have HR := Lib.hid hr
  clear hr
  go_enter Try.func3, Try.ntmps3
  go_wp2_with fail
  refine (awake_calls w).mono ?_
  rintro e w1 ⟨rfl, hb1⟩
  have HB1 := Lib.hid hb1
  clear hb1
  by_cases hbig : 16384 < n
  · have hd : decide ((n : Int) > 16384) = true := by simp; omega
    go_wp2
    go_ret
    exact ⟨rfl, HB1.out⟩
  · have hd : decide ((n : Int) > 16384) = false := by simp; omega
    obtain ⟨s, hs⟩ : ∃ s, uv (sumB l) = s := ⟨_, rfl⟩
    have HS := Lib.hid hs
    have hss : (s == s) = true := by simp
    clear hs
    go_wp2_with fail
    refine (sum_calls a l n c w1 (HR.out.below HB1.out) hn (by omega)).mono ?_
    rintro e w2 ⟨rfl, hb2⟩
    have HB2 := Lib.hid (below_then HB1.out hb2)
    clear hb2
    rw [HS.out]
    go_wp2_with fail
    refine (ref_calls a l n c w2 (HR.out.below HB2.out) hn (by omega)).mono ?_
    rintro e w3 ⟨rfl, hb3⟩
    have HB3 := Lib.hid (below_then HB2.out hb3)
    clear hb3
    rw [HS.out]
    go_wp2
    go_ret
    exact ⟨rfl, HB3.out⟩

end Go.Proofs.Ytmjadapdajbmmaa
