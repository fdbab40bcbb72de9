/-
  The fixed answers that each law asks first. No condition.
-/
import Derived.Test.YtfiacojgddpphaaLive
import Derived.Lib.SlBytesConst
import Derived.Lib.SlBytesRow
namespace Go.Proofs.Ytfiacojgddpphaa
open Go.RowKit Go.Lib Go.Joins

abbrev nA : ByteArray := { data := #[97] }
def aw0 : Dsk := dsk0 10
def aw1 : Dsk := (step aw0 ⟨1, nA, nA, 0, []⟩).2
def aw2 : Dsk := (step aw1 ⟨2, nA, nA, 0, [104, 101, 108, 108, 111]⟩).2
def aw3 : Dsk := (step aw2 ⟨4, nA, nA, 0, []⟩).2
def aw4 : Dsk := (step aw3 ⟨2, nA, nA, 0, [119, 111, 114, 108, 100, 33]⟩).2
def aw5 : Dsk := (step aw4 ⟨2, nA, nA, 0, [119, 111, 114]⟩).2
def aw6 : Dsk := crash [2] aw5
theorem awA1 : (step aw0 ⟨1, nA, nA, 0, []⟩).1 = 0 := by decide +kernel
theorem awA2 : (step aw1 ⟨2, nA, nA, 0, [104, 101, 108, 108, 111]⟩).1 = 0 := by decide +kernel
theorem awA3 : (step aw2 ⟨4, nA, nA, 0, []⟩).1 = 0 := by decide +kernel
theorem awA4 : (step aw3 ⟨2, nA, nA, 0, [119, 111, 114, 108, 100, 33]⟩).1 = 40 := by decide +kernel
theorem awA5 : (step aw4 ⟨2, nA, nA, 0, [119, 111, 114]⟩).1 = 0 := by decide +kernel
theorem awS (d : Dsk) (h : decide (used d.L ≤ 1073741824) && decide (0 ≤ d.ops) && decide (d.ops ≤ 1073741823) = true) : Sml d := by
  simp only [Bool.and_eq_true, decide_eq_true_eq] at h
  exact ⟨h.1.1, h.1.2, h.2⟩
theorem awS0 : Sml aw0 := awS _ (by decide +kernel)
theorem awS1 : Sml aw1 := awS _ (by decide +kernel)
theorem awS2 : Sml aw2 := awS _ (by decide +kernel)
theorem awS3 : Sml aw3 := awS _ (by decide +kernel)
theorem awS4 : Sml aw4 := awS _ (by decide +kernel)
theorem awU5 : used aw5.L ≤ 1073741824 := by decide +kernel
theorem awU6 : used aw6.L ≤ 1073741824 := by decide +kernel
theorem awL : aw6.L = [⟨nA, [104, 101, 108, 108, 111, 119, 111], 7⟩] := by kernel_rfl
theorem awF : fnd nA aw6.L = some ⟨nA, [104, 101, 108, 108, 111, 119, 111], 7⟩ := by
  rw [awL]
  unfold fnd
  rw [List.find?_cons]
  simp

def helloC : Array Value := #[.int .u8 104, .int .u8 101, .int .u8 108, .int .u8 108, .int .u8 111]
def worldC : Array Value := #[.int .u8 119, .int .u8 111, .int .u8 114, .int .u8 108, .int .u8 100, .int .u8 33]
def worC : Array Value := #[.int .u8 119, .int .u8 111, .int .u8 114]
def wantS : ByteArray := { data := #[104, 101, 108, 108, 111, 119, 111] }

/-- Append of a constant. -/
theorem aw_append (C : Array Value) (l : List Nat) (n : Nat) (hC : C = (cellsN l).toArray) (hb : ∀ c ∈ l, c < 256) (hn : l.length = n) (hn2 : n ≤ 100) {w0 w W : World} {S : Nat → Prop} {B : Nat} {d : Dsk} (h : Live w0 w S B d) (hs : Sml d) (fr : Nat × Nat) (hW : w.alloc (.cells C 5 fr) = W) {v : Int} (hv : (step d ⟨2, nA, nA, 0, l⟩).1 = v) :
    Calls Try.prog 27 #[.pointer (some ⟨B, 0, none⟩), .string nA, .slice (some ⟨w.heap.size, 0, none⟩) n n] W (fun e w' => e = .returned (.int .i64 v) ∧ ∃ S', Live w0 w' S' B (step d ⟨2, nA, nA, 0, l⟩).2) := by
  subst hC hn hW
  have hl : Live w0 (w.alloc (.cells (cellsN l).toArray 5 fr)) S B d := h.quiet ((Below.refl _ w).alloc (Nat.le_refl _) _)
  have hc := append_calls nA (some ⟨w.heap.size, 0, none⟩) l l.length _ hl.disk hs (by decide) (row_new w l hb fr) (fun k e => ⟨by rw [show k = w.heap.size from e]; simp, fun hk => by have := h.disk.2.1 k hk; rw [show k = w.heap.size from e] at this; omega⟩) (fun e => by cases e) (Nat.le_refl _) (by unfold maxLen; omega) (by omega) nA 0
  rw [hv] at hc
  refine hc.mono ?_
  rintro e w' ⟨rfl, ht⟩
  obtain ⟨S', h1, _⟩ := hl.turns ht
  exact ⟨rfl, S', h1⟩

set_option maxRecDepth 100000 in
set_option maxHeartbeats 4000000 in
theorem awake_calls (w : World) : Calls Try.prog 8 #[] w (Leaves (.bool true) w) := by
  have kc1 : ∀ w : World, (convert 35 35 (.slice (some ⟨w.heap.size, 0, none⟩) 5 5)).run Try.prog (w.alloc (.cells helloC 5)) = .ok (.slice (some ⟨w.heap.size, 0, none⟩) 5 5) (w.alloc (.cells helloC 5 (5, 6))) := fun w => Lib.run_convert_bytes_const (P := Try.prog) w 35 5 helloC 5 5 Try.underlying35 Try.underlying5
  have kc2 : ∀ w : World, (convert 35 35 (.slice (some ⟨w.heap.size, 0, none⟩) 6 6)).run Try.prog (w.alloc (.cells worldC 5)) = .ok (.slice (some ⟨w.heap.size, 0, none⟩) 6 6) (w.alloc (.cells worldC 5 (6, 7))) := fun w => Lib.run_convert_bytes_const (P := Try.prog) w 35 5 worldC 6 6 Try.underlying35 Try.underlying5
  have kc3 : ∀ w : World, (convert 35 35 (.slice (some ⟨w.heap.size, 0, none⟩) 3 3)).run Try.prog (w.alloc (.cells worC 5)) = .ok (.slice (some ⟨w.heap.size, 0, none⟩) 3 3) (w.alloc (.cells worC 5 (3, 4))) := fun w => Lib.run_convert_bytes_const (P := Try.prog) w 35 5 worC 3 3 Try.underlying35 Try.underlying5
  unfold helloC at kc1
  unfold worldC at kc2
  unfold worC at kc3
  go_enter Try.func8, Try.ntmps8
  go_wp2_with fail
  with_reducible refine (new_calls 10 w (by decide)).mono ?_
  rintro e w1 ⟨B, S1, rfl, hd1, hf1, hb1⟩
  have HL1 := Lib.hid (Live.born (Below.refl _ w) hd1 hf1 hb1)
  clear hd1 hf1 hb1
  go_wp2_with fail
  have hc2 : Calls Try.prog 26 #[.pointer (some ⟨B, 0, none⟩), .string nA] w1 (Does w1 S1 B (.int .i64 (step aw0 ⟨1, nA, nA, 0, []⟩).1) aw1) := create_calls nA w1 HL1.out.disk awS0 (by decide) nA 0
  rw [awA1] at hc2
  with_reducible refine hc2.mono ?_
  rintro e w2 ⟨rfl, ht2⟩
  obtain ⟨S2, hl2, _⟩ := HL1.out.turns ht2
  have HL2 : Hid (Live w w2 S2 B aw1) := Lib.hid hl2
  clear hc2 ht2 hl2
  obtain ⟨W2, hW2⟩ : ∃ W, w2.alloc (.cells helloC 5 (5, 6)) = W := ⟨_, rfl⟩
  have hc3 := Lib.hid (aw_append helloC [104, 101, 108, 108, 111] 5 rfl (by decide) rfl (by decide) HL2.out awS1 (5, 6) hW2 awA2)
  unfold helloC at hW2
  have hk2 := kc1 w2
  rw [hW2] at hk2
  go_wp2_with fail
  with_reducible refine hc3.out.mono ?_
  rintro e w3 ⟨rfl, S3, hl3⟩
  have HL3 : Hid (Live w w3 S3 B aw2) := Lib.hid hl3
  clear hc3 hl3 hW2 hk2
  go_wp2_with fail
  have hc4 : Calls Try.prog 28 #[.pointer (some ⟨B, 0, none⟩), .string nA] w3 (Does w3 S3 B (.int .i64 (step aw2 ⟨4, nA, nA, 0, []⟩).1) aw3) := sync_calls nA w3 HL3.out.disk awS2 (by decide) nA 0
  rw [awA3] at hc4
  with_reducible refine hc4.mono ?_
  rintro e w4 ⟨rfl, ht4⟩
  obtain ⟨S4, hl4, _⟩ := HL3.out.turns ht4
  have HL4 : Hid (Live w w4 S4 B aw3) := Lib.hid hl4
  clear hc4 ht4 hl4
  obtain ⟨W4, hW4⟩ : ∃ W, w4.alloc (.cells worldC 5 (6, 7)) = W := ⟨_, rfl⟩
  have hc5 := Lib.hid (aw_append worldC [119, 111, 114, 108, 100, 33] 6 rfl (by decide) rfl (by decide) HL4.out awS3 (6, 7) hW4 awA4)
  unfold worldC at hW4
  have hk4 := kc2 w4
  rw [hW4] at hk4
  go_wp2_with fail
  with_reducible refine hc5.out.mono ?_
  rintro e w5 ⟨rfl, S5, hl5⟩
  have HL5 : Hid (Live w w5 S5 B aw4) := Lib.hid hl5
  clear hc5 hl5 hW4 hk4
  obtain ⟨W5, hW5⟩ : ∃ W, w5.alloc (.cells worC 5 (3, 4)) = W := ⟨_, rfl⟩
  have hc6 := Lib.hid (aw_append worC [119, 111, 114] 3 rfl (by decide) rfl (by decide) HL5.out awS4 (3, 4) hW5 awA5)
  unfold worC at hW5
  have hk5 := kc3 w5
  rw [hW5] at hk5
  go_wp2_with fail
  with_reducible refine hc6.out.mono ?_
  rintro e w6 ⟨rfl, S6, hl6⟩
  have HL6 : Hid (Live w w6 S6 B aw5) := Lib.hid hl6
  clear hc6 hl6 hW5 hk5
  obtain ⟨W6, hW6⟩ : ∃ W, w6.alloc (.cells #[.int .i64 2] 3) = W := ⟨_, rfl⟩
  have hr6 : RowI W6 (One w6.heap.size) (some ⟨w6.heap.size, 0, none⟩) [2] := by
    refine Or.inr ⟨_, _, rfl, rfl, fun i x hi => ?_⟩
    rw [← hW6, Nat.zero_add, World.cell?_alloc_mark w6 _ 3 (0, 0) i]
    cases i with
    | zero => obtain rfl : (2 : Int) = x := by simpa using hi
              rfl
    | succ i => simp at hi
  have hl6 : Live w W6 S6 B aw5 := by rw [← hW6]; exact HL6.out.quiet ((Below.refl _ w6).alloc (Nat.le_refl _) _)
  have hc7 := crash_calls (some ⟨w6.heap.size, 0, none⟩) [2] 1 1 W6 hl6.disk awU5 hr6 rfl (fun k e hk => by have := HL6.out.disk.2.1 k hk; rw [show k = w6.heap.size from e] at this; omega) (by decide) (by decide)
  have HC7 := Lib.hid hc7
  have HL6' := Lib.hid hl6
  clear hc7 hr6 hl6
  go_wp2_with fail
  with_reducible refine HC7.out.mono ?_
  rintro e w7 ⟨rfl, ht7⟩
  obtain ⟨S7, hl7, _⟩ := HL6'.out.turns ht7
  have HL7 : Hid (Live w w7 S7 B aw6) := Lib.hid hl7
  clear ht7 hl7 hW6
  go_wp2_with fail
  have hc8 := read_calls nA w7 HL7.out.disk awU6 (by decide)
  rw [awF] at hc8
  with_reducible refine hc8.mono ?_
  rintro e w8 ⟨hb8, v, rfl, ho8⟩
  obtain ⟨a, c, S8, rfl, hr8, _⟩ := read_row (f := ⟨nA, [104, 101, 108, 108, 111, 119, 111], 7⟩) (by decide) ho8
  have HB8 := Lib.hid (below_then HL7.out.bel hb8)
  obtain ⟨b, o, rfl, hby⟩ : ∃ b o, a = some ⟨b, o, none⟩ ∧ Lib.Bytes w8 b o wantS := by
    obtain ⟨b, o, ha, _⟩ := row_at hr8 (i := 0) (x := 104) rfl
    refine ⟨b, o, ha, fun i hi => ?_⟩
    obtain ⟨b', o', ha', hc⟩ := row_at hr8 (i := i) (x := (wantS[i]).toNat) (by
      have hall : ∀ k : Fin 7, ([104, 101, 108, 108, 111, 119, 111] : List Nat)[k.val]? = some (wantS[k.val]'k.isLt).toNat := by decide +kernel
      exact hall ⟨i, hi⟩)
    rw [ha] at ha'
    obtain ⟨rfl, rfl⟩ : b = b' ∧ o = o' := by simpa using ha'
    exact hc
  have hcv := Lib.run_convert_whole (P := Try.prog) w8 35 5 9 Try.underlying35 Try.underlying5 Try.underlying9 b o wantS hby c
  rw [show wantS.size = 7 from rfl] at hcv
  unfold wantS at hcv
  dsimp only [List.length_cons, List.length_nil, Nat.zero_add, Nat.reduceAdd]
  clear hc8 hb8 ho8 hr8 hby
  go_wp2
  go_ret
  exact ⟨rfl, HB8.out⟩

end Go.Proofs.Ytfiacojgddpphaa
