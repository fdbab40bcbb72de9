/-
  Whether a document's bytes are right; and what the deferred call of All leaves of what is thrown. Conditions: the document lies in memory, the laid variables hold what their initialisers lay.
-/
import Derived.Test.YtemohjodihcdfaaGreatDoorXDd
import Derived.Test.YtemohjodihcdfaaGreatDoorSErr
import Derived.Defers
import Derived.Recover
import Derived.Laws.ResultCell
namespace Go.Proofs.YtemohjodihcdfaaGreatDoor
open Go.RowKit Go.Lib Go.Joins

/-- What check leaves. -/
def ChkOut (l : List UInt8) (w : World) (e : Ending) (w' : World) : Prop :=
  (if 65536 < l.length then e = .panicked [{ v := wrongV 8 65536, recovered := false }] else if 0 ≤ badZ (fs l) l.length then e = .panicked [{ v := wrongV 1 (badZ (fs l) l.length).toNat, recovered := false }] else e = .returned (.tuple #[])) ∧ Below w.heap.size w w'
set_option maxRecDepth 100000 in
set_option maxHeartbeats 4000000 in
theorem check_calls {w : World} (a : Option Addr) (c : Nat) (l : List UInt8) (hr : Row8 w a l.length (fs l)) (hc : l.length ≤ c) (hc2 : c ≤ 9223372036854775807) (hL : Laid w) : Calls Tryz.prog 35 #[.slice a l.length c] w (ChkOut l w) := by
  by_cases h1 : 65536 < l.length
  · have HF : Hid (ChkOut l w (.panicked [{ v := wrongV 8 65536, recovered := false }]) w) := Lib.hid ⟨by rw [if_pos h1], Below.refl _ _⟩
    obtain ⟨n, hn⟩ : ∃ n, l.length = n := ⟨_, rfl⟩
    rw [hn] at h1 ⊢
    have hz : (65536 : Int) < (n : Int) := by omega
    clear hr hL hn hc hc2
    go_enter Tryz.func35, Tryz.ntmps35
    go_wp2_with fail
    exact ⟨rfl, HF.out⟩
  · have HB := Lib.hid (bad_calls a l.length c (fs l) w hL hc hc2 hr (by omega))
    obtain ⟨z, hz⟩ : ∃ z, badZ (fs l) l.length = z := ⟨_, rfl⟩
    have HZ := Lib.hid hz
    have HN1 := Lib.hid h1
    rw [hz] at HB
    obtain ⟨n, hn⟩ : ∃ n, l.length = n := ⟨_, rfl⟩
    have HN := Lib.hid hn
    rw [hn] at h1 HB ⊢
    have hz1 : ¬ ((65536 : Int) < (n : Int)) := by omega
    clear hr hL hn hc hc2 hz
    by_cases h2 : 0 ≤ z
    · have HF : Hid (∀ w', Below w.heap.size w w' → ChkOut l w (.panicked [{ v := .iface 62 (.agg #[.int .i64 1, .int .i64 z]), recovered := false }]) w') := Lib.hid (fun w' hb => ⟨by
        rw [if_neg HN1.out, HZ.out, if_pos h2]
        unfold wrongV
        rw [Int.toNat_of_nonneg h2]
        rfl, hb⟩)
      go_enter Tryz.func35, Tryz.ntmps35
      go_wp2_with fail
      with_reducible refine HB.out.mono ?_
      rintro e w1 ⟨rfl, hb⟩
      have HF1 := Lib.hid (HF.out w1 hb)
      clear hb
      go_wp2_with fail
      exact ⟨rfl, HF1.out⟩
    · have HF : Hid (∀ w', Below w.heap.size w w' → ChkOut l w (.returned (.tuple #[])) w') := Lib.hid (fun w' hb => ⟨by
        rw [if_neg HN1.out, HZ.out, if_neg h2], hb⟩)
      go_enter Tryz.func35, Tryz.ntmps35
      go_wp2_with fail
      with_reducible refine HB.out.mono ?_
      rintro e w1 ⟨rfl, hb⟩
      have HF1 := Lib.hid (HF.out w1 hb)
      clear hb
      go_wp2_with fail
      go_end0
      exact HF1.out

theorem catch_idle2 (p q : Addr) (w : World) :
    CallsD Tryz.prog 32 #[.pointer (some p), .pointer (some q)] .returning w fun e u' w' => e = .returned (.tuple #[]) ∧ u' = .returning ∧ w' = w := by
  refine callsD_of_wpS Tryz.func32 rfl fun c₀ cs hu => ?_
  apply wpS_seq
  apply wpS_region
  simp [wpOpsS, go_sem, recoverD, hu, Tryz.ntmps32, Exit.thenS]
  refine wpS_of_wp ?_
  simp only [Array.replicate_succ, Array.replicate_zero, List.push_toArray, List.nil_append, List.cons_append]
  go_wp2_with fail
  cases c₀
  simp_all [bodyPostS, results, Tryz.results32]

/-- What the deferred call leaves of what was thrown. -/
def CaughtOut (p q : Nat) (cd pl : Nat) (older : List PanicEntry) (w : World) (e : Ending) (u' : FrameMode) (w' : World) : Prop :=
  e = .returned (.tuple #[]) ∧ u' = .panicking ({ v := wrongV cd pl, recovered := true } :: older) ∧ ∃ w1 b, Below w.heap.size w w1 ∧ w.heap.size ≤ b ∧ w1.cell? ⟨b, 0, none⟩ = some (.string segS) ∧ w1.cell? ⟨b, 1, none⟩ = some (plainV cd pl) ∧
    w' = (w1.setCell ⟨p, 0, none⟩ (.slice none 0 0)).setCell ⟨q, 0, none⟩ (.iface 94 (.pointer (some ⟨b, 0, none⟩)))
set_option maxRecDepth 100000 in
set_option maxHeartbeats 4000000 in
theorem catch_wrong (p q : Nat) (cd pl : Nat) (hcd : cd ≠ 0) (older : List PanicEntry) (x y : Value) (w : World) (h0 : w.cell? ⟨p, 0, none⟩ = some x) (h1 : w.cell? ⟨q, 0, none⟩ = some y) (f0 : w.frozen? ⟨p, 0, none⟩ = false) (f1 : w.frozen? ⟨q, 0, none⟩ = false) (hpq : p ≠ q) :
    CallsD Tryz.prog 32 #[.pointer (some ⟨p, 0, none⟩), .pointer (some ⟨q, 0, none⟩)] (.panicking ({ v := wrongV cd pl, recovered := false } :: older)) w (CaughtOut p q cd pl older w) := by
  have HC := Lib.hid hcd
  have hz : ((cd : Int) == 0) = false := by
    rw [beq_eq_false_iff_ne]
    omega
  have hp := lt_of_cell h0
  have hq := lt_of_cell h1
  refine callsD_of_wpS Tryz.func32 rfl fun c₀ cs hu => ?_
  have HF : Hid (∀ a w', a.defers = [] → (∃ w1 b, Below w.heap.size w w1 ∧ w.heap.size ≤ b ∧ w1.cell? ⟨b, 0, none⟩ = some (.string segS) ∧ w1.cell? ⟨b, 1, none⟩ = some (plainV cd pl) ∧ w' = (w1.setCell ⟨p, 0, none⟩ (.slice none 0 0)).setCell ⟨q, 0, none⟩ (.iface 94 (.pointer (some ⟨b, 0, none⟩)))) →
      bodyPostS Tryz.prog Tryz.f32 c₀ cs (CaughtOut p q cd pl older w) .normal a ({ c₀ with mode := .panicking ({ v := wrongV cd pl, recovered := true } :: older) } :: cs) w') := Lib.hid (fun a w' hd h => ⟨hd, _, rfl, _, by simp [results, Tryz.results32, go_sem], rfl, rfl, h⟩)
  apply wpS_seq
  apply wpS_region
  simp [wpOpsS, go_sem, recoverD, hu, Tryz.ntmps32, Exit.thenS]
  refine wpS_of_wp ?_
  simp only [Array.replicate_succ, Array.replicate_zero, List.push_toArray, List.nil_append, List.cons_append]
  unfold wrongV at HF ⊢
  have hta : ∀ w : World, (Instr.typeAssert (.iface 62 (.agg #[.int .i64 (cd : Int), .int .i64 (pl : Int)])) 20 62 true).run Tryz.prog w = .ok (.tuple #[.agg #[.int .i64 (cd : Int), .int .i64 (pl : Int)], .bool true]) w := fun _ => by kernel_rfl
  have HN := Lib.hid (fun W => new_code (cd : Int) (pl : Int) W hz)
  have HWr := Lib.hid (fun W => wrap_some segS 71 (.agg #[.int .i64 (cd : Int), .int .i64 (pl : Int)]) W)
  unfold segS at HWr
  go_wp2_with fail
  obtain ⟨wa, hwa⟩ : ∃ W, w.alloc (.cells #[.int .i64 (cd : Int), .int .i64 (pl : Int)] 62) = W := ⟨_, rfl⟩
  have HBA : Hid (Below w.heap.size w wa) := Lib.hid (by rw [← hwa]; exact (Below.refl _ _).alloc (Nat.le_refl _) _)
  rw [hwa]
  clear hwa
  with_reducible refine (HN.out wa).mono ?_
  rintro e wb ⟨rfl, hx⟩
  subst hx
  unfold plainV at *
  go_wp2_with fail
  with_reducible refine (HWr.out wa).mono ?_
  rintro e wb ⟨rfl, hx⟩
  have hab : Below w.heap.size w wb := by
    rw [← hx]
    exact HBA.out.alloc HBA.out.size _
  have hc0 : wb.cell? ⟨wa.heap.size, 0, none⟩ = some (.string ⟨#[120, 109, 108]⟩) := by rw [← hx]; simp
  have hc1 : wb.cell? ⟨wa.heap.size, 1, none⟩ = some (.iface 71 (.agg #[.int .i64 (cd : Int), .int .i64 (pl : Int)])) := by rw [← hx]; simp
  have g0 := (hab.cell (p := ⟨p, 0, none⟩) hp).trans h0
  have g1 := (hab.cell (p := ⟨q, 0, none⟩) hq).trans h1
  have k0 := (hab.frozen (p := ⟨p, 0, none⟩) hp).trans f0
  have k1 := (hab.frozen (p := ⟨q, 0, none⟩) hq).trans f1
  have hle := HBA.out.size
  have HZ : Hid (∃ w1 b, Below w.heap.size w w1 ∧ w.heap.size ≤ b ∧ w1.cell? ⟨b, 0, none⟩ = some (.string segS) ∧ w1.cell? ⟨b, 1, none⟩ = some (.iface 71 (.agg #[.int .i64 (cd : Int), .int .i64 (pl : Int)])) ∧ (wb.setCell ⟨p, 0, none⟩ (.slice none 0 0)).setCell ⟨q, 0, none⟩ (.iface 94 (.pointer (some ⟨wa.heap.size, 0, none⟩))) = (w1.setCell ⟨p, 0, none⟩ (.slice none 0 0)).setCell ⟨q, 0, none⟩ (.iface 94 (.pointer (some ⟨b, 0, none⟩)))) := Lib.hid ⟨wb, wa.heap.size, hab, hle, hc0, hc1, rfl⟩
  have e1 : (wb.setCell ⟨p, 0, none⟩ (.slice none 0 0)).cell? ⟨q, 0, none⟩ = some y := by
    exact (World.cell?_of_block (Below.heap_setCell wb ⟨p, 0, none⟩ _ q (fun h => hpq h.symm))).trans g1
  have e2 : (wb.setCell ⟨p, 0, none⟩ (.slice none 0 0)).frozen? ⟨q, 0, none⟩ = false := by rw [World.frozen?_setCell]; exact k1
  clear hab hc0 hc1 hx h0 h1 f0 f1 g1 k1 hle
  go_wp2_with fail
  exact HF.out _ _ rfl HZ.out

end Go.Proofs.YtemohjodihcdfaaGreatDoor
