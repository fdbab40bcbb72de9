/-
  The statement CrcTurned is proved: at every slice of bytes, every place and all bits that are turned the law returns true and leaves its arguments alone. No condition.
-/
import Derived.Test.YtmjadapdajbmmaaOpen
import Derived.Test.YtmjadapdajbmmaaLawTurned
import Derived.Lib.SmallJoins
namespace Go.Proofs.Ytmjadapdajbmmaa
open Go.ChangeShapes Go.WideShapes Go.ChangeAt Go.RowKit

variable {H : Type} {enc : TypeId × Value → H}

theorem cells31 : Try.prog.cellsOf 31 = 2 := by kernel_rfl

theorem u16_bounds {n : Int} (h : (Lit.int .u16 n).wf = true) : 0 ≤ n ∧ n < 65536 := by
  simp [Lit.wf, IntKind.min, IntKind.max, IntKind.signed, IntKind.bits] at h
  omega
theorem u32_bounds {n : Int} (h : (Lit.int .u32 n).wf = true) : 0 ≤ n ∧ n < 4294967296 := by
  simp [Lit.wf, IntKind.min, IntKind.max, IntKind.signed, IntKind.bits] at h
  omega
theorem u16_wf {n : Int} (h0 : 0 ≤ n) (h1 : n < 65536) : (Lit.int .u16 n).wf = true := by
  simp [Lit.wf, IntKind.min, IntKind.max, IntKind.signed, IntKind.bits]
  omega
theorem u32_wf {n : Int} (h0 : 0 ≤ n) (h1 : n < 4294967296) : (Lit.int .u32 n).wf = true := by
  simp [Lit.wf, IntKind.min, IntKind.max, IntKind.signed, IntKind.bits]
  omega

set_option maxRecDepth 100000 in
theorem open_turn {W : World} {base : Nat} {b0 : Nat} {spare : Nat → Bool} {held : Bool} {r : Reach} {v : Value} {d : DataW H} {p : List MemPlace} (hv : Value.okWide Try.prog W r b0 31 v) (h : DataW.Trod enc Try.prog W base spare held 31 v d p) :
    ∃ a b : Int, v = .agg #[.int .u16 a, .int .u32 b] ∧ d = .agg [.lit (.int .u16 a), .lit (.int .u32 b)] ∧ p = [] ∧ 0 ≤ a ∧ a < 65536 ∧ 0 ≤ b ∧ b < 4294967296 := by
  obtain ⟨c0, c1, y0, y1, m, rfl, rfl, rfl, hy0, hy1⟩ := Joins.open_agg2 Try.underlying31 (by kernel_rfl) cells31 hv h
  obtain ⟨a, e0, rfl, wa⟩ := DataW.trod_int Try.underlying29 hy0
  obtain ⟨b, e1, rfl, wb⟩ := DataW.trod_int Try.underlying24 hy1
  simp at e0 e1
  subst e0 e1
  exact ⟨a, b, rfl, rfl, rfl, (u16_bounds wa).1, (u16_bounds wa).2, (u32_bounds wb).1, (u32_bounds wb).2⟩
set_option maxRecDepth 100000 in
theorem shut_turn {W : World} {base : Nat} {spare : Nat → Bool} {held : Bool} {a b : Int} (ha0 : 0 ≤ a) (ha1 : a < 65536) (hb0 : 0 ≤ b) (hb1 : b < 4294967296) :
    DataW.Trod enc Try.prog W base spare held 31 (.agg #[.int .u16 a, .int .u32 b]) (.agg [.lit (.int .u16 a), .lit (.int .u32 b)]) [] :=
  Joins.shut_agg2 (y0 := (.lit (.int .u16 a), [])) (y1 := (.lit (.int .u32 b), [])) Try.underlying31 (by kernel_rfl) cells31 ⟨1, by simp [DataW.trod, Try.underlying29, u16_wf ha0 ha1]⟩ ⟨1, by simp [DataW.trod, Try.underlying24, u32_wf hb0 hb1]⟩

set_option maxRecDepth 100000 in
theorem turned_lifted (os : Os) (started : os.Started) (H : Type) (enc : TypeId × Value → H) :
    ReturnsInHanded {} Try.checked os 5 .any (Rows.crcTurnedSpec.pre6 enc Try.prog Try.f5 Rows.crcTurnedRow.domain false) (Rows.crcTurnedSpec.post enc Try.prog Try.f5 false true false false) := by
  refine returnsInHanded_of_change (C := Try.checked) own started (by kernel_rfl) Try.func5
    (ChangeSpec.witness6 (enc := enc) (C := Try.checked) false ⟨#[], #[.slice none 0 0, .agg #[.int .u16 0, .int .u32 0]], []⟩ 8 (by kernel_rfl) (by kernel_rfl) (by kernel_rfl) (by kernel_rfl)) ?_
  intro W base args ds gs before hval0 hW _ _
  have hval : ∀ (j : Nat) t v, Try.f5.params[j]? = some t → args[j]? = some v → Value.okWide Try.prog W .any base t v := hval0
  have hW' := hW
  obtain ⟨p, q, hA0, hV, rfl, hfz, hnd⟩ := hW
  have hA : DataW.TrodAll enc Try.prog W 0 (fun _ => true) true Try.f5.params.toList args.toList ds p := hA0
  rw [Try.params5] at hA hval
  obtain ⟨v0, vs0, d0, ds0, p0, q0, hargs, rfl, rfl, h0, r0⟩ := trodAll_cons hA
  obtain ⟨v1, vs1, d1, ds1, p1, q1, rfl, rfl, rfl, h1, r1⟩ := trodAll_cons r0
  obtain ⟨rfl, rfl, rfl⟩ := trodAll_nil r1
  obtain rfl : args = #[v0, v1] := by cases args; simp_all
  obtain ⟨rfl, rfl⟩ := trodVars_none hV
  obtain ⟨a0, len0, cap0, l0, rfl, hr0, hl0, hn0, lt0⟩ := bytes_of (hval 0 22 v0 rfl rfl) h0
  obtain ⟨pl, bt, rfl, rfl, rfl, hp0, hp1, hb0, hb1⟩ := open_turn (hval 1 31 v1 rfl rfl) h1
  clear hA0 hval0
  refine (law_turned a0 l0 len0 cap0 pl bt W hr0 hl0 hn0 hp0 hp1 hb0 hb1).mono fun e W' ⟨he, bel⟩ => ?_
  subst he
  exact ⟨_, rfl, _, _, _, [], _, [], hW', trodAll_mk1 (shut_bool Try.underlying4 _), trodAll_cons_mk (Below.trod laidOut (by kernel_rfl) (of_decide_eq_true (by kernel_rfl)) h0 bel lt0) (trodAll_cons_mk (shut_turn hp0 hp1 hb0 hb1) trodAll_mk0), rfl, bel.frame _, fun h => by cases h⟩

theorem crcTurned_holds : Rows.CrcTurnedSaid :=
  OpenClaim.holds_of_wide 5 Try.f5 rfl rfl rfl rfl rfl rfl rfl ⟨rfl, rfl, rfl, rfl, rfl⟩ rfl rfl rfl rfl rfl (by kernel_rfl) Try.func5 (by kernel_rfl)
    (of_decide_eq_true (by kernel_rfl)) (by unfold Func.isWrapper; first | (rw [if_pos (by decide +kernel)]; kernel_rfl) | (rw [if_neg (by decide +kernel)]; exact ⟨rfl, rfl⟩))
    (fun os started H enc _ => turned_lifted os started H enc)

end Go.Proofs.Ytmjadapdajbmmaa
