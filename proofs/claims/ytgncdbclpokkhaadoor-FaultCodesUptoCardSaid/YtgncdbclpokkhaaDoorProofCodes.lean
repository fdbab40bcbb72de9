/-
  The statement FaultCodes is proved in its second form: for every code, place and row of texts of small bulk, the law returns true and leaves its arguments alone. Conditions: the arguments together hold at most 1048576 values and letters; the four package-level variables that the row lists read as the program's text lays them, which the card ties.
-/
import Derived.Test.YtgncdbclpokkhaaDoorBulk
import Derived.Test.YtgncdbclpokkhaaDoorLawCodes
import Derived.Test.YtgncdbclpokkhaaDoorCards
import Derived.Test.YtgncdbclpokkhaaDoorTie
import Derived.SevenTiedAt
import Derived.Deep.DeepHandedRow
namespace Go.Proofs.YtgncdbclpokkhaaDoor
open Go.ChangeShapes Go.WideShapes Go.ChangeAt Go.RowKit

theorem codes_reads (os : Os) {H : Type} (enc : TypeId × Value → H) : ∃ places, DataW.whole enc Tryd.prog ((World.doorLaid Tryd.prog 400 os).forCall (fun _ _ => 0) ⟨#[], #[.int .i64 0, .int .i64 0, .slice none 0 0], []⟩).memory Tryd.f3.params.toList Rows.faultCodesSpec.vars false #[Value.int .i64 0, Value.int .i64 0, Value.slice none 0 0].toList 8 = some ([.lit (.int .i64 0), .lit (.int .i64 0), .nil], [], places) :=
  ⟨[], by kernel_rfl⟩

set_option maxRecDepth 100000 in
theorem codes_lifted (os : Os) (started : os.Started) (H : Type) (enc : TypeId × Value → H) (F : Stop.Interp) :
    ReturnsInHanded {} Tryd.checked os 3 .any ((Rows.OpenSpec.upto Rows.faultCodesSpec).preRow enc Tryd.prog Tryd.f3 Rows.faultCodesUptoRow.domain false Rows.faultCodesUptoRow.laid) (((Rows.OpenSpec.upto Rows.faultCodesSpec).at F).post enc Tryd.prog Tryd.f3 false true false false) := by
  obtain ⟨places, hx⟩ := codes_reads os enc
  refine returnsInHanded_of_row (C := Tryd.checked) (s := Rows.OpenSpec.upto Rows.faultCodesSpec) own started (by kernel_rfl) Tryd.func3
    (witness_row_at (enc := enc) (C := Tryd.checked) false (World.doorLaid Tryd.prog 400 os) #[.int .i64 0, .int .i64 0, .slice none 0 0] rfl (by kernel_rfl) (by kernel_rfl) (by kernel_rfl)
      (OpenSpec.preRow_of_cond 8 hx (by kernel_rfl) (fun k hk => by cases hk; kernel_rfl) (by kernel_rfl) (door_met os _))) ?_
  intro W base args ds gs before hval0 hW _ hcond _ hL0 _ _
  have hL : laidMetH Tryd.prog laidL W := hL0
  have hval : ∀ (j : Nat) t v, Tryd.f3.params[j]? = some t → args[j]? = some v → Value.okWide Tryd.prog W .any base t v := hval0
  have hk : Rows.uptoSmall H (ds ++ gs) = true := hcond _ rfl
  have hW' := hW
  obtain ⟨p, q, hA0, hV, rfl, hfz, hnd⟩ := hW
  have hA : DataW.TrodAll enc Tryd.prog W 0 (fun _ => true) true Tryd.f3.params.toList args.toList ds p := hA0
  rw [Tryd.params3] at hA hval
  obtain ⟨v0, v1, v2, d0, d1, d2, p0, p1, p2, rfl, rfl, rfl, h0, h1, h2⟩ := trodAll_three hA
  obtain ⟨rfl, rfl⟩ := trodVars_none hV
  obtain ⟨c, rfl, rfl, rfl, wc⟩ := open_int Tryd.underlying22 (hval 0 22 v0 rfl rfl) h0
  obtain ⟨a, rfl, rfl, rfl, wa⟩ := open_int Tryd.underlying3 (hval 1 3 v1 rfl rfl) h1
  obtain ⟨a0, len, cap, rfl⟩ := okWide_slice Tryd.underlying23 (hval 2 23 v2 rfl rfl)
  have hg := handle_of_laid hL
  have htb := tab_of_laid hL
  obtain ⟨bc0, bc1⟩ := bounds_i64 wc
  obtain ⟨ba0, ba1⟩ := bounds_i64 wa
  clear hA0 hval0
  simp only [List.append_nil, List.nil_append] at hW'
  have hlt : ∀ x ∈ p2, x.block < W.heap.size := fun x hx => by simpa using hW'.lt x hx
  have fin : ∀ (W' : World), Below W.heap.size W W' → Rows.faultCodesSpec.post enc Tryd.checked.prog Tryd.f3 false true false false W #[.int .i64 c, .int .i64 a, .slice a0 len cap] (.bool true) W' := by
    intro W' hb
    refine ⟨_, _, _, [], p2, [], hW', ?_, ?_, rfl, hb.frame _, fun h => by cases h⟩
    · exact trodAll_mk1 (shut_bool Tryd.underlying4 true)
    · exact trodAll_mk3 (shut_int Tryd.underlying22 wc) (shut_int Tryd.underlying3 wa) (Below.trod laidOut (by kernel_rfl) (of_decide_eq_true (by kernel_rfl)) h2 hb hlt)
  have shut : ∀ {n : Nat}, Calls Tryd.prog 3 #[.int .i64 c, .int .i64 a, .slice a0 n cap] W (Leaves1 (.bool true) W) → n = len → Calls Tryd.checked.prog 3 #[.int .i64 c, .int .i64 a, .slice a0 len cap] W fun e W' => ∃ v, e = Ending.returned v ∧ Rows.faultCodesSpec.post enc Tryd.checked.prog Tryd.f3 false true false false W #[.int .i64 c, .int .i64 a, .slice a0 len cap] v W' := by
    rintro n h rfl
    exact h.mono fun e W' ⟨he, hb⟩ => ⟨_, he, fin W' hb⟩
  have none : ∀ (sl : Option Addr) (cp : Nat), Calls Tryd.prog 3 #[.int .i64 c, .int .i64 a, .slice sl 0 cp] W (Leaves1 (.bool true) W) := by
    intro sl cp
    by_cases hc : c = 0
    · subst hc
      exact law_codes_ok a sl 0 cp [] W htb hg (by omega) (fun w' _ => made_none 0 a sl cp w')
    · have hl := ref_length c a [] bc0 bc1 ba0 ba1
      exact law_codes c a sl 0 cp [] _ W htb hg hc bc0 bc1 ba0 ba1 (by omega) rfl (fun w' _ => made_none c a sl cp w')
        (fun w' _ => ref_text_none c a sl cp w' (beq_eq_false_iff_ne.2 hc) bc0 bc1 ba0 ba1) (by rw [← ref_eq]; rfl) (by have e := ref_eq c a []; rw [List.reverse_nil] at e; rw [e]; simp [total, Lib.lens] at hl; omega)
  obtain ⟨fuel, hf⟩ := h2
  rcases open_strings Tryd.underlying23 Tryd.underlying9 cells23 hf with ⟨hcs, hx⟩ | ⟨ad, len', cap', ss, hcs, _, hl, hm, hz, hx, hcell, hws⟩
  · simp [Value.cells] at hcs
    obtain ⟨rfl, rfl, rfl⟩ := hcs
    exact shut (none Option.none 0) rfl
  · simp [Value.cells] at hcs
    obtain ⟨rfl, rfl, rfl⟩ := hcs
    simp only [if_true] at hz
    simp only [Prod.mk.injEq] at hx
    unfold maxLen at hm
    by_cases h50 : 50 < len
    · exact shut (law_codes_many c a _ len cap W htb hg h50 (by omega)) rfl
    · by_cases hl0 : len = 0
      · exact shut (none (some ad) cap) hl0.symm
      · obtain ⟨b, off, spot⟩ := ad
        have hspot : spot = Option.none := by simpa [Addr.add] using World.cell?_spot (hcell 0 (by omega))
        subst hspot
        have hcell' : ∀ j, j < ss.length → W.cell? ⟨b, off + j, Option.none⟩ = some (.string (ss.getD j ByteArray.empty)) := fun j hj => by rw [← add_plain]; exact hcell j hj
        have htot : total (ss.take len) ≤ 1048576 := total_of_small (rest := ss.drop len) hk (by rw [hx.1]; simp)
        by_cases hc : c = 0
        · subst hc
          exact shut (law_codes_ok a _ len cap _ W htb hg (by omega) (makes_of_cells (ss := ss) (by omega) hcell' (by omega) 0 a)) rfl
        · have hln : (ss.take len).length = len := by simp; omega
          have hrl := ref_length c a (ss.take len) bc0 bc1 ba0 ba1
          exact shut (law_codes c a _ len cap _ _ W htb hg hc bc0 bc1 ba0 ba1 (by omega) (by simp; omega) (makes_of_cells (ss := ss) (by omega) hcell' (by omega) c a)
            (refs_of_cells (ss := ss) (by omega) hcell' (by omega) c a hc bc0 bc1 ba0 ba1 htot) (by rw [ref_eq]) (by rw [ref_eq]; omega)) rfl

theorem faultCodesUpto_holds : Rows.FaultCodesUptoSaid :=
  OpenClaim.holds_of_cond 3 Tryd.f3 rfl rfl rfl rfl rfl rfl rfl ⟨rfl, rfl, rfl, rfl, rfl⟩ rfl rfl rfl rfl rfl (by kernel_rfl) Tryd.func3 (by kernel_rfl)
    (of_decide_eq_true (by kernel_rfl)) (by unfold Func.isWrapper; rw [if_neg (of_decide_eq_false (by kernel_rfl))]; exact ⟨rfl, rfl⟩)
    (fun os started H enc _ F => by rw [OpenClaim.pre_eq_preRow]; exact codes_lifted os started H enc F)

theorem faultCodesUpto_card : Rows.FaultCodesUptoCardSaid :=
  Claim7.holds_tied_plain_at .later [] [.data, .data, .data, .handle] true (true, "e90ef0e0a86973cc9d8372099700acd976540b951034d1a879d48e236a2d455e") true
    faultCodesUpto_holds (fun _ h => by cases h) (by kernel_rfl) (fun _ h => by cases h) faultCodesUpto_row_tie rfl ⟨rfl, rfl⟩ (by kernel_rfl) rfl
    (fun f fn hf hfn => by
      obtain rfl : f = 3 := Option.some.inj ((show Tryd.prog.funcNamed "recension/recensionlaw01.FaultCodes" = some 3 by kernel_rfl).symm.trans hf) |>.symm
      obtain rfl : fn = Tryd.f3 := (Option.some.inj (Tryd.func3.symm.trans hfn)).symm
      exact ⟨by kernel_rfl, fun j t ht => by
        rw [Tryd.params3] at ht
        have hm : t ∈ [22, 3, 23] := by simpa using Array.mem_of_getElem? ht
        have hall : ([22, 3, 23].all fun u => !Tryd.prog.wantsStandIn u) = true := by kernel_rfl
        exact (show Tryd.prog.wantsStandIn t = false by simpa using List.all_eq_true.1 hall t hm)⟩)
    (by kernel_rfl)
end Go.Proofs.YtgncdbclpokkhaaDoor
