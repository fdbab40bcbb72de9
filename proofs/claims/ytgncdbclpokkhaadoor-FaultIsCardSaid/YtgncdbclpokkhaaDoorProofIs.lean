/-
  The statement FaultIs is proved: for every code, other code and row of texts, the law returns true and leaves its arguments alone. Condition: the four package-level variables that the row lists read as the program's text lays them, which the card ties.
-/
import Derived.Test.YtgncdbclpokkhaaDoorOpen
import Derived.Test.YtgncdbclpokkhaaDoorCards
import Derived.Test.YtgncdbclpokkhaaDoorTie
import Derived.SevenTiedAt
namespace Go.Proofs.YtgncdbclpokkhaaDoor
open Go.ChangeShapes Go.WideShapes Go.ChangeAt Go.RowKit

set_option maxRecDepth 100000 in
theorem is_lifted (os : Os) (started : os.Started) (H : Type) (enc : TypeId × Value → H) :
    ReturnsInHanded {} Tryd.checked os 4 .any (fun w args => (Rows.faultIsSpec.pre enc Tryd.prog Tryd.f4 [] false w args ∧ laidMetH Tryd.prog laidL w) ∧ sizedMet enc Tryd.prog Tryd.f4 (OpenSpec.ofChange Rows.faultIsSpec) false w args)
      (Rows.faultIsSpec.post enc Tryd.prog Tryd.f4 false true false false) := by
  refine returnsInHanded_of_change_and (C := Tryd.checked) (X := fun w _ => laidMetH Tryd.prog laidL w) (fun _ _ _ hh h => h.of_heap hh) own started (by kernel_rfl) Tryd.func4
    (ChangeSpec.witness_shaped (enc := enc) (C := Tryd.checked) (os := os) (X := fun w _ => laidMetH Tryd.prog laidL w) false (World.doorLaid Tryd.prog 400 os) #[.int .i64 0, .int .i64 0, .slice none 0 0] 8 rfl (World.shaped_of_RefB (by kernel_rfl) (by kernel_rfl)) (by kernel_rfl) (by kernel_rfl) (by kernel_rfl) (door_met os _)) ?_
  intro W base args ds gs before hval0 hW _ _ hL _
  have hval : ∀ (j : Nat) t v, Tryd.f4.params[j]? = some t → args[j]? = some v → Value.okWide Tryd.prog W .any base t v := hval0
  have hW' := hW
  obtain ⟨p, q, hA0, hV, rfl, hfz, hnd⟩ := hW
  have hA : DataW.TrodAll enc Tryd.prog W 0 (fun _ => true) true Tryd.f4.params.toList args.toList ds p := hA0
  rw [Tryd.params4] at hA hval
  obtain ⟨v0, v1, v2, d0, d1, d2, p0, p1, p2, rfl, rfl, rfl, h0, h1, h2⟩ := trodAll_three hA
  obtain ⟨rfl, rfl⟩ := trodVars_none hV
  obtain ⟨c, rfl, rfl, rfl, wc⟩ := open_int Tryd.underlying22 (hval 0 22 v0 rfl rfl) h0
  obtain ⟨d, rfl, rfl, rfl, wd⟩ := open_int Tryd.underlying22 (hval 1 22 v1 rfl rfl) h1
  obtain ⟨a0, len, cap, rfl⟩ := okWide_slice Tryd.underlying23 (hval 2 23 v2 rfl rfl)
  have hg := handle_of_laid hL
  have htb := tab_of_laid hL
  clear hA0 hval0
  simp only [List.append_nil, List.nil_append] at hW'
  have hlt : ∀ x ∈ p2, x.block < W.heap.size := fun x hx => by simpa using hW'.lt x hx
  have fin : ∀ (W' : World), Below W.heap.size W W' → Rows.faultIsSpec.post enc Tryd.checked.prog Tryd.f4 false true false false W #[.int .i64 c, .int .i64 d, .slice a0 len cap] (.bool true) W' := by
    intro W' hb
    refine ⟨_, _, _, [], p2, [], hW', ?_, ?_, rfl, hb.frame _, fun h => by cases h⟩
    · exact trodAll_mk1 (shut_bool Tryd.underlying4 true)
    · exact trodAll_mk3 (shut_int Tryd.underlying22 wc) (shut_int Tryd.underlying22 wd) (Below.trod laidOut (by kernel_rfl) (of_decide_eq_true (by kernel_rfl)) h2 hb hlt)
  have shut : ∀ {n : Nat}, Calls Tryd.prog 4 #[.int .i64 c, .int .i64 d, .slice a0 n cap] W (Leaves1 (.bool true) W) → n = len → Calls Tryd.checked.prog 4 #[.int .i64 c, .int .i64 d, .slice a0 len cap] W fun e W' => ∃ v, e = Ending.returned v ∧ Rows.faultIsSpec.post enc Tryd.checked.prog Tryd.f4 false true false false W #[.int .i64 c, .int .i64 d, .slice a0 len cap] v W' := by
    rintro n h rfl
    exact h.mono fun e W' ⟨he, hb⟩ => ⟨_, he, fin W' hb⟩
  obtain ⟨fuel, hf⟩ := h2
  rcases open_strings Tryd.underlying23 Tryd.underlying9 cells23 hf with ⟨hcs, hx⟩ | ⟨a, len', cap', ss, hcs, _, hl, hm, hz, hx, hcell, hws⟩
  · simp [Value.cells] at hcs
    obtain ⟨rfl, rfl, rfl⟩ := hcs
    exact shut (law_is c d _ rfl none 0 0 [] W htb hg (by omega) (fun w' _ => made_none c 3 none 0 w')) rfl
  · simp [Value.cells] at hcs
    obtain ⟨rfl, rfl, rfl⟩ := hcs
    simp only [if_true] at hz
    unfold maxLen at hm
    by_cases h50 : 50 < len
    · exact shut (law_is_many c d _ len cap W htb hg h50 (by omega)) rfl
    · by_cases hl0 : len = 0
      · exact shut (law_is c d _ rfl (some a) 0 cap [] W htb hg (by omega) (fun w' _ => made_none c 3 (some a) cap w')) hl0.symm
      · obtain ⟨b, off, spot⟩ := a
        have hspot : spot = none := by simpa [Addr.add] using World.cell?_spot (hcell 0 (by omega))
        subst hspot
        exact shut (law_is c d _ rfl _ len cap _ W htb hg (by omega) (makes_of_cells (ss := ss) (by omega) (fun j hj => by rw [← add_plain]; exact hcell j hj) (by omega) c 3)) rfl

theorem faultIs_holds : Rows.FaultIsSaid :=
  OpenClaim.holds_of_wide 4 Tryd.f4 rfl rfl rfl rfl rfl rfl rfl ⟨rfl, rfl, rfl, rfl, rfl⟩ rfl rfl rfl rfl rfl (by kernel_rfl) Tryd.func4 (by kernel_rfl)
    (of_decide_eq_true (by kernel_rfl)) (by unfold Func.isWrapper; rw [if_neg (of_decide_eq_false (by kernel_rfl))]; exact ⟨rfl, rfl⟩)
    (fun os started H enc _ => is_lifted os started H enc)

theorem faultIs_card : Rows.FaultIsCardSaid :=
  Claim7.holds_tied_plain_at .later [] [.data, .data, .data, .handle] true (true, "e90ef0e0a86973cc9d8372099700acd976540b951034d1a879d48e236a2d455e") true
    faultIs_holds (fun _ h => by cases h) (by kernel_rfl) (fun _ h => by cases h) faultIs_row_tie rfl ⟨rfl, rfl⟩ (by kernel_rfl) rfl
    (fun f fn hf hfn => by
      obtain rfl : f = 4 := Option.some.inj ((show Tryd.prog.funcNamed "recension/recensionlaw01.FaultIs" = some 4 by kernel_rfl).symm.trans hf) |>.symm
      obtain rfl : fn = Tryd.f4 := (Option.some.inj (Tryd.func4.symm.trans hfn)).symm
      exact ⟨by kernel_rfl, fun j t ht => by
        rw [Tryd.params4] at ht
        have hm : t ∈ [22, 22, 23] := by simpa using Array.mem_of_getElem? ht
        have hall : ([22, 22, 23].all fun u => !Tryd.prog.wantsStandIn u) = true := by kernel_rfl
        exact (show Tryd.prog.wantsStandIn t = false by simpa using List.all_eq_true.1 hall t hm)⟩)
    (by kernel_rfl)

end Go.Proofs.YtgncdbclpokkhaaDoor
