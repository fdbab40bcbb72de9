/-
 The statement XoutParsed is proved: at every argument the law returns true and leaves its arguments alone.
-/
import Derived.Test.YtjpkkflhcjjefaaGreatDoorArg
import Derived.Test.YtjpkkflhcjjefaaGreatDoorWS
import Derived.Test.YtjpkkflhcjjefaaGreatDoorCards
import Derived.Test.YtjpkkflhcjjefaaGreatDoorTie
namespace Go.Proofs.YtjpkkflhcjjefaaGreatDoor
open Go.ChangeShapes Go.WideShapes Go.ChangeAt Go.RowKit
set_option maxHeartbeats 32000000
open Go.ChangeMaps (open_string)
set_option maxRecDepth 100000 in
theorem xoutParsed_lifted (os : Os) (started : os.Started) (H : Type) (enc : TypeId × Value → H) :
  ReturnsInHanded {} Tryz.checked os 5 .any (fun w args => (Rows.xoutParsedSpec.pre enc Tryz.prog Tryz.f5 [] false w args ∧ laidMetH Tryz.prog laidL w) ∧ sizedMet enc Tryz.prog Tryz.f5 (OpenSpec.ofChange Rows.xoutParsedSpec) false w args)
   (Rows.xoutParsedSpec.post enc Tryz.prog Tryz.f5 false true false false) := by
 refine returnsLaid (C := Tryz.checked) (X := fun w _ => laidMetH Tryz.prog laidL w) (fun _ _ _ hh h => h.of_heap hh) own started (by kernel_rfl) Tryz.func5
  (ChangeSpec.witness_shaped (enc := enc) (C := Tryz.checked) (os := os) (X := fun w _ => laidMetH Tryz.prog laidL w) false (zw os) #[.slice none 0 0] 8 (zw_os os)
   (World.shaped_of_ZipB (by kernel_rfl) (by kernel_rfl)) (by kernel_rfl) (by kernel_rfl) (by kernel_rfl) (zmet os _)) ?_
 intro W base args ds gs before hval0 hW hX hsh
 have hval : ∀ (j : Nat) t v, Tryz.f5.params[j]? = some t → args[j]? = some v → Value.okWide Tryz.prog W .any base t v := hval0
 have hW' := hW
 obtain ⟨p, q, hA0, hV, rfl, hfz, hnd⟩ := hW
 have hA : DataW.TrodAll enc Tryz.prog W 0 (fun _ => true) true Tryz.f5.params.toList args.toList ds p := hA0
 rw [Tryz.params5] at hA hval
 obtain ⟨v0, vs0, d0, ds0, p0, q0, hargs, rfl, rfl, h0, r0⟩ := trodAll_cons hA
 obtain ⟨rfl, rfl, rfl⟩ := trodAll_nil r0
 obtain rfl : args = #[v0] := by cases args; simp_all
 obtain ⟨rfl, rfl⟩ := trodVars_none hV
 obtain ⟨a0, c0, l0, rfl, hd0⟩ := doc_arg (hval 0 43 v0 rfl rfl) h0
 clear hA0 hval0
 have hlaw := parsed11_calls hd0 (env_of_met hX hsh) (handle_of_met hX) (many_of_met hX)
 refine hlaw.mono fun e W' ⟨he, bel⟩ => ?_
 subst he
 exact ⟨_, rfl, _, _, _, [], _, [], hW', trodAll_mk1 (shut_bool Tryz.underlying4 _), (trodAll_cons_mk (Below.trod laidOut (by kernel_rfl) (of_decide_eq_true (by kernel_rfl)) h0 bel (arg_below h0)) trodAll_mk0), rfl, bel.frame _, fun h => by cases h⟩
theorem xoutParsed_holds : Rows.XoutParsedSaid :=
 OpenClaim.holds_of_wide 5 Tryz.f5 rfl rfl rfl rfl rfl rfl rfl ⟨rfl, rfl, rfl, rfl, rfl⟩ rfl rfl rfl rfl rfl (by kernel_rfl) Tryz.func5 (by kernel_rfl)
  (of_decide_eq_true (by kernel_rfl)) (by unfold Func.isWrapper; first | (rw [if_pos (by decide +kernel)]; kernel_rfl) | (rw [if_neg (by decide +kernel)]; exact ⟨rfl, rfl⟩))
  (fun os started H enc _ => xoutParsed_lifted os started H enc)
theorem xoutParsed_card : Rows.XoutParsedCardSaid :=
 Claim7.holds_tied_plain_at .later [] [.data, .data, .data, .data, .handle, .sentinel, .sentinel, .data, .data, .data, .data, .data, .pinned, .pinned] true (true, "975a64786d723c3fe3dfeb437a322c25abc681a9bd6153ac077d73ebcdc487cb") true
  xoutParsed_holds (fun _ h => by cases h) (by kernel_rfl) (fun _ h => by cases h) xoutParsed_row_tie rfl ⟨rfl, rfl⟩ (by kernel_rfl) rfl
  (fun f fn hf hfn => by
   obtain rfl : f = 5 := Option.some.inj ((show Tryz.prog.funcNamed "recension/recensionlaw11.XoutParsed" = some 5 by kernel_rfl).symm.trans hf) |>.symm
   obtain rfl : fn = Tryz.f5 := (Option.some.inj (Tryz.func5.symm.trans hfn)).symm
   exact ⟨by kernel_rfl, fun j t ht => by
    rw [Tryz.params5] at ht
    have hm : t ∈ [43] := by simpa using Array.mem_of_getElem? ht
    have hall : ([43].all fun u => !Tryz.prog.wantsStandIn u) = true := by kernel_rfl
    exact (show Tryz.prog.wantsStandIn t = false by simpa using List.all_eq_true.1 hall t hm)⟩)
  (by kernel_rfl)
end Go.Proofs.YtjpkkflhcjjefaaGreatDoor
