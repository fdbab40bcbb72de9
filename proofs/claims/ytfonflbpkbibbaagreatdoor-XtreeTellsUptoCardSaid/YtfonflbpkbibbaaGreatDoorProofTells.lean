/-
  XtreeTells, second form. Condition: a bulk of at most 1048576; the listed variables as laid.
-/
import Derived.Test.YtfonflbpkbibbaaGreatDoorXNo
import Derived.Test.YtfonflbpkbibbaaGreatDoorXTl2
import Derived.Test.YtfonflbpkbibbaaGreatDoorCards
import Derived.Test.YtfonflbpkbibbaaGreatDoorTie
import Derived.Deep.DeepHandedRow
namespace Go.Proofs.YtfonflbpkbibbaaGreatDoor
open Go.ChangeShapes Go.WideShapes Go.ChangeAt Go.RowKit
open Go.Proofs.YtfonflbpkbibbaaGreatDoor.Rows (uptoBulk uptoBulkAll)

def zn : Value := .agg #[.int .i64 0, .string ⟨#[]⟩, .string ⟨#[]⟩, .slice none 0 0, .slice none 0 0]
theorem tells_reads (os : Os) {H : Type} (enc : TypeId × Value → H) : ∃ places, DataW.whole enc Tryz.prog ((zw os).forCall (fun _ _ => 0) ⟨#[], #[zn, zn], []⟩).memory Tryz.f4.params.toList Rows.xtreeTellsSpec.vars false #[zn, zn].toList 8 = some ([.agg [.lit (.int .i64 0), .lit (.string []), .lit (.string []), .nil, .nil], .agg [.lit (.int .i64 0), .lit (.string []), .lit (.string []), .nil, .nil]], [], places) :=
  ⟨[], by kernel_rfl⟩

set_option maxRecDepth 100000 in
theorem tells_lifted (os : Os) (started : os.Started) (H : Type) (enc : TypeId × Value → H) (F : Stop.Interp) :
    ReturnsInHanded {} Tryz.checked os 4 .any ((Rows.OpenSpec.upto Rows.xtreeTellsSpec).preRow enc Tryz.prog Tryz.f4 Rows.xtreeTellsUptoRow.domain false Rows.xtreeTellsUptoRow.laid) (((Rows.OpenSpec.upto Rows.xtreeTellsSpec).at F).post enc Tryz.prog Tryz.f4 false true false false) := by
  obtain ⟨places, hx⟩ := tells_reads os enc
  refine returnsInHanded_of_row (C := Tryz.checked) (s := Rows.OpenSpec.upto Rows.xtreeTellsSpec) own started (by kernel_rfl) Tryz.func4
    ⟨zw os, fun _ _ => 0, ⟨#[], #[zn, zn], []⟩, zw_os os, World.shaped_of_ZipB (by kernel_rfl) (by kernel_rfl), rfl, (Input.okWide_of_okWideB (by kernel_rfl)).2,
      OpenSpec.preRow_of_cond 8 hx (by kernel_rfl) (fun k hk => by cases hk; kernel_rfl) (by kernel_rfl) (zmet os _), by
        simp only [Assume.holds]
        exact ⟨by simp, by simp, fun _ => Modest.zero, by simp, by simp⟩⟩ ?_
  intro W base args ds gs before hval0 hW _ hcond _ hL0 hsh _
  have hX : laidMetH Tryz.prog laidL W := hL0
  have hval : ∀ (j : Nat) t v, Tryz.f4.params[j]? = some t → args[j]? = some v → Value.okWide Tryz.prog W .any base t v := hval0
  have hk : Rows.uptoSmall H (ds ++ gs) = true := hcond _ rfl
  have hW' := hW
  obtain ⟨p, q, hA0, hV, rfl, hfz, hnd⟩ := hW
  have hA : DataW.TrodAll enc Tryz.prog W 0 (fun _ => true) true Tryz.f4.params.toList args.toList ds p := hA0
  rw [Tryz.params4] at hA hval
  obtain ⟨v0, vs0, d0, ds0, p0, q0, hargs, rfl, rfl, h0, r0⟩ := trodAll_cons hA
  obtain ⟨v1, vs1, d1, ds1, p1, q1, rfl, rfl, rfl, h1, r1⟩ := trodAll_cons r0
  obtain ⟨rfl, rfl, rfl⟩ := trodAll_nil r1
  obtain rfl : args = #[v0, v1] := by cases args; simp_all
  obtain ⟨rfl, rfl⟩ := trodVars_none hV
  have hb := of_decide_eq_true hk
  have hb2 : uptoBulk d0 + (uptoBulk d1 + 0) ≤ 1048576 := hb
  obtain ⟨ra, ta, rfl, hna, hsa⟩ := node_arg (hval 0 27 v0 rfl rfl) h0
  obtain ⟨rb, tb, rfl, hnb, hsb⟩ := node_arg (hval 1 27 v1 rfl rfl) h1
  clear hA0 hval0
  have hlaw := tells_calls hna hnb (by omega) (by omega) (env_of_met hX hsh) (handle_of_met hX) (many_of_met hX)
  refine hlaw.mono fun e W' ⟨he, bel⟩ => ?_
  subst he
  exact ⟨_, rfl, _, _, _, [], _, [], hW', trodAll_mk1 (shut_bool Tryz.underlying4 _), (trodAll_cons_mk (Below.trod laidOut (by kernel_rfl) (of_decide_eq_true (by kernel_rfl)) h0 bel (arg_below h0)) (trodAll_cons_mk (Below.trod laidOut (by kernel_rfl) (of_decide_eq_true (by kernel_rfl)) h1 bel (arg_below h1)) trodAll_mk0)), rfl, bel.frame _, fun h => by cases h⟩

theorem xtreeTellsUpto_holds : Rows.XtreeTellsUptoSaid :=
  OpenClaim.holds_of_cond 4 Tryz.f4 rfl rfl rfl rfl rfl rfl rfl ⟨rfl, rfl, rfl, rfl, rfl⟩ rfl rfl rfl rfl rfl (by kernel_rfl) Tryz.func4 (by kernel_rfl)
    (of_decide_eq_true (by kernel_rfl)) (by unfold Func.isWrapper; first | (rw [if_pos (by decide +kernel)]; kernel_rfl) | (rw [if_neg (by decide +kernel)]; exact ⟨rfl, rfl⟩))
    (fun os started H enc _ F => by rw [OpenClaim.pre_eq_preRow]; exact tells_lifted os started H enc F)

theorem xtreeTellsUpto_card : Rows.XtreeTellsUptoCardSaid :=
  Claim7.holds_tied_plain_at .later [] [.data, .data, .data, .data, .handle, .sentinel, .sentinel, .data, .data, .data, .data, .data, .pinned, .pinned] true (true, "6ac4d6d22d8d2e60bf968673142148a8c921f4c3d33fd4586bf71e85eb3cf8a8") true
    xtreeTellsUpto_holds (fun _ h => by cases h) (by kernel_rfl) (fun _ h => by cases h) xtreeTellsUpto_row_tie rfl ⟨rfl, rfl⟩ (by kernel_rfl) rfl
    (fun f fn hf hfn => by
      obtain rfl : f = 4 := Option.some.inj ((show Tryz.prog.funcNamed "recension/recensionlaw10.XtreeTells" = some 4 by kernel_rfl).symm.trans hf) |>.symm
      obtain rfl : fn = Tryz.f4 := (Option.some.inj (Tryz.func4.symm.trans hfn)).symm
      exact ⟨by kernel_rfl, fun j t ht => by
        rw [Tryz.params4] at ht
        have hm : t ∈ [27, 27] := by simpa using Array.mem_of_getElem? ht
        have hall : ([27, 27].all fun u => !Tryz.prog.wantsStandIn u) = true := by kernel_rfl
        exact (show Tryz.prog.wantsStandIn t = false by simpa using List.all_eq_true.1 hall t hm)⟩)
    (by kernel_rfl)

end Go.Proofs.YtfonflbpkbibbaaGreatDoor
