/-
  The statement ManPlays is proved: at every files, manifest and troubles the law returns true and leaves its arguments alone. Condition: the six package-level variables that the row lists read as the program's text lays them, which the card ties.
-/
import Derived.Test.YtacfcfbleogioaaGreatDoorMOpenF
import Derived.Test.YtacfcfbleogioaaGreatDoorMPlay
import Derived.Test.YtacfcfbleogioaaGreatDoorCards
import Derived.Test.YtacfcfbleogioaaGreatDoorTie
import Derived.SevenTiedAt
namespace Go.Proofs.YtacfcfbleogioaaGreatDoor
open Go.ChangeShapes Go.WideShapes Go.ChangeAt Go.RowKit
open Go.ChangeMaps (open_string shut_string)

theorem manPlays_laidOut : laidOutB Tryz.prog = true := by kernel_rfl
theorem manPlays_below {H : Type} {enc : TypeId × Value → H} {W : World} {base : Nat} {spare : Nat → Bool} {held : Bool} {t : TypeId} {v : Value} {d : DataW H} {p : List MemPlace} (h : DataW.Trod enc Tryz.prog W base spare held t v d p) : ∀ x ∈ p, x.block < W.heap.size := by
  obtain ⟨m, hm⟩ := h
  exact DataW.trod_lt m _ _ _ hm

set_option maxRecDepth 100000 in
set_option maxHeartbeats 4000000 in
theorem manPlays_lifted (os : Os) (started : os.Started) (H : Type) (enc : TypeId × Value → H) :
    ReturnsInHanded {} Tryz.checked os 3 .any (fun w args => (Rows.manPlaysSpec.pre enc Tryz.prog Tryz.f3 [] false w args ∧ laidMetH Tryz.prog laidZ w) ∧ sizedMet enc Tryz.prog Tryz.f3 (OpenSpec.ofChange Rows.manPlaysSpec) false w args)
      (Rows.manPlaysSpec.post enc Tryz.prog Tryz.f3 false true false false) := by
  refine returnsInHanded_of_change_and (C := Tryz.checked) (X := fun w _ => laidMetH Tryz.prog laidZ w) (fun _ _ _ hh h => h.of_heap hh) zown started (by kernel_rfl) Tryz.func3
    (ChangeSpec.witness_shaped (enc := enc) (C := Tryz.checked) (os := os) (X := fun w _ => laidMetH Tryz.prog laidZ w) false (World.doorLaid Tryz.prog 400 os) #[.slice none 0 0, .agg #[.int .i64 0, .int .i64 0, .slice none 0 0], .slice none 0 0] 8 rfl (World.shaped_of_RefB (by kernel_rfl) (by kernel_rfl)) (by kernel_rfl) (by kernel_rfl) (by kernel_rfl) (zmet os _)) ?_
  intro W base args ds gs before hval0 hW _ hsz0 hL _
  have hval : ∀ (j : Nat) t v, Tryz.f3.params[j]? = some t → args[j]? = some v → Value.okWide Tryz.prog W .any base t v := hval0
  have hsz : (DataW.weightsEach Tryz.prog (Tryz.f3.params.toList ++ Rows.manPlaysSpec.plain.varTypes Tryz.prog) (ds ++ gs)).all (· ≤ reachBytes) = true := hsz0
  have hW' := hW
  obtain ⟨p, q, hA0, hV, rfl, hfz, hnd⟩ := hW
  have hA : DataW.TrodAll enc Tryz.prog W 0 (fun _ => true) true Tryz.f3.params.toList args.toList ds p := hA0
  rw [Tryz.params3] at hA hval hsz
  obtain ⟨v0, vs0, d0, ds0, p0, q0, hargs, rfl, rfl, h0, r0⟩ := trodAll_cons hA
  obtain ⟨v1, vs1, d1, ds1, p1, q1, rfl, rfl, rfl, h1, r1⟩ := trodAll_cons r0
  obtain ⟨v2, vs2, d2, ds2, p2, q2, rfl, rfl, rfl, h2, r2⟩ := trodAll_cons r1
  obtain ⟨rfl, rfl, rfl⟩ := trodAll_nil r2
  obtain rfl : args = #[v0, v1, v2] := by cases args; simp_all
  obtain ⟨rfl, rfl⟩ := trodVars_none hV
  obtain ⟨fa, nf, cf, L, rfl, f1, f2, _, _, _, f6⟩ := fils_of (hval 0 22 v0 rfl rfl) h0
  have f7 := f6 (fun k hk => by
    have := List.all_eq_true.1 hsz k (DataW.weights_mem_each (j := 0) (t := 22) rfl rfl k hk)
    simpa using this)
  obtain ⟨g, l, a, n, c, segs, rfl, a1, a2, a3, a4⟩ := man_arg (hval 1 25 v1 rfl rfl) h1 (fun k hk => by
    have := List.all_eq_true.1 hsz k (DataW.weights_mem_each (j := 1) (t := 25) rfl rfl k hk)
    simpa using this)
  obtain ⟨ta, nt, ct, rfl⟩ := okWide_slice Tryz.underlying26 (hval 2 26 v2 rfl rfl)
  have h2c := h2
  obtain ⟨fu2, h2'⟩ := h2c
  obtain ⟨ta', nt', ct', tl, hve, t1, t2, t3, t4⟩ := tros_of h2'
  cases hve
  have t5 := t4 (fun k hk => by
    have := List.all_eq_true.1 hsz k (DataW.weights_mem_each (j := 2) (t := 26) rfl rfl k hk)
    simpa using this)
  clear hA0 hval0 hsz0
  refine (law_plays8 fa L nf cf g l a segs n c ta tl nt ct W (ztab hL) (zerrs hL) (zhandle hL) f1 f2 (Nat.le_trans f7.1 reach_le) (fun f hf => Nat.le_trans (f7.2 f hf) reach_le) a1 a2 a3 a4 t1 t2 (Nat.le_trans t5 reach_le) t3).mono fun e W' ⟨he, bel⟩ => ?_
  subst he
  exact ⟨_, rfl, _, _, _, [], _, [], hW', trodAll_mk1 (shut_bool Tryz.underlying4 _), (trodAll_cons_mk (Below.trod manPlays_laidOut (by kernel_rfl) (of_decide_eq_true (by kernel_rfl)) h0 bel (manPlays_below h0)) (trodAll_cons_mk (Below.trod manPlays_laidOut (by kernel_rfl) (of_decide_eq_true (by kernel_rfl)) h1 bel (manPlays_below h1)) (trodAll_cons_mk (Below.trod manPlays_laidOut (by kernel_rfl) (of_decide_eq_true (by kernel_rfl)) h2 bel (manPlays_below h2)) trodAll_mk0))), rfl, bel.frame _, fun h => by cases h⟩

theorem manPlays_holds : Rows.ManPlaysSaid :=
  OpenClaim.holds_of_wide 3 Tryz.f3 rfl rfl rfl rfl rfl rfl rfl ⟨rfl, rfl, rfl, rfl, rfl⟩ rfl rfl rfl rfl rfl (by kernel_rfl) Tryz.func3 (by kernel_rfl)
    (of_decide_eq_true (by kernel_rfl)) (by unfold Func.isWrapper; first | (rw [if_pos (by decide +kernel)]; kernel_rfl) | (rw [if_neg (by decide +kernel)]; exact ⟨rfl, rfl⟩))
    (fun os started H enc _ => manPlays_lifted os started H enc)

theorem manPlays_card : Rows.ManPlaysCardSaid :=
  Claim7.holds_tied_plain_at .later [] [.data, .data, .data, .handle, .sentinel, .sentinel] true (true, "19ffd1140078c1a39377d67a1d13ed5436818a7b7928668baa8c46f71587e0d0") true
    manPlays_holds (fun _ h => by cases h) (by kernel_rfl) (fun _ h => by cases h) manPlays_row_tie rfl ⟨rfl, rfl⟩ (by kernel_rfl) rfl
    (fun f fn hf hfn => by
      obtain rfl : f = 3 := Option.some.inj ((show Tryz.prog.funcNamed "recension/recensionlaw08.ManPlays" = some 3 by kernel_rfl).symm.trans hf) |>.symm
      obtain rfl : fn = Tryz.f3 := (Option.some.inj (Tryz.func3.symm.trans hfn)).symm
      exact ⟨by kernel_rfl, fun j t ht => by
        rw [Tryz.params3] at ht
        have hm : t ∈ [22, 25, 26] := by simpa using Array.mem_of_getElem? ht
        have hall : ([22, 25, 26].all fun u => !Tryz.prog.wantsStandIn u) = true := by kernel_rfl
        exact (show Tryz.prog.wantsStandIn t = false by simpa using List.all_eq_true.1 hall t hm)⟩)
    (by kernel_rfl)

end Go.Proofs.YtacfcfbleogioaaGreatDoor
