/-
  The statement FaultParts is proved in its second form: for every code and two rows of texts of small bulk, the law returns true and leaves its arguments alone. Conditions: the arguments together hold at most 1048576 values and letters; the four package-level variables that the row lists read as the program's text lays them, which the card ties.
-/
import Derived.Test.YtgncdbclpokkhaaDoorTexts
import Derived.Test.YtgncdbclpokkhaaDoorLawParts
import Derived.Test.YtgncdbclpokkhaaDoorCards
import Derived.Test.YtgncdbclpokkhaaDoorTie
import Derived.SevenTiedAt
import Derived.Deep.DeepHandedRow
namespace Go.Proofs.YtgncdbclpokkhaaDoor
open Go.ChangeShapes Go.WideShapes Go.ChangeAt Go.RowKit

theorem parts_reads (os : Os) {H : Type} (enc : TypeId × Value → H) : ∃ places, DataW.whole enc Tryd.prog ((World.doorLaid Tryd.prog 400 os).forCall (fun _ _ => 0) ⟨#[], #[.int .i64 0, .slice none 0 0, .slice none 0 0], []⟩).memory Tryd.f6.params.toList Rows.faultPartsSpec.vars false #[Value.int .i64 0, Value.slice none 0 0, Value.slice none 0 0].toList 8 = some ([.lit (.int .i64 0), .nil, .nil], [], places) :=
  ⟨[], by kernel_rfl⟩

set_option maxRecDepth 100000 in
theorem parts_lifted (os : Os) (started : os.Started) (H : Type) (enc : TypeId × Value → H) (F : Stop.Interp) :
    ReturnsInHanded {} Tryd.checked os 6 .any ((Rows.OpenSpec.upto Rows.faultPartsSpec).preRow enc Tryd.prog Tryd.f6 Rows.faultPartsUptoRow.domain false Rows.faultPartsUptoRow.laid) (((Rows.OpenSpec.upto Rows.faultPartsSpec).at F).post enc Tryd.prog Tryd.f6 false true false false) := by
  obtain ⟨places, hx⟩ := parts_reads os enc
  refine returnsInHanded_of_row (C := Tryd.checked) (s := Rows.OpenSpec.upto Rows.faultPartsSpec) own started (by kernel_rfl) Tryd.func6
    (witness_row_at (enc := enc) (C := Tryd.checked) false (World.doorLaid Tryd.prog 400 os) #[.int .i64 0, .slice none 0 0, .slice none 0 0] rfl (by kernel_rfl) (by kernel_rfl) (by kernel_rfl)
      (OpenSpec.preRow_of_cond 8 hx (by kernel_rfl) (fun k hk => by cases hk; kernel_rfl) (by kernel_rfl) (door_met os _))) ?_
  intro W base args ds gs before hval0 hW _ hcond _ hL0 _ _
  have hL : laidMetH Tryd.prog laidL W := hL0
  have hval : ∀ (j : Nat) t v, Tryd.f6.params[j]? = some t → args[j]? = some v → Value.okWide Tryd.prog W .any base t v := hval0
  have hk : Rows.uptoSmall H (ds ++ gs) = true := hcond _ rfl
  have hW' := hW
  obtain ⟨p, q, hA0, hV, rfl, hfz, hnd⟩ := hW
  have hA : DataW.TrodAll enc Tryd.prog W 0 (fun _ => true) true Tryd.f6.params.toList args.toList ds p := hA0
  rw [Tryd.params6] at hA hval
  obtain ⟨v0, v1, v2, d0, d1, d2, p0, p1, p2, rfl, rfl, rfl, h0, h1, h2⟩ := trodAll_three hA
  obtain ⟨rfl, rfl⟩ := trodVars_none hV
  obtain ⟨c, rfl, rfl, rfl, wc⟩ := open_int Tryd.underlying22 (hval 0 22 v0 rfl rfl) h0
  obtain ⟨sa, n, ca, xs, rfl, hxs, hxr, hxt, hxm, hxb⟩ := open_texts (hval 1 23 v1 rfl rfl) h1
  obtain ⟨sb, m, cb, ys, rfl, hys, hyr, hyt, hym, hyb⟩ := open_texts (hval 2 23 v2 rfl rfl) h2
  have hg := handle_of_laid hL
  have htb := tab_of_laid hL
  obtain ⟨bc0, bc1⟩ := bounds_i64 wc
  clear hA0 hval0
  simp only [List.append_nil, List.nil_append] at hW'
  have hlt1 : ∀ x ∈ p1, x.block < W.heap.size := fun x hx => by simpa using hW'.lt x (List.mem_append_left _ hx)
  have hlt2 : ∀ x ∈ p2, x.block < W.heap.size := fun x hx => by simpa using hW'.lt x (List.mem_append_right _ hx)
  have hbulk := bulk_bound hk
  simp only [List.append_nil, Rows.uptoBulkAll] at hbulk
  have fin : ∀ (W' : World), Below W.heap.size W W' → Rows.faultPartsSpec.post enc Tryd.checked.prog Tryd.f6 false true false false W #[.int .i64 c, .slice sa n ca, .slice sb m cb] (.bool true) W' := by
    intro W' hb
    refine ⟨_, _, _, [], p1 ++ p2, [], hW', ?_, ?_, rfl, hb.frame _, fun h => by cases h⟩
    · exact trodAll_mk1 (shut_bool Tryd.underlying4 true)
    · exact trodAll_mk3 (shut_int Tryd.underlying22 wc) (Below.trod laidOut (by kernel_rfl) (of_decide_eq_true (by kernel_rfl)) h1 hb hlt1) (Below.trod laidOut (by kernel_rfl) (of_decide_eq_true (by kernel_rfl)) h2 hb hlt2)
  have shut : Calls Tryd.prog 6 #[.int .i64 c, .slice sa n ca, .slice sb m cb] W (Leaves1 (.bool true) W) → Calls Tryd.checked.prog 6 #[.int .i64 c, .slice sa n ca, .slice sb m cb] W fun e W' => ∃ v, e = Ending.returned v ∧ Rows.faultPartsSpec.post enc Tryd.checked.prog Tryd.f6 false true false false W #[.int .i64 c, .slice sa n ca, .slice sb m cb] v W' :=
    fun h => h.mono fun e W' ⟨he, hb⟩ => ⟨_, he, fin W' hb⟩
  by_cases h50 : 50 < n + m
  · exact shut (law_parts_many c sa sb n m ca cb W htb hg h50 (by omega))
  · have hrl := ref_length c 1 (xs ++ ys) bc0 bc1 (by omega) (by omega)
    have htot : total (xs ++ ys) ≤ 1048576 := by rw [total_append]; omega
    have hlen : (xs ++ ys).length ≤ 50 := by rw [List.length_append, hxs, hys]; omega
    exact shut (law_parts c sa sb n m ca cb xs ys _ W htb hg bc0 bc1 (by omega) hxs hys (hxm c 1 (by omega)) hyr hxt hyt
      (fun hc x w' hx => refs_of_texts hx hlen htot hc bc0 bc1) (by rw [ref_eq]) (by rw [ref_eq]; omega))

theorem faultPartsUpto_holds : Rows.FaultPartsUptoSaid :=
  OpenClaim.holds_of_cond 6 Tryd.f6 rfl rfl rfl rfl rfl rfl rfl ⟨rfl, rfl, rfl, rfl, rfl⟩ rfl rfl rfl rfl rfl (by kernel_rfl) Tryd.func6 (by kernel_rfl)
    (of_decide_eq_true (by kernel_rfl)) (by unfold Func.isWrapper; rw [if_neg (of_decide_eq_false (by kernel_rfl))]; exact ⟨rfl, rfl⟩)
    (fun os started H enc _ F => by rw [OpenClaim.pre_eq_preRow]; exact parts_lifted os started H enc F)

theorem faultPartsUpto_card : Rows.FaultPartsUptoCardSaid :=
  Claim7.holds_tied_plain_at .later [] [.data, .data, .data, .handle] true (true, "e90ef0e0a86973cc9d8372099700acd976540b951034d1a879d48e236a2d455e") true
    faultPartsUpto_holds (fun _ h => by cases h) (by kernel_rfl) (fun _ h => by cases h) faultPartsUpto_row_tie rfl ⟨rfl, rfl⟩ (by kernel_rfl) rfl
    (fun f fn hf hfn => by
      obtain rfl : f = 6 := Option.some.inj ((show Tryd.prog.funcNamed "recension/recensionlaw01.FaultParts" = some 6 by kernel_rfl).symm.trans hf) |>.symm
      obtain rfl : fn = Tryd.f6 := (Option.some.inj (Tryd.func6.symm.trans hfn)).symm
      exact ⟨by kernel_rfl, fun j t ht => by
        rw [Tryd.params6] at ht
        have hm : t ∈ [22, 23, 23] := by simpa using Array.mem_of_getElem? ht
        have hall : ([22, 23, 23].all fun u => !Tryd.prog.wantsStandIn u) = true := by kernel_rfl
        exact (show Tryd.prog.wantsStandIn t = false by simpa using List.all_eq_true.1 hall t hm)⟩)
    (by kernel_rfl)
end Go.Proofs.YtgncdbclpokkhaaDoor
