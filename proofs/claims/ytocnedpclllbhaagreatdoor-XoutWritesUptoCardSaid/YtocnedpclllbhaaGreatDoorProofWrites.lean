/-
 The statement XoutWrites is proved in its second form: for every document of small bulk the law returns true and leaves its argument alone. Conditions: the argument holds at most 1048576 values and letters; the twelve package-level variables that the row lists read as the program's text lays them, which the card ties.
-/
import Derived.Test.YtocnedpclllbhaaGreatDoorOpW
import Derived.Test.YtocnedpclllbhaaGreatDoorCards
import Derived.Test.YtocnedpclllbhaaGreatDoorTie
import Derived.SevenTiedAt
import Derived.Deep.DeepHandedRow
namespace Go.Proofs.YtocnedpclllbhaaGreatDoor
open Go.ChangeShapes Go.WideShapes Go.ChangeAt Go.RowKit Go.Lib Go.Joins
open Go.Proofs.YtocnedpclllbhaaGreatDoor.Rows (uptoBulk uptoBulkAll)

variable {H : Type} {enc : TypeId × Value → H}
theorem arg_lt {W : World} {base : Nat} {spare : Nat → Bool} {held : Bool} {t : TypeId} {v : Value} {d : DataW H} {p : List MemPlace} (h : DataW.Trod enc Tryz.prog W base spare held t v d p) : ∀ x ∈ p, x.block < W.heap.size := by
  obtain ⟨m, hm⟩ := h
  exact DataW.trod_lt m _ _ _ hm
set_option maxRecDepth 100000 in
theorem node_cells {W : World} {base : Nat} {spare : Nat → Bool} {held : Bool} {fuel : Nat} {c0 c1 c2 c3 c4 : Value} {d : DataW H} {p : List MemPlace} (hf : DataW.trod enc Tryz.prog W base spare held fuel 25 [c0, c1, c2, c3, c4] = some (d, p)) : ∃ r t, #[c0, c1, c2, c3, c4] = #[.int .i64 (r : Nr).kind, .string (strB r.name), .string (strB r.text), r.av, r.kv] ∧ NodeIn W Any r t ∧ t.sz ≤ uptoBulk d := by
  obtain ⟨ys, n, _, hy, _, hyl, hfl⟩ := DataW.trod_struct Tryz.underlying25 hf
  obtain ⟨ya, yb, yc, yd, ye, rfl⟩ : ∃ ya yb yc yd ye, ys = [ya, yb, yc, yd, ye] := by
    match ys, hyl with
    | [ya, yb, yc, yd, ye], _ => exact ⟨ya, yb, yc, yd, ye, rfl⟩
  obtain ⟨rfl, rfl⟩ := Prod.mk.inj hy
  have t0 := hfl 0 _ rfl
  have t1 := hfl 1 _ rfl
  have t2 := hfl 2 _ rfl
  have t3 := hfl 3 _ rfl
  have t4 := hfl 4 _ rfl
  have hc : ∀ (t : TypeId) (j : Nat) (c : Value), Tryz.prog.cellsOf t = 1 → #[c0, c1, c2, c3, c4].toList[j]? = some c → ((#[c0, c1, c2, c3, c4] : Array Value).toList.drop j).take (Tryz.prog.cellsOf t) = [c] := by
    intro t j c h1 h2
    rw [h1]
    have hlt := (List.getElem?_eq_some_iff.1 h2).1
    rw [List.drop_eq_getElem_cons hlt]
    rw [List.getElem?_eq_getElem hlt] at h2
    rw [Option.some.inj h2]
    rfl
  have e0 : DataW.trod enc Tryz.prog W base spare held n 3 [c0] = some ya := by
    have := hc 3 0 c0 (by kernel_rfl) rfl
    rw [← this]
    exact t0
  have e1 : DataW.trod enc Tryz.prog W base spare held n 9 [c1] = some yb := by
    have := hc 9 1 c1 (by kernel_rfl) rfl
    rw [← this]
    exact t1
  have e2 : DataW.trod enc Tryz.prog W base spare held n 9 [c2] = some yc := by
    have := hc 9 2 c2 (by kernel_rfl) rfl
    rw [← this]
    exact t2
  have e3 : DataW.trod enc Tryz.prog W base spare held n 23 [c3] = some yd := by
    have := hc 23 3 c3 (by kernel_rfl) rfl
    rw [← this]
    exact t3
  have e4 : DataW.trod enc Tryz.prog W base spare held n 22 [c4] = some ye := by
    have := hc 22 4 c4 (by kernel_rfl) rfl
    rw [← this]
    exact t4
  obtain ⟨r, t, q0, q1, q2, q3, q4, hnd, hsz2⟩ := node_of (nodes_of _ e4 (Nat.le_refl _)) e0 e1 e2 e3
  subst q0 q1 q2 q3 q4
  exact ⟨r, t, rfl, hnd, by show t.sz ≤ uptoBulk (.agg [ya.1, yb.1, yc.1, yd.1, ye.1]); omega⟩
set_option maxRecDepth 100000 in
/-- A document as an argument. -/
theorem doc7_arg {W : World} {base b0 : Nat} {spare : Nat → Bool} {held : Bool} {v : Value} {d : DataW H} {p : List MemPlace} (hv : Value.okWide Tryz.prog W .any b0 27 v) (h0 : DataW.Trod enc Tryz.prog W base spare held 27 v d p) : ∃ q bv av r rb ra, DcIn W v q bv av r rb ra ∧ szL q.1 + q.2.1.sz + szL q.2.2 ≤ uptoBulk d := by
  obtain ⟨cs, rfl, hsz⟩ := okWide_struct Tryz.underlying27 hv
  have h7 : cs.size = 7 := hsz.trans (by kernel_rfl)
  obtain ⟨c0, c1, c2, c3, c4, c5, c6, rfl⟩ : ∃ c0 c1 c2 c3 c4 c5 c6, cs = #[c0, c1, c2, c3, c4, c5, c6] := by
    obtain ⟨l⟩ := cs
    match l, h7 with
    | [c0, c1, c2, c3, c4, c5, c6], _ => exact ⟨c0, c1, c2, c3, c4, c5, c6, rfl⟩
  obtain ⟨fuel, hf⟩ := h0
  obtain ⟨ys, n, _, hy, _, hyl, hfl⟩ := DataW.trod_struct Tryz.underlying27 hf
  obtain ⟨ya, yb, yc, rfl⟩ : ∃ ya yb yc, ys = [ya, yb, yc] := by
    match ys, hyl with
    | [ya, yb, yc], _ => exact ⟨ya, yb, yc, rfl⟩
  obtain ⟨rfl, rfl⟩ := Prod.mk.inj hy
  have t0 := hfl 0 _ rfl
  have t1 := hfl 1 _ rfl
  have t2 := hfl 2 _ rfl
  have k1 : Tryz.prog.cellsOf 22 = 1 := by kernel_rfl
  have k5 : Tryz.prog.cellsOf 25 = 5 := by kernel_rfl
  have e0 : DataW.trod enc Tryz.prog W base spare held n 22 [c0] = some ya := by
    have : ((#[c0, c1, c2, c3, c4, c5, c6] : Array Value).toList.drop 0).take (Tryz.prog.cellsOf 22) = [c0] := by rw [k1]; rfl
    rw [← this]
    exact t0
  have e1 : DataW.trod enc Tryz.prog W base spare held n 25 [c1, c2, c3, c4, c5] = some yb := by
    have : ((#[c0, c1, c2, c3, c4, c5, c6] : Array Value).toList.drop 1).take (Tryz.prog.cellsOf 25) = [c1, c2, c3, c4, c5] := by rw [k5]; rfl
    rw [← this]
    exact t1
  have e2 : DataW.trod enc Tryz.prog W base spare held n 22 [c6] = some yc := by
    have : ((#[c0, c1, c2, c3, c4, c5, c6] : Array Value).toList.drop 6).take (Tryz.prog.cellsOf 22) = [c6] := by rw [k1]; rfl
    rw [← this]
    exact t2
  obtain ⟨rb, kb, hrb, hnb, hsb⟩ := nodes_of _ e0 (Nat.le_refl _)
  obtain ⟨ra, ka, hra, hna, hsa⟩ := nodes_of _ e2 (Nat.le_refl _)
  obtain ⟨yb1, yb2⟩ := yb
  obtain ⟨r, t, hr, hnd, hst⟩ := node_cells e1
  obtain ⟨rfl, rfl, rfl, rfl, rfl⟩ : c1 = .int .i64 r.kind ∧ c2 = .string (strB r.name) ∧ c3 = .string (strB r.text) ∧ c4 = r.av ∧ c5 = r.kv := by simpa using hr
  refine ⟨(kb, t, ka), c0, c6, r, rb, ra, ⟨rfl, hnd, hrb, hnb, hra, hna⟩, ?_⟩
  show szL kb + t.sz + szL ka ≤ uptoBulk (.agg [ya.1, yb1, yc.1])
  rw [uptoBulk, uptoBulkAll, uptoBulkAll, uptoBulkAll, uptoBulkAll]
  omega
def zd : Value := .agg #[.slice none 0 0, .int .i64 0, .string ⟨#[]⟩, .string ⟨#[]⟩, .slice none 0 0, .slice none 0 0, .slice none 0 0]
theorem writes_reads (os : Os) {H : Type} (enc : TypeId × Value → H) : ∃ places, DataW.whole enc Tryz.prog ((zw os).forCall (fun _ _ => 0) ⟨#[], #[zd], []⟩).memory Tryz.f3.params.toList Rows.xoutWritesSpec.vars false #[zd].toList 8 = some ([.agg [.nil, .agg [.lit (.int .i64 0), .lit (.string []), .lit (.string []), .nil, .nil], .nil]], [], places) :=
  ⟨[], by kernel_rfl⟩

set_option maxRecDepth 100000 in
theorem writes_lifted (os : Os) (started : os.Started) (H : Type) (enc : TypeId × Value → H) (F : Stop.Interp) :
    ReturnsInHanded {} Tryz.checked os 3 .any ((Rows.OpenSpec.upto Rows.xoutWritesSpec).preRow enc Tryz.prog Tryz.f3 Rows.xoutWritesUptoRow.domain false Rows.xoutWritesUptoRow.laid) (((Rows.OpenSpec.upto Rows.xoutWritesSpec).at F).post enc Tryz.prog Tryz.f3 false true false false) := by
  obtain ⟨places, hx⟩ := writes_reads os enc
  refine returnsInHanded_of_row (C := Tryz.checked) (s := Rows.OpenSpec.upto Rows.xoutWritesSpec) own started (by kernel_rfl) Tryz.func3
    ⟨zw os, fun _ _ => 0, ⟨#[], #[zd], []⟩, zw_os os, World.shaped_of_ZipB (by kernel_rfl) (by kernel_rfl), rfl, (Input.okWide_of_okWideB (by kernel_rfl)).2,
      OpenSpec.preRow_of_cond 8 hx (by kernel_rfl) (fun k hk => by cases hk; kernel_rfl) (by kernel_rfl) (zmet os _), by
        simp only [Assume.holds]
        exact ⟨by simp, by simp, fun _ => Modest.zero, by simp, by simp⟩⟩ ?_
  intro W base args ds gs before hval0 hW _ hcond _ hL0 hsh _
  have hX : laidMetH Tryz.prog laidL W := hL0
  have hval : ∀ (j : Nat) t v, Tryz.f3.params[j]? = some t → args[j]? = some v → Value.okWide Tryz.prog W .any base t v := hval0
  have hk : Rows.uptoSmall H (ds ++ gs) = true := hcond _ rfl
  have hW' := hW
  obtain ⟨p, q, hA0, hV, rfl, hfz, hnd⟩ := hW
  have hA : DataW.TrodAll enc Tryz.prog W 0 (fun _ => true) true Tryz.f3.params.toList args.toList ds p := hA0
  rw [Tryz.params3] at hA hval
  obtain ⟨v0, vs0, d0, ds0, p0, q0, hargs, rfl, rfl, h0, r0⟩ := trodAll_cons hA
  obtain ⟨rfl, rfl, rfl⟩ := trodAll_nil r0
  obtain rfl : args = #[v0] := by cases args; simp_all
  obtain ⟨rfl, rfl⟩ := trodVars_none hV
  have hb := of_decide_eq_true hk
  have hb2 : uptoBulk d0 + 0 ≤ 1048576 := hb
  obtain ⟨qd, bv, av, r, rb, ra, hdc, hsz⟩ := doc7_arg (hval 0 27 v0 rfl rfl) h0
  clear hA0 hval0
  have hlaw := writes_law hdc (by omega) (by omega) (by omega) (env_of_met hX hsh) (handle_of_met hX) (many_of_met hX)
  refine hlaw.mono fun e W' ⟨he, bel⟩ => ?_
  subst he
  exact ⟨_, rfl, _, _, _, [], _, [], hW', trodAll_mk1 (shut_bool Tryz.underlying4 _), (trodAll_cons_mk (Below.trod laidOut (by kernel_rfl) (of_decide_eq_true (by kernel_rfl)) h0 bel (arg_lt h0)) trodAll_mk0), rfl, bel.frame _, fun h => by cases h⟩

theorem xoutWritesUpto_holds : Rows.XoutWritesUptoSaid :=
  OpenClaim.holds_of_cond 3 Tryz.f3 rfl rfl rfl rfl rfl rfl rfl ⟨rfl, rfl, rfl, rfl, rfl⟩ rfl rfl rfl rfl rfl (by kernel_rfl) Tryz.func3 (by kernel_rfl)
    (of_decide_eq_true (by kernel_rfl)) (by unfold Func.isWrapper; first | (rw [if_pos (by decide +kernel)]; kernel_rfl) | (rw [if_neg (by decide +kernel)]; exact ⟨rfl, rfl⟩))
    (fun os started H enc _ F => by rw [OpenClaim.pre_eq_preRow]; exact writes_lifted os started H enc F)

theorem xoutWritesUpto_card : Rows.XoutWritesUptoCardSaid :=
  Claim7.holds_tied_plain_at .later [] [.data, .data, .data, .data, .handle, .data, .data, .data, .data, .data, .pinned, .pinned] true (true, "2e9cf60f54be0e00011c47f51525a8ca3cbd7e43ebb3d9e2580040ae90139a62") true
    xoutWritesUpto_holds (fun _ h => by cases h) (by kernel_rfl) (fun _ h => by cases h) xoutWritesUpto_row_tie rfl ⟨rfl, rfl⟩ (by kernel_rfl) rfl
    (fun f fn hf hfn => by
      obtain rfl : f = 3 := Option.some.inj ((show Tryz.prog.funcNamed "recension/recensionlaw11.XoutWrites" = some 3 by kernel_rfl).symm.trans hf) |>.symm
      obtain rfl : fn = Tryz.f3 := (Option.some.inj (Tryz.func3.symm.trans hfn)).symm
      exact ⟨by kernel_rfl, fun j t ht => by
        rw [Tryz.params3] at ht
        have hm : t ∈ [27] := by simpa using Array.mem_of_getElem? ht
        have hall : ([27].all fun u => !Tryz.prog.wantsStandIn u) = true := by kernel_rfl
        exact (show Tryz.prog.wantsStandIn t = false by simpa using List.all_eq_true.1 hall t hm)⟩)
    (by kernel_rfl)

end Go.Proofs.YtocnedpclllbhaaGreatDoor
