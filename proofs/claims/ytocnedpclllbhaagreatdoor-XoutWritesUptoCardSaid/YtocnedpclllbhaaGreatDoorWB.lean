/-
 xout's printer.put: texts, one behind the other. Conditions: the printer lies in a block of the call's own; the texts lie in a row of their own; all is short.
-/
import Derived.Test.YtocnedpclllbhaaGreatDoorXTk
import Derived.Lib.OwnKind
namespace Go.Proofs.YtocnedpclllbhaaGreatDoor
open Go.RowKit Go.Lib Go.Joins

/-- A printer in memory: what has been written, and its levels' slice. -/
structure PrAt (w : World) (B b : Nat) (out : List UInt8) (o : Value) : Prop where
  base : B ≤ b
  cell : ∃ p v, (p = .pointer none ∨ p = .pointer (some ⟨b, 0, none⟩)) ∧ w.heap[b]? = some (.cells #[p, v, o] 67 (0, 0)) ∧ w.ownsRow B 5 1 v out.length (Lib.byteCells out) ∧ (out = [] → v = .slice none 0 0)
/-- What a printer's writing leaves: all below a base, and all but the printer and rows of bytes. -/
structure Wr (B b : Nat) (w w' : World) : Prop where
  low : Below B w w'
  oth : Lib.OthersKept 5 (some b) w w'
theorem Wr.refl (B b : Nat) (w : World) : Wr B b w w := ⟨Below.refl _ _, Lib.OthersKept.refl _ _ _⟩
theorem Wr.trans {B b : Nat} {w w1 w2 : World} (h : Wr B b w w1) (k : Wr B b w1 w2) : Wr B b w w2 := ⟨h.low.trans k.low, h.oth.trans k.oth⟩
theorem Wr.below {B b : Nat} {w w1 w2 : World} (h : Wr B b w w1) (hB : B ≤ w1.heap.size) (k : Below w1.heap.size w1 w2) : Wr B b w w2 :=
  ⟨h.low.trans (k.mono hB), h.oth.trans (fun _i _o hi _ _ => block_below k hi)⟩
theorem PrAt.lt {w : World} {B b : Nat} {out : List UInt8} {o : Value} (h : PrAt w B b out o) : b < w.heap.size := by
  obtain ⟨p, v, _, hc, _⟩ := h.cell
  exact lt_of_block hc
theorem PrAt.below {w w' : World} {B b : Nat} {out : List UInt8} {o : Value} (h : PrAt w B b out o) (k : Below w.heap.size w w') : PrAt w' B b out o := by
  obtain ⟨p, v, hp, hc, hown, hz⟩ := h.cell
  exact ⟨h.base, p, v, hp, block_below k hc, ownsRow_keep hown (keeps_below k Non) (fun _ _ e => e), hz⟩
theorem PrAt.open_ {w : World} {B b : Nat} {out : List UInt8} {o : Value} (h : PrAt w B b out o) : w.cell? ⟨b, 2, none⟩ = some o := by
  obtain ⟨p, v, hp, hc, hown, hz⟩ := h.cell
  rw [Lib.cell_of_heap hc]; rfl
theorem PrAt.thaw {w : World} {B b : Nat} {out : List UInt8} {o : Value} (h : PrAt w B b out o) (j : Nat) : w.frozen? ⟨b, j, none⟩ = false := by
  obtain ⟨p, v, hp, hc, hown, hz⟩ := h.cell
  exact Lib.frozen_of_heap hc j
theorem infoB8 : (Tryz.prog.info? 5).map (fun i => (i.zero, i.size, i.bytes)) = some (some (.int .u8 0), 1, 1) := by kernel_rfl
theorem sizeBu : (Tryz.prog.info? 65).map (·.size) = some 2 := by kernel_rfl
theorem liesPr : liesAt Tryz.prog Tryz.prog.depth 67 (3 / Tryz.prog.cellsOf 67) 0 65 1 = true := by kernel_rfl
theorem cellsB8 : Tryz.prog.cellsOf 5 = 1 := by kernel_rfl
theorem own_ne {w : World} {B b n : Nat} {v p u o : Value} {xs : List Value} (hown : w.ownsRow B 5 1 v n xs) (hc : w.heap[b]? = some (.cells #[p, u, o] 67 (0, 0))) : v.ownBlock ≠ some b := Lib.ownBlock_ne hown hc (by decide)

set_option maxHeartbeats 1000000 in
set_option maxRecDepth 100000 in
theorem pcheck_fresh {w : World} {b : Nat} {v o : Value} (hc : w.heap[b]? = some (.cells #[.pointer none, v, o] 67 (0, 0))) : Calls Tryz.prog 69 #[.pointer (some ⟨b, 0, none⟩)] w (fun e w' => e = .returned (.tuple #[]) ∧ w' = w.setCell ⟨b, 0, none⟩ (.pointer (some ⟨b, 0, none⟩))) := by
  obtain ⟨j, hj, hjs⟩ := Option.map_eq_some_iff.1 sizeBu
  have hsh : w.shape? b = some (67, 3) := by simp [World.shape?, hc]
  have h0 : w.cell? ⟨b, 0, none⟩ = some (.pointer none) := by rw [Lib.cell_of_heap hc]; rfl
  have hfz : w.frozen? ⟨b, 0, none⟩ = false := Lib.frozen_of_heap hc 0
  clear hc
  go_enter Tryz.func69, Tryz.ntmps69
  go_wp2
  rw [Lib.run_to_unsafe w ⟨b, 0, none⟩ Tryz.underlying63 Tryz.underlying103 hj (by rw [hjs]; decide) hsh (Nat.zero_lt_succ 2)]
  simp only [Result.andThen]
  rw [Oper.upon_value]
  go_wp2
  rw [run_callFunc_extern Tryz.func83 (by kernel_rfl) (by kernel_rfl) (by kernel_rfl) (e := Extern.AbiNoEscape.same) (by kernel_rfl)]
  rw [Lib.run_noEscape]
  simp only [Result.andThen]
  rw [Oper.upon_value]
  go_wp2
  rw [Lib.run_from_unsafe w ⟨b, 0, none⟩ Tryz.underlying103 Tryz.underlying63 hj hsh liesPr]
  simp only [Result.andThen]
  rw [Oper.upon_value]
  go_wp2
  go_end0
  exact ⟨rfl, rfl⟩
theorem pcheck_calls {w : World} {B b : Nat} {out : List UInt8} {o : Value} (h : PrAt w B b out o) : Calls Tryz.prog 69 #[.pointer (some ⟨b, 0, none⟩)] w (fun e w' => e = .returned (.tuple #[]) ∧ Wr B b w w' ∧ ∃ v, w'.heap[b]? = some (.cells #[.pointer (some ⟨b, 0, none⟩), v, o] 67 (0, 0)) ∧ w'.ownsRow B 5 1 v out.length (Lib.byteCells out) ∧ (out = [] → v = .slice none 0 0)) := by
  obtain ⟨hB, p, v, hp, hc, hown, hz⟩ := h
  rcases hp with rfl | rfl
  · refine (pcheck_fresh hc).mono ?_
    rintro e w' ⟨rfl, rfl⟩
    refine ⟨rfl, ⟨(Below.refl _ _).setCell (p := ⟨b, 0, none⟩) hB _, (Lib.OthersKept.refl _ (some b) w).setCell ⟨b, 0, none⟩ rfl _⟩, v, ?_, ?_, hz⟩
    · simp [World.setCell, Array.getElem?_modify, hc]
    · exact ownsRow_keep hown ((Keeps.refl (One b) w).setCell (p := ⟨b, 0, none⟩) (.inl rfl) _) (fun k e hk => own_ne hown hc (by rw [e]; exact congrArg some hk))
  · refine (Any.Builder_copyCheck_used (ρ := Tryz.lays166_ren) { Tryz.lays166 with } Tryz.Builder_Extra_166.toX72 b w (by rw [Lib.cell_of_heap hc]; rfl)).mono ?_
    rintro e w' ⟨rfl, rfl⟩
    exact ⟨rfl, Wr.refl _ _ _, v, hc, hown, hz⟩

set_option maxHeartbeats 2000000 in
set_option maxRecDepth 100000 in
theorem pwrite_calls {w : World} {B b : Nat} {out : List UInt8} {o : Value} (h : PrAt w B b out o) (s : List UInt8) (hlen : out.length + s.length ≤ 70368744177664) (hBw : B ≤ w.heap.size) : Calls Tryz.prog 50 #[.pointer (some ⟨b, 0, none⟩), .string (strB s)] w (fun e w' => e = .returned (.tuple #[.int .i64 (s.length : Int), .nilIface]) ∧ PrAt w' B b (out ++ s) o ∧ Wr B b w w') := by
  obtain ⟨i0, hi, hz0, hz1, hz2⟩ := info_parts infoB8
  have HB := Lib.hid h.base
  have HCK := Lib.hid (pcheck_calls h)
  have HSZ : Hid ((strB s).size = s.length) := Lib.hid (strB_size s)
  have HSC : Hid (Lib.strCells (strB s) = Lib.byteCells s) := Lib.hid rfl
  obtain ⟨sv, hsv⟩ : ∃ x, strB s = x := ⟨_, rfl⟩
  rw [hsv] at HSZ HSC ⊢
  clear h
  go_enter Tryz.func50, Tryz.ntmps50
  go_wp2_with fail
  refine (HCK.out).mono ?_
  rintro e w1 ⟨rfl, hwr, v, hbk, hown, hz⟩
  have HWR := Lib.hid hwr
  have HZ := Lib.hid hz
  have HBK := Lib.hid hbk
  have c0 : w1.cell? ⟨b, 0, none⟩ = some (.pointer (some ⟨b, 0, none⟩)) := by rw [Lib.cell_of_heap hbk]; rfl
  have c1 : w1.cell? ⟨b, 1, none⟩ = some v := by rw [Lib.cell_of_heap hbk]; rfl
  have c2 : w1.cell? ⟨b, 2, none⟩ = some o := by rw [Lib.cell_of_heap hbk]; rfl
  clear hwr hz hbk
  go_wp2_with (at_builtin; refine Lib.wpList_append_own_string _ rfl _ _ 53 9 rfl B 5 i0 Tryz.underlying53 Tryz.underlying9 hi hz0 hz1 hz2 _ _ _ rfl hown sv rfl ?c3 ?c4 ?c5 ?_)
  case c3 => rw [HSZ.out]; unfold maxLen; omega
  case c4 => rw [HSZ.out]; omega
  case c5 => have := HWR.out.low.size; omega
  intro v' w2 hown' hgrow hnil
  have hlt : b < w1.heap.size := lt_of_block HBK.out
  have hb2 : w2.heap[b]? = some (.cells #[.pointer (some ⟨b, 0, none⟩), v, o] 67 (0, 0)) := by
    rw [hgrow.block b hlt (fun e => own_ne hown HBK.out e.symm)]
    exact HBK.out
  have d0 : w2.cell? ⟨b, 0, none⟩ = some (.pointer (some ⟨b, 0, none⟩)) := by rw [Lib.cell_of_heap hb2]; rfl
  have d1 : w2.cell? ⟨b, 1, none⟩ = some v := by rw [Lib.cell_of_heap hb2]; rfl
  have f1 : w2.frozen? ⟨b, 1, none⟩ = false := Lib.frozen_of_heap hb2 1
  obtain ⟨ao, n', cap, rfl⟩ : ∃ ao n' cap, v' = .slice ao n' cap := by
    rcases hown'.2 with ⟨hv, _⟩ | ⟨g, cap, cur, hv, _⟩
    · exact ⟨_, _, _, hv⟩
    · exact ⟨_, _, _, hv⟩
  go_wp2_with fail
  go_ret2
  refine ⟨by rw [← HSZ.out]; rfl, ⟨HB.out, .pointer (some ⟨b, 0, none⟩), .slice ao n' cap, .inr rfl, ?_, ?_, ?_⟩, HWR.out.low.trans ?_, HWR.out.oth.trans ?_⟩
  · simp [World.setCell, Array.getElem?_modify, hb2]
  · rw [HSZ.out, HSC.out] at hown'
    have h1 : w2.ownsRow B 5 1 (.slice ao n' cap) (out ++ s).length (Lib.byteCells (out ++ s)) := by
      rw [List.length_append]
      rw [show Lib.byteCells (out ++ s) = Lib.byteCells out ++ Lib.byteCells s from List.map_append]
      exact hown'
    exact ownsRow_keep h1 ((Keeps.refl (One b) w2).setCell (p := ⟨b, 1, none⟩) (.inl rfl) _) (fun k e hk => own_ne h1 hb2 (by rw [e]; exact congrArg some hk))
  · intro e
    obtain ⟨e1, e2⟩ := List.append_eq_nil_iff.1 e
    exact hnil.2 ⟨HZ.out e1, by rw [← hsv, e2]; rfl⟩
  · exact ((Below.refl B w1).grown hgrow (by have := HWR.out.low.size; omega) (fun k hk => (hown.lt k hk).1)).setCell (p := ⟨b, 1, none⟩) HB.out _
  · exact ((Lib.OthersKept.refl _ (some b) w1).grown hgrow (Lib.ownsRow_kind hown)).setCell ⟨b, 1, none⟩ rfl _

set_option maxHeartbeats 1000000 in
set_option maxRecDepth 100000 in
theorem pstring_calls {w : World} {B b : Nat} {out : List UInt8} {o : Value} (h : PrAt w B b out o) : Calls Tryz.prog 32 #[.pointer (some ⟨b, 0, none⟩)] w (fun e w' => e = .returned (.string (strB out)) ∧ Below B w w') := by
  obtain ⟨hB, p, v, hp, hc, hown, hz⟩ := h
  clear hp
  by_cases h0 : out = []
  · subst h0
    obtain rfl := hz rfl
    have hUS : ∀ W, (Builtin.unsafeString_ #[92, 3] 9 #[.pointer none, .int .i64 0]).run Tryz.prog W = .ok (.string ⟨#[]⟩) W := fun W => Any.unsafeString_none Tryz.lays169 Tryz.Builder_Extra_169 W none
    have c1 : w.drew.cell? ⟨b, 1, none⟩ = some (.slice none 0 0) := by
      have : w.drew.heap[b]? = some (.cells #[p, .slice none 0 0, o] 67 (0, 0)) := hc
      rw [Lib.cell_of_heap this]; rfl
    have hSD : (Builtin.unsafeSliceData_ #[53] 92 #[.slice none 0 0]).run Tryz.prog w.drew = .ok (.pointer none) w.drew := rfl
    clear hown hc hz
    have mixed : Tryz.prog.follows .mixedOrders = true := by kernel_rfl
    go_enter Tryz.func32, Tryz.ntmps32
    go_wp2
    go_region_o
    all_goals (go_wp2; go_ret; exact ⟨rfl, Below.drew (Below.refl B w)⟩)
  · have hl0 : out.length ≠ 0 := by simpa using h0
    obtain ⟨g, cap, cur, rfl, hbg, hg, hnc, hcm, hcs, htake⟩ : ∃ g cap cur, v = .slice (some ⟨g, 0, none⟩) out.length cap ∧ B ≤ g ∧ w.heap[g]? = some (.cells cur 5 (0, 0)) ∧ out.length ≤ cap ∧ cap ≤ maxLen ∧ cur.size = cap * 1 ∧ cur.toList.take (out.length * 1) = Lib.byteCells out := by
      rcases hown.2 with ⟨_, hz⟩ | ⟨g, cap, cur, hv, r⟩
      · exact absurd hz hl0
      · exact ⟨g, cap, cur, hv, r⟩
    have c1 : w.drew.cell? ⟨b, 1, none⟩ = some (.slice (some ⟨g, 0, none⟩) out.length cap) := by
      have : w.drew.heap[b]? = some (.cells #[p, .slice (some ⟨g, 0, none⟩) out.length cap, o] 67 (0, 0)) := hc
      rw [Lib.cell_of_heap this]; rfl
    have hSD : (Builtin.unsafeSliceData_ #[53] 92 #[.slice (some ⟨g, 0, none⟩) out.length cap]).run Tryz.prog w.drew = .ok (.pointer (some ⟨g, 0, none⟩)) w.drew :=
      Lib.run_unsafeSliceData_row _ _ _ _ _ _ (by omega)
    have hUS : (Builtin.unsafeString_ #[92, 3] 9 #[.pointer (some ⟨g, 0, none⟩), .int .i64 out.length]).run Tryz.prog w.drew = .ok (.string ⟨out.toArray⟩) (w.drew.freeze ⟨g, 0, none⟩ out.length) := by
      refine Lib.run_unsafeString_row w.drew 92 3 9 5 Tryz.underlying92 cellsB8 g cur.size (by have hg' : w.drew.heap[g]? = some (.cells cur 5 (0, 0)) := hg; simp [World.shape?, hg']) out h0 (by omega) (by unfold maxLen at hcm; omega) ?_
      intro j x hx
      exact hown.cells (g := g) rfl j (.int .u8 x.toNat) (by simp [Lib.byteCells, hx])
    have HBG := Lib.hid hbg
    clear hown hc hz hg hnc hcm hcs htake hbg hl0 h0
    have mixed : Tryz.prog.follows .mixedOrders = true := by kernel_rfl
    go_enter Tryz.func32, Tryz.ntmps32
    go_wp2
    go_region_o
    all_goals (go_wp2; go_ret; exact ⟨rfl, Lib.below_freeze (Below.drew (Below.refl B w)) (p := ⟨g, 0, none⟩) HBG.out _⟩)


/-- What a printer's method leaves that writes. -/
def POut (w : World) (B b : Nat) (out : List UInt8) (o : Value) (e : Ending) (w' : World) : Prop := e = .returned (.tuple #[]) ∧ PrAt w' B b out o ∧ Wr B b w w'
/-- Texts in a row of their own. -/
def TxRow (w : World) (g : Nat) (l : List (List UInt8)) : Prop := ∃ fz, w.heap[g]? = some (.cells (l.map fun x => Value.string (strB x)).toArray 9 fz)
theorem TxRow.kept {w w' : World} {B b g : Nat} {l : List (List UInt8)} (h : TxRow w g l) (hg : g ≠ b) (hk : Wr B b w w') : TxRow w' g l := by
  obtain ⟨fz, h⟩ := h
  exact ⟨fz, hk.oth g _ h (by simpa using hg) (fun c fz e => by injection e with _ e2 _; revert e2; decide)⟩
theorem TxRow.at {w : World} {g : Nat} {l : List (List UInt8)} (h : TxRow w g l) {i : Nat} {x : List UInt8} (hx : l[i]? = some x) : w.cell? ⟨g, i, none⟩ = some (.string (strB x)) := by
  obtain ⟨fz, h⟩ := h
  rw [Lib.cell_of_heap h]
  simp [hx]
set_option maxRecDepth 100000 in
set_option maxHeartbeats 2000000 in
theorem pput_calls {w : World} {B b g : Nat} {out : List UInt8} {o : Value} {l : List (List UInt8)} (h : PrAt w B b out o) (hl : TxRow w g l) (hg : g ≠ b) (hn : l.length ≤ 1000000) (hs : out.length + l.flatten.length ≤ 70368744177664) (hBw : B ≤ w.heap.size) : Calls Tryz.prog 30 #[.pointer (some ⟨b, 0, none⟩), .slice (some ⟨g, 0, none⟩) l.length l.length] w (POut w B b (out ++ l.flatten) o) := by
  obtain ⟨n, hnl⟩ : ∃ n, l.length = n := ⟨_, rfl⟩
  have HN := Lib.hid hnl
  have HP := Lib.hid h
  have HL := Lib.hid hl
  have HS := Lib.hid hs
  have HBW := Lib.hid hBw
  rw [hnl] at hn ⊢
  clear h hl hs hnl hBw
  go_enter Tryz.func30, Tryz.ntmps30
  go_wp2_with fail
  go_loopg [8] n (fun gk s wr => ∃ i : Nat, s = .int .i64 (i : Int) ∧ gk + i = n ∧ PrAt wr B b (out ++ (l.take i).flatten) o ∧ Wr B b w wr)
  case atStart => exact ⟨0, rfl, rfl, (by rw [List.take_zero, List.flatten_nil, List.append_nil]; exact HP.out), Wr.refl _ _ _⟩
  case round =>
    obtain ⟨i, rfl, hgi, hp, hw⟩ := hrel
    have HPR := Lib.hid hp
    have HW := Lib.hid hw
    clear hp hw
    have hit : ∀ j, (l.take j).flatten.length ≤ l.flatten.length := fun j => by
      have h1 := congrArg (fun z => z.flatten.length) (List.take_append_drop j l)
      simp only [List.flatten_append, List.length_append] at h1
      omega
    cases gk with
    | zero =>
      obtain rfl : i = n := by omega
      have hge : ¬ ((i : Int) < (i : Int)) := by omega
      have HF : Hid (PrAt wr B b (out ++ l.flatten) o) := Lib.hid (by
        have h1 := HPR.out
        rw [List.take_of_length_le (by rw [HN.out]; exact Nat.le_refl _)] at h1
        exact h1)
      clear HPR hit
      go_wp2_with fail
      go_end0
      exact ⟨rfl, HF.out, HW.out⟩
    | succ gk =>
      have hlt : (i : Int) < (n : Int) := by omega
      have hi0 : (0 : Int) ≤ (i : Int) := by omega
      obtain ⟨x, hx⟩ : ∃ x, l[i]? = some x := ⟨_, List.getElem?_eq_getElem (by rw [HN.out]; omega)⟩
      have hcell := (HL.out.kept hg HW.out).at hx
      have hadd : IntKind.i64.wrap ((i : Int) + 1) = ((i + 1 : Nat) : Int) := IntWalk.i64_in _ (by omega)
      have htk : (l.take (i + 1)).flatten = (l.take i).flatten ++ x := by
        rw [List.take_add_one, hx, List.flatten_append]
        simp
      have HTK := Lib.hid htk
      have HWS := Lib.hid (pwrite_calls HPR.out x (by
        have h1 := hit (i + 1)
        rw [htk, List.length_append] at h1
        rw [List.length_append]
        have := HS.out
        omega) (Nat.le_trans HBW.out HW.out.low.size))
      obtain ⟨sx, hsx⟩ : ∃ s, strB x = s := ⟨_, rfl⟩
      rw [hsx] at hcell HWS
      clear htk hx hit
      go_wp2_with fail
      with_reducible refine HWS.out.mono ?_
      rintro e w2 ⟨rfl, hp2, hw2⟩
      have HP2 := Lib.hid hp2
      have HW2 := Lib.hid (HW.out.trans hw2)
      clear hp2 hw2
      go_wp2_with fail
      go_roundg gk
      case measure => omega
      case rel => exact ⟨i + 1, rfl, by omega, by rw [HTK.out, ← List.append_assoc]; exact HP2.out, HW2.out⟩

end Go.Proofs.YtocnedpclllbhaaGreatDoor
