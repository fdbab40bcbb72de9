/-
 What tells a character by a reference; a rune sought among ASCII characters that are told.
-/
import Derived.Test.YtjpkkflhcjjefaaGreatDoorXTk
import Derived.Lib.OwnKind
import Derived.Test.YtjpkkflhcjjefaaGreatDoorWSh
import Derived.Test.YtjpkkflhcjjefaaGreatDoorOR
namespace Go.Proofs.YtjpkkflhcjjefaaGreatDoor
open Go.RowKit Go.Lib Go.Joins
set_option maxHeartbeats 32000000
structure PrAt (w : World) (B b : Nat) (out : List UInt8) (o : Value) : Prop where
 base : B ≤ b
 cell : ∃ p v, (p = .pointer none ∨ p = .pointer (some ⟨b, 0, none⟩)) ∧ w.heap[b]? = some (.cells #[p, v, o] 72 (0, 0)) ∧ w.ownsRow B 5 1 v out.length (Lib.byteCells out) ∧ (out = [] → v = .slice none 0 0)
structure Wr (B b : Nat) (w w' : World) : Prop where
 low : Below B w w'
 oth : Lib.OthersKept 5 (some b) w w'
theorem Wr.refl (B b : Nat) (w : World) : Wr B b w w := ⟨Below.refl _ _, Lib.OthersKept.refl _ _ _⟩
theorem Wr.trans {B b : Nat} {w w1 w2 : World} (h : Wr B b w w1) (k : Wr B b w1 w2) : Wr B b w w2 := ⟨h.low.trans k.low, h.oth.trans k.oth⟩
theorem Wr.below {B b : Nat} {w w1 w2 : World} (h : Wr B b w w1) (hB : B ≤ w1.heap.size) (k : Below w1.heap.size w1 w2) : Wr B b w w2 :=
 ⟨h.low.trans (k.mono hB), h.oth.trans (fun _i _o hi _ _ => block_below k hi)⟩
theorem PrAt.lt {w : World} {B b : Nat} {out : List UInt8} {o : Value} (h : PrAt w B b out o) : b < w.heap.size := by
 obtain ⟨p, v, _, hc, _⟩ := h.cell
 exact lt_of_block hc
theorem PrAt.below {w w' : World} {B b : Nat} {out : List UInt8} {o : Value} (h : PrAt w B b out o) (k : Below w.heap.size w w') : PrAt w' B b out o := by
 obtain ⟨p, v, hp, hc, hown, hz⟩ := h.cell
 exact ⟨h.base, p, v, hp, block_below k hc, ownsRow_keep hown (keeps_below k Non) (fun _ _ e => e), hz⟩
theorem PrAt.open_ {w : World} {B b : Nat} {out : List UInt8} {o : Value} (h : PrAt w B b out o) : w.cell? ⟨b, 2, none⟩ = some o := by
 obtain ⟨p, v, hp, hc, hown, hz⟩ := h.cell
 rw [Lib.cell_of_heap hc]; rfl
theorem PrAt.thaw {w : World} {B b : Nat} {out : List UInt8} {o : Value} (h : PrAt w B b out o) (j : Nat) : w.frozen? ⟨b, j, none⟩ = false := by
 obtain ⟨p, v, hp, hc, hown, hz⟩ := h.cell
 exact Lib.frozen_of_heap hc j
theorem infoB8 : (Tryz.prog.info? 5).map (fun i => (i.zero, i.size, i.bytes)) = some (some (.int .u8 0), 1, 1) := by kernel_rfl
theorem sizeBu : (Tryz.prog.info? 70).map (·.size) = some 2 := by kernel_rfl
theorem liesPr : liesAt Tryz.prog Tryz.prog.depth 72 (3 / Tryz.prog.cellsOf 72) 0 70 1 = true := by kernel_rfl
theorem cellsB8 : Tryz.prog.cellsOf 5 = 1 := by kernel_rfl
theorem own_ne {w : World} {B b n : Nat} {v p u o : Value} {xs : List Value} (hown : w.ownsRow B 5 1 v n xs) (hc : w.heap[b]? = some (.cells #[p, u, o] 72 (0, 0))) : v.ownBlock ≠ some b := Lib.ownBlock_ne hown hc (by decide)
set_option maxRecDepth 100000 in
theorem pcheck_fresh {w : World} {b : Nat} {v o : Value} (hc : w.heap[b]? = some (.cells #[.pointer none, v, o] 72 (0, 0))) : Calls Tryz.prog 92 #[.pointer (some ⟨b, 0, none⟩)] w (fun e w' => e = .returned (.tuple #[]) ∧ w' = w.setCell ⟨b, 0, none⟩ (.pointer (some ⟨b, 0, none⟩))) := by
 obtain ⟨j, hj, hjs⟩ := Option.map_eq_some_iff.1 sizeBu
 have hsh : w.shape? b = some (72, 3) := by simp [World.shape?, hc]
 have h0 : w.cell? ⟨b, 0, none⟩ = some (.pointer none) := by rw [Lib.cell_of_heap hc]; rfl
 have hfz : w.frozen? ⟨b, 0, none⟩ = false := Lib.frozen_of_heap hc 0
 clear hc
 go_enter Tryz.func92, Tryz.ntmps92
 go_wp2
 rw [Lib.run_to_unsafe w ⟨b, 0, none⟩ Tryz.underlying68 Tryz.underlying130 hj (by rw [hjs]; decide) hsh (Nat.zero_lt_succ 2)]
 simp only [Result.andThen]
 rw [Oper.upon_value]
 go_wp2
 rw [run_callFunc_extern Tryz.func119 (by kernel_rfl) (by kernel_rfl) (by kernel_rfl) (e := Extern.AbiNoEscape.same) (by kernel_rfl)]
 rw [Lib.run_noEscape]
 simp only [Result.andThen]
 rw [Oper.upon_value]
 go_wp2
 rw [Lib.run_from_unsafe w ⟨b, 0, none⟩ Tryz.underlying130 Tryz.underlying68 hj hsh liesPr]
 simp only [Result.andThen]
 rw [Oper.upon_value]
 go_wp2
 go_end0
 exact ⟨rfl, rfl⟩
theorem pcheck_calls {w : World} {B b : Nat} {out : List UInt8} {o : Value} (h : PrAt w B b out o) : Calls Tryz.prog 92 #[.pointer (some ⟨b, 0, none⟩)] w (fun e w' => e = .returned (.tuple #[]) ∧ Wr B b w w' ∧ ∃ v, w'.heap[b]? = some (.cells #[.pointer (some ⟨b, 0, none⟩), v, o] 72 (0, 0)) ∧ w'.ownsRow B 5 1 v out.length (Lib.byteCells out) ∧ (out = [] → v = .slice none 0 0)) := by
 obtain ⟨hB, p, v, hp, hc, hown, hz⟩ := h
 rcases hp with rfl | rfl
 ·refine (pcheck_fresh hc).mono ?_
  rintro e w' ⟨rfl, rfl⟩
  refine ⟨rfl, ⟨(Below.refl _ _).setCell (p := ⟨b, 0, none⟩) hB _, (Lib.OthersKept.refl _ (some b) w).setCell ⟨b, 0, none⟩ rfl _⟩, v, ?_, ?_, hz⟩
  ·simp [World.setCell, Array.getElem?_modify, hc]
  ·exact ownsRow_keep hown ((Keeps.refl (One b) w).setCell (p := ⟨b, 0, none⟩) (.inl rfl) _) (fun k e hk => own_ne hown hc (by rw [e]; exact congrArg some hk))
 ·refine (Any.Builder_copyCheck_used (ρ := Tryz.lays166_ren) { Tryz.lays166 with } Tryz.Builder_Extra_166.toX72 b w (by rw [Lib.cell_of_heap hc]; rfl)).mono ?_
  rintro e w' ⟨rfl, rfl⟩
  exact ⟨rfl, Wr.refl _ _ _, v, hc, hown, hz⟩
set_option maxRecDepth 100000 in
theorem pwrite_calls {w : World} {B b : Nat} {out : List UInt8} {o : Value} (h : PrAt w B b out o) (s : List UInt8) (hlen : out.length + s.length ≤ 70368744177664) (hBw : B ≤ w.heap.size) : Calls Tryz.prog 65 #[.pointer (some ⟨b, 0, none⟩), .string (strB s)] w (fun e w' => e = .returned (.tuple #[.int .i64 (s.length : Int), .nilIface]) ∧ PrAt w' B b (out ++ s) o ∧ Wr B b w w') := by
 obtain ⟨i0, hi, hz0, hz1, hz2⟩ := info_parts infoB8
 have HB := hid h.base
 have HCK := hid (pcheck_calls h)
 have HSZ : Hid ((strB s).size = s.length) := hid (strB_size s)
 have HSC : Hid (Lib.strCells (strB s) = Lib.byteCells s) := hid rfl
 obtain ⟨sv, hsv⟩ : ∃ x, strB s = x := ⟨_, rfl⟩
 rw [hsv] at HSZ HSC ⊢
 clear h
 go_enter Tryz.func65, Tryz.ntmps65
 go_wp2_with fail
 refine (HCK.out).mono ?_
 rintro e w1 ⟨rfl, hwr, v, hbk, hown, hz⟩
 have HWR := hid hwr
 have HZ := hid hz
 have HBK := hid hbk
 have c0 : w1.cell? ⟨b, 0, none⟩ = some (.pointer (some ⟨b, 0, none⟩)) := by rw [Lib.cell_of_heap hbk]; rfl
 have c1 : w1.cell? ⟨b, 1, none⟩ = some v := by rw [Lib.cell_of_heap hbk]; rfl
 have c2 : w1.cell? ⟨b, 2, none⟩ = some o := by rw [Lib.cell_of_heap hbk]; rfl
 clear hwr hz hbk
 go_wp2_with (at_builtin; refine Lib.wpList_append_own_string _ rfl _ _ 43 9 rfl B 5 i0 Tryz.underlying43 Tryz.underlying9 hi hz0 hz1 hz2 _ _ _ rfl hown sv rfl ?c3 ?c4 ?c5 ?_)
 case c3 => rw [HSZ.out]; unfold maxLen; omega
 case c4 => rw [HSZ.out]; omega
 case c5 => have := HWR.out.low.size; omega
 intro v' w2 hown' hgrow hnil
 have hlt : b < w1.heap.size := lt_of_block HBK.out
 have hb2 : w2.heap[b]? = some (.cells #[.pointer (some ⟨b, 0, none⟩), v, o] 72 (0, 0)) := by
  rw [hgrow.block b hlt (fun e => own_ne hown HBK.out e.symm)]
  exact HBK.out
 have d0 : w2.cell? ⟨b, 0, none⟩ = some (.pointer (some ⟨b, 0, none⟩)) := by rw [Lib.cell_of_heap hb2]; rfl
 have d1 : w2.cell? ⟨b, 1, none⟩ = some v := by rw [Lib.cell_of_heap hb2]; rfl
 have f1 : w2.frozen? ⟨b, 1, none⟩ = false := Lib.frozen_of_heap hb2 1
 obtain ⟨ao, n', cap, rfl⟩ : ∃ ao n' cap, v' = .slice ao n' cap := by
  rcases hown'.2 with ⟨hv, _⟩ | ⟨g, cap, cur, hv, _⟩
  ·exact ⟨_, _, _, hv⟩
  ·exact ⟨_, _, _, hv⟩
 go_wp2_with fail
 go_ret2
 refine ⟨by rw [← HSZ.out]; rfl, ⟨HB.out, .pointer (some ⟨b, 0, none⟩), .slice ao n' cap, .inr rfl, ?_, ?_, ?_⟩, HWR.out.low.trans ?_, HWR.out.oth.trans ?_⟩
 ·simp [World.setCell, Array.getElem?_modify, hb2]
 ·rw [HSZ.out, HSC.out] at hown'
  have h1 : w2.ownsRow B 5 1 (.slice ao n' cap) (out ++ s).length (Lib.byteCells (out ++ s)) := by
   rw [List.length_append]
   rw [show Lib.byteCells (out ++ s) = Lib.byteCells out ++ Lib.byteCells s from List.map_append]
   exact hown'
  exact ownsRow_keep h1 ((Keeps.refl (One b) w2).setCell (p := ⟨b, 1, none⟩) (.inl rfl) _) (fun k e hk => own_ne h1 hb2 (by rw [e]; exact congrArg some hk))
 ·intro e
  obtain ⟨e1, e2⟩ := List.append_eq_nil_iff.1 e
  exact hnil.2 ⟨HZ.out e1, by rw [← hsv, e2]; rfl⟩
 ·exact ((Below.refl B w1).grown hgrow (by have := HWR.out.low.size; omega) (fun k hk => (hown.lt k hk).1)).setCell (p := ⟨b, 1, none⟩) HB.out _
 ·exact ((Lib.OthersKept.refl _ (some b) w1).grown hgrow (Lib.ownsRow_kind hown)).setCell ⟨b, 1, none⟩ rfl _
set_option maxRecDepth 100000 in
theorem pstring_calls {w : World} {B b : Nat} {out : List UInt8} {o : Value} (h : PrAt w B b out o) : Calls Tryz.prog 38 #[.pointer (some ⟨b, 0, none⟩)] w (fun e w' => e = .returned (.string (strB out)) ∧ Below B w w') := by
 obtain ⟨hB, p, v, hp, hc, hown, hz⟩ := h
 clear hp
 by_cases h0 : out = []
 ·subst h0
  obtain rfl := hz rfl
  have hUS : ∀ W, (Builtin.unsafeString_ #[111, 3] 9 #[.pointer none, .int .i64 0]).run Tryz.prog W = .ok (.string ⟨#[]⟩) W := fun W => Any.unsafeString_none Tryz.lays169 Tryz.Builder_Extra_169 W none
  have c1 : w.drew.cell? ⟨b, 1, none⟩ = some (.slice none 0 0) := by
   have : w.drew.heap[b]? = some (.cells #[p, .slice none 0 0, o] 72 (0, 0)) := hc
   rw [Lib.cell_of_heap this]; rfl
  have hSD : (Builtin.unsafeSliceData_ #[43] 111 #[.slice none 0 0]).run Tryz.prog w.drew = .ok (.pointer none) w.drew := rfl
  clear hown hc hz
  have mixed : Tryz.prog.follows .mixedOrders = true := by kernel_rfl
  go_enter Tryz.func38, Tryz.ntmps38
  go_wp2
  go_region_o
  all_goals (go_wp2; go_ret; exact ⟨rfl, Below.drew (Below.refl B w)⟩)
 ·have hl0 : out.length ≠ 0 := by simpa using h0
  obtain ⟨g, cap, cur, rfl, hbg, hg, hnc, hcm, hcs, htake⟩ : ∃ g cap cur, v = .slice (some ⟨g, 0, none⟩) out.length cap ∧ B ≤ g ∧ w.heap[g]? = some (.cells cur 5 (0, 0)) ∧ out.length ≤ cap ∧ cap ≤ maxLen ∧ cur.size = cap * 1 ∧ cur.toList.take (out.length * 1) = Lib.byteCells out := by
   rcases hown.2 with ⟨_, hz⟩ | ⟨g, cap, cur, hv, r⟩
   ·exact absurd hz hl0
   ·exact ⟨g, cap, cur, hv, r⟩
  have c1 : w.drew.cell? ⟨b, 1, none⟩ = some (.slice (some ⟨g, 0, none⟩) out.length cap) := by
   have : w.drew.heap[b]? = some (.cells #[p, .slice (some ⟨g, 0, none⟩) out.length cap, o] 72 (0, 0)) := hc
   rw [Lib.cell_of_heap this]; rfl
  have hSD : (Builtin.unsafeSliceData_ #[43] 111 #[.slice (some ⟨g, 0, none⟩) out.length cap]).run Tryz.prog w.drew = .ok (.pointer (some ⟨g, 0, none⟩)) w.drew :=
   Lib.run_unsafeSliceData_row _ _ _ _ _ _ (by omega)
  have hUS : (Builtin.unsafeString_ #[111, 3] 9 #[.pointer (some ⟨g, 0, none⟩), .int .i64 out.length]).run Tryz.prog w.drew = .ok (.string ⟨out.toArray⟩) (w.drew.freeze ⟨g, 0, none⟩ out.length) := by
   refine Lib.run_unsafeString_row w.drew 111 3 9 5 Tryz.underlying111 cellsB8 g cur.size (by have hg' : w.drew.heap[g]? = some (.cells cur 5 (0, 0)) := hg; simp [World.shape?, hg']) out h0 (by omega) (by unfold maxLen at hcm; omega) ?_
   intro j x hx
   exact hown.cells (g := g) rfl j (.int .u8 x.toNat) (by simp [Lib.byteCells, hx])
  have HBG := hid hbg
  clear hown hc hz hg hnc hcm hcs htake hbg hl0 h0
  have mixed : Tryz.prog.follows .mixedOrders = true := by kernel_rfl
  go_enter Tryz.func38, Tryz.ntmps38
  go_wp2
  go_region_o
  all_goals (go_wp2; go_ret; exact ⟨rfl, Lib.below_freeze (Below.drew (Below.refl B w)) (p := ⟨g, 0, none⟩) HBG.out _⟩)
def POut (w : World) (B b : Nat) (out : List UInt8) (o : Value) (e : Ending) (w' : World) : Prop := e = .returned (.tuple #[]) ∧ PrAt w' B b out o ∧ Wr B b w w'
def TxRow (w : World) (g : Nat) (l : List (List UInt8)) : Prop := ∃ fz, w.heap[g]? = some (.cells (l.map fun x => Value.string (strB x)).toArray 9 fz)
theorem TxRow.kept {w w' : World} {B b g : Nat} {l : List (List UInt8)} (h : TxRow w g l) (hg : g ≠ b) (hk : Wr B b w w') : TxRow w' g l := by
 obtain ⟨fz, h⟩ := h
 exact ⟨fz, hk.oth g _ h (by simpa using hg) (fun c fz e => by injection e with _ e2 _; revert e2; decide)⟩
theorem TxRow.at {w : World} {g : Nat} {l : List (List UInt8)} (h : TxRow w g l) {i : Nat} {x : List UInt8} (hx : l[i]? = some x) : w.cell? ⟨g, i, none⟩ = some (.string (strB x)) := by
 obtain ⟨fz, h⟩ := h
 rw [Lib.cell_of_heap h]
 simp [hx]
set_option maxRecDepth 100000 in
theorem pput_calls {w : World} {B b g : Nat} {out : List UInt8} {o : Value} {l : List (List UInt8)} (h : PrAt w B b out o) (hl : TxRow w g l) (hg : g ≠ b) (hn : l.length ≤ 1000000) (hs : out.length + l.flatten.length ≤ 70368744177664) (hBw : B ≤ w.heap.size) : Calls Tryz.prog 36 #[.pointer (some ⟨b, 0, none⟩), .slice (some ⟨g, 0, none⟩) l.length l.length] w (POut w B b (out ++ l.flatten) o) := by
 obtain ⟨n, hnl⟩ : ∃ n, l.length = n := ⟨_, rfl⟩
 have HN := hid hnl
 have HP := hid h
 have HL := hid hl
 have HS := hid hs
 have HBW := hid hBw
 rw [hnl] at hn ⊢
 clear h hl hs hnl hBw
 go_enter Tryz.func36, Tryz.ntmps36
 go_wp2_with fail
 go_loopg [8] n (fun gk s wr => ∃ i : Nat, s = .int .i64 (i : Int) ∧ gk + i = n ∧ PrAt wr B b (out ++ (l.take i).flatten) o ∧ Wr B b w wr)
 case atStart => exact ⟨0, rfl, rfl, (by rw [List.take_zero, List.flatten_nil, List.append_nil]; exact HP.out), Wr.refl _ _ _⟩
 case round =>
  obtain ⟨i, rfl, hgi, hp, hw⟩ := hrel
  have HPR := hid hp
  have HW := hid hw
  clear hp hw
  have hit : ∀ j, (l.take j).flatten.length ≤ l.flatten.length := fun j => by
   have h1 := congrArg (fun z => z.flatten.length) (List.take_append_drop j l)
   simp only [List.flatten_append, List.length_append] at h1
   omega
  cases gk with
  | zero =>
   obtain rfl : i = n := by omega
   have hge : ¬ ((i : Int) < (i : Int)) := by omega
   have HF : Hid (PrAt wr B b (out ++ l.flatten) o) := hid (by
    have h1 := HPR.out
    rw [List.take_of_length_le (by rw [HN.out]; exact Nat.le_refl _)] at h1
    exact h1)
   clear HPR hit
   go_wp2_with fail
   go_end0
   exact ⟨rfl, HF.out, HW.out⟩
  | succ gk =>
   have hlt : (i : Int) < (n : Int) := by omega
   have hi0 : (0 : Int) ≤ (i : Int) := by omega
   obtain ⟨x, hx⟩ : ∃ x, l[i]? = some x := ⟨_, List.getElem?_eq_getElem (by rw [HN.out]; omega)⟩
   have hcell := (HL.out.kept hg HW.out).at hx
   have hadd : IntKind.i64.wrap ((i : Int) + 1) = ((i + 1 : Nat) : Int) := IntWalk.i64_in _ (by omega)
   have htk : (l.take (i + 1)).flatten = (l.take i).flatten ++ x := by
    rw [List.take_add_one, hx, List.flatten_append]
    simp
   have HTK := hid htk
   have HWS := hid (pwrite_calls HPR.out x (by
    have h1 := hit (i + 1)
    rw [htk, List.length_append] at h1
    rw [List.length_append]
    have := HS.out
    omega) (Nat.le_trans HBW.out HW.out.low.size))
   obtain ⟨sx, hsx⟩ : ∃ s, strB x = s := ⟨_, rfl⟩
   rw [hsx] at hcell HWS
   clear htk hx hit
   go_wp2_with fail
   with_reducible refine HWS.out.mono ?_
   rintro e w2 ⟨rfl, hp2, hw2⟩
   have HP2 := hid hp2
   have HW2 := hid (HW.out.trans hw2)
   clear hp2 hw2
   go_wp2_with fail
   go_roundg gk
   case measure => omega
   case rel => exact ⟨i + 1, rfl, by omega, by rw [HTK.out, ← List.append_assoc]; exact HP2.out, HW2.out⟩
theorem told_few {v : Bool} {c : UInt8} (h : toldB v c = true) : c = 38 ∨ c = 60 ∨ c = 62 ∨ c = 34 ∨ c = 13 ∨ c = 9 ∨ c = 10 := by
 unfold toldB at h
 simp only [Bool.or_eq_true, beq_iff_eq, Bool.and_eq_true, Bool.not_eq_true'] at h
 rcases h with (((rfl | rfl) | rfl) | ⟨rfl, _⟩) | ⟨_, (rfl | rfl) | rfl⟩ <;> simp
set_option maxRecDepth 100000 in
theorem reference_calls {v : Bool} {c : UInt8} (h : toldB v c = true) (w : World) : Calls Tryz.prog 94 #[.int .u8 (c.toNat : Int)] w (fun e w' => e = .returned (.string (strB (refC c))) ∧ w' = w) := by
 rcases told_few h with rfl | rfl | rfl | rfl | rfl | rfl | rfl
 ·go_enter Tryz.func94, Tryz.ntmps94
  go_wp2_with fail
  go_ret
  exact ⟨rfl, rfl⟩
 ·go_enter Tryz.func94, Tryz.ntmps94
  go_wp2_with fail
  go_ret
  exact ⟨rfl, rfl⟩
 ·go_enter Tryz.func94, Tryz.ntmps94
  go_wp2_with fail
  go_ret
  exact ⟨rfl, rfl⟩
 ·go_enter Tryz.func94, Tryz.ntmps94
  go_wp2_with fail
  go_ret
  exact ⟨rfl, rfl⟩
 ·have hI := Tryz.strconv_Itoa_small 13 (by decide) w
  rw [show (⟨(Lib.decDigits 13).toArray⟩ : ByteArray) = ⟨#[49, 51]⟩ by kernel_rfl, show ((13 : Nat) : Int) = 13 from rfl] at hI
  have HI := hid hI
  clear hI
  go_enter Tryz.func94, Tryz.ntmps94
  go_wp2_with fail
  refine HI.out.mono ?_
  rintro e w' ⟨rfl, rfl⟩
  go_wp2_with fail
  go_ret
  exact ⟨rfl, rfl⟩
 ·have hI := Tryz.strconv_Itoa_small 9 (by decide) w
  rw [show (⟨(Lib.decDigits 9).toArray⟩ : ByteArray) = ⟨#[57]⟩ by kernel_rfl, show ((9 : Nat) : Int) = 9 from rfl] at hI
  have HI := hid hI
  clear hI
  go_enter Tryz.func94, Tryz.ntmps94
  go_wp2_with fail
  refine HI.out.mono ?_
  rintro e w' ⟨rfl, rfl⟩
  go_wp2_with fail
  go_ret
  exact ⟨rfl, rfl⟩
 ·have hI := Tryz.strconv_Itoa_small 10 (by decide) w
  rw [show (⟨(Lib.decDigits 10).toArray⟩ : ByteArray) = ⟨#[49, 48]⟩ by kernel_rfl, show ((10 : Nat) : Int) = 10 from rfl] at hI
  have HI := hid hI
  clear hI
  go_enter Tryz.func94, Tryz.ntmps94
  go_wp2_with fail
  refine HI.out.mono ?_
  rintro e w' ⟨rfl, rfl⟩
  go_wp2_with fail
  go_ret
  exact ⟨rfl, rfl⟩
def toldL (v : Bool) : List UInt8 := if v = true then [38, 60, 34, 9, 10, 13] else [38, 60, 62, 13]
theorem toldL_has (v : Bool) (x : UInt8) : (toldL v).contains x = toldB v x := by
 cases v
 ·exact (told_texts x).symm
 ·exact (told_values x).symm
theorem toldL_small (v : Bool) : ∀ b ∈ toldL v, b.toNat < 128 := by cases v <;> decide
theorem toldL_len (v : Bool) : 4 ≤ (toldL v).length ∧ (toldL v).length ≤ 6 := by cases v <;> decide
theorem high_of {k : Nat} (h1 : k < 256) (h2 : 128 ≤ k) : 128 ≤ (UInt8.ofNat k).toNat := by rw [UInt8.toNat_ofNat']; omega
set_option maxRecDepth 100000 in
theorem encode_high {m : Nat} (hv : Utf8.valid (m : Int) = true) (hm : 128 ≤ m) (hx : m < 1114112) : ∃ a y, (Utf8.encode (m : Int)).data.toList = a ++ [y] ∧ 1 ≤ a.length ∧ a.length ≤ 3 ∧ 128 ≤ y.toNat := by
 unfold Utf8.encode
 rw [if_pos hv, Int.toNat_natCast]
 dsimp only
 by_cases h1 : m < 2048
 ·rw [if_neg (by omega), if_pos (by omega)]
  exact ⟨[_], _, rfl, by simp, by simp, high_of (by omega) (by omega)⟩
 ·by_cases h2 : m < 65536
  ·rw [if_neg (by omega), if_neg (by omega), if_pos (by omega)]
   exact ⟨[_, _], _, rfl, by simp, by simp, high_of (by omega) (by omega)⟩
  ·rw [if_neg (by omega), if_neg (by omega), if_neg (by omega)]
   exact ⟨[_, _, _], _, rfl, by simp, by simp, high_of (by omega) (by omega)⟩
set_option maxRecDepth 100000 in
theorem irune_bad (ms : ByteArray) (ha : ∀ (j : Nat) (h : j < ms.size), (ms[j]'h).toNat < 128) (w : World) : Calls Tryz.prog 120 #[.string ms, .int .i32 65533] w (fun e w' => e = .returned (.int .i64 (-1)) ∧ Below w.heap.size w w') := by
 have HA := hid ha
 clear ha
 go_enter Tryz.func120, Tryz.ntmps120
 go_wp2_with fail
 go_loopg [] ms.size (fun g wr => ∃ pos : Nat, wr.heap[w.heap.size]? = some (.stringIter ms pos) ∧ ms.size ≤ g + pos ∧ Below w.heap.size w wr)
 case atStart => exact ⟨0, World.iter_heap w ms 0, by omega, (Below.refl _ _).alloc (Nat.le_refl _) _⟩
 case round =>
  obtain ⟨pos, hit, hg, hb⟩ := hrel
  have HB := hid hb
  clear hb
  by_cases hp : pos < ms.size
  ·have hx := HA.out pos hp
   obtain ⟨x, hxe⟩ : ∃ x, (ms[pos]'hp).toNat = x := ⟨_, rfl⟩
   have hnx : ∀ ty, (Instr.next (.pointer (some ⟨w.heap.size, 0, none⟩)) true ty).run Tryz.prog wr = _ := fun ty => Lib.run_next_ascii_at wr w.heap.size ms pos ty hit hp hx
   rw [hxe] at hnx hx
   have hbw2 := hid (Lib.below_iterAt HB.out (k := w.heap.size) (Nat.le_refl _) ms (pos + 1))
   have hit2 := hid (Lib.iterAt_heap wr w.heap.size ms pos (pos + 1) hit)
   have hne : ((x : Int) == 65533) = false := beq_eq_false_iff_ne.2 (by omega)
   have hne2 : ¬ (x : Int) = 65533 := by omega
   go_wp2_with fail
   go_roundg (gk - 1)
   case measure => omega
   case rel => exact ⟨pos + 1, hit2.out, by omega, hbw2.out⟩
  ·have hnx : ∀ ty, (Instr.next (.pointer (some ⟨w.heap.size, 0, none⟩)) true ty).run Tryz.prog wr = _ := fun ty => Lib.run_next_end_at wr w.heap.size ms pos ty hit hp
   go_wp2_with fail
   go_ret
   exact ⟨rfl, HB.out⟩
end Go.Proofs.YtjpkkflhcjjefaaGreatDoor
