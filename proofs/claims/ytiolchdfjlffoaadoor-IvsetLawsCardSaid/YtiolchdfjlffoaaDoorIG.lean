/-
  The reference's Flags: a set as flags. Condition: the slice leads to what it is said to.
-/
import Derived.Test.YtiolchdfjlffoaaDoorIR
namespace Go.Proofs.YtiolchdfjlffoaaDoor
open Go.RowKit Go.Lib Go.Joins

/-- What is told of a row of spans: nothing, if it is no set. -/
def flS (l : List Sp) (v : Int) : Bool := mayS l && inS l v
/-- What Flags leaves. -/
def FlagOut (l : List Sp) (w : World) (e : Ending) (w' : World) : Prop := e = .returned (.tuple #[.agg (flagV (flS l)), .bool (mayS l)]) ∧ Below w.heap.size w w'
theorem below_setRow {n : Nat} {w w' : World} (h : Below n w w') {g : Nat} (hg : n ≤ g) (cs : Array Value) : Below n w (w'.setRow g cs) := by
  refine ⟨h.os, h.tape, h.output, by rw [size_setRow]; exact h.size, fun k hk => ?_⟩
  refine Eq.trans ?_ (h.block k hk)
  unfold World.setRow
  rw [Array.getElem?_modify, if_neg (by omega)]
theorem load48 {w : World} {b : Nat} {g : Int → Bool} (h : FlagAt w b 48 g) : (loadVar 48 ⟨b, 0, none⟩).run Tryd.prog w = .ok (.agg (flagV g)) w :=
  run_loadVar_row w b 48 _ _ _ _ h Tryd.underlying48 rfl (by rw [flagV_size]; exact info48)
theorem inS_take {l : List Sp} {i : Nat} {f t : Int} (h : l[i]? = some (f, t)) (v : Int) : inS (l.take (i + 1)) v = (inS (l.take i) v || (decide (f ≤ v) && decide (v ≤ t))) := by
  rw [take_snoc h, inS_app, inS_cons, inS_nil, Bool.or_false]

set_option maxRecDepth 100000 in
set_option maxHeartbeats 8000000 in
theorem flags_calls {w : World} {v : Value} {l : List Sp} (h : SpIn w v l) : Calls Tryd.prog 35 #[v] w (FlagOut l w) := by
  obtain ⟨a, c, rfl, hc, hm, hn⟩ := h.form
  obtain ⟨n, hl⟩ : ∃ n, l.length = n := ⟨_, rfl⟩
  rw [hl] at h hc ⊢
  have HR := Lib.hid h
  have HL := Lib.hid hl
  have hcm : c ≤ maxLen := hm
  unfold maxLen at hcm
  clear h hl hm hn
  obtain ⟨W0, hW0⟩ : ∃ W0, w.alloc (.cells Tryd.zeroCells48 48) = W0 := ⟨_, rfl⟩
  obtain ⟨W1, hW1⟩ : ∃ W1, W0.alloc (.cells Tryd.zeroCells48 48) = W1 := ⟨_, rfl⟩
  have hs0 : W0.heap.size = w.heap.size + 1 := by rw [← hW0]; simp
  have hB0 : Below w.heap.size w W0 := by rw [← hW0]; exact (Below.refl _ _).alloc (Nat.le_refl _) _
  have hB1 : Below w.heap.size w W1 := by rw [← hW1]; exact hB0.alloc hB0.size _
  have hF0 : FlagAt W0 w.heap.size 48 (fun _ => false) := by rw [← hW0, zero48]; exact heap_alloc_new _ _
  have hF1 : FlagAt W1 W0.heap.size 48 (fun _ => false) := by rw [← hW1, zero48]; exact heap_alloc_new _ _
  have hF01 : FlagAt W1 w.heap.size 48 (fun _ => false) := hF0.below (by rw [← hW1]; exact (Below.refl _ _).alloc (Nat.le_refl _) _)
  have hs1 : W1.heap.size = w.heap.size + 2 := by rw [← hW1]; simp [hs0]
  obtain ⟨b0, hb0⟩ : ∃ b0, w.heap.size = b0 := ⟨_, rfl⟩
  obtain ⟨b1, hb1⟩ : ∃ b1, W0.heap.size = b1 := ⟨_, rfl⟩
  rw [hb0] at hB0 hB1 hF0 hF01 hs0 hs1
  rw [hb1] at hF1 hs0
  have HW0 := Lib.hid hW0
  have HW1 := Lib.hid hW1
  have HB1 := Lib.hid hB1
  have HF0 := Lib.hid hF01
  have HF1 := Lib.hid hF1
  have HE0 := Lib.hid hb0
  have HE1 := Lib.hid hb1
  have HS0 := Lib.hid hs0
  have HS1 := Lib.hid hs1
  have HMAY := Lib.hid (rmay_calls (HR.out.below (by rw [HE0.out]; exact hB1)))
  clear hW0 hW1 hB1 hF01 hF1 hb0 hb1 hs0 hs1 hB0 hF0
  unfold FlagOut
  rw [HE0.out]
  cases hmay : mayS l with
  | false =>
    rw [hmay] at HMAY
    have HFS : Hid (flagV (flS l) = flagV (fun _ => false)) := Lib.hid (flagV_ext fun v _ _ => by unfold flS; rw [hmay]; rfl)
    clear hmay
    go_enter Tryd.func35, Tryd.ntmps35
    go_upto_region 1 with (fail)
    rw [HW0.out, HE0.out]
    go_upto_region 2 with (fail)
    rw [HW1.out, HE1.out]
    go_wp2_with fail
    with_reducible refine HMAY.out.mono ?_
    rintro e w3 ⟨rfl, hb3⟩
    have HB3 : Hid (Below b0 w w3) := Lib.hid (HB1.out.trans (hb3.mono (by have := HS1.out; omega)))
    have HF03 := Lib.hid (HF0.out.below hb3)
    have HF13 := Lib.hid (HF1.out.below hb3)
    clear hb3 HMAY
    go_upto_region 3 with (fail)
    have HF09 : Hid (FlagAt (w3.setRow b0 (flagV (fun _ => false))) b0 48 (fun _ => false)) := Lib.hid (setRow_heap w3 b0 _ _ _ _ HF03.out)
    go_wp2_with (first
      | refine wpList_load_row rfl 48 (.tmp 4) rfl b1 rfl 48 (flagV (fun _ => false)) (0, 0) _ HF13.out Tryd.underlying48 rfl (by rw [flagV_size]; exact info48) ?_
      | refine wpList_store_row rfl 48 (.tmp 2) (.tmp 10) rfl b0 (flagV (fun _ => false)) rfl rfl 48 _ HF03.out (by rw [flagV_size]; exact info48) (by rw [flagV_size]) (flagV_one _) ?_)
    have k5 := load48 HF09.out
    exact bodyPost_ret (v := .tuple #[.agg (flagV (fun _ => false)), .bool false]) (by simp [results, Tryd.results35, asAddr, k5]) rfl ⟨by rw [HFS.out], below_setRow HB3.out (Nat.le_refl _) _⟩
  | true =>
    rw [hmay] at HMAY
    have HFS : Hid (flagV (flS l) = flagV (inS l)) := Lib.hid (flagV_ext fun v _ _ => by unfold flS; rw [hmay]; rfl)
    have HM := Lib.hid hmay
    clear hmay
    go_enter Tryd.func35, Tryd.ntmps35
    go_upto_region 1 with (fail)
    rw [HW0.out, HE0.out]
    go_upto_region 2 with (fail)
    rw [HW1.out, HE1.out]
    go_wp2_with fail
    with_reducible refine HMAY.out.mono ?_
    rintro e w3 ⟨rfl, hb3⟩
    have HB3 : Hid (Below b0 w w3) := Lib.hid (HB1.out.trans (hb3.mono (by have := HS1.out; omega)))
    have HF03 := Lib.hid (HF0.out.below hb3)
    have HF13 := Lib.hid (HF1.out.below hb3)
    clear hb3 HMAY
    go_wp2_with fail
    go_loopg [5] n (fun g ix wr => ∃ (i : Nat), ix = .int .i64 (i : Int) ∧ g + i = n ∧ FlagAt wr b0 48 (fun _ => false) ∧ FlagAt wr b1 48 (inS (l.take i)) ∧ Below b0 w wr)
    case atStart => exact ⟨0, rfl, rfl, HF03.out, HF13.out.ext (fun v _ _ => by rw [List.take_zero, inS_nil]), HB3.out⟩
    case round =>
      obtain ⟨i, rfl, hg, hf0, hf1, hb⟩ := hrel
      have HA0 := Lib.hid hf0
      have HA1 := Lib.hid hf1
      have HB := Lib.hid hb
      clear hf0 hf1 hb
      cases gk with
      | zero =>
        obtain rfl : i = n := by omega
        have hge : ¬ ((i : Int) < (i : Int)) := by omega
        have HA1' : Hid (FlagAt wr b1 48 (inS l)) := Lib.hid (by have h := HA1.out; rw [List.take_of_length_le (by have := HL.out; omega)] at h; exact h)
        go_upto_region 11 with (fail)
        have HF09 : Hid (FlagAt (wr.setRow b0 (flagV (inS l))) b0 48 (inS l)) := Lib.hid (setRow_heap wr b0 _ _ _ _ HA0.out)
        go_wp2_with (first
          | refine wpList_load_row rfl 48 (.tmp 4) rfl b1 rfl 48 (flagV (inS l)) (0, 0) _ HA1'.out Tryd.underlying48 rfl (by rw [flagV_size]; exact info48) ?_
          | refine wpList_store_row rfl 48 (.tmp 2) (.tmp 33) rfl b0 (flagV (inS l)) rfl rfl 48 _ HA0.out (by rw [flagV_size]; exact info48) (by rw [flagV_size, flagV_size]) (flagV_one _) ?_)
        have k5 := load48 HF09.out
        exact bodyPost_ret (v := .tuple #[.agg (flagV (inS l)), .bool true]) (by simp [results, Tryd.results35, asAddr, k5]) rfl ⟨by rw [HFS.out], below_setRow HB.out (Nat.le_refl _) _⟩
      | succ g =>
        have hlt : (i : Int) < (n : Int) := by omega
        have hic : i ≤ c := by omega
        have hi0 : (0 : Int) ≤ (i : Int) := by omega
        have hadd : IntKind.i64.wrap ((i : Int) + 1) = ((i + 1 : Nat) : Int) := IntWalk.i64_in _ (by omega)
        obtain ⟨⟨f, t⟩, hx, _⟩ := drop_at (l := l) (i := i) (by have := HL.out; omega)
        have hmem := mayF_mem HM.out (List.mem_of_getElem? hx)
        dsimp only at hmem
        obtain ⟨fn, rfl⟩ : ∃ fn : Nat, f = (fn : Int) := ⟨f.toNat, by omega⟩
        obtain ⟨tn, rfl⟩ : ∃ tn : Nat, t = (tn : Int) := ⟨t.toNat, by omega⟩
        have hft : fn ≤ tn := by omega
        have ht2 : tn ≤ 200 := by omega
        obtain ⟨b, o, rfl, y1, y2⟩ := HR.out.at hx
        replace y1 := cell_below (w := w) (w' := wr) (by rw [HE0.out]; exact HB.out) y1
        dsimp only at y1 y2
        have Y2 := Lib.hid y2
        have HX := Lib.hid hx
        obtain ⟨w5, hw5⟩ : ∃ w5, w5 = wr := ⟨_, rfl⟩
        rw [← hw5] at HA0 HA1 HB y1 ⊢
        clear hx hmem y2 hw5
        go_wp2_with fail
        go_loopg [6] (tn + 1 - fn) (fun g s w2 => ∃ (y : Nat), s = .int .i64 (y : Int) ∧ g + y = tn + 1 ∧ fn ≤ y ∧ FlagAt w2 b0 48 (fun _ => false) ∧ FlagAt w2 b1 48 (fun z => inS (l.take i) z || (decide ((fn : Int) ≤ z) && decide (z < (y : Int)))) ∧ Below b0 w w2)
        case atStart => exact ⟨fn, rfl, by omega, Nat.le_refl _, HA0.out, HA1.out.ext (fun z _ _ => by rw [← Bool.decide_and, decide_eq_false (by omega : ¬ ((fn : Int) ≤ z ∧ z < (fn : Int))), Bool.or_false]), HB.out⟩
        case round =>
          obtain ⟨y, rfl, hgy, hfy, hf0, hf1, hb⟩ := hrel
          have HC0 := Lib.hid hf0
          have HC1 := Lib.hid hf1
          have HBI := Lib.hid hb
          have y2 := cell_below (w := w) (w' := wr) (by rw [HE0.out]; exact hb) Y2.out
          clear hf0 hf1 hb
          cases gk with
          | zero =>
            obtain rfl : y = tn + 1 := by omega
            have hge : ¬ (((tn + 1 : Nat) : Int) ≤ (tn : Int)) := by omega
            have hge2 : ¬ ((tn : Int) + 1 ≤ (tn : Int)) := by omega
            have HN : Hid (FlagAt wr b1 48 (inS (l.take (i + 1)))) := Lib.hid (HC1.out.ext (fun z _ _ => by
              rw [inS_take HX.out]
              congr 2
              rw [decide_eq_decide]
              omega))
            go_wp2_with fail
            go_roundg g
            case measure => omega
            case rel => exact ⟨i + 1, by go_num, by omega, HC0.out, HN.out, HBI.out⟩
          | succ g2 =>
            have hle : (y : Int) ≤ (tn : Int) := by omega
            have hy0 : (0 : Int) ≤ (y : Int) := by omega
            have hy1 : (y : Int) < 201 := by omega
            have z1 := HC1.out.cell (i := y) (by omega)
            have z2 := HC1.out.frozen y
            obtain ⟨bz, hbz⟩ : ∃ bz, (inS (l.take i) (y : Int) || (decide ((fn : Int) ≤ (y : Int)) && decide ((y : Int) < (y : Int)))) = bz := ⟨_, rfl⟩
            rw [hbz] at z1
            have hady : IntKind.i64.wrap ((y : Int) + 1) = ((y + 1 : Nat) : Int) := IntWalk.i64_in _ (by omega)
            have HN : Hid (FlagAt (wr.setCell ⟨b1, y, none⟩ (.bool true)) b1 48 (fun z => inS (l.take i) z || (decide ((fn : Int) ≤ z) && decide (z < ((y + 1 : Nat) : Int))))) := Lib.hid ((HC1.out.set y).ext (fun z _ _ => by
              rw [Bool.or_assoc]
              congr 1
              rw [← Bool.decide_and, ← Bool.decide_and, ← Bool.decide_or, decide_eq_decide]
              omega))
            have HN0 : Hid (FlagAt (wr.setCell ⟨b1, y, none⟩ (.bool true)) b0 48 (fun _ => false)) := Lib.hid (by
              unfold FlagAt
              rw [heap_setCell_other wr _ _ _ (by show b0 ≠ b1; have := HS0.out; omega)]
              exact HC0.out)
            have HBN : Hid (Below b0 w (wr.setCell ⟨b1, y, none⟩ (.bool true))) := Lib.hid (HBI.out.setCell (by show b0 ≤ b1; have := HS0.out; omega) _)
            clear hbz
            go_wp2_with fail
            go_roundg g2
            case measure => omega
            case rel => exact ⟨y + 1, by go_num, by omega, by omega, HN0.out, HN.out, HBN.out⟩
end Go.Proofs.YtiolchdfjlffoaaDoor
