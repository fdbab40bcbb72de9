/-
  The law XtreeDeep: so many elements within one another, and one more. Condition: the laid variables hold what their initialisers lay.
-/
import Derived.Test.YtfonflbpkbibbaaGreatDoorXAk
import Derived.Test.YtfonflbpkbibbaaGreatDoorXDp
import Derived.Test.YtfonflbpkbibbaaGreatDoorXDq
namespace Go.Proofs.YtfonflbpkbibbaaGreatDoor
open Go.RowKit Go.Lib Go.Joins

set_option maxRecDepth 100000 in
set_option maxHeartbeats 16000000 in
theorem deep_calls (n : Nat) (em : Bool) (hn : n < 256) (w : World) (hE : EnvAt w) (hg : Handle w) (h15 : 15 ≤ w.heap.size) : Calls Tryz.prog 5 #[.int .u8 (n : Int), .bool em] w (Leaves (.bool true) w) := by
  have HAW := Lib.hid (awake10_calls w hE hg h15)
  have HE := Lib.hid hE
  have HG := Lib.hid hg
  have H15 := Lib.hid h15
  have kcs := fun (W : World) (z : ByteArray) => Lib.run_convert_string_bytes (P := Tryz.prog) W 9 22 5 z Tryz.underlying9 Tryz.underlying22 Tryz.underlying5
  obtain ⟨k, hk⟩ : ∃ k, n % 50 = k := ⟨_, rfl⟩
  have hk50 : k < 50 := by omega
  have hrem : (n : Int) % 50 = (k : Int) := by omega
  have HK := Lib.hid hk50
  clear hE hg h15 hk
  go_enter Tryz.func5, Tryz.ntmps5
  go_wp2_with fail
  with_reducible refine HAW.out.mono ?_
  rintro e w1 ⟨rfl, hb⟩
  have HB1 := Lib.hid hb
  clear hb HAW
  go_wp2_with fail
  rw [hrem]
  clear hrem hn hk50
  go_loopg [6, 7] k (fun g s6 s7 wx => ∃ i : Nat, i + g = k ∧ s7 = .int .i64 (i : Int) ∧ s6 = .string (strB (opnS i)) ∧ wx = w1)
  case atStart => exact ⟨0, by omega, rfl, rfl, rfl⟩
  case round =>
    obtain ⟨i, hig, rfl, rfl, hwr⟩ := hrel
    subst hwr
    cases gk with
    | succ g =>
      have hlt : i < k := by omega
      obtain ⟨so, hso⟩ : ∃ z, strB (opnS i) = z := ⟨_, rfl⟩
      rw [hso]
      have hsz : so.size = 3 * i := by rw [← hso, strB_size, opnS_len]
      have hcat : ¬ (9223372036854775807 < so.size + 3) := by have := HK.out; omega
      have HNX : Hid (so ++ { data := #[60, 97, 62] } = strB (opnS (i + 1))) := Lib.hid (by
        rw [← hso, opnS, ← strB_app]
        rfl)
      have hadd : IntKind.i64.wrap ((i : Int) + 1) = (i : Int) + 1 := IntWalk.i64_in _ (by have := HK.out; omega)
      clear hso hsz
      go_wp2_with fail
      go_roundg g
      case measure => omega
      case rel => exact ⟨i + 1, by omega, rfl, congrArg Value.string HNX.out, rfl⟩
    | zero =>
      obtain rfl : i = k := by omega
      have hge : ¬ (i < i) := by omega
      obtain ⟨so, hso⟩ : ∃ z, strB (opnS i) = z := ⟨_, rfl⟩
      rw [hso]
      have hsz : so.size = 3 * i := by rw [← hso, strB_size, opnS_len]
      have hcat : ¬ (9223372036854775807 < so.size + 4) := by have := HK.out; omega
      have HSO := Lib.hid hso
      clear hso
      cases em with
      | true =>
        have HBS : Hid (so ++ { data := #[60, 97, 47, 62] } = strB (opnS i ++ [60, 97, 47, 62])) := Lib.hid (by rw [← HSO.out, ← strB_app]; rfl)
        clear hsz
        go_wp2_with fail
        go_loopg [6, 8] i (fun g s6 s8 wx => ∃ j : Nat, j + g = i ∧ s8 = .int .i64 (j : Int) ∧ s6 = .string (strB ((opnS i ++ [60, 97, 47, 62]) ++ clsS j)) ∧ wx = wr)
        case atStart => exact ⟨0, by omega, rfl, by rw [clsS, List.append_nil]; exact congrArg Value.string HBS.out, rfl⟩
        case round =>
          obtain ⟨j, hjg, rfl, rfl, hwr⟩ := hrel
          subst hwr
          cases gk with
          | succ g =>
            have hlt : j < i := by omega
            obtain ⟨sj, hsj⟩ : ∃ z, strB ((opnS i ++ [60, 97, 47, 62]) ++ clsS j) = z := ⟨_, rfl⟩
            rw [hsj]
            have hsz : sj.size ≤ 1000 := by
              rw [← hsj, strB_size, List.length_append, List.length_append, opnS_len, clsS_len]
              have := HK.out
              show 3 * i + 4 + 4 * j ≤ 1000
              omega
            have hcat : ¬ (9223372036854775807 < sj.size + 4) := by omega
            have HNX : Hid (sj ++ { data := #[60, 47, 97, 62] } = strB ((opnS i ++ [60, 97, 47, 62]) ++ clsS (j + 1))) := Lib.hid (by
              rw [← hsj, clsS, ← List.append_assoc, ← strB_app]
              rfl)
            have hadd : IntKind.i64.wrap ((j : Int) + 1) = (j : Int) + 1 := IntWalk.i64_in _ (by have := HK.out; omega)
            clear hsj hsz
            go_wp2_with fail
            go_roundg g
            case measure => omega
            case rel => exact ⟨j + 1, by omega, rfl, congrArg Value.string HNX.out, rfl⟩
          | zero =>
            obtain rfl : j = i := by omega
            have hge : ¬ (j < j) := by omega
            have hdoc : (opnS j ++ [60, 97, 47, 62]) ++ clsS j = docD j true := rfl
            rw [hdoc]
            have hdl := docD_len j true
            have hok := okD_at HK.out true
            have hds : (strB (docD j true)).size = (docD j true).length := strB_size _
            have HA := Lib.hid (parse_calls (doc_str wr (docD j true) (by have := HK.out; omega)) (HE.out.below (below_then HB1.out (bytesWorld_below wr _))) (HG.out.below (below_then HB1.out (bytesWorld_below wr _))) (Nat.le_trans H15.out (Nat.le_trans HB1.out.size (bytesWorld_below wr (strB (docD j true))).size)))
            unfold okD at hok
            obtain ⟨P, hP⟩ : ∃ P, parseS (docD j true) = P := ⟨_, rfl⟩
            rw [hP] at HA hok
            obtain ⟨ds, hdd⟩ : ∃ z, strB (docD j true) = z := ⟨_, rfl⟩
            rw [hdd] at HA hds ⊢
            rw [← hds] at HA
            have HBW : Hid (Below w.heap.size w (bytesWorld wr 5 ds)) := Lib.hid (below_then HB1.out (bytesWorld_below wr ds))
            clear hdd hdl hds hdoc hP
            have hadd : IntKind.i64.wrap ((j : Int) + 1) = (j : Int) + 1 := IntWalk.i64_in _ (by have := HK.out; omega)
            cases P with
            | error cp =>
              obtain ⟨c, p⟩ := cp
              dsimp only at hok
              rw [if_pos rfl] at hok
              simp only [Bool.or_eq_true, Bool.and_eq_true, beq_iff_eq, decide_eq_true_eq] at hok
              go_wp2_with fail
              with_reducible refine HA.out.mono ?_
              rintro e w3 ⟨ev, rfl, _, her, hb⟩
              unfold docZ docV
              obtain ⟨w4, hw4⟩ : ∃ W, w3.alloc (.cells #[.slice none 0 0, .int .i64 0, .string ⟨#[]⟩, .string ⟨#[]⟩, .slice none 0 0, .slice none 0 0, .slice none 0 0] 29) = W := ⟨_, rfl⟩
              have hb34 : Below w3.heap.size w3 w4 := by rw [← hw4]; exact (Below.refl _ _).alloc (Nat.le_refl _) _
              have HB4 := Lib.hid (below_then HBW.out (below_then hb hb34))
              have HER := Lib.hid (her.below hb34)
              have HW4 := Lib.hid hw4
              clear hb hb34 her hw4 HA
              rcases hok with ⟨⟨h0, h1⟩, h2⟩ | ⟨⟨h0, h1⟩, h2⟩
              · omega
              · subst h1
                subst h2
                have hkz : ((j : Int) + 1 == 0) = false := by rw [beq_eq_false_iff_ne]; omega
                have hkg : (32 : Int) < (j : Int) + 1 := by omega
                have HCO := Lib.hid (code_calls _ _ ev w4 HER.out (HG.out.below HB4.out))
                go_wp2_with fail
                rw [HW4.out]
                with_reducible refine HCO.out.mono ?_
                rintro e w5 ⟨rfl, hb⟩
                have HAT := Lib.hid (at_calls _ _ ev w5 (HER.out.below hb) (HG.out.below (below_then HB4.out hb)))
                have HB5 := Lib.hid (below_then HB4.out hb)
                clear hb
                go_wp2_with fail
                with_reducible refine HAT.out.mono ?_
                rintro e w6 ⟨rfl, hb⟩
                have HB6 := Lib.hid (below_then HB5.out hb)
                clear hb
                go_wp2_with fail
                go_ret
                exact ⟨rfl, HB6.out⟩
            | ok q =>
              dsimp only at hok
              rw [if_pos rfl] at hok
              simp only [Bool.and_eq_true, beq_iff_eq, decide_eq_true_eq] at hok
              obtain ⟨⟨⟨h0, h1⟩, h2⟩, h3⟩ := hok
              go_wp2_with fail
              with_reducible refine HA.out.mono ?_
              rintro e w3 ⟨dv, rfl, hdoc, hb⟩
              obtain ⟨bv, av, r, rb, ra, rfl, hnd, hrb, _, hra, _⟩ := hdoc.ex
              obtain ⟨q1, q2, q3, hat, rows, hri, hni⟩ := hnd.kids
              clear q1 q2 q3 hni
              obtain ⟨z1, z2, z3, rfl⟩ := hrb.slice
              obtain ⟨z4, z5, z6, rfl⟩ := hra.slice
              obtain ⟨z7, z8, z9, hav⟩ := hat.slice
              obtain ⟨y1, y2, y3, hkv⟩ := hri.slice
              obtain ⟨rk, rn, rx, rav, rkv⟩ := r
              dsimp only at hav hkv
              subst hav
              subst hkv
              unfold docV
              dsimp only
              obtain ⟨sn, hsn⟩ : ∃ z, strB rn = z := ⟨_, rfl⟩
              obtain ⟨st, hst⟩ : ∃ z, strB rx = z := ⟨_, rfl⟩
              obtain ⟨w4, hw4⟩ : ∃ W, w3.alloc (.cells #[.slice z1 z2 z3, .int .i64 rk, .string sn, .string st, .slice z7 z8 z9, .slice y1 y2 y3, .slice z4 z5 z6] 29) = W := ⟨_, rfl⟩
              have hb34 : Below w3.heap.size w3 w4 := by rw [← hw4]; exact (Below.refl _ _).alloc (Nat.le_refl _) _
              have hblk : w4.heap[w3.heap.size]? = some (.cells #[.slice z1 z2 z3, .int .i64 rk, .string sn, .string st, .slice z7 z8 z9, .slice y1 y2 y3, .slice z4 z5 z6] 29 (0, 0)) := by rw [← hw4]; exact heap_alloc_new w3 _
              have HBK := Lib.hid hblk
              have HND := Lib.hid (NodeIn.keep (S' := Any) hnd (keeps_below hb34 Non) (fun _ _ h => h) (fun _ _ => trivial))
              have HB4 := Lib.hid (below_then HBW.out (below_then hb hb34))
              have HW4 := Lib.hid hw4
              have HCO := Lib.hid (code_nil w4)
              have HQ2 := Lib.hid h2
              have HQ3 := Lib.hid h3
              have HSN := Lib.hid hsn
              have HST := Lib.hid hst
              have hkz : ((j : Int) + 1 == 0) = false := by rw [beq_eq_false_iff_ne]; omega
              have hkg : ¬ ((32 : Int) < (j : Int) + 1) := by omega
              rw [hsn, hst]
              clear hdoc hnd hrb hra hat hri hb hb34 hblk hw4 HA h0 h1 h2 h3 hsn hst
              go_wp2_with fail
              rw [HW4.out]
              with_reducible refine HCO.out.mono ?_
              rintro e w5 ⟨rfl, hb5⟩
              have hdp := depth_calls (HND.out.keep (S' := Any) (keeps_below hb5 Non) (fun _ _ h => h) (fun _ h => h)) (by have h5 := HQ3.out; have h6 := HK.out; omega)
              have hblk5 := block_keep HBK.out (keeps_below hb5 Non) (fun h => h)
              rw [HQ2.out] at hdp
              unfold nodeV at hdp
              dsimp only at hdp
              rw [HSN.out, HST.out] at hdp
              have HDP := Lib.hid hdp
              have HBK5 := Lib.hid hblk5
              have HB5 := Lib.hid (below_then HB4.out hb5)
              have HB45 := Lib.hid hb5
              have m1 := (cell_of_block hblk5 1).trans rfl
              have m2 := (cell_of_block hblk5 2).trans rfl
              have m3 := (cell_of_block hblk5 3).trans rfl
              have m4 := (cell_of_block hblk5 4).trans rfl
              have m5 := (cell_of_block hblk5 5).trans rfl
              clear hdp hblk5 hb5 HCO
              go_wp2_with fail
              with_reducible refine HDP.out.mono ?_
              rintro e w6 ⟨rfl, hb6⟩
              have hct := count_calls (HND.out.keep (S' := Any) (keeps_below (HB45.out.trans (hb6.mono HB45.out.size)) Non) (fun _ _ h => h) (fun _ h => h)) (by have h5 := HQ3.out; have h6 := HK.out; omega)
              have hblk6 := block_keep HBK5.out (keeps_below hb6 Non) (fun h => h)
              rw [HQ3.out] at hct
              unfold nodeV at hct
              dsimp only at hct
              rw [HSN.out, HST.out] at hct
              have HCT := Lib.hid hct
              have HB6 := Lib.hid (below_then HB5.out hb6)
              clear m1 m2 m3 m4 m5
              have m1 := (cell_of_block hblk6 1).trans rfl
              have m2 := (cell_of_block hblk6 2).trans rfl
              have m3 := (cell_of_block hblk6 3).trans rfl
              have m4 := (cell_of_block hblk6 4).trans rfl
              have m5 := (cell_of_block hblk6 5).trans rfl
              clear hct hblk6 hb6
              go_wp2_with fail
              with_reducible refine HCT.out.mono ?_
              rintro e w7 ⟨rfl, hb7⟩
              have HB7 := Lib.hid (below_then HB6.out hb7)
              clear hb7
              go_wp2_with fail
              go_ret
              exact ⟨rfl, HB7.out⟩
      | false =>
        have HBS : Hid (so = strB (opnS i)) := Lib.hid (by rw [← HSO.out])
        clear hsz
        go_wp2_with fail
        go_loopg [6, 8] i (fun g s6 s8 wx => ∃ j : Nat, j + g = i ∧ s8 = .int .i64 (j : Int) ∧ s6 = .string (strB ((opnS i) ++ clsS j)) ∧ wx = wr)
        case atStart => exact ⟨0, by omega, rfl, by rw [clsS, List.append_nil]; exact congrArg Value.string HBS.out, rfl⟩
        case round =>
          obtain ⟨j, hjg, rfl, rfl, hwr⟩ := hrel
          subst hwr
          cases gk with
          | succ g =>
            have hlt : j < i := by omega
            obtain ⟨sj, hsj⟩ : ∃ z, strB ((opnS i) ++ clsS j) = z := ⟨_, rfl⟩
            rw [hsj]
            have hsz : sj.size ≤ 1000 := by
              rw [← hsj, strB_size, List.length_append, opnS_len, clsS_len]
              have := HK.out
              skip
              omega
            have hcat : ¬ (9223372036854775807 < sj.size + 4) := by omega
            have HNX : Hid (sj ++ { data := #[60, 47, 97, 62] } = strB ((opnS i) ++ clsS (j + 1))) := Lib.hid (by
              rw [← hsj, clsS, ← List.append_assoc, ← strB_app]
              rfl)
            have hadd : IntKind.i64.wrap ((j : Int) + 1) = (j : Int) + 1 := IntWalk.i64_in _ (by have := HK.out; omega)
            clear hsj hsz
            go_wp2_with fail
            go_roundg g
            case measure => omega
            case rel => exact ⟨j + 1, by omega, rfl, congrArg Value.string HNX.out, rfl⟩
          | zero =>
            obtain rfl : j = i := by omega
            have hge : ¬ (j < j) := by omega
            have hdoc : (opnS j) ++ clsS j = docD j false := rfl
            rw [hdoc]
            have hdl := docD_len j false
            have hok := okD_at HK.out false
            have hds : (strB (docD j false)).size = (docD j false).length := strB_size _
            have HA := Lib.hid (parse_calls (doc_str wr (docD j false) (by have := HK.out; omega)) (HE.out.below (below_then HB1.out (bytesWorld_below wr _))) (HG.out.below (below_then HB1.out (bytesWorld_below wr _))) (Nat.le_trans H15.out (Nat.le_trans HB1.out.size (bytesWorld_below wr (strB (docD j false))).size)))
            unfold okD at hok
            obtain ⟨P, hP⟩ : ∃ P, parseS (docD j false) = P := ⟨_, rfl⟩
            rw [hP] at HA hok
            obtain ⟨ds, hdd⟩ : ∃ z, strB (docD j false) = z := ⟨_, rfl⟩
            rw [hdd] at HA hds ⊢
            rw [← hds] at HA
            have HBW : Hid (Below w.heap.size w (bytesWorld wr 5 ds)) := Lib.hid (below_then HB1.out (bytesWorld_below wr ds))
            clear hdd hdl hds hdoc hP
            skip
            cases P with
            | error cp =>
              obtain ⟨c, p⟩ := cp
              dsimp only at hok
              rw [if_neg (by decide)] at hok
              simp only [Bool.or_eq_true, Bool.and_eq_true, beq_iff_eq, decide_eq_true_eq] at hok
              go_wp2_with fail
              with_reducible refine HA.out.mono ?_
              rintro e w3 ⟨ev, rfl, _, her, hb⟩
              unfold docZ docV
              obtain ⟨w4, hw4⟩ : ∃ W, w3.alloc (.cells #[.slice none 0 0, .int .i64 0, .string ⟨#[]⟩, .string ⟨#[]⟩, .slice none 0 0, .slice none 0 0, .slice none 0 0] 29) = W := ⟨_, rfl⟩
              have hb34 : Below w3.heap.size w3 w4 := by rw [← hw4]; exact (Below.refl _ _).alloc (Nat.le_refl _) _
              have HB4 := Lib.hid (below_then HBW.out (below_then hb hb34))
              have HER := Lib.hid (her.below hb34)
              have HW4 := Lib.hid hw4
              clear hb hb34 her hw4 HA
              rcases hok with ⟨⟨h0, h1⟩, h2⟩ | ⟨⟨h0, h1⟩, h2⟩
              · subst h0
                subst h1
                subst h2
                have HCO := Lib.hid (code_calls _ _ ev w4 HER.out (HG.out.below HB4.out))
                go_wp2_with fail
                rw [HW4.out]
                with_reducible refine HCO.out.mono ?_
                rintro e w5 ⟨rfl, hb⟩
                have HAT := Lib.hid (at_calls _ _ ev w5 (HER.out.below hb) (HG.out.below (below_then HB4.out hb)))
                have HB5 := Lib.hid (below_then HB4.out hb)
                clear hb
                go_wp2_with fail
                with_reducible refine HAT.out.mono ?_
                rintro e w6 ⟨rfl, hb⟩
                have HB6 := Lib.hid (below_then HB5.out hb)
                clear hb
                go_wp2_with fail
                go_ret
                exact ⟨rfl, HB6.out⟩
              · subst h1
                subst h2
                have hkz : ((j : Int) == 0) = false := by rw [beq_eq_false_iff_ne]; omega
                have hkg : 32 < j := by omega
                have HCO := Lib.hid (code_calls _ _ ev w4 HER.out (HG.out.below HB4.out))
                go_wp2_with fail
                rw [HW4.out]
                with_reducible refine HCO.out.mono ?_
                rintro e w5 ⟨rfl, hb⟩
                have HAT := Lib.hid (at_calls _ _ ev w5 (HER.out.below hb) (HG.out.below (below_then HB4.out hb)))
                have HB5 := Lib.hid (below_then HB4.out hb)
                clear hb
                go_wp2_with fail
                with_reducible refine HAT.out.mono ?_
                rintro e w6 ⟨rfl, hb⟩
                have HB6 := Lib.hid (below_then HB5.out hb)
                clear hb
                go_wp2_with fail
                go_ret
                exact ⟨rfl, HB6.out⟩
            | ok q =>
              dsimp only at hok
              rw [if_neg (by decide)] at hok
              simp only [Bool.and_eq_true, beq_iff_eq, decide_eq_true_eq] at hok
              obtain ⟨⟨⟨h0, h1⟩, h2⟩, h3⟩ := hok
              go_wp2_with fail
              with_reducible refine HA.out.mono ?_
              rintro e w3 ⟨dv, rfl, hdoc, hb⟩
              obtain ⟨bv, av, r, rb, ra, rfl, hnd, hrb, _, hra, _⟩ := hdoc.ex
              obtain ⟨q1, q2, q3, hat, rows, hri, hni⟩ := hnd.kids
              clear q1 q2 q3 hni
              obtain ⟨z1, z2, z3, rfl⟩ := hrb.slice
              obtain ⟨z4, z5, z6, rfl⟩ := hra.slice
              obtain ⟨z7, z8, z9, hav⟩ := hat.slice
              obtain ⟨y1, y2, y3, hkv⟩ := hri.slice
              obtain ⟨rk, rn, rx, rav, rkv⟩ := r
              dsimp only at hav hkv
              subst hav
              subst hkv
              unfold docV
              dsimp only
              obtain ⟨sn, hsn⟩ : ∃ z, strB rn = z := ⟨_, rfl⟩
              obtain ⟨st, hst⟩ : ∃ z, strB rx = z := ⟨_, rfl⟩
              obtain ⟨w4, hw4⟩ : ∃ W, w3.alloc (.cells #[.slice z1 z2 z3, .int .i64 rk, .string sn, .string st, .slice z7 z8 z9, .slice y1 y2 y3, .slice z4 z5 z6] 29) = W := ⟨_, rfl⟩
              have hb34 : Below w3.heap.size w3 w4 := by rw [← hw4]; exact (Below.refl _ _).alloc (Nat.le_refl _) _
              have hblk : w4.heap[w3.heap.size]? = some (.cells #[.slice z1 z2 z3, .int .i64 rk, .string sn, .string st, .slice z7 z8 z9, .slice y1 y2 y3, .slice z4 z5 z6] 29 (0, 0)) := by rw [← hw4]; exact heap_alloc_new w3 _
              have HBK := Lib.hid hblk
              have HND := Lib.hid (NodeIn.keep (S' := Any) hnd (keeps_below hb34 Non) (fun _ _ h => h) (fun _ _ => trivial))
              have HB4 := Lib.hid (below_then HBW.out (below_then hb hb34))
              have HW4 := Lib.hid hw4
              have HCO := Lib.hid (code_nil w4)
              have HQ2 := Lib.hid h2
              have HQ3 := Lib.hid h3
              have HSN := Lib.hid hsn
              have HST := Lib.hid hst
              have hkz : ((j : Int) == 0) = false := by rw [beq_eq_false_iff_ne]; omega
              have hkg : ¬ (32 < j) := by omega
              rw [hsn, hst]
              clear hdoc hnd hrb hra hat hri hb hb34 hblk hw4 HA h0 h1 h2 h3 hsn hst
              go_wp2_with fail
              rw [HW4.out]
              with_reducible refine HCO.out.mono ?_
              rintro e w5 ⟨rfl, hb5⟩
              have hdp := depth_calls (HND.out.keep (S' := Any) (keeps_below hb5 Non) (fun _ _ h => h) (fun _ h => h)) (by have h5 := HQ3.out; have h6 := HK.out; omega)
              have hblk5 := block_keep HBK.out (keeps_below hb5 Non) (fun h => h)
              rw [HQ2.out] at hdp
              unfold nodeV at hdp
              dsimp only at hdp
              rw [HSN.out, HST.out] at hdp
              have HDP := Lib.hid hdp
              have HBK5 := Lib.hid hblk5
              have HB5 := Lib.hid (below_then HB4.out hb5)
              have HB45 := Lib.hid hb5
              have m1 := (cell_of_block hblk5 1).trans rfl
              have m2 := (cell_of_block hblk5 2).trans rfl
              have m3 := (cell_of_block hblk5 3).trans rfl
              have m4 := (cell_of_block hblk5 4).trans rfl
              have m5 := (cell_of_block hblk5 5).trans rfl
              clear hdp hblk5 hb5 HCO
              go_wp2_with fail
              with_reducible refine HDP.out.mono ?_
              rintro e w6 ⟨rfl, hb6⟩
              have hct := count_calls (HND.out.keep (S' := Any) (keeps_below (HB45.out.trans (hb6.mono HB45.out.size)) Non) (fun _ _ h => h) (fun _ h => h)) (by have h5 := HQ3.out; have h6 := HK.out; omega)
              have hblk6 := block_keep HBK5.out (keeps_below hb6 Non) (fun h => h)
              rw [HQ3.out] at hct
              unfold nodeV at hct
              dsimp only at hct
              rw [HSN.out, HST.out] at hct
              have HCT := Lib.hid hct
              have HB6 := Lib.hid (below_then HB5.out hb6)
              clear m1 m2 m3 m4 m5
              have m1 := (cell_of_block hblk6 1).trans rfl
              have m2 := (cell_of_block hblk6 2).trans rfl
              have m3 := (cell_of_block hblk6 3).trans rfl
              have m4 := (cell_of_block hblk6 4).trans rfl
              have m5 := (cell_of_block hblk6 5).trans rfl
              clear hct hblk6 hb6
              go_wp2_with fail
              with_reducible refine HCT.out.mono ?_
              rintro e w7 ⟨rfl, hb7⟩
              have HB7 := Lib.hid (below_then HB6.out hb7)
              clear hb7
              go_wp2_with fail
              go_ret
              exact ⟨rfl, HB7.out⟩

end Go.Proofs.YtfonflbpkbibbaaGreatDoor
