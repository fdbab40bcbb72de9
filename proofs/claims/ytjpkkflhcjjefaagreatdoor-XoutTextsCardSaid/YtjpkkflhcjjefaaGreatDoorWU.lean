/-
 Texts.
-/
import Derived.Test.YtjpkkflhcjjefaaGreatDoorOU
import Derived.Test.YtjpkkflhcjjefaaGreatDoorXRs
namespace Go.Proofs.YtjpkkflhcjjefaaGreatDoor
open Go.RowKit Go.Lib Go.Joins
set_option maxHeartbeats 32000000
theorem may_back {before : List Tr} {root : Tr} {after : List Tr} (h : mayB before root after = true) : parseS (wrD before root after) = .ok (before, root, after) := by
 unfold mayB at h
 simp only [Bool.and_eq_true, decide_eq_true_iff, beq_iff_eq] at h
 obtain ⟨⟨⟨⟨⟨⟨h1, h2⟩, h3⟩, h4⟩, h5⟩, h6⟩, h7⟩ := h
 obtain ⟨a1, a2⟩ := (aside_iff _).1 h1
 obtain ⟨b1, b2⟩ := (aside_iff _).1 h2
 obtain ⟨c1, c2⟩ := (fairT_iff _).1 h4
 exact written_back a1 h3 c1 b1 a2 c2 b2 (by rw [aside_count a1, aside_count b1]; omega) h6 h7
def oneT (s t : List UInt8) : Tr := .mk 1 [97] [] [([120], t)] (if s = [] then [] else [.mk 2 [] s [] []])
theorem one_fair (s t : List UInt8) : fairT (oneT s t) = (hasB s && hasB t) := by
 have ha : nameW [97] = true := by kernel_rfl
 have hx : nameW [120] = true := by kernel_rfl
 have hd : decide ((([([120], t)] : List (List UInt8 × List UInt8)).map Prod.fst).Nodup) = true := by simp
 unfold oneT
 rw [fair_mk]
 by_cases hs : s = []
 ·subst hs
  have h0 : hasB [] = true := (has_iff _).2 .nil
  rw [if_pos rfl, fairL, h0, fitT, if_pos rfl, hd, ha]
  show (true && true && (([([120], t)] : List (List UInt8 × List UInt8)).all fun a => nameW a.1 && hasB a.2) && true && !touchB [] && true) = (true && hasB t)
  rw [List.all_cons, List.all_nil, hx, touchB]
  cases hasB t <;> rfl
 ·have hse : s.isEmpty = false := List.isEmpty_eq_false_iff.2 hs
  have h2 : fairT (.mk 2 [] s [] []) = hasB s := by
   rw [fair_mk, fairL, fitT, if_neg (by decide), if_pos rfl, hse]
   show (true && true && hasB s && (true && !false) && true) = _
   cases hasB s <;> rfl
  rw [if_neg hs, fairL, fairL, h2, fitT, if_pos rfl, hd, ha]
  show (true && true && (([([120], t)] : List (List UInt8 × List UInt8)).all fun a => nameW a.1 && hasB a.2) && true && !touchB [.mk 2 [] s [] []] && (hasB s && true)) = _
  rw [List.all_cons, List.all_nil, hx, touchB, touchB]
  show (true && true && (true && hasB t && true) && true && !(2 == 2 && false || false) && (hasB s && true)) = _
  cases hasB t <;> cases hasB s <;> rfl
theorem one_may {s t : List UInt8} (hs : s.length ≤ 2000) (ht : t.length ≤ 2000) (h : fairT (oneT s t) = true) : mayB [] (oneT s t) [] = true := by
 unfold mayB
 have h1 : (oneT s t).kind = 1 := rfl
 have h2 : (oneT s t).count ≤ 4 := by
  unfold oneT
  rw [count_mk]
  split
  ·rw [cntL, List.length_singleton]; omega
  ·rw [cntL, cntL, count_mk, cntL, List.length_singleton, List.length_nil]; omega
 have h3 : (oneT s t).depth ≤ 1 := by
  unfold oneT
  rw [depth_mk, if_pos rfl]
  split
  ·rw [depL]; omega
  ·rw [depL, depL, depth_mk, if_neg (by decide)]; omega
 have h4 : (wrD [] (oneT s t) []).length ≤ 65536 := by
  have e1 := esc_six false s
  have e2 := esc_six true t
  unfold wrD oneT
  rw [wrL, wr_mk, if_pos rfl, attrsB_one]
  unfold attrB
  split
  ·rw [if_pos (by rfl)]
   simp only [List.length_append, List.length_cons, List.length_nil]
   omega
  ·rw [if_neg (by simp), wrL_one, wr_mk, if_neg (by decide), if_pos rfl]
   simp only [List.length_append, List.length_cons, List.length_nil]
   omega
 have h5 : asideB [] = true := rfl
 simp only [h5, h1, h, Bool.and_eq_true, decide_eq_true_iff, List.length_nil, beq_self_eq_true]
 exact ⟨⟨⟨⟨⟨⟨trivial, trivial⟩, trivial⟩, trivial⟩, by omega⟩, by omega⟩, h4⟩
theorem one_back {s t : List UInt8} (hs : s.length ≤ 2000) (ht : t.length ≤ 2000) (h : fairT (oneT s t) = true) : parseS (wrD [] (oneT s t) []) = .ok ([], oneT s t, []) := may_back (one_may hs ht h)
theorem DocIn.dc {w : World} {n0 : Nat} {dv : Value} {q : List Tr × Tr × List Tr} (h : DocIn w n0 dv q) : ∃ bv av r rb ra, DcIn w dv q bv av r rb ra := by
 obtain ⟨bv, av, r, rb, ra, h1, h2, h3, h4, h5, h6⟩ := h.ex
 exact ⟨bv, av, r, rb, ra, h1, h2, h3, h4, h5, h6⟩
theorem bad_text (W : World) (l : List UInt8) (h : l.length ≤ 1000000) : Calls Tryz.prog 30 #[.slice (some ⟨W.heap.size, 0, none⟩) (strB l).size (grownCap W (strB l).size 0 5)] (bytesWorld W 5 (strB l)) (Leaves (.int .i64 (badL l)) (bytesWorld W 5 (strB l))) := by
 have h2 := refBad_calls (some ⟨W.heap.size, 0, none⟩) l.length (grownCap W (strB l).size 0 5) (fs l) (bytesWorld W 5 (strB l)) (doc_str W l h).row8 (by omega)
 rw [← strB_size] at h2
 exact h2
theorem name11_text (W : World) (l : List UInt8) (h : l.length ≤ 1000000) (b : Bool) (hb : nameR (runesFrom (fs l) l.length l.length 0) = b) : Calls Tryz.prog 32 #[.string (strB l)] W (Leaves (.bool b) W) := by
 have h2 := refName_calls (strB l) W (by rw [strB_size]; omega)
 rw [strB_list, strB_size, hb] at h2
 exact h2
theorem strB_full {l : List UInt8} (h : l ≠ []) : (strB l).toList.isEmpty = false ∧ ¬ (strB l).toList = [] := by
 have h1 : (strB l).toList = l := by rw [ByteArray.toList_eq]; rfl
 rw [h1]
 exact ⟨List.isEmpty_eq_false_iff.2 h, h⟩
set_option maxRecDepth 100000 in
theorem rfair_text (w : World) (s : List UInt8) (h0 : s ≠ []) (hs : s.length ≤ 2000) : Calls Tryz.prog 13 #[.agg #[.int .i64 2, .string ⟨#[]⟩, .string (strB s), .slice none 0 0, .slice none 0 0]] w (Leaves (.bool (hasB s)) w) := by
 obtain ⟨w0, hw0⟩ : ∃ W, w.alloc (.cells #[.int .i64 2, .string ⟨#[]⟩, .string (strB s), .slice none 0 0, .slice none 0 0] 25) = W := ⟨_, rfl⟩
 have hb0 : Below w.heap.size w w0 := by rw [← hw0]; exact (Below.refl _ _).alloc (Nat.le_refl _) _
 have hblk : w0.heap[w.heap.size]? = some (.cells #[.int .i64 2, .string ⟨#[]⟩, .string (strB s), .slice none 0 0, .slice none 0 0] 25 (0, 0)) := by rw [← hw0]; exact heap_alloc_new w _
 have HBT := hid (bad_text w0 s (by omega))
 rw [show w0.heap.size = w.heap.size + 1 by rw [← hw0]; simp] at HBT
 obtain ⟨S, hS⟩ : ∃ S, strB s = S := ⟨_, rfl⟩
 obtain ⟨hse, hsn⟩ := strB_full h0
 obtain ⟨q, hq⟩ : ∃ q, badL s = q := ⟨_, rfl⟩
 have HQ : Hid (hasB s = decide (q < 0)) := hid (by rw [← hq]; rfl)
 rw [hS] at hblk HBT hse hsn hw0 ⊢
 rw [hq] at HBT
 have kc := Lib.run_convert_string_bytes (P := Tryz.prog) w0 9 43 5 S Tryz.underlying9 Tryz.underlying43 Tryz.underlying5
 have HW0 := hid hw0
 have HBW : Hid (Below w0.heap.size w0 (bytesWorld w0 5 S)) := hid (bytesWorld_below w0 S)
 have HB0 := hid hb0
 have HBLK := hid hblk
 have z0 := (cell_of_block hblk 0).trans rfl
 have z1 := (cell_of_block hblk 1).trans rfl
 have z2 := (cell_of_block hblk 2).trans rfl
 have z3 := (cell_of_block hblk 3).trans rfl
 have z4 := (cell_of_block hblk 4).trans rfl
 rw [← HW0.out] at kc z0 z1 z2 z3 z4
 clear hw0 hb0 hblk hS hq h0 hs
 go_enter Tryz.func13, Tryz.ntmps13
 go_wp2_with fail
 rw [HW0.out]
 with_reducible refine HBT.out.mono ?_
 rintro e w1 ⟨rfl, hb1⟩
 have HB1 := hid (below_then HBW.out hb1)
 clear kc z0 z1 z2 z3 z4
 have hblk := block_below HB1.out HBLK.out
 have z0 := (cell_of_block hblk 0).trans rfl
 have z1 := (cell_of_block hblk 1).trans rfl
 have z2 := (cell_of_block hblk 2).trans rfl
 have z3 := (cell_of_block hblk 3).trans rfl
 have z4 := (cell_of_block hblk 4).trans rfl
 clear hb1 hblk
 by_cases hq0 : q < 0
 ·have hq1 : ¬ (0 ≤ q) := by omega
  have HF : Hid (hasB s = true) := hid (by rw [HQ.out]; exact decide_eq_true hq0)
  go_wp2_with fail
  go_ret
  exact ⟨by rw [HF.out]; rfl, below_then HB0.out HB1.out⟩
 ·have hq1 : 0 ≤ q := by omega
  have HF : Hid (hasB s = false) := hid (by rw [HQ.out]; exact decide_eq_false hq0)
  go_wp2_with fail
  go_ret
  exact ⟨by rw [HF.out]; rfl, below_then HB0.out HB1.out⟩
set_option maxRecDepth 100000 in
theorem rfair_one {w : World} {s t : List UInt8} (hs : s.length ≤ 2000) (ht : t.length ≤ 2000) {ab : Nat} {kv : Value} (hab : w.heap[ab]? = some (.cells #[.string ⟨#[120]⟩, .string (strB t)] 47 (0, 0)))
  (hkv : (s = [] ∧ kv = .slice none 0 0) ∨ (s ≠ [] ∧ ∃ kb, kv = .slice (some ⟨kb, 0, none⟩) 1 1 ∧ w.heap[kb]? = some (.cells #[.int .i64 2, .string ⟨#[]⟩, .string (strB s), .slice none 0 0, .slice none 0 0] 25 (0, 0)))) :
  Calls Tryz.prog 13 #[.agg #[.int .i64 1, .string ⟨#[97]⟩, .string ⟨#[]⟩, .slice (some ⟨ab, 0, none⟩) 1 1, kv]] w (Leaves (.bool (hasB s && hasB t)) w) := by
 obtain ⟨ka, kn, kk, hkv2⟩ : ∃ ka kn kk, kv = .slice ka kn kk := by
  rcases hkv with ⟨_, h⟩ | ⟨_, kb, h, _⟩
  ·exact ⟨_, _, _, h⟩
  ·exact ⟨_, _, _, h⟩
 have hlt : ab < w.heap.size := lt_of_block hab
 obtain ⟨w0, hw0⟩ : ∃ W, w.alloc (.cells #[.int .i64 1, .string ⟨#[97]⟩, .string ⟨#[]⟩, .slice (some ⟨ab, 0, none⟩) 1 1, kv] 25) = W := ⟨_, rfl⟩
 have hb0 : Below w.heap.size w w0 := by rw [← hw0]; exact (Below.refl _ _).alloc (Nat.le_refl _) _
 have hblk : w0.heap[w.heap.size]? = some (.cells #[.int .i64 1, .string ⟨#[97]⟩, .string ⟨#[]⟩, .slice (some ⟨ab, 0, none⟩) 1 1, kv] 25 (0, 0)) := by rw [← hw0]; exact heap_alloc_new w _
 have hsz : w0.heap.size = w.heap.size + 1 := by rw [← hw0]; simp
 have HBT := hid (bad_text w0 [] (by decide))
 rw [hsz, show strB [] = (⟨#[]⟩ : ByteArray) from rfl, show badL [] = -1 by kernel_rfl, show (⟨#[]⟩ : ByteArray).size = 0 from rfl] at HBT
 have HBA : Hid (∀ W, Calls Tryz.prog 30 #[.slice (some ⟨W.heap.size, 0, none⟩) (strB t).size (grownCap W (strB t).size 0 5)] (bytesWorld W 5 (strB t)) (Leaves (.int .i64 (badL t)) (bytesWorld W 5 (strB t)))) := hid (fun W => bad_text W t (by omega))
 have HNA : Hid (∀ W, Calls Tryz.prog 32 #[.string ⟨#[97]⟩] W (Leaves (.bool true) W)) := hid (fun W => name11_text W [97] (by decide) true (by kernel_rfl))
 have HNX : Hid (∀ W, Calls Tryz.prog 32 #[.string ⟨#[120]⟩] W (Leaves (.bool true) W)) := hid (fun W => name11_text W [120] (by decide) true (by kernel_rfl))
 have HFT : Hid (s ≠ [] → ∀ W, Calls Tryz.prog 13 #[.agg #[.int .i64 2, .string ⟨#[]⟩, .string (strB s), .slice none 0 0, .slice none 0 0]] W (Leaves (.bool (hasB s)) W)) := hid (fun h W => rfair_text W s h hs)
 obtain ⟨T, hT⟩ : ∃ S, strB t = S := ⟨_, rfl⟩
 obtain ⟨q, hq⟩ : ∃ q, badL t = q := ⟨_, rfl⟩
 have HQ : Hid (hasB t = decide (q < 0)) := hid (by rw [← hq]; rfl)
 rw [hT] at hab HBA
 rw [hq] at HBA
 have kc := fun W => Lib.run_convert_string_bytes (P := Tryz.prog) W 9 43 5 T Tryz.underlying9 Tryz.underlying43 Tryz.underlying5
 have kc0 := Lib.run_convert_string_bytes (P := Tryz.prog) w0 9 43 5 ⟨#[]⟩ Tryz.underlying9 Tryz.underlying43 Tryz.underlying5
 have HKC := hid kc
 have HBW : Hid (Below w0.heap.size w0 (bytesWorld w0 5 ⟨#[]⟩)) := hid (bytesWorld_below w0 _)
 have HCELL : Hid (∀ W, Below w0.heap.size w0 W → W.cell? ⟨w.heap.size, 0, none⟩ = some (.int .i64 1) ∧ W.cell? ⟨w.heap.size, 1, none⟩ = some (.string ⟨#[97]⟩) ∧ W.cell? ⟨w.heap.size, 2, none⟩ = some (.string ⟨#[]⟩) ∧ W.cell? ⟨w.heap.size, 3, none⟩ = some (.slice (some ⟨ab, 0, none⟩) 1 1) ∧ W.cell? ⟨w.heap.size, 4, none⟩ = some (.slice ka kn kk) ∧
   W.cell? ⟨ab, 0, none⟩ = some (.string ⟨#[120]⟩) ∧ W.cell? ⟨ab, 1, none⟩ = some (.string T)) := hid (fun W hW => by
  have h1 := block_below hW hblk
  have h2 := block_below (below_then hb0 hW) hab
  exact ⟨(cell_of_block h1 0).trans rfl, (cell_of_block h1 1).trans rfl, (cell_of_block h1 2).trans rfl, (cell_of_block h1 3).trans rfl, (cell_of_block h1 4).trans (by rw [hkv2]; rfl), (cell_of_block h2 0).trans rfl, (cell_of_block h2 1).trans rfl⟩)
 have HKV : Hid ((s = [] ∧ ka = none ∧ kn = 0 ∧ kk = 0) ∨ (s ≠ [] ∧ kn = 1 ∧ kk = 1 ∧ ∃ kb, ka = some ⟨kb, 0, none⟩ ∧ ∀ W, Below w0.heap.size w0 W → W.cell? ⟨kb, 0, none⟩ = some (.int .i64 2) ∧ W.cell? ⟨kb, 1, none⟩ = some (.string ⟨#[]⟩) ∧ W.cell? ⟨kb, 2, none⟩ = some (.string (strB s)) ∧ W.cell? ⟨kb, 3, none⟩ = some (.slice none 0 0) ∧ W.cell? ⟨kb, 4, none⟩ = some (.slice none 0 0))) := hid (by
  rcases hkv with ⟨h1, h2⟩ | ⟨h1, kb, h2, h3⟩
  ·rw [hkv2] at h2
   injection h2 with e1 e2 e3
   exact .inl ⟨h1, e1, e2, e3⟩
  ·rw [hkv2] at h2
   injection h2 with e1 e2 e3
   refine .inr ⟨h1, e2, e3, kb, e1, fun W hW => ?_⟩
   have h4 := block_below (below_then hb0 hW) h3
   exact ⟨(cell_of_block h4 0).trans rfl, (cell_of_block h4 1).trans rfl, (cell_of_block h4 2).trans rfl, (cell_of_block h4 3).trans rfl, (cell_of_block h4 4).trans rfl⟩)
 have HB0 := hid hb0
 rw [hkv2] at hw0 ⊢
 have HW0 := hid hw0
 obtain ⟨z0, z1, z2, z3, z4, z5, z6⟩ := HCELL.out w0 (Below.refl _ _)
 rw [← HW0.out] at z0 z1 z2 z3 z4 z5 z6 kc0
 clear hw0 hb0 hblk hT hq hsz hlt hab hkv hkv2 kc
 go_enter Tryz.func13, Tryz.ntmps13
 go_wp2_with fail
 rw [HW0.out]
 with_reducible refine HBT.out.mono ?_
 rintro e w1 ⟨rfl, hb1⟩
 have HB1 := hid (below_then HBW.out hb1)
 clear hb1 z0 z1 z2 z3 z4 z5 z6 kc0
 obtain ⟨z0, z1, z2, z3, z4, z5, z6⟩ := HCELL.out w1 HB1.out
 go_wp2_with fail
 with_reducible refine (HNA.out w1).mono ?_
 rintro e w2 ⟨rfl, hb2⟩
 have HB2 := hid (below_then HB1.out hb2)
 clear hb2 z0 z1 z2 z3 z4 z5 z6
 obtain ⟨z0, z1, z2, z3, z4, z5, z6⟩ := HCELL.out w2 HB2.out
 go_wp2_with fail
 have HB2' := hid (below_then HB0.out HB2.out)
 clear z0 z1 z2 z3 z4 z5 z6
 go_loopg [3, 4] 1 (fun gk s3 s4 wr => Below w0.heap.size w0 wr ∧ ((gk = 1 ∧ s3 = .bool true ∧ s4 = .int .i64 0) ∨ (gk = 0 ∧ s3 = .bool (decide (q < 0)) ∧ s4 = .int .i64 1)))
 case atStart => exact ⟨HB2.out, .inl ⟨rfl, rfl, rfl⟩⟩
 case round =>
  obtain ⟨hbr, hcase⟩ := hrel
  obtain ⟨z0, z1, z2, z3, z4, z5, z6⟩ := HCELL.out _ hbr
  have HBR := hid hbr
  clear hbr
  rcases hcase with ⟨rfl, rfl, rfl⟩ | ⟨rfl, rfl, rfl⟩
  ·go_wp2_with fail
   with_reducible refine (HNX.out _).mono ?_
   rintro e w3 ⟨rfl, hb3⟩
   have HB3 := hid (below_then HBR.out hb3)
   clear hb3 z0 z1 z2 z3 z4 z5 z6
   obtain ⟨z0, z1, z2, z3, z4, z5, z6⟩ := HCELL.out w3 HB3.out
   have kc := HKC.out w3
   have HBA3 := hid (HBA.out w3)
   have HBW3 : Hid (Below w3.heap.size w3 (bytesWorld w3 5 T)) := hid (bytesWorld_below w3 _)
   go_wp2_with fail
   with_reducible refine HBA3.out.mono ?_
   rintro e w4 ⟨rfl, hb4⟩
   have HB4 := hid (below_then HB3.out (below_then HBW3.out hb4))
   clear hb4 kc z0 z1 z2 z3 z4 z5 z6
   go_wp2_with fail
   go_loopg [3, 5] 0 (fun _ s3 s5 wz => s3 = .bool (decide (q < 0)) ∧ s5 = .int .i64 0 ∧ wz = w4)
   case atStart => exact ⟨rfl, rfl, rfl⟩
   case round =>
    obtain ⟨rfl, rfl, hwr⟩ := hrel
    subst hwr
    go_wp2_with fail
    go_roundg 0
    case measure => omega
    case rel => exact ⟨HB4.out, .inr ⟨rfl, rfl, rfl⟩⟩
  ·go_wp2_with fail
   rcases HKV.out with ⟨hs0, rfl, rfl, rfl⟩ | ⟨hs0, rfl, rfl, kb, rfl, hkb⟩
   ·have HF : Hid ((hasB s && hasB t) = decide (q < 0)) := hid (by rw [HQ.out, hs0, show hasB [] = true by kernel_rfl, Bool.true_and])
    clear hs0 z0 z1 z2 z3 z4 z5 z6
    go_loopg [3, 6] 0 (fun _ s3 s6 wz => s3 = .bool (decide (q < 0)) ∧ s6 = .int .i64 0 ∧ Below w0.heap.size w0 wz)
    case atStart => exact ⟨rfl, rfl, HBR.out⟩
    case round =>
     obtain ⟨rfl, rfl, hwz⟩ := hrel
     obtain ⟨z0, z1, z2, z3, z4, z5, z6⟩ := HCELL.out _ hwz
     have HBZ := hid hwz
     clear hwz
     go_wp2_with fail
     go_ret
     exact ⟨by rw [HF.out]; rfl, below_then HB0.out HBZ.out⟩
   ·have HKB := hid hkb
    have HFS := hid (HFT.out hs0)
    obtain ⟨B, hB⟩ : ∃ B, hasB s = B := ⟨_, rfl⟩
    obtain ⟨S, hS⟩ : ∃ S, strB s = S := ⟨_, rfl⟩
    rw [hS] at HKB HFS
    rw [hB] at HFS
    have HF : Hid ((hasB s && hasB t) = (decide (q < 0) && B)) := hid (by rw [HQ.out, hB, Bool.and_comm])
    clear hs0 hkb hB hS z0 z1 z2 z3 z4 z5 z6
    go_loopg [3, 6] 1 (fun gk s3 s6 wz => Below w0.heap.size w0 wz ∧ ((gk = 1 ∧ s3 = .bool (decide (q < 0)) ∧ s6 = .int .i64 0) ∨ (gk = 0 ∧ s3 = .bool (decide (q < 0) && B) ∧ s6 = .int .i64 1)))
    case atStart => exact ⟨HBR.out, .inl ⟨rfl, rfl, rfl⟩⟩
    case round =>
     obtain ⟨hwz, hcase⟩ := hrel
     obtain ⟨z0, z1, z2, z3, z4, z5, z6⟩ := HCELL.out _ hwz
     have HBZ := hid hwz
     rcases hcase with ⟨rfl, rfl, rfl⟩ | ⟨rfl, rfl, rfl⟩
     ·obtain ⟨k0, k1, k2, k3, k4⟩ := HKB.out _ hwz
      clear hwz
      by_cases hq0 : q < 0
      ·have hd : decide (q < 0) = true := decide_eq_true hq0
       go_wp2_with fail
       with_reducible refine (HFS.out _).mono ?_
       rintro e w5 ⟨rfl, hb5⟩
       have HB5 := hid (below_then HBZ.out hb5)
       clear hb5 z0 z1 z2 z3 z4 z5 z6 k0 k1 k2 k3 k4
       cases B with
       | true =>
        go_wp2_with fail
        go_roundg 0
        case measure => omega
        case rel => exact ⟨HB5.out, .inr ⟨rfl, by rw [decide_eq_true hq0]; rfl, rfl⟩⟩
       | false =>
        go_wp2_with fail
        go_roundg 0
        case measure => omega
        case rel => exact ⟨HB5.out, .inr ⟨rfl, by rw [decide_eq_true hq0]; rfl, rfl⟩⟩
      ·have hd : decide (q < 0) = false := decide_eq_false hq0
       clear k0 k1 k2 k3 k4
       go_wp2_with fail
       go_roundg 0
       case measure => omega
       case rel => exact ⟨HBZ.out, .inr ⟨rfl, by rw [decide_eq_false (show ¬ q < 0 by omega)]; rfl, rfl⟩⟩
     ·clear hwz
      go_wp2_with fail
      go_ret
      exact ⟨by rw [HF.out]; rfl, below_then HB0.out HBZ.out⟩
theorem one_count (s t : List UInt8) : (oneT s t).count ≤ 4 := by
 unfold oneT
 by_cases h : s = []
 ·rw [if_pos h]
  show 1 + _ + _ ≤ 4
  simp [cntL]
 ·rw [if_neg h]
  show 1 + _ + _ ≤ 4
  simp [cntL, Tr.count]
theorem may_len {b : List Tr} {r : Tr} {a : List Tr} (h : mayB b r a = true) : (wrD b r a).length ≤ 65536 := by
 unfold mayB at h
 rw [Bool.and_eq_true] at h
 exact of_decide_eq_true h.2
theorem few_one {s t : List UInt8} (hs : s.length ≤ 2000) (ht : t.length ≤ 2000) : FewD ([], oneT s t, []) := by
 refine ⟨Nat.zero_le _, Nat.le_trans (one_count s t) (by decide), Nat.zero_le _, trivial, ?_, trivial⟩
 unfold oneT
 by_cases h : s = []
 ·rw [if_pos h]
  exact ⟨⟨by show ([97] : List UInt8).length ≤ 1073741823; decide, Nat.zero_le _, fun a ha => by rw [List.mem_singleton.1 ha]; exact ⟨by show ([120] : List UInt8).length ≤ 1073741823; decide, by show t.length ≤ _; omega⟩⟩, trivial⟩
 ·rw [if_neg h]
  exact ⟨⟨by show ([97] : List UInt8).length ≤ 1073741823; decide, Nat.zero_le _, fun a ha => by rw [List.mem_singleton.1 ha]; exact ⟨by show ([120] : List UInt8).length ≤ 1073741823; decide, by show t.length ≤ _; omega⟩⟩, ⟨⟨Nat.zero_le _, by show s.length ≤ _; omega, fun a ha => by cases ha⟩, trivial⟩, trivial⟩
theorem in_oneD {w : World} {s t : List UInt8} {ab : Nat} {ka : Option Addr} {kn kk : Nat} (hab : w.heap[ab]? = some (.cells #[.string ⟨#[120]⟩, .string (strB t)] 47 (0, 0)))
  (hkv : (s = [] ∧ Value.slice ka kn kk = .slice none 0 0) ∨ (s ≠ [] ∧ ∃ kb, Value.slice ka kn kk = .slice (some ⟨kb, 0, none⟩) 1 1 ∧ w.heap[kb]? = some (.cells #[.int .i64 2, .string ⟨#[]⟩, .string (strB s), .slice none 0 0, .slice none 0 0] 25 (0, 0)))) :
  DcIn w (.agg #[.slice none 0 0, .int .i64 1, .string ⟨#[97]⟩, .string ⟨#[]⟩, .slice (some ⟨ab, 0, none⟩) 1 1, .slice ka kn kk, .slice none 0 0]) ([], oneT s t, []) (.slice none 0 0) (.slice none 0 0) ⟨1, [97], [], .slice (some ⟨ab, 0, none⟩) 1 1, .slice ka kn kk⟩ [] [] := by
 refine ⟨rfl, ?_, RowIn.nil w Any, NodesIn.nil w Any, RowIn.nil w Any, NodesIn.nil w Any⟩
 have hat : AttIn w Any (.slice (some ⟨ab, 0, none⟩) 1 1) [([120], t)] := by
  refine ⟨_, 1, rfl, Nat.le_refl _, by unfold maxLen; decide, fun h => (by cases h), .inr ⟨ab, 0, rfl, trivial, fun i y hy => ?_⟩⟩
  match i, hy with
  | 0, hy => rw [← Option.some.inj hy]; exact ⟨(cell_of_block hab 0).trans rfl, (cell_of_block hab 1).trans rfl⟩
  | i + 1, hy => simp at hy
 unfold oneT
 rcases hkv with ⟨h1, h2⟩ | ⟨h1, kb, h2, h3⟩
 ·rw [if_pos h1, h2]
  exact NodeIn.mk ⟨1, [97], [], .slice (some ⟨ab, 0, none⟩) 1 1, .slice none 0 0⟩ [([120], t)] [] [] hat (RowIn.nil w Any) rfl (fun i _ _ h => by simp at h)
 ·rw [if_neg h1, h2]
  refine NodeIn.mk ⟨1, [97], [], .slice (some ⟨ab, 0, none⟩) 1 1, .slice (some ⟨kb, 0, none⟩) 1 1⟩ [([120], t)] [.mk 2 [] s [] []] [⟨2, [], s, .slice none 0 0, .slice none 0 0⟩] hat ?_ rfl ?_
  ·refine ⟨_, 1, rfl, Nat.le_refl _, by unfold maxLen; decide, fun h => (by cases h), .inr ⟨kb, 0, rfl, trivial, fun i y hy => ?_⟩⟩
   match i, hy with
   | 0, hy => rw [← Option.some.inj hy]; exact ⟨(cell_of_block h3 0).trans rfl, (cell_of_block h3 1).trans rfl, (cell_of_block h3 2).trans rfl, (cell_of_block h3 3).trans rfl, (cell_of_block h3 4).trans rfl⟩
   | i + 1, hy => simp at hy
  ·intro i y u hy hu
   match i, hy, hu with
   | 0, hy, hu => rw [← Option.some.inj hy, ← Option.some.inj hu]; exact NodeIn.leaf (AttIn.nil w Any)
   | i + 1, hy, _ => simp at hy
theorem nodeV_one (a b : Value) : nodeV ⟨1, [97], [], a, b⟩ = .agg #[.int .i64 1, .string ⟨#[97]⟩, .string ⟨#[]⟩, a, b] := rfl
theorem DocIn.formsN {w : World} {n0 : Nat} {dv : Value} {q : List Tr × Tr × List Tr} (h : DocIn w n0 dv q) : ∃ x1 x2 x3 k s t u1 u2 u3 u4 u5 u6 x4 x5 x6, dv = .agg #[.slice x1 x2 x3, .int .i64 k, .string s, .string t, .slice u1 u2 u3, .slice u4 u5 u6, .slice x4 x5 x6] ∧
  ∃ bv av r rb ra, DcIn w (.agg #[.slice x1 x2 x3, .int .i64 k, .string s, .string t, .slice u1 u2 u3, .slice u4 u5 u6, .slice x4 x5 x6]) q bv av r rb ra ∧ nodeV r = .agg #[.int .i64 k, .string s, .string t, .slice u1 u2 u3, .slice u4 u5 u6] := by
 obtain ⟨bv, av, r, rb, ra, hd⟩ := h.dc
 have hv := hd.val
 unfold docV at hv
 obtain ⟨_, _, _, h4, rows, h5, _⟩ := hd.root.kids
 obtain ⟨u1, u2, u3, h6⟩ := h4.slice
 obtain ⟨u4, u5, u6, h7⟩ := h5.slice
 obtain ⟨x1, x2, x3, h8⟩ := hd.rowB.slice
 obtain ⟨x4, x5, x6, h9⟩ := hd.rowA.slice
 rw [h6, h7, h8, h9] at hv
 exact ⟨x1, x2, x3, _, _, _, u1, u2, u3, u4, u5, u6, x4, x5, x6, hv, bv, av, r, rb, ra, by rw [← hv]; exact hd, by unfold nodeV; rw [h6, h7]⟩
theorem same_one {W : World} {s t : List UInt8} {v1 av kv : Value} {r2 : Nr} (g1 : NodeIn W Any r2 (oneT s t)) (hnv : nodeV r2 = v1) (g2 : NodeIn W Any ⟨1, [97], [], av, kv⟩ (oneT s t)) : Calls Tryz.prog 22 #[v1, .agg #[.int .i64 1, .string ⟨#[97]⟩, .string ⟨#[]⟩, av, kv]] W (Leaves (.bool true) W) := by
 have g3 := rsame_calls 1000000 g1 g2 (by have := one_count s t; omega) (Nat.le_refl _)
 rw [eqB_refl, hnv, nodeV_one] at g3
 exact g3
theorem fair_one {W : World} {s t : List UInt8} {av kv : Value} (g : NodeIn W Any ⟨1, [97], [], av, kv⟩ (oneT s t)) (hs : ShortN (oneT s t)) (hE : EnvAt W) : Calls Tryz.prog 12 #[.agg #[.int .i64 1, .string ⟨#[97]⟩, .string ⟨#[]⟩, av, kv]] W (Leaves (.bool (fairT (oneT s t))) W) := by
 have h := pfair_calls g (by have := one_count s t; omega) hs hE
 rw [nodeV_one] at h
 exact h
set_option maxRecDepth 100000 in
theorem texts11_calls (s t : List UInt8) (w : World) (hE : EnvAt w) (hg : Handle w) (h15 : 15 ≤ w.heap.size) : Calls Tryz.prog 6 #[.string (strB s), .string (strB t)] w (Leaves (.bool true) w) := by
 have HAW := hid (awake11_calls w hE hg h15)
 have HE := hid hE
 have HG := hid hg
 have H15 := hid h15
 have hss : (strB s).size = s.length := strB_size _
 have hts : (strB t).size = t.length := strB_size _
 obtain ⟨S, hS⟩ : ∃ z, strB s = z := ⟨_, rfl⟩
 obtain ⟨T, hT⟩ : ∃ z, strB t = z := ⟨_, rfl⟩
 obtain ⟨ns, hns⟩ : ∃ z, s.length = z := ⟨_, rfl⟩
 obtain ⟨nt, hnt⟩ : ∃ z, t.length = z := ⟨_, rfl⟩
 rw [hS, hns] at hss
 rw [hT, hnt] at hts
 rw [hS, hT]
 have HSS := hid hS
 have HTT := hid hT
 have HNS := hid hns
 have HNT := hid hnt
 clear hE hg h15 hS hT hns hnt
 by_cases hb1 : 2000 < ns
 ·have hz : (2000 : Int) < (ns : Int) := by omega
  clear hb1
  go_enter Tryz.func6, Tryz.ntmps6
  go_wp2_with fail
  with_reducible refine HAW.out.mono ?_
  rintro e w1 ⟨rfl, hb⟩
  have HB1 := hid hb
  clear hb
  go_wp2_with fail
  go_ret
  exact ⟨rfl, HB1.out⟩
 have hz1 : ¬ ((2000 : Int) < (ns : Int)) := by omega
 by_cases hb2 : 2000 < nt
 ·have hz : (2000 : Int) < (nt : Int) := by omega
  clear hb1 hb2
  go_enter Tryz.func6, Tryz.ntmps6
  go_wp2_with fail
  with_reducible refine HAW.out.mono ?_
  rintro e w1 ⟨rfl, hb⟩
  have HB1 := hid hb
  clear hb
  go_wp2_with fail
  go_ret
  exact ⟨rfl, HB1.out⟩
 have hz2 : ¬ ((2000 : Int) < (nt : Int)) := by omega
 have HLE : Hid (s.length ≤ 2000 ∧ t.length ≤ 2000) := hid ⟨by have := HNS.out; omega, by have := HNT.out; omega⟩
 have HFW := hid (few_one HLE.out.1 HLE.out.2)
 obtain ⟨F, hFT⟩ : ∃ F, fairT (oneT s t) = F := ⟨_, rfl⟩
 have hF1 : (hasB s && hasB t) = F := by rw [← one_fair]; exact hFT
 have HFT := hid hFT
 have HF1 := hid hF1
 clear hb1 hb2 hFT hF1
 by_cases h0 : s = []
 have hse : S = ⟨#[]⟩ := by rw [← HSS.out, h0]; rfl
 subst hse
 have H0 := hid h0
 clear h0
 go_enter Tryz.func6, Tryz.ntmps6
 go_wp2_with fail
 with_reducible refine HAW.out.mono ?_
 rintro e w1 ⟨rfl, hb⟩
 have HB1 := hid hb
 clear hb
 go_wp2_with fail
 obtain ⟨wa, hwa⟩ : ∃ W, w1.alloc (.cells #[.string ⟨#[120]⟩, .string T] 47) = W := ⟨_, rfl⟩
 obtain ⟨wb, hwb⟩ : ∃ W, wa.alloc (.cells #[.int .i64 1, .string ⟨#[97]⟩, .string ⟨#[]⟩, .slice (some ⟨w1.heap.size, 0, none⟩) 1 1, .slice none 0 0] 25) = W := ⟨_, rfl⟩
 obtain ⟨W2, hW2⟩ : ∃ W, wb = W := ⟨_, rfl⟩
 have hsa : wa.heap.size = w1.heap.size + 1 := by rw [← hwa]; simp
 have hsb : wb.heap.size = w1.heap.size + 1 + 1 := by rw [← hwb]; simp [hsa]
 have hba : Below w1.heap.size w1 wa := by rw [← hwa]; exact (Below.refl _ _).alloc (Nat.le_refl _) _
 have hbb : Below w1.heap.size w1 wb := by rw [← hwb]; exact hba.alloc (by omega) _
 have hAb : wb.heap[w1.heap.size]? = some (.cells #[.string ⟨#[120]⟩, .string T] 47 (0, 0)) := by
  rw [← hwb, Lib.alloc_old _ _ _ (by omega), ← hwa]
  exact heap_alloc_new w1 _
 have hNb : wb.heap[w1.heap.size + 1]? = some (.cells #[.int .i64 1, .string ⟨#[97]⟩, .string ⟨#[]⟩, .slice (some ⟨w1.heap.size, 0, none⟩) 1 1, .slice none 0 0] 25 (0, 0)) := by rw [← hwb, ← hsa]; exact heap_alloc_new wa _
 have hbW : Below w1.heap.size w1 W2 := by rw [← hW2]; exact hbb
 have hAB : W2.heap[w1.heap.size]? = some (.cells #[.string ⟨#[120]⟩, .string (strB t)] 47 (0, 0)) := by rw [← hW2, HTT.out]; exact hAb
 have hNB : W2.heap[w1.heap.size + 1]? = some (.cells #[.int .i64 1, .string ⟨#[97]⟩, .string ⟨#[]⟩, .slice (some ⟨w1.heap.size, 0, none⟩) 1 1, .slice none 0 0] 25 (0, 0)) := by rw [← hW2]; exact hNb
 have hKV : ∀ W, Below W2.heap.size W2 W → (s = [] ∧ Value.slice none 0 0 = .slice none 0 0) ∨ (s ≠ [] ∧ ∃ kb, Value.slice none 0 0 = .slice (some ⟨kb, 0, none⟩) 1 1 ∧ W.heap[kb]? = some (.cells #[.int .i64 2, .string ⟨#[]⟩, .string (strB s), .slice none 0 0, .slice none 0 0] 25 (0, 0))) := fun W _ => .inl ⟨H0.out, rfl⟩
 have HBW : Hid (Below w.heap.size w W2) := hid (below_then HB1.out hbW)
 have HDC : Hid (∀ W, Below W2.heap.size W2 W → DcIn W (.agg #[.slice none 0 0, .int .i64 1, .string ⟨#[97]⟩, .string ⟨#[]⟩, .slice (some ⟨w1.heap.size, 0, none⟩) 1 1, .slice none 0 0, .slice none 0 0]) ([], oneT s t, []) (.slice none 0 0) (.slice none 0 0) ⟨1, [97], [], .slice (some ⟨w1.heap.size, 0, none⟩) 1 1, .slice none 0 0⟩ [] []) := hid (fun W hW => in_oneD (block_below hW hAB) (hKV W hW))
 have HCELL : Hid (∀ W, Below W2.heap.size W2 W → W.cell? ⟨w1.heap.size + 1, 0, none⟩ = some (.int .i64 1) ∧ W.cell? ⟨w1.heap.size + 1, 1, none⟩ = some (.string ⟨#[97]⟩) ∧ W.cell? ⟨w1.heap.size + 1, 2, none⟩ = some (.string ⟨#[]⟩) ∧ W.cell? ⟨w1.heap.size + 1, 3, none⟩ = some (.slice (some ⟨w1.heap.size, 0, none⟩) 1 1) ∧ W.cell? ⟨w1.heap.size + 1, 4, none⟩ = some (.slice none 0 0)) := hid (fun W hW => by
  have h1 := block_below hW hNB
  exact ⟨(cell_of_block h1 0).trans rfl, (cell_of_block h1 1).trans rfl, (cell_of_block h1 2).trans rfl, (cell_of_block h1 3).trans rfl, (cell_of_block h1 4).trans rfl⟩)
 have HRF : Hid (∀ W, Below W2.heap.size W2 W → Calls Tryz.prog 13 #[.agg #[.int .i64 1, .string ⟨#[97]⟩, .string ⟨#[]⟩, .slice (some ⟨w1.heap.size, 0, none⟩) 1 1, .slice none 0 0]] W (Leaves (.bool F) W)) := hid (fun W hW => by rw [← HF1.out]; exact rfair_one HLE.out.1 HLE.out.2 (block_below hW hAB) (hKV W hW))
 have HPF := hid (fun W hW => fair_one (HDC.out W hW).root HFW.out.shR (HE.out.below (below_then HBW.out hW)))
 rw [HFT.out] at HPF
 have HWA := hid hwa
 have HWB := hid hwb
 have HW2 := hid hW2
 obtain ⟨z0, z1, z2, z3, z4⟩ := HCELL.out W2 (Below.refl _ _)
 clear hwa hwb hW2 hsa hsb hba hbb hAb hNb hbW hAB hNB hKV 
 rotate_left
 have hse := strB_full h0
 rw [HSS.out] at hse
 obtain ⟨hse1, hse2⟩ := hse
 have H0 := hid h0
 clear h0
 go_enter Tryz.func6, Tryz.ntmps6
 go_wp2_with fail
 with_reducible refine HAW.out.mono ?_
 rintro e w1 ⟨rfl, hb⟩
 have HB1 := hid hb
 clear hb
 go_wp2_with fail
 obtain ⟨wa, hwa⟩ : ∃ W, w1.alloc (.cells #[.string ⟨#[120]⟩, .string T] 47) = W := ⟨_, rfl⟩
 obtain ⟨wb, hwb⟩ : ∃ W, wa.alloc (.cells #[.int .i64 1, .string ⟨#[97]⟩, .string ⟨#[]⟩, .slice (some ⟨w1.heap.size, 0, none⟩) 1 1, .slice (some ⟨w1.heap.size + 1 + 1, 0, none⟩) 1 1] 25) = W := ⟨_, rfl⟩
 obtain ⟨W2, hW2⟩ : ∃ W, wb.alloc (.cells #[.int .i64 2, .string ⟨#[]⟩, .string S, .slice none 0 0, .slice none 0 0] 25) = W := ⟨_, rfl⟩
 have hsa : wa.heap.size = w1.heap.size + 1 := by rw [← hwa]; simp
 have hsb : wb.heap.size = w1.heap.size + 1 + 1 := by rw [← hwb]; simp [hsa]
 have hba : Below w1.heap.size w1 wa := by rw [← hwa]; exact (Below.refl _ _).alloc (Nat.le_refl _) _
 have hbb : Below w1.heap.size w1 wb := by rw [← hwb]; exact hba.alloc (by omega) _
 have hAb : wb.heap[w1.heap.size]? = some (.cells #[.string ⟨#[120]⟩, .string T] 47 (0, 0)) := by
  rw [← hwb, Lib.alloc_old _ _ _ (by omega), ← hwa]
  exact heap_alloc_new w1 _
 have hNb : wb.heap[w1.heap.size + 1]? = some (.cells #[.int .i64 1, .string ⟨#[97]⟩, .string ⟨#[]⟩, .slice (some ⟨w1.heap.size, 0, none⟩) 1 1, .slice (some ⟨w1.heap.size + 1 + 1, 0, none⟩) 1 1] 25 (0, 0)) := by rw [← hwb, ← hsa]; exact heap_alloc_new wa _
 have hbW : Below w1.heap.size w1 W2 := by rw [← hW2]; exact hbb.alloc (by omega) _
 have hAB : W2.heap[w1.heap.size]? = some (.cells #[.string ⟨#[120]⟩, .string (strB t)] 47 (0, 0)) := by rw [← hW2, Lib.alloc_old _ _ _ (by omega), HTT.out]; exact hAb
 have hNB : W2.heap[w1.heap.size + 1]? = some (.cells #[.int .i64 1, .string ⟨#[97]⟩, .string ⟨#[]⟩, .slice (some ⟨w1.heap.size, 0, none⟩) 1 1, .slice (some ⟨w1.heap.size + 1 + 1, 0, none⟩) 1 1] 25 (0, 0)) := by rw [← hW2, Lib.alloc_old _ _ _ (by omega)]; exact hNb
 have hKB : W2.heap[w1.heap.size + 1 + 1]? = some (.cells #[.int .i64 2, .string ⟨#[]⟩, .string (strB s), .slice none 0 0, .slice none 0 0] 25 (0, 0)) := by rw [← hW2, ← hsb, HSS.out]; exact heap_alloc_new wb _
 have hKV : ∀ W, Below W2.heap.size W2 W → (s = [] ∧ Value.slice (some ⟨w1.heap.size + 1 + 1, 0, none⟩) 1 1 = .slice none 0 0) ∨ (s ≠ [] ∧ ∃ kb, Value.slice (some ⟨w1.heap.size + 1 + 1, 0, none⟩) 1 1 = .slice (some ⟨kb, 0, none⟩) 1 1 ∧ W.heap[kb]? = some (.cells #[.int .i64 2, .string ⟨#[]⟩, .string (strB s), .slice none 0 0, .slice none 0 0] 25 (0, 0))) := fun W hW => .inr ⟨H0.out, _, rfl, block_below hW hKB⟩
 have HBW : Hid (Below w.heap.size w W2) := hid (below_then HB1.out hbW)
 have HDC : Hid (∀ W, Below W2.heap.size W2 W → DcIn W (.agg #[.slice none 0 0, .int .i64 1, .string ⟨#[97]⟩, .string ⟨#[]⟩, .slice (some ⟨w1.heap.size, 0, none⟩) 1 1, .slice (some ⟨w1.heap.size + 1 + 1, 0, none⟩) 1 1, .slice none 0 0]) ([], oneT s t, []) (.slice none 0 0) (.slice none 0 0) ⟨1, [97], [], .slice (some ⟨w1.heap.size, 0, none⟩) 1 1, .slice (some ⟨w1.heap.size + 1 + 1, 0, none⟩) 1 1⟩ [] []) := hid (fun W hW => in_oneD (block_below hW hAB) (hKV W hW))
 have HCELL : Hid (∀ W, Below W2.heap.size W2 W → W.cell? ⟨w1.heap.size + 1, 0, none⟩ = some (.int .i64 1) ∧ W.cell? ⟨w1.heap.size + 1, 1, none⟩ = some (.string ⟨#[97]⟩) ∧ W.cell? ⟨w1.heap.size + 1, 2, none⟩ = some (.string ⟨#[]⟩) ∧ W.cell? ⟨w1.heap.size + 1, 3, none⟩ = some (.slice (some ⟨w1.heap.size, 0, none⟩) 1 1) ∧ W.cell? ⟨w1.heap.size + 1, 4, none⟩ = some (.slice (some ⟨w1.heap.size + 1 + 1, 0, none⟩) 1 1)) := hid (fun W hW => by
  have h1 := block_below hW hNB
  exact ⟨(cell_of_block h1 0).trans rfl, (cell_of_block h1 1).trans rfl, (cell_of_block h1 2).trans rfl, (cell_of_block h1 3).trans rfl, (cell_of_block h1 4).trans rfl⟩)
 have HRF : Hid (∀ W, Below W2.heap.size W2 W → Calls Tryz.prog 13 #[.agg #[.int .i64 1, .string ⟨#[97]⟩, .string ⟨#[]⟩, .slice (some ⟨w1.heap.size, 0, none⟩) 1 1, .slice (some ⟨w1.heap.size + 1 + 1, 0, none⟩) 1 1]] W (Leaves (.bool F) W)) := hid (fun W hW => by rw [← HF1.out]; exact rfair_one HLE.out.1 HLE.out.2 (block_below hW hAB) (hKV W hW))
 have HPF := hid (fun W hW => fair_one (HDC.out W hW).root HFW.out.shR (HE.out.below (below_then HBW.out hW)))
 rw [HFT.out] at HPF
 have HWA := hid hwa
 have HWB := hid hwb
 have HW2 := hid hW2
 obtain ⟨z0, z1, z2, z3, z4⟩ := HCELL.out W2 (Below.refl _ _)
 clear hwa hwb hW2 hsa hsb hba hbb hAb hNb hbW hAB hNB hKV hKB
 all_goals
  rw [HWA.out, HWB.out, HW2.out]
  with_reducible refine (HRF.out W2 (Below.refl _ _)).mono ?_
  rintro e w3 ⟨rfl, hb3⟩
  have HB3 := hid hb3
  clear hb3 z0 z1 z2 z3 z4
  obtain ⟨z0, z1, z2, z3, z4⟩ := HCELL.out w3 HB3.out
  cases F with
  | false =>
   go_wp2_with fail
   with_reducible refine (HPF.out w3 HB3.out).mono ?_
   rintro e w4 ⟨rfl, hb4⟩
   have HB4 := hid (below_then HBW.out (below_then HB3.out hb4))
   clear hb4
   go_wp2_with fail
   go_ret
   exact ⟨rfl, HB4.out⟩
  | true =>
   have HMY := hid (one_may HLE.out.1 HLE.out.2 HFT.out)
   have HBK := hid (one_back HLE.out.1 HLE.out.2 HFT.out)
   have HWL : Hid ((wrD [] (oneT s t) []).length ≤ 65536) := hid (may_len HMY.out)
   have HDO := hid (pdoc_calls (HDC.out w3 HB3.out) HFW.out (HE.out.below (below_then HBW.out HB3.out)) (by show (wrD [] (oneT s t) []).length ≤ _; have := HWL.out; omega))
   go_wp2_with fail
   with_reducible refine HDO.out.mono ?_
   rintro e w6 ⟨hb6, ⟨_, rfl⟩ | ⟨hm, _⟩⟩
   case inr => exact absurd (HMY.out.symm.trans hm) (by decide)
   dsimp only
   obtain ⟨ds, hdd⟩ : ∃ z, strB (wrD [] (oneT s t) []) = z := ⟨_, rfl⟩
   have HDD := hid hdd
   rw [hdd]
   have HB6 := hid (below_then HB3.out hb6)
   have hb16 := below_then HBW.out HB6.out
   have HBV : Hid (Below W2.heap.size W2 (bytesWorld w6 5 ds)) := hid (below_then HB6.out (bytesWorld_below w6 ds))
   have HA2 : Hid (Calls Tryz.prog 20 #[.slice (some ⟨w6.heap.size, 0, none⟩) ds.size (grownCap w6 ds.size 0 5)] (bytesWorld w6 5 ds) (ParseOut (bytesWorld w6 5 ds) (.ok ([], oneT s t, [])))) := hid (by
    have h := parse_calls (doc_str w6 (wrD [] (oneT s t) []) (by have := HWL.out; omega)) (HE.out.below (below_then hb16 (bytesWorld_below w6 _))) (HG.out.below (below_then hb16 (bytesWorld_below w6 _))) (Nat.le_trans H15.out (Nat.le_trans hb16.size (bytesWorld_below w6 _).size))
    rw [HBK.out, HDD.out] at h
    have h2 : ds.size = (wrD [] (oneT s t) []).length := by rw [← HDD.out]; exact strB_size _
    rw [← h2] at h
    exact h)
   have kc := Lib.run_convert_string_bytes (P := Tryz.prog) w6 9 43 5 ds Tryz.underlying9 Tryz.underlying43 Tryz.underlying5
   clear hb6 hdd hb16 z0 z1 z2 z3 z4 HDO
   go_wp2_with fail
   with_reducible refine HA2.out.mono ?_
   rintro e w8 ⟨dv2, rfl, hdoc, hb⟩
   obtain ⟨y1, y2, y3, k2, s2, t2, p1, p2, p3, p4, p5, p6, y4, y5, y6, rfl, bv2, av2, r2, rb2, ra2, hdc2, hnv⟩ := hdoc.formsN
   obtain ⟨w9, hw9⟩ : ∃ W, w8.alloc (.cells #[.slice y1 y2 y3, .int .i64 k2, .string s2, .string t2, .slice p1 p2 p3, .slice p4 p5 p6, .slice y4 y5 y6] 27) = W := ⟨_, rfl⟩
   have hb89 : Below w8.heap.size w8 w9 := by rw [← hw9]; exact (Below.refl _ _).alloc (Nat.le_refl _) _
   have hblk2 : w9.heap[w8.heap.size]? = some (.cells #[.slice y1 y2 y3, .int .i64 k2, .string s2, .string t2, .slice p1 p2 p3, .slice p4 p5 p6, .slice y4 y5 y6] 27 (0, 0)) := by rw [← hw9]; exact heap_alloc_new w8 _
   have HBL2 := hid hblk2
   have HB9 := hid (below_then HBV.out (below_then hb hb89))
   have HSM := hid (fun W hW => same_one (hdc2.keep (below_then hb89 hW)).root hnv (HDC.out W (below_then HB9.out hW)).root)
   have HW9 := hid hw9
   have HCO := hid (code_nil w9)
   clear hb hb89 hdoc hdc2 hnv hw9 hblk2 HA2 kc
   go_wp2_with fail
   rw [HW9.out]
   with_reducible refine HCO.out.mono ?_
   rintro e w10 ⟨rfl, hb10⟩
   have HB10 := hid hb10
   have HCO2 := hid (code_nil w10)
   clear hb10 HCO
   go_wp2_with fail
   with_reducible refine HCO2.out.mono ?_
   rintro e w11 ⟨rfl, hb11⟩
   have HB11 := hid (below_then HB10.out hb11)
   obtain ⟨z0, z1, z2, z3, z4⟩ := HCELL.out w11 (below_then HB9.out HB11.out)
   have hblk := block_below HB11.out HBL2.out
   have c0 := (cell_of_block hblk 0).trans rfl
   have c1 := (cell_of_block hblk 1).trans rfl
   have c2 := (cell_of_block hblk 2).trans rfl
   have c3 := (cell_of_block hblk 3).trans rfl
   have c4 := (cell_of_block hblk 4).trans rfl
   have c5 := (cell_of_block hblk 5).trans rfl
   have c6 := (cell_of_block hblk 6).trans rfl
   clear hb11 HCO2 hblk
   go_wp2_with fail
   with_reducible refine (HSM.out w11 HB11.out).mono ?_
   rintro e w12 ⟨rfl, hb12⟩
   have HB12 := hid (below_then HBW.out (below_then HB9.out (below_then HB11.out hb12)))
   clear hb12 z0 z1 z2 z3 z4 c0 c1 c2 c3 c4 c5 c6
   go_wp2_with fail
   go_ret
   exact ⟨rfl, HB12.out⟩
end Go.Proofs.YtjpkkflhcjjefaaGreatDoor
