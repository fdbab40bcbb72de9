/-
  The reference's Orphans and Clean. Conditions: the disk lies in memory; it is small; the slice leads to numbers beside it.
-/
import Derived.Test.YtacfcfbleogioaaGreatDoorMRWr
import Derived.Test.YtacfcfbleogioaaGreatDoorMPureA
import Derived.Test.YtacfcfbleogioaaGreatDoorMClean
import Derived.Test.YtacfcfbleogioaaGreatDoorSNameA
namespace Go.Proofs.YtacfcfbleogioaaGreatDoor
open Go.RowKit Go.Lib Go.Joins

theorem infoT : (Tryz.prog.info? 9).map (fun i => (i.zero, i.size, i.bytes)) = some (some (.string ⟨#[]⟩), 1, 16) := by kernel_rfl
/-- Texts in a slice of the call's own. -/
structure OwnT (w0 w : World) (v : Value) (l : List ByteArray) : Prop where
  row : w.ownsRow 0 9 1 v l.length (l.map Value.string)
  new : ∀ k, v.ownBlock = some k → w0.heap.size ≤ k
  bel : Below w0.heap.size w0 w
theorem OwnT.nil (w : World) : OwnT w w (.slice none 0 0) [] := ⟨World.ownsRow_nil _ _ _ _, (fun k e => by cases e), Below.refl _ _⟩
theorem OwnT.below {w0 w w' : World} {v : Value} {l : List ByteArray} (h : OwnT w0 w v l) (hb : Below w.heap.size w w') : OwnT w0 w' v l :=
  ⟨ownsRow_keep h.row (keeps_below hb Non) (fun _ _ h => h), h.new, below_then h.bel hb⟩
theorem OwnT.more {w0 w : World} {v : Value} {l : List ByteArray} (h : OwnT w0 w v l) (x : ByteArray) (hs : l.length ≤ 100000) :
    ∃ v' w', (∀ ty, (Builtin.append_ #[41, 41] ty #[v, .slice (some ⟨w.heap.size, 0, none⟩) 1 1]).run Tryz.prog (w.alloc (.cells #[.string x] 9)) = .ok v' w') ∧ OwnT w0 w' v' (l ++ [x]) := by
  obtain ⟨v', w', h1, h2, h3, h4⟩ := append_any (w := w.alloc (.cells #[.string x] 9)) Tryz.underlying41 infoT rfl (by decide) (h.row.alloc _) (b := ⟨w.heap.size, 0, none⟩) (m := 1) (c := 1) (news := [.string x]) rfl (new_cells w [.string x] _)
    (fun u hu => by rw [List.mem_singleton.1 hu]; rfl) (by unfold maxLen; omega) (by omega)
  have hk : Keeps (fun k => v.ownBlock = some k) w w' := ((Keeps.refl _ w).alloc _).grown h3 (fun k e => .inl e)
  refine ⟨v', w', h1, ⟨by rw [List.length_append, List.map_append]; exact h2, fun k e => ?_, h.bel.trans (hk.toBelow h.bel.size (fun k e => h.new k e))⟩⟩
  rcases h4 k e with h5 | h5
  · exact h.new k h5
  · have := h.bel.size; simp at h5; omega
theorem OwnT.form {w0 w : World} {v : Value} {l : List ByteArray} (h : OwnT w0 w v l) : ∃ a c S', v = .slice a l.length c ∧ VRow w S' a (l.map Value.string) ∧ (∀ k, S' k → w0.heap.size ≤ k) := by
  obtain ⟨a, c, h1, h2, _⟩ := vrow_of_own h.row (List.length_map _)
  exact ⟨a, c, _, h1, h2, h.new⟩
theorem eq_tells (x y : ByteArray) : (x.toList == y.toList) = decide (x = y) := by
  by_cases h : x = y
  · subst h; simp
  · rw [decide_eq_false h]; exact toList_ne h

set_option maxRecDepth 100000 in
set_option maxHeartbeats 16000000 in
theorem rorph8_calls {S Sm : Nat → Prop} {B : Nat} {d : Dsk} (g l : Int) (a : Option Addr) (segs : List Int) (n c : Nat) (w : World) (hd : RefD w S B d) (hr : IRow w Sm a segs) (hn : segs.length = n) (hm : n ≤ 140737488355328) :
    Calls Tryz.prog 16 #[.pointer (some ⟨B, 0, none⟩), .agg #[.int .i64 g, .int .i64 l, .slice a n c]] w (OrphOut d ⟨g, l, segs⟩ w) := by
  obtain ⟨hi, hS, lv, ta, tn, tc, Sd, St, hat⟩ := hd
  obtain ⟨la, lc, rfl, hfl, _, _, _⟩ := hat.fils
  obtain ⟨W1, hW1⟩ : ∃ W1, w.alloc (.cells #[.int .i64 g, .int .i64 l, .slice a n c] 25) = W1 := ⟨_, rfl⟩
  have hb1 : Below w.heap.size w W1 := by rw [← hW1]; exact (Below.refl _ _).alloc (Nat.le_refl _) _
  have hk1 : W1.heap[w.heap.size]? = some (.cells #[.int .i64 g, .int .i64 l, .slice a n c] 25 (0, 0)) := by rw [← hW1]; exact heap_alloc_new _ _
  have HC : Hid (∀ W, Below W1.heap.size W1 W → W.cell? ⟨w.heap.size, 0, none⟩ = some (.int .i64 g) ∧ W.cell? ⟨w.heap.size, 2, none⟩ = some (.slice a n c)) := Lib.hid (fun W hb => by
    have h := block_below hb hk1
    exact ⟨(cell_of_block h 0).trans rfl, (cell_of_block h 2).trans rfl⟩)
  obtain ⟨LF, hLF⟩ : ∃ x, d.L.map toI = x := ⟨_, rfl⟩
  obtain ⟨nf, hnf⟩ : ∃ x, d.L.length = x := ⟨_, rfl⟩
  rw [hLF] at hfl
  have hblk := block_below hb1 hat.blk
  rw [hnf] at hblk
  have HD : Hid (∀ W, Below W1.heap.size W1 W → W.cell? ⟨B, 1, none⟩ = some (.slice la nf lc)) := Lib.hid (fun W hb => (cell_of_block (block_below hb hblk) 1).trans rfl)
  have HF1 : Hid (Fils W1 S la LF) := Lib.hid (hfl.keep (keeps_below hb1 Non) (fun _ _ h => h))
  have HB1 := Lib.hid hb1
  have HW1 := Lib.hid hW1
  have HR := Lib.hid (hr.below hb1)
  have HN := Lib.hid hn
  have HNF : Hid (d.L.length = nf ∧ nf ≤ 64) := Lib.hid ⟨hnf, by rw [← hnf]; exact hi.most⟩
  have hnf64 : nf ≤ 64 := by rw [← hnf]; exact hi.most
  have HAT : Hid (∀ (i : Nat), i < nf → ∃ f, d.L[i]? = some f ∧ LF[i]? = some (toI f) ∧ 1 ≤ f.name.size) := Lib.hid (fun i hlt => by
    have h1 : d.L[i]? = some (d.L[i]'(by rw [hnf]; exact hlt)) := List.getElem?_eq_getElem _
    exact ⟨_, h1, by rw [← hLF, List.getElem?_map, h1]; rfl, name_pos hi (List.getElem_mem _)⟩)
  have HNM : Hid (∀ W, Calls Tryz.prog 49 #[.int .i64 g] W (Leaves (.string (mnameB g)) W)) := Lib.hid (rname8_calls g)
  obtain ⟨X, hX⟩ : ∃ x, mnameB g = x := ⟨_, rfl⟩
  rw [hX] at HNM
  have HX := Lib.hid hX
  obtain ⟨m, hmm⟩ : ∃ m : Mfs, ⟨g, l, segs⟩ = m := ⟨_, rfl⟩
  have HNEED : Hid (∀ s : ByteArray, 1 ≤ s.size → needM m s = (decide (s = X) || anyS segs s)) := Lib.hid (fun s hs => by rw [need_is hs, ← hmm, ← hX]; rfl)
  rw [hmm]
  have HOUT : Hid (orphL m d.L = orphM d m) := Lib.hid rfl
  obtain ⟨PST, hP⟩ : ∃ P, OrphOut d m w = P := ⟨_, rfl⟩
  have HPO : Hid (∀ a c S' W, VRow W S' a ((orphM d m).map Value.string) → (∀ k, S' k → w.heap.size ≤ k) → Below w.heap.size w W → PST (.returned (.slice a (orphM d m).length c)) W) := Lib.hid (fun a c S' W h1 h2 h3 => by rw [← hP]; exact ⟨a, c, S', rfl, h1, h2, h3⟩)
  rw [hP]
  have c0 : W1.cell? ⟨B, 1, none⟩ = some (.slice la nf lc) := HD.out _ (Below.refl _ _)
  have HOW0 := Lib.hid (OwnT.nil W1)
  clear hP hi hS hat hfl hr hn hW1 hb1 hk1 hLF hnf hblk hX hmm
  go_enter Tryz.func16, Tryz.ntmps16
  go_wp2_with fail
  rw [HW1.out]
  go_loopg [5, 6] nf (fun gk ov idx wr => ∃ (i : Nat) (v : Value), v = ov ∧ idx = .int .i64 (i : Int) ∧ gk + i = nf ∧ OwnT W1 wr v (orphL m (d.L.take i)))
  case atStart => exact ⟨0, _, rfl, rfl, rfl, HOW0.out⟩
  case round =>
    obtain ⟨i, v, hvw, rfl, hg, how⟩ := hrel
    subst hvw
    have HG := Lib.hid hg
    have HOW := Lib.hid how
    clear hg how HOW0 c0
    have c0 := HD.out _ HOW.out.bel
    by_cases hlt : i < nf
    · obtain ⟨g', rfl⟩ : ∃ g', gk = g' + 1 := ⟨gk - 1, by have := HG.out; omega⟩
      have hdd : decide ((i : Int) < (nf : Int)) = true := by simp; omega
      obtain ⟨f, hfx, hfl, hfs⟩ := HAT.out i hlt
      obtain ⟨fb, fo, da, dc, rfl, hSf, e00, _, _, _, _, _, _⟩ := fils_at HF1.out hfl
      have HTK := Lib.hid (orphL_take (m := m) hfx)
      have HND := Lib.hid (HNEED.out f.name hfs)
      have e0 := (HOW.out.bel.cell (p := ⟨fb, fo + i * 3, none⟩) (lt_of_cell e00)).trans e00
      obtain ⟨nm, hnm⟩ : ∃ x, f.name = x := ⟨_, rfl⟩
      have hto : (toI f).name = f.name := rfl
      rw [hto, hnm] at e0
      rw [hnm] at HTK HND
      obtain ⟨nd, hnd⟩ : ∃ x, needM m nm = x := ⟨_, rfl⟩
      rw [hnd] at HTK HND
      obtain ⟨b0, hb0⟩ : ∃ x, decide (nm = X) = x := ⟨_, rfl⟩
      rw [hb0] at HND
      have heq : (nm.toList == X.toList) = b0 := by rw [eq_tells, hb0]
      have ci := (HC.out _ HOW.out.bel).1
      clear hfx hfl hfs e00 hto hnm hnd hb0 hSf
      go_wp2_with fail
      with_reducible refine (HNM.out _).mono ?_
      rintro e w2 ⟨rfl, hb2⟩
      have HOW2 := Lib.hid (HOW.out.below hb2)
      clear hb2 e0 ci c0
      go_wp2_with fail
      clear heq
      have HST : Hid ((b0 || anyS (segs.drop 0) nm) = nd) := Lib.hid (by rw [List.drop_zero]; exact HND.out.symm)
      go_loopg [8, 9] n (fun gj bv jv wr2 => ∃ (j : Nat) (b : Bool), bv = .bool b ∧ jv = .int .i64 (j : Int) ∧ gj + j = n ∧ (b || anyS (segs.drop j) nm) = nd ∧ OwnT W1 wr2 v (orphL m (d.L.take i)))
      case atStart => exact ⟨0, b0, rfl, rfl, rfl, HST.out, HOW2.out⟩
      case round =>
        obtain ⟨j, b, rfl, rfl, hgj, hbm, how⟩ := hrel
        have HGJ := Lib.hid hgj
        have HBM := Lib.hid hbm
        have HOWJ := Lib.hid how
        clear hgj hbm how HST
        have cj := (HC.out _ HOWJ.out.bel).2
        by_cases hj : j < n
        · obtain ⟨g2, rfl⟩ : ∃ g', gk = g' + 1 := ⟨gk - 1, by have := HGJ.out; omega⟩
          have hdj : decide ((j : Int) < (n : Int)) = true := by simp; omega
          cases b with
          | true =>
            go_wp2_with fail
            go_roundg g2
            case measure => omega
            case rel => exact ⟨j + 1, true, rfl, by go_num, by have := HGJ.out; omega, HBM.out, HOWJ.out⟩
          | false =>
            obtain ⟨x, hx⟩ : ∃ x, segs[j]? = some x := ⟨segs[j]'(by rw [HN.out]; exact hj), List.getElem?_eq_getElem _⟩
            obtain ⟨ab, ao, rfl, _, hcx⟩ := irow_at (HR.out.below HOWJ.out.bel) hx
            have hst := HBM.out
            rw [anyS_drop nm hx, Bool.false_or] at hst
            have HNS := Lib.hid (rname_calls x wr)
            obtain ⟨Y, hY⟩ : ∃ y, nameB x = y := ⟨_, rfl⟩
            rw [hY] at HNS hst
            obtain ⟨b1, hb1⟩ : ∃ y, decide (nm = Y) = y := ⟨_, rfl⟩
            rw [hb1] at hst
            have HS2 := Lib.hid hst
            have heq : (nm.toList == Y.toList) = b1 := by rw [eq_tells, hb1]
            clear hst hx hY hb1 HBM
            go_wp2_with fail
            with_reducible refine HNS.out.mono ?_
            rintro e w3 ⟨rfl, hb3⟩
            have HOW3 := Lib.hid (HOWJ.out.below hb3)
            clear hb3 cj hcx
            go_wp2_with fail
            go_roundg g2
            case measure => omega
            case rel => exact ⟨j + 1, b1, rfl, by go_num, by have := HGJ.out; omega, HS2.out, HOW3.out⟩
        · have hdj : decide ((j : Int) < (n : Int)) = false := by simp; omega
          have hbq : b = nd := by
            have h := HBM.out
            rw [List.drop_eq_nil_of_le (by rw [HN.out]; omega)] at h
            rw [← h]
            simp [anyS]
          subst hbq
          clear HBM HND
          cases b with
          | true =>
            have HE : Hid (orphL m (d.L.take (i + 1)) = orphL m (d.L.take i)) := Lib.hid (by rw [HTK.out, if_pos rfl, List.append_nil])
            clear HTK
            go_wp2
            go_roundg g'
            case measure => omega
            case rel => exact ⟨i + 1, v, rfl, by go_num, by have := HG.out; omega, by rw [HE.out]; exact HOWJ.out⟩
          | false =>
            have hml : (orphL m (d.L.take i)).length ≤ 100000 := Nat.le_trans (orphL_len _ _) (by rw [List.length_take]; omega)
            obtain ⟨v', w', hrun, how'⟩ := HOWJ.out.more nm hml
            have HRUN := Lib.hid hrun
            have HOW4 : Hid (OwnT W1 w' v' (orphL m (d.L.take (i + 1)))) := Lib.hid (by rw [HTK.out, if_neg (by decide)]; exact how')
            clear hrun how' hml HTK
            go_wp2_with (first | (at_builtin; refine wpList_step (fun K hK => step_app HRUN.out (.tmp 52) (.tmp 54) rfl rfl rfl rfl (hK _ _ ?_))) | fail)
            go_roundg g'
            case measure => omega
            case rel => exact ⟨i + 1, v', rfl, by go_num, by have := HG.out; omega, HOW4.out⟩
    · have hdd : decide ((i : Int) < (nf : Int)) = false := by simp; omega
      have how := HOW.out
      rw [List.take_of_length_le (by rw [HNF.out.1]; omega), HOUT.out] at how
      obtain ⟨av, cv, Sv, hvv, hvr, hvn⟩ := how.form
      subst hvv
      have HFIN := Lib.hid (HPO.out av cv Sv wr hvr (fun k hk => Nat.le_trans HB1.out.size (hvn k hk)) (below_then HB1.out how.bel))
      clear how hvr hvn HOW
      go_wp2
      exact HFIN.out

/-- What is left to delete, behind i deletions. -/
theorem drop_del {NS : List ByteArray} {i : Nat} {s : ByteArray} (hs : NS[i]? = some s) : (NS.drop i).map delO = delO s :: (NS.drop (i + 1)).map delO := by
  obtain ⟨h1, rfl⟩ := List.getElem?_eq_some_iff.1 hs
  rw [List.drop_eq_getElem_cons h1, List.map_cons]

set_option maxRecDepth 100000 in
set_option maxHeartbeats 16000000 in
theorem rclean8_calls {w : World} {S Sm : Nat → Prop} {B : Nat} {d : Dsk} {M K : Nat} (g l : Int) (a : Option Addr) (segs : List Int) (n c : Nat) (hd : RefD w S B d) (hr : IRow w Sm a segs) (hoff : ∀ k, Sm k → ¬ S k ∧ k < w.heap.size) (hn : segs.length = n) (hm : n ≤ 140737488355328)
    (hfew : Few d M K) (hM : M ≤ 1073741824) (hK : K + 64 ≤ 1073741823) (htr : d.tr.length ≤ 1000) :
    Calls Tryz.prog 26 #[.pointer (some ⟨B, 0, none⟩), .agg #[.int .i64 g, .int .i64 l, .slice a n c]] w (RDoes w S B (.int .i64 (cleanM d ⟨g, l, segs⟩).1) (cleanM d ⟨g, l, segs⟩).2) := by
  obtain ⟨C, hC⟩ : ∃ C : Obj, Obj.cells #[.int .i64 g, .int .i64 l, .slice a n c] 25 (0, 0) = C := ⟨_, rfl⟩
  obtain ⟨F, hF⟩ : ∃ F, w.heap.size = F := ⟨_, rfl⟩
  obtain ⟨W1, hW1⟩ : ∃ W1, w.alloc (.cells #[.int .i64 g, .int .i64 l, .slice a n c] 25) = W1 := ⟨_, rfl⟩
  have hb1 : Below w.heap.size w W1 := by rw [← hW1]; exact (Below.refl _ _).alloc (Nat.le_refl _) _
  have hk1 : W1.heap[w.heap.size]? = some C := by rw [← hW1, ← hC]; exact heap_alloc_new _ _
  have hrw1 := RW.start hd hr hoff hb1 hk1
  rw [hF] at hrw1
  have hcc := hrw1.box
  rw [← hC] at hcc
  have c0 : W1.cell? ⟨F, 0, none⟩ = some (.int .i64 g) := (cell_of_block hcc 0).trans rfl
  have c1 : W1.cell? ⟨F, 1, none⟩ = some (.int .i64 l) := (cell_of_block hcc 1).trans rfl
  have c2 : W1.cell? ⟨F, 2, none⟩ = some (.slice a n c) := (cell_of_block hcc 2).trans rfl
  have HOR := Lib.hid (rorph8_calls g l a segs n c W1 hrw1.ref hrw1.row hn hm)
  have HW1 := Lib.hid hW1
  have HF := Lib.hid hF
  have HRW1 := Lib.hid hrw1
  have HFEW := Lib.hid hfew
  have HTR := Lib.hid htr
  have HMK : Hid (M ≤ 1073741824 ∧ K + 64 ≤ 1073741823) := Lib.hid ⟨hM, hK⟩
  obtain ⟨m, hmm⟩ : ∃ m : Mfs, ⟨g, l, segs⟩ = m := ⟨_, rfl⟩
  rw [hmm] at HOR ⊢
  obtain ⟨NS, hNS⟩ : ∃ x, orphM d m = x := ⟨_, rfl⟩
  have hl64 : NS.length ≤ 64 := by rw [← hNS, ← orphL_all]; exact Nat.le_trans (orphL_len _ _) hfew.inv.most
  have HSZ : Hid (∀ s ∈ NS, s.size ≤ 1099511627776) := Lib.hid (fun s hs => by
    rw [← hNS] at hs
    exact Nat.le_trans (name_size hfew.inv s (List.mem_filter.1 hs).1) (by decide))
  have hcl : cleanM d m = runB d (NS.map delO) := by rw [← hNS]; rfl
  obtain ⟨PST, hP⟩ : ∃ P, RDoes w S B (.int .i64 (cleanM d m).1) (cleanM d m).2 = P := ⟨_, rfl⟩
  have HPO : Hid (∀ c d', runB d (NS.map delO) = (c, d') → ∀ W, RTurns w S B d' W → PST (.returned (.int .i64 c)) W) := Lib.hid (fun c d' hw W h => by rw [← hP, hcl, hw]; exact ⟨rfl, h⟩)
  rw [hP]
  unfold OrphOut at HOR
  rw [hNS] at HOR
  obtain ⟨nn, hnn⟩ : ∃ x, NS.length = x := ⟨_, rfl⟩
  rw [hnn] at HOR hl64
  have HNN := Lib.hid hnn
  have HNO : Hid (noS.size ≤ 1099511627776) := Lib.hid (by decide)
  clear hP hd hr hoff hn hm hfew hM hK htr hb1 hk1 hW1 hC hF hrw1 hmm hNS hnn hcc hcl
  go_enter Tryz.func26, Tryz.ntmps26
  go_wp2_with fail
  try rw [HW1.out]
  try rw [HF.out]
  with_reducible refine HOR.out.mono ?_
  rintro e w2 ⟨va, vc, Sv, rfl, hvr, hSv, hb2⟩
  have HRW2 := Lib.hid (HRW1.out.quiet hb2)
  have HVR : Hid (VRow w2 (fun k => Sv k ∧ k < w2.heap.size) va (NS.map Value.string)) := Lib.hid (by
    rcases hvr with h | ⟨b, o, h1, h2, h3⟩
    · exact .inl h
    · by_cases hz : NS = []
      · exact .inl (by rw [hz]; rfl)
      · obtain ⟨s, hs⟩ : ∃ s, (NS.map Value.string)[0]? = some s := ⟨_, List.getElem?_eq_getElem (by rw [List.length_map]; exact List.length_pos_iff.2 hz)⟩
        exact .inr ⟨b, o, h1, ⟨h2, lt_of_cell (h3 0 s hs)⟩, h3⟩)
  have HVO : Hid (∀ k, (Sv k ∧ k < w2.heap.size) → ¬ S k) := Lib.hid (fun k hk hs => by
    have h1 := hSv k hk.1
    have h2 := HRW1.out.ref.2.1 k hs
    omega)
  clear hvr hSv hb2 HOR HRW1 HW1 c0 c1 c2
  go_wp2_with fail
  go_loopg [6] nn (fun gk idx wr => ∃ (i : Nat) (dd : Dsk) (SS : Nat → Prop), idx = .int .i64 (i : Int) ∧ gk + i = nn ∧ Mid8 d (NS.map delO) ((NS.drop i).map delO) 0 dd ∧ RW w wr S SS B F dd C Sm a segs ∧ Few dd M (K + i) ∧ dd.tr.length ≤ 1000 ∧ VRow wr (fun k => Sv k ∧ k < w2.heap.size) va (NS.map Value.string) ∧ (∀ k, (Sv k ∧ k < w2.heap.size) → ¬ SS k ∧ k < wr.heap.size))
  case atStart => exact ⟨0, d, S, rfl, rfl, by rw [List.drop_zero]; exact Mid8.start _ _, HRW2.out, HFEW.out, HTR.out, HVR.out, fun k hk => ⟨HVO.out k hk, hk.2⟩⟩
  case round =>
    obtain ⟨i, dd, SS, rfl, hg, hmid, hrw, hfew, htr, hvr, hvo⟩ := hrel
    have HG := Lib.hid hg
    have HMID := Lib.hid hmid
    have HRW := Lib.hid hrw
    have HFE := Lib.hid hfew
    have HT := Lib.hid htr
    have HV := Lib.hid hvr
    have HO := Lib.hid hvo
    clear hg hmid hrw hfew htr hvr hvo HRW2 HFEW HTR HVR HVO
    by_cases hlt : i < nn
    · obtain ⟨g', rfl⟩ : ∃ g', gk = g' + 1 := ⟨gk - 1, by have := HG.out; omega⟩
      have hdd : decide ((i : Int) < (nn : Int)) = true := by simp; omega
      obtain ⟨s, hs⟩ : ∃ s, NS[i]? = some s := ⟨NS[i]'(by rw [HNN.out]; exact hlt), List.getElem?_eq_getElem _⟩
      obtain ⟨vb, vo, rfl, hcs⟩ := vrow_at HV.out (i := i) (x := .string s) (by rw [List.getElem?_map, hs]; rfl)
      have hmid2 := HMID.out
      rw [drop_del hs] at hmid2
      have HSS := Lib.hid (HSZ.out s (List.mem_of_getElem? hs))
      have HDO : Hid (Calls Tryz.prog 66 #[.pointer (some ⟨B, 0, none⟩), .int .i64 6, .string s, .string ⟨#[]⟩, .int .i64 0, .slice none 0 0] wr (RDoes wr SS B (.int .i64 (Go.Proofs.YtacfcfbleogioaaGreatDoor.step dd (delO s)).1) (Go.Proofs.YtacfcfbleogioaaGreatDoor.step dd (delO s)).2)) := Lib.hid (rdo_plain 6 (by omega) s noS HRW.out.ref HFE.out HMK.out.1 (by have := HMK.out.2; omega) HT.out HSS.out HNO.out)
      have HST := Lib.hid (HFE.out.step (delO s) (fun c hc => by cases hc) (Nat.le_refl M))
      have HTS : Hid ((Go.Proofs.YtacfcfbleogioaaGreatDoor.step dd (delO s)).2.tr.length ≤ 1000) := Lib.hid (by rw [tr_step8]; exact HT.out)
      have HM1 := Lib.hid hmid2.step
      obtain ⟨d4, hd4⟩ : ∃ x, (Go.Proofs.YtacfcfbleogioaaGreatDoor.step dd (delO s)).2 = x := ⟨_, rfl⟩
      obtain ⟨c4, hc4⟩ : ∃ x, (Go.Proofs.YtacfcfbleogioaaGreatDoor.step dd (delO s)).1 = x := ⟨_, rfl⟩
      rw [hd4] at HDO HM1 HST HTS
      rw [hc4] at HDO HM1
      clear hd4 hc4 hmid2 HMID hs
      go_wp2_with fail
      with_reducible refine HDO.out.mono ?_
      rintro e w4 ⟨rfl, ht4⟩
      obtain ⟨S4, hrw4, hf4, hk4⟩ := HRW.out.turn2 ht4
      have HV4 := Lib.hid (HV.out.keep hk4 (fun k hk => (HO.out k hk).1))
      have HO4 : Hid (∀ k, (Sv k ∧ k < w2.heap.size) → ¬ S4 k ∧ k < w4.heap.size) := Lib.hid (fun k hk => ⟨fun e => by
        rcases hf4 k e with h | h
        · exact (HO.out k hk).1 h
        · have := (HO.out k hk).2; omega, Nat.lt_of_lt_of_le (HO.out k hk).2 hk4.size⟩)
      have HRW4 := Lib.hid hrw4
      clear hrw4 ht4 hf4 hk4 HDO hcs
      by_cases hc : c4 = 0
      · subst hc
        go_wp2_with fail
        go_roundg g'
        case measure => omega
        case rel => exact ⟨i + 1, d4, S4, by go_num, by have := HG.out; omega, HM1.out, HRW4.out, HST.out, HTS.out, HV4.out, HO4.out⟩
      · have hcb : (c4 != 0) = true := by simp [hc]
        have hall : runB d (NS.map delO) = (c4, d4) := by
          have h := HM1.out
          unfold Mid8 at h
          rw [h, if_neg hc]
        have HFIN := Lib.hid (HPO.out c4 d4 hall _ HRW4.out.turns)
        clear hall hc
        go_wp2
        exact HFIN.out
    · have hdd : decide ((i : Int) < (nn : Int)) = false := by simp; omega
      have hmid := HMID.out
      rw [List.drop_eq_nil_of_le (by rw [HNN.out]; omega)] at hmid
      have HFIN := Lib.hid (HPO.out 0 dd hmid.all _ HRW.out.turns)
      clear hmid HMID
      go_wp2
      exact HFIN.out

end Go.Proofs.YtacfcfbleogioaaGreatDoor
