/-
  The program's begin of a segment that is opened. Conditions: the disk and the segment lie in blocks of the call's own; the disk is small; the library's table of powers of ten is laid.
-/
import Derived.Test.YtjhiekijbcjohaaGreatDoorSWrite
namespace Go.Proofs.YtjhiekijbcjohaaGreatDoor
open Go.RowKit Go.Lib Go.Joins

set_option maxRecDepth 100000 in
set_option maxHeartbeats 8000000 in
theorem begin_end {w0 w : World} {S : Nat → Prop} {b B : Nat} {n : Int} {d : Dsk} {z M K : Nat} (h : Live w0 w S B d) (ht : Tab w0) (hg : SegAt w b B n ⟨z, false⟩) (hb : ¬ S b) (hfew : Few d M K) (hM : M ≤ 1073741824) (hK : K ≤ 1073741000) :
    Calls Tryz.prog 58 #[.pointer (some ⟨b, 0, none⟩), .int .i64 2, .bool true] w (Does w S B (.int .i64 (beginB d n z 2).1) (beginB d n z 2).2) := by
  have HTAB := Lib.hid ht
  have HSC : Hid (∀ W, Keeps S w W → W.cell? ⟨b, 0, none⟩ = some (.pointer (some ⟨B, 0, none⟩)) ∧ W.cell? ⟨b, 1, none⟩ = some (.int .i64 n)) := Lib.hid (fun W hk => by
    have h1 := hg.keep hk hb
    exact ⟨h1.c0, h1.c1⟩)
  have HB0 : Hid (Below w.heap.size w w.drew) := Lib.hid (below_drewN w 1)
  have HNM := Lib.hid (fun W (hbw : Below w.heap.size w W) => name_calls n W ((HTAB.out.below h.bel).below hbw))
  have hu : beginB d n z 2 = step d (opS n) := if_pos rfl
  rw [hu]
  have HSYN := Lib.hid (fun W (hbw : Below w.heap.size w W) => Calls.after (sync_calls (nameB n) W (h.disk.below hbw) (hfew.sml (by omega) (by omega)) (by have := nameB_size n; omega) noS 0) (keeps_below hbw S))
  unfold opS
  obtain ⟨q, hq⟩ : ∃ q, step d ⟨4, nameB n, noS, 0, []⟩ = q := ⟨_, rfl⟩
  rw [hq] at HSYN ⊢
  clear hu hq h ht hg hb hfew hM hK
  go_enter Tryz.func58, Tryz.ntmps58
  go_wp2
  refine wp_region_held_drew (S := fun W => W.cell? ⟨b, 0, none⟩ = some (.pointer (some ⟨B, 0, none⟩)) ∧ W.cell? ⟨b, 1, none⟩ = some (.int .i64 n)) (by kernel_rfl) (HSC.out _ (keeps_below HB0.out _)) (fun hHeld => ?_)
  refine wpAnyH_take (i := 0) (v := ?_) rfl (by kernel_rfl) (by kernel_rfl) (by kernel_rfl) (fun _ _ _ h => h) (Or.inl ⟨by rfl, ?_⟩) (by assumption) ?_
  rotate_left
  · intro W hS
    try dsimp only at hS
    go_simp
    try with_reducible rfl
  simp only [List.getElem_toArray, List.getElem_cons_zero, Act.put, List.setIfInBounds_toArray, List.set_cons_zero, List.set_cons_succ]
  refine wpAnyH_take (i := 1) (v := ?_) rfl (by kernel_rfl) (by kernel_rfl) (by kernel_rfl) (fun _ _ _ h => h) (Or.inl ⟨by rfl, ?_⟩) (by assumption) ?_
  rotate_left
  · intro W hS
    try dsimp only at hS
    go_simp
    try with_reducible rfl
  simp only [List.getElem_toArray, List.getElem_cons_succ, List.getElem_cons_zero, Act.put, List.setIfInBounds_toArray, List.set_cons_zero, List.set_cons_succ]
  refine wpAnyH_take (i := 2) (v := ?_) rfl (by kernel_rfl) (by kernel_rfl) (by kernel_rfl) (fun _ _ _ h => h) (Or.inl ⟨by rfl, ?_⟩) (by assumption) ?_
  rotate_left
  · intro W hS
    try dsimp only at hS
    go_simp
    try with_reducible rfl
  simp only [List.getElem_toArray, List.getElem_cons_succ, List.getElem_cons_zero, Act.put, List.setIfInBounds_toArray, List.set_cons_zero, List.set_cons_succ]
  refine wpAnyH_take (i := 3) (v := ?_) rfl (by kernel_rfl) (by kernel_rfl) (by kernel_rfl) (fun _ _ _ h => h) (Or.inl ⟨by rfl, ?_⟩) (by assumption) ?_
  rotate_left
  · intro W hS
    try dsimp only at hS
    go_simp
    try with_reducible rfl
  simp only [List.getElem_toArray, List.getElem_cons_succ, List.getElem_cons_zero, Act.put, List.setIfInBounds_toArray, List.set_cons_zero, List.set_cons_succ]
  refine wpAnyH_take (i := 4) (v := ?_) rfl (by kernel_rfl) (by kernel_rfl) (by kernel_rfl) (fun _ _ _ h => h) (Or.inl ⟨by rfl, ?_⟩) (by assumption) ?_
  rotate_left
  · intro W hS
    try dsimp only at hS
    go_simp
    try with_reducible rfl
  simp only [List.getElem_toArray, List.getElem_cons_succ, List.getElem_cons_zero, Act.put, List.setIfInBounds_toArray, List.set_cons_zero, List.set_cons_succ]
  refine wpAnyH_take (i := 5) (v := ?_) rfl (by kernel_rfl) (by kernel_rfl) (by kernel_rfl) (fun _ _ _ h => h) (Or.inl ⟨by rfl, ?_⟩) (by assumption) ?_
  rotate_left
  · intro W hS
    try dsimp only at hS
    go_simp
    try with_reducible rfl
  simp only [List.getElem_toArray, List.getElem_cons_succ, List.getElem_cons_zero, Act.put, List.setIfInBounds_toArray, List.set_cons_zero, List.set_cons_succ]
  refine wpAnyH_take (i := 6) (v := ?_) rfl (by kernel_rfl) (by kernel_rfl) (by kernel_rfl) (fun _ _ _ h => h) (Or.inl ⟨by rfl, ?_⟩) (by assumption) ?_
  rotate_left
  · intro W hS
    try dsimp only at hS
    go_simp
    try with_reducible rfl
  simp only [List.getElem_toArray, List.getElem_cons_succ, List.getElem_cons_zero, Act.put, List.setIfInBounds_toArray, List.set_cons_zero, List.set_cons_succ]
  refine wpAnyH_take (i := 7) (v := ?_) rfl (by kernel_rfl) (by kernel_rfl) (by kernel_rfl) (fun _ _ _ h => h) (Or.inl ⟨by rfl, ?_⟩) (by assumption) ?_
  rotate_left
  · intro W hS
    try dsimp only at hS
    go_simp
    try with_reducible rfl
  simp only [List.getElem_toArray, List.getElem_cons_succ, List.getElem_cons_zero, Act.put, List.setIfInBounds_toArray, List.set_cons_zero, List.set_cons_succ]
  refine wpAnyH_ready (rs := [8]) (by kernel_rfl) (by simp) ?_
  refine AllReadyH.cons rfl (fun K hK => ?_) AllReadyH.nil
  go_simp
  with_reducible refine (HNM.out _ HB0.out).mono ?_
  rintro e w2 ⟨rfl, hb2⟩
  have HB2 : Hid (Below w.heap.size w w2) := Lib.hid (below_then HB0.out hb2)
  clear hb2
  refine hK.out _ _ (HSC.out _ (keeps_below HB2.out _)) (fun hHeld => ?_)
  clear hK K
  try simp only [List.getElem_toArray, List.getElem_cons_succ, List.getElem_cons_zero, Act.put, List.setIfInBounds_toArray, List.set_cons_zero, List.set_cons_succ]
  refine wpAnyH_ready (rs := [9]) (by kernel_rfl) (by simp) ?_
  refine AllReadyH.cons rfl (fun K hK => ?_) AllReadyH.nil
  go_simp
  with_reducible refine (HSYN.out _ HB2.out).mono ?_
  rintro e w5 ⟨rfl, ht3⟩
  have HT := Lib.hid ht3
  clear ht3
  refine hK.out _ _ (HSC.out _ (turns_keeps HT.out)) (fun hHeld => ?_)
  clear hK K
  try simp only [List.getElem_toArray, List.getElem_cons_succ, List.getElem_cons_zero, Act.put, List.setIfInBounds_toArray, List.set_cons_zero, List.set_cons_succ]
  refine wpAnyH_take (i := 10) (v := ?_) rfl (by kernel_rfl) (by kernel_rfl) (by kernel_rfl) (fun _ _ _ h => h) (Or.inl ⟨by rfl, ?_⟩) (by assumption) ?_
  rotate_left
  · intro W hS
    try dsimp only at hS
    go_simp
    try with_reducible rfl
  simp only [List.getElem_toArray, List.getElem_cons_succ, List.getElem_cons_zero, Act.put, List.setIfInBounds_toArray, List.set_cons_zero, List.set_cons_succ]
  refine wpAnyH_done (by kernel_rfl) ?_ _
  go_wp2
  go_ret
  exact ⟨rfl, HT.out⟩

set_option maxRecDepth 100000 in
set_option maxHeartbeats 8000000 in
theorem begin_bad {w0 w : World} {S : Nat → Prop} {b B : Nat} {n : Int} {d : Dsk} {z M K : Nat} (h : Live w0 w S B d) (_ht : Tab w0) (hg : SegAt w b B n ⟨z, false⟩) (_hb : ¬ S b) (_hfew : Few d M K) (_hM : M ≤ 1073741824) (_hK : K ≤ 1073741000) {s : Nat} (hs : s = 4 ∨ (s = 3 ∧ z = 0)) :
    Calls Tryz.prog 58 #[.pointer (some ⟨b, 0, none⟩), .int .i64 (s : Int), .bool true] w (Does w S B (.int .i64 (beginB d n z s).1) (beginB d n z s).2) := by
  have hu : beginB d n z s = (50, d) := by
    unfold beginB
    rw [if_neg (by omega), if_neg (by omega)]
  rw [hu]
  have c2 := hg.c2
  have HT : Hid (Turns w S B d w) := Lib.hid ⟨S, h.disk, fresh_refl _ _, Keeps.refl _ _⟩
  clear hu h _ht hg _hb _hfew _hM _hK
  dsimp only at c2
  rcases hs with rfl | ⟨rfl, rfl⟩
  · clear c2
    go_enter Tryz.func58, Tryz.ntmps58
    go_wp2
    go_ret
    exact ⟨rfl, HT.out⟩
  · go_enter Tryz.func58, Tryz.ntmps58
    go_wp2
    go_ret
    exact ⟨rfl, HT.out⟩

set_option maxRecDepth 100000 in
set_option maxHeartbeats 8000000 in
theorem begin_torn {w0 w : World} {S : Nat → Prop} {b B : Nat} {n : Int} {d : Dsk} {z M K : Nat} (h : Live w0 w S B d) (ht : Tab w0) (hg : SegAt w b B n ⟨z, false⟩) (hb : ¬ S b) (hfew : Few d M K) (hM : M ≤ 1073741824) (hK : K ≤ 1073741000) (hz : 0 < z) :
    Calls Tryz.prog 58 #[.pointer (some ⟨b, 0, none⟩), .int .i64 3, .bool true] w (Does w S B (.int .i64 (beginB d n z 3).1) (beginB d n z 3).2) := by
  have HTAB := Lib.hid ht
  have c2 := hg.c2
  have hzz : decide ((z : Int) > 0) = true := by simp; omega
  have hz0 : ¬ z = 0 := by omega
  have hu : beginB d n z 3 = if (step d (opK n z)).1 = 0 then step (step d (opK n z)).2 (opS n) else step d (opK n z) := by
    unfold beginB
    rw [if_neg (by decide), if_pos ⟨rfl, hz⟩]
  have HU := Lib.hid (undo_calls h ht (hfew.sml (by omega) (by omega)) hg hb)
  have hub : undoB d n (Sg.mk z false).size = step d (opK n z) := if_neg hz0
  rw [hub] at HU
  have HF1 := Lib.hid (hfew.step (opK n z) byts_nil (Nat.le_refl _))
  have HWT := Lib.hid (fun W d' (hT : Turns w S B d' W) => WSt.turned h (fresh_refl _ _) hb hg (Keeps.refl _ _) hT)
  have HTW := Lib.hid (fun W d' (hT : Turns w S B d' W) => h.turns hT)
  have HNB : Hid (¬ S b ∧ b < w.heap.size) := Lib.hid ⟨hb, lt_of_block hg⟩
  have HSG := Lib.hid (fun W (hk : Keeps S w W) => hg.keep hk hb)
  rw [hu]
  have hM2 : M + (opK n z).b.length ≤ 1073741824 := hM
  obtain ⟨q1, hq1⟩ : ∃ q, step d (opK n z) = q := ⟨_, rfl⟩
  rw [hq1] at HU HF1 ⊢
  dsimp only at c2
  clear hu hub hq1 h ht hg hb hfew hM hz0
  obtain ⟨e1, d1⟩ := q1
  dsimp only at HU HF1 ⊢
  by_cases he1 : e1 = 0
  · subst he1
    simp only [if_true]
    have HSY0 := Lib.hid (fun W {S1 : Nat → Prop} (hd : Disk W S1 B d1) => sync_calls (nameB n) W hd (HF1.out.sml hM2 (by omega)) (by have := nameB_size n; omega) noS 0)
    unfold opS
    obtain ⟨q, hq⟩ : ∃ q, step d1 ⟨4, nameB n, noS, 0, []⟩ = q := ⟨_, rfl⟩
    rw [hq] at HSY0 ⊢
    clear hq HF1 hM2 HWT
    go_enter Tryz.func58, Tryz.ntmps58
    go_wp2_with fail
    with_reducible refine HU.out.mono ?_
    rintro e w3 ⟨rfl, ht3⟩
    obtain ⟨S3, h3, hf3, hk3⟩ := HTW.out _ _ ht3
    have hb3 : ¬ S3 b := fun e => by rcases hf3 b e with h | h; exact HNB.out.1 h; have := HNB.out.2; omega
    have hg3 := HSG.out _ hk3
    have HSCb : Hid (∀ W, Keeps S3 w3 W → W.cell? ⟨b, 0, none⟩ = some (.pointer (some ⟨B, 0, none⟩)) ∧ W.cell? ⟨b, 1, none⟩ = some (.int .i64 n)) := Lib.hid (fun W hk => by
      have h1 := hg3.keep hk hb3
      exact ⟨h1.c0, h1.c1⟩)
    have HB0b : Hid (Below w3.heap.size w3 w3.drew) := Lib.hid (below_drewN w3 1)
    have HNMb := Lib.hid (fun W (hbw : Below w3.heap.size w3 W) => name_calls n W ((HTAB.out.below h3.bel).below hbw))
    have HSYN := Lib.hid (fun W (hbw : Below w3.heap.size w3 W) => Calls.after (HSY0.out W (h3.disk.below hbw)) (keeps_below hbw S3))
    have HFIN : Hid (∀ W d', Turns w3 S3 B d' W → Turns w S B d' W) := Lib.hid (fun W d' hT => by
      obtain ⟨S4, k1, k2, k3⟩ := hT
      exact ⟨S4, k1, fresh_trans hf3 k2 hk3.size, hk3.trans k3 hf3⟩)
    clear ht3 h3 hf3 hk3 hb3 hg3 HU HSY0 HTW HSG HNB
    go_wp2
    refine wp_region_held_drew (S := fun W => W.cell? ⟨b, 0, none⟩ = some (.pointer (some ⟨B, 0, none⟩)) ∧ W.cell? ⟨b, 1, none⟩ = some (.int .i64 n)) (by kernel_rfl) (HSCb.out _ (keeps_below HB0b.out _)) (fun hHeld => ?_)
    refine wpAnyH_take (i := 0) (v := ?_) rfl (by kernel_rfl) (by kernel_rfl) (by kernel_rfl) (fun _ _ _ h => h) (Or.inl ⟨by rfl, ?_⟩) (by assumption) ?_
    rotate_left
    · intro W hS
      try dsimp only at hS
      go_simp
      try with_reducible rfl
    simp only [List.getElem_toArray, List.getElem_cons_zero, Act.put, List.setIfInBounds_toArray, List.set_cons_zero, List.set_cons_succ]
    refine wpAnyH_take (i := 1) (v := ?_) rfl (by kernel_rfl) (by kernel_rfl) (by kernel_rfl) (fun _ _ _ h => h) (Or.inl ⟨by rfl, ?_⟩) (by assumption) ?_
    rotate_left
    · intro W hS
      try dsimp only at hS
      go_simp
      try with_reducible rfl
    simp only [List.getElem_toArray, List.getElem_cons_succ, List.getElem_cons_zero, Act.put, List.setIfInBounds_toArray, List.set_cons_zero, List.set_cons_succ]
    refine wpAnyH_take (i := 2) (v := ?_) rfl (by kernel_rfl) (by kernel_rfl) (by kernel_rfl) (fun _ _ _ h => h) (Or.inl ⟨by rfl, ?_⟩) (by assumption) ?_
    rotate_left
    · intro W hS
      try dsimp only at hS
      go_simp
      try with_reducible rfl
    simp only [List.getElem_toArray, List.getElem_cons_succ, List.getElem_cons_zero, Act.put, List.setIfInBounds_toArray, List.set_cons_zero, List.set_cons_succ]
    refine wpAnyH_take (i := 3) (v := ?_) rfl (by kernel_rfl) (by kernel_rfl) (by kernel_rfl) (fun _ _ _ h => h) (Or.inl ⟨by rfl, ?_⟩) (by assumption) ?_
    rotate_left
    · intro W hS
      try dsimp only at hS
      go_simp
      try with_reducible rfl
    simp only [List.getElem_toArray, List.getElem_cons_succ, List.getElem_cons_zero, Act.put, List.setIfInBounds_toArray, List.set_cons_zero, List.set_cons_succ]
    refine wpAnyH_take (i := 4) (v := ?_) rfl (by kernel_rfl) (by kernel_rfl) (by kernel_rfl) (fun _ _ _ h => h) (Or.inl ⟨by rfl, ?_⟩) (by assumption) ?_
    rotate_left
    · intro W hS
      try dsimp only at hS
      go_simp
      try with_reducible rfl
    simp only [List.getElem_toArray, List.getElem_cons_succ, List.getElem_cons_zero, Act.put, List.setIfInBounds_toArray, List.set_cons_zero, List.set_cons_succ]
    refine wpAnyH_take (i := 5) (v := ?_) rfl (by kernel_rfl) (by kernel_rfl) (by kernel_rfl) (fun _ _ _ h => h) (Or.inl ⟨by rfl, ?_⟩) (by assumption) ?_
    rotate_left
    · intro W hS
      try dsimp only at hS
      go_simp
      try with_reducible rfl
    simp only [List.getElem_toArray, List.getElem_cons_succ, List.getElem_cons_zero, Act.put, List.setIfInBounds_toArray, List.set_cons_zero, List.set_cons_succ]
    refine wpAnyH_take (i := 6) (v := ?_) rfl (by kernel_rfl) (by kernel_rfl) (by kernel_rfl) (fun _ _ _ h => h) (Or.inl ⟨by rfl, ?_⟩) (by assumption) ?_
    rotate_left
    · intro W hS
      try dsimp only at hS
      go_simp
      try with_reducible rfl
    simp only [List.getElem_toArray, List.getElem_cons_succ, List.getElem_cons_zero, Act.put, List.setIfInBounds_toArray, List.set_cons_zero, List.set_cons_succ]
    refine wpAnyH_take (i := 7) (v := ?_) rfl (by kernel_rfl) (by kernel_rfl) (by kernel_rfl) (fun _ _ _ h => h) (Or.inl ⟨by rfl, ?_⟩) (by assumption) ?_
    rotate_left
    · intro W hS
      try dsimp only at hS
      go_simp
      try with_reducible rfl
    simp only [List.getElem_toArray, List.getElem_cons_succ, List.getElem_cons_zero, Act.put, List.setIfInBounds_toArray, List.set_cons_zero, List.set_cons_succ]
    refine wpAnyH_ready (rs := [8]) (by kernel_rfl) (by simp) ?_
    refine AllReadyH.cons rfl (fun K hK => ?_) AllReadyH.nil
    go_simp
    with_reducible refine (HNMb.out _ HB0b.out).mono ?_
    rintro e wb2 ⟨rfl, hb2⟩
    have HB2b : Hid (Below w3.heap.size w3 wb2) := Lib.hid (below_then HB0b.out hb2)
    clear hb2
    refine hK.out _ _ (HSCb.out _ (keeps_below HB2b.out _)) (fun hHeld => ?_)
    clear hK K
    try simp only [List.getElem_toArray, List.getElem_cons_succ, List.getElem_cons_zero, Act.put, List.setIfInBounds_toArray, List.set_cons_zero, List.set_cons_succ]
    refine wpAnyH_ready (rs := [9]) (by kernel_rfl) (by simp) ?_
    refine AllReadyH.cons rfl (fun K hK => ?_) AllReadyH.nil
    go_simp
    with_reducible refine (HSYN.out _ HB2b.out).mono ?_
    rintro e wb5 ⟨rfl, ht3⟩
    have HTb := Lib.hid ht3
    clear ht3
    refine hK.out _ _ (HSCb.out _ (turns_keeps HTb.out)) (fun hHeld => ?_)
    clear hK K
    try simp only [List.getElem_toArray, List.getElem_cons_succ, List.getElem_cons_zero, Act.put, List.setIfInBounds_toArray, List.set_cons_zero, List.set_cons_succ]
    refine wpAnyH_take (i := 10) (v := ?_) rfl (by kernel_rfl) (by kernel_rfl) (by kernel_rfl) (fun _ _ _ h => h) (Or.inl ⟨by rfl, ?_⟩) (by assumption) ?_
    rotate_left
    · intro W hS
      try dsimp only at hS
      go_simp
      try with_reducible rfl
    simp only [List.getElem_toArray, List.getElem_cons_succ, List.getElem_cons_zero, Act.put, List.setIfInBounds_toArray, List.set_cons_zero, List.set_cons_succ]
    refine wpAnyH_done (by kernel_rfl) ?_ _
    go_wp2
    go_ret
    exact ⟨rfl, HFIN.out _ _ HTb.out⟩
  · simp only [if_neg he1]
    have hne1 : (e1 == 0) = false := by simpa using he1
    have hnq1 : (e1 != 0) = true := by simpa using he1
    clear HF1 hM2 HWT HTW HSG HNB he1
    go_enter Tryz.func58, Tryz.ntmps58
    go_wp2_with fail
    with_reducible refine HU.out.mono ?_
    rintro e w3 ⟨rfl, ht3⟩
    have HT := Lib.hid ht3
    clear ht3 HU
    go_wp2
    go_ret
    exact ⟨rfl, HT.out⟩

theorem begin_calls {w0 w : World} {S : Nat → Prop} {b B : Nat} {n : Int} {d : Dsk} {z M K : Nat} (h : Live w0 w S B d) (ht : Tab w0) (hg : SegAt w b B n ⟨z, false⟩) (hb : ¬ S b) (hfew : Few d M K) (hM : M ≤ 1073741824) (hK : K ≤ 1073741000) {s : Nat} (hs : s = 2 ∨ s = 3 ∨ s = 4) :
    Calls Tryz.prog 58 #[.pointer (some ⟨b, 0, none⟩), .int .i64 (s : Int), .bool true] w (Does w S B (.int .i64 (beginB d n z s).1) (beginB d n z s).2) := by
  rcases hs with rfl | rfl | rfl
  · exact begin_end h ht hg hb hfew hM hK
  · rcases Nat.eq_zero_or_pos z with h0 | h0
    · exact begin_bad h ht hg hb hfew hM hK (.inr ⟨rfl, h0⟩)
    · exact begin_torn h ht hg hb hfew hM hK h0
  · exact begin_bad h ht hg hb hfew hM hK (.inl rfl)

end Go.Proofs.YtjhiekijbcjohaaGreatDoor
