/-
  The closures of Write and Clean: each does its operation of the disk. Conditions: their variables hold what they are said to; the disk lies in blocks of the law's own; the library's table of powers of ten is laid.
-/
import Derived.Test.YtacfcfbleogioaaGreatDoorMDo
import Derived.Test.YtacfcfbleogioaaGreatDoorMName
import Derived.Deep.RegionHeld
namespace Go.Proofs.YtacfcfbleogioaaGreatDoor
open Go.RowKit Go.Lib Go.Joins

theorem row_same {O Sl : Nat → Prop} {wb W : World} {a : Option Addr} {l : List Nat} (h : SameOn O wb W) (hr : Row wb Sl a l) (hS : ∀ k, Sl k → O k) : Row W O a l := by
  refine ⟨hr.1, ?_⟩
  rcases hr.2 with h0 | ⟨b, o, ha, hs, hc⟩
  · exact .inl h0
  · exact .inr ⟨b, o, ha, hS b hs, fun i c hi => h.cell (hS b hs) (hc i c hi)⟩

set_option maxRecDepth 100000 in
set_option maxHeartbeats 2000000 in
theorem cl_del {w0 wb : World} {O : Nat → Prop} {B : Nat} {bd : Nat} (hbd : O bd) (cbd : wb.cell? ⟨bd, 0, none⟩ = some (.pointer (some ⟨B, 0, none⟩))) : OpAt w0 O B wb (.func (.func 54) #[] #[.pointer (some ⟨bd, 0, none⟩)]) (⟨6, tmpB, noS, 0, []⟩) := by
  refine ⟨_, _, rfl, enters_of Tryz.func54 (by kernel_rfl) rfl, fun W S d hl ho hsm hs => ?_⟩
  have kbd := hsm.cell hbd cbd
  have HD : Hid (Calls Tryz.prog 55 #[.pointer (some ⟨B, 0, none⟩), .string ⟨#[109, 97, 110, 46, 116, 109, 112]⟩] W (Does W S B (.int .i64 (step d (⟨6, tmpB, noS, 0, []⟩)).1) (step d (⟨6, tmpB, noS, 0, []⟩)).2)) := Lib.hid (delete_calls tmpB W hl.disk hs (by decide) noS 0)
  obtain ⟨q, hq⟩ : ∃ q, step d (⟨6, tmpB, noS, 0, []⟩) = q := ⟨_, rfl⟩
  rw [hq] at HD ⊢
  clear hl ho hsm hs hq cbd
  go_enter Tryz.func54, Tryz.ntmps54
  go_wp2_with fail
  with_reducible refine HD.out.mono ?_
  rintro e w2 ⟨rfl, ht⟩
  have HT := Lib.hid ht
  clear ht
  go_wp2
  go_ret
  exact ⟨rfl, HT.out⟩

set_option maxRecDepth 100000 in
set_option maxHeartbeats 2000000 in
theorem cl_create {w0 wb : World} {O : Nat → Prop} {B : Nat} {bd : Nat} (hbd : O bd) (cbd : wb.cell? ⟨bd, 0, none⟩ = some (.pointer (some ⟨B, 0, none⟩))) : OpAt w0 O B wb (.func (.func 56) #[] #[.pointer (some ⟨bd, 0, none⟩)]) (⟨1, tmpB, noS, 0, []⟩) := by
  refine ⟨_, _, rfl, enters_of Tryz.func56 (by kernel_rfl) rfl, fun W S d hl ho hsm hs => ?_⟩
  have kbd := hsm.cell hbd cbd
  have HD : Hid (Calls Tryz.prog 57 #[.pointer (some ⟨B, 0, none⟩), .string ⟨#[109, 97, 110, 46, 116, 109, 112]⟩] W (Does W S B (.int .i64 (step d (⟨1, tmpB, noS, 0, []⟩)).1) (step d (⟨1, tmpB, noS, 0, []⟩)).2)) := Lib.hid (create_calls tmpB W hl.disk hs (by decide) noS 0)
  obtain ⟨q, hq⟩ : ∃ q, step d (⟨1, tmpB, noS, 0, []⟩) = q := ⟨_, rfl⟩
  rw [hq] at HD ⊢
  clear hl ho hsm hs hq cbd
  go_enter Tryz.func56, Tryz.ntmps56
  go_wp2_with fail
  with_reducible refine HD.out.mono ?_
  rintro e w2 ⟨rfl, ht⟩
  have HT := Lib.hid ht
  clear ht
  go_wp2
  go_ret
  exact ⟨rfl, HT.out⟩

set_option maxRecDepth 100000 in
set_option maxHeartbeats 2000000 in
theorem cl_sync {w0 wb : World} {O : Nat → Prop} {B : Nat} {bd : Nat} (hbd : O bd) (cbd : wb.cell? ⟨bd, 0, none⟩ = some (.pointer (some ⟨B, 0, none⟩))) : OpAt w0 O B wb (.func (.func 60) #[] #[.pointer (some ⟨bd, 0, none⟩)]) (⟨4, tmpB, noS, 0, []⟩) := by
  refine ⟨_, _, rfl, enters_of Tryz.func60 (by kernel_rfl) rfl, fun W S d hl ho hsm hs => ?_⟩
  have kbd := hsm.cell hbd cbd
  have HD : Hid (Calls Tryz.prog 61 #[.pointer (some ⟨B, 0, none⟩), .string ⟨#[109, 97, 110, 46, 116, 109, 112]⟩] W (Does W S B (.int .i64 (step d (⟨4, tmpB, noS, 0, []⟩)).1) (step d (⟨4, tmpB, noS, 0, []⟩)).2)) := Lib.hid (sync_calls tmpB W hl.disk hs (by decide) noS 0)
  obtain ⟨q, hq⟩ : ∃ q, step d (⟨4, tmpB, noS, 0, []⟩) = q := ⟨_, rfl⟩
  rw [hq] at HD ⊢
  clear hl ho hsm hs hq cbd
  go_enter Tryz.func60, Tryz.ntmps60
  go_wp2_with fail
  with_reducible refine HD.out.mono ?_
  rintro e w2 ⟨rfl, ht⟩
  have HT := Lib.hid ht
  clear ht
  go_wp2
  go_ret
  exact ⟨rfl, HT.out⟩

set_option maxRecDepth 100000 in
set_option maxHeartbeats 2000000 in
theorem cl_append {w0 wb : World} {O : Nat → Prop} {B : Nat} {bd bb n c : Nat} {a : Option Addr} {l : List Nat} {Sl : Nat → Prop} (hrow : Row wb Sl a l) (hSl : ∀ k, Sl k → O k) (hn : l.length = n) (h0 : a = none → c = 0) (h1 : n ≤ c) (h2 : c ≤ maxLen) (hm : n ≤ 1073741824) (hbb : O bb) (hbd : O bd) (cbd : wb.cell? ⟨bd, 0, none⟩ = some (.pointer (some ⟨B, 0, none⟩))) (cbb : wb.cell? ⟨bb, 0, none⟩ = some (.slice a n c)) : OpAt w0 O B wb (.func (.func 58) #[] #[.pointer (some ⟨bd, 0, none⟩), .pointer (some ⟨bb, 0, none⟩)]) (⟨2, tmpB, noS, 0, l⟩) := by
  refine ⟨_, _, rfl, enters_of Tryz.func58 (by kernel_rfl) rfl, fun W S d hl ho hsm hs => ?_⟩
  have kbd := hsm.cell hbd cbd
  have kbb := hsm.cell hbb cbb
  have hrowW := row_same hsm hrow hSl
  have HD : Hid (Calls Tryz.prog 59 #[.pointer (some ⟨B, 0, none⟩), .string ⟨#[109, 97, 110, 46, 116, 109, 112]⟩, .slice a n c] W (Does W S B (.int .i64 (step d (⟨2, tmpB, noS, 0, l⟩)).1) (step d (⟨2, tmpB, noS, 0, l⟩)).2)) := Lib.hid (by subst hn; exact append_calls tmpB a l c W hl.disk hs (by decide) hrowW ho h0 h1 h2 hm noS 0)
  obtain ⟨q, hq⟩ : ∃ q, step d (⟨2, tmpB, noS, 0, l⟩) = q := ⟨_, rfl⟩
  rw [hq] at HD ⊢
  clear hl ho hsm hs hq cbd cbb
  go_enter Tryz.func58, Tryz.ntmps58
  go_wp2_with fail
  with_reducible refine HD.out.mono ?_
  rintro e w2 ⟨rfl, ht⟩
  have HT := Lib.hid ht
  clear ht
  go_wp2
  go_ret
  exact ⟨rfl, HT.out⟩

set_option maxRecDepth 100000 in
set_option maxHeartbeats 2000000 in
theorem cl_clean {w0 wb : World} {O : Nat → Prop} {B : Nat} {bd bn : Nat} {s : ByteArray} (hz : s.size ≤ 1099511627776) (hbd : O bd) (hbn : O bn) (cbd : wb.cell? ⟨bd, 0, none⟩ = some (.pointer (some ⟨B, 0, none⟩))) (cbn : wb.cell? ⟨bn, 0, none⟩ = some (.string s)) : OpAt w0 O B wb (.func (.func 70) #[] #[.pointer (some ⟨bd, 0, none⟩), .pointer (some ⟨bn, 0, none⟩)]) (⟨6, s, noS, 0, []⟩) := by
  refine ⟨_, _, rfl, enters_of Tryz.func70 (by kernel_rfl) rfl, fun W S d hl ho hsm hs => ?_⟩
  have kbd := hsm.cell hbd cbd
  have kbn := hsm.cell hbn cbn
  have HD : Hid (Calls Tryz.prog 55 #[.pointer (some ⟨B, 0, none⟩), .string s] W (Does W S B (.int .i64 (step d (⟨6, s, noS, 0, []⟩)).1) (step d (⟨6, s, noS, 0, []⟩)).2)) := Lib.hid (delete_calls s W hl.disk hs hz noS 0)
  obtain ⟨q, hq⟩ : ∃ q, step d (⟨6, s, noS, 0, []⟩) = q := ⟨_, rfl⟩
  rw [hq] at HD ⊢
  clear hl ho hsm hs hq cbd cbn
  go_enter Tryz.func70, Tryz.ntmps70
  go_wp2_with fail
  with_reducible refine HD.out.mono ?_
  rintro e w2 ⟨rfl, ht⟩
  have HT := Lib.hid ht
  clear ht
  go_wp2
  go_ret
  exact ⟨rfl, HT.out⟩

theorem turns_keeps {w w' : World} {S : Nat → Prop} {B : Nat} {d' : Dsk} (h : Turns w S B d' w') : Keeps S w w' := by
  obtain ⟨_, _, _, h⟩ := h
  exact h
set_option maxRecDepth 100000 in
set_option maxHeartbeats 4000000 in
theorem cl_rename {w0 wb : World} {O : Nat → Prop} {B bd bm : Nat} {g : Int} (ht : Tab w0) (hbd : O bd) (hbm : O bm) (cbd : wb.cell? ⟨bd, 0, none⟩ = some (.pointer (some ⟨B, 0, none⟩))) (cbm : wb.cell? ⟨bm, 0, none⟩ = some (.int .i64 g)) : OpAt w0 O B wb (.func (.func 62) #[] #[.pointer (some ⟨bd, 0, none⟩), .pointer (some ⟨bm, 0, none⟩)]) (⟨5, tmpB, mnameB g, 0, []⟩) := by
  refine ⟨_, _, rfl, enters_of Tryz.func62 (by kernel_rfl) rfl, fun W S d hl ho hsm hs => ?_⟩
  have kbd := hsm.cell hbd cbd
  have kbm := hsm.cell hbm cbm
  have HSC : Hid (∀ X, Keeps S W X → X.cell? ⟨bd, 0, none⟩ = some (.pointer (some ⟨B, 0, none⟩)) ∧ X.cell? ⟨bm, 0, none⟩ = some (.int .i64 g)) := Lib.hid (fun X hk =>
    ⟨(World.cell?_of_block (a := ⟨bd, 0, none⟩) (hk.block bd (ho bd hbd).1 (ho bd hbd).2)).trans kbd, (World.cell?_of_block (a := ⟨bm, 0, none⟩) (hk.block bm (ho bm hbm).1 (ho bm hbm).2)).trans kbm⟩)
  have HB0 : Hid (Below W.heap.size W W.drew) := Lib.hid (below_drewN W 1)
  have HNM := Lib.hid (fun X (hbx : Below W.heap.size W X) => mname_calls g X ((ht.below hl.bel).below hbx))
  have HREN : Hid (∀ X, Below W.heap.size W X → Calls Tryz.prog 63 #[.pointer (some ⟨B, 0, none⟩), .string ⟨#[109, 97, 110, 46, 116, 109, 112]⟩, .string (mnameB g)] X (Does W S B (.int .i64 (step d (⟨5, tmpB, mnameB g, 0, []⟩)).1) (step d (⟨5, tmpB, mnameB g, 0, []⟩)).2)) := Lib.hid (fun X hbx =>
    Calls.after (rename_calls tmpB (mnameB g) X (hl.disk.below hbx) hs (by decide) (by have := mnameB_size g; omega) 0) (keeps_below hbx S))
  obtain ⟨q, hq⟩ : ∃ q, step d (⟨5, tmpB, mnameB g, 0, []⟩) = q := ⟨_, rfl⟩
  rw [hq] at HREN ⊢
  clear hl ho hsm hs hq cbd cbm hbd hbm kbd kbm ht
  go_enter Tryz.func62, Tryz.ntmps62
  go_wp2
  refine wp_region_held_drew (S := fun W => W.cell? ⟨bd, 0, none⟩ = some (.pointer (some ⟨B, 0, none⟩)) ∧ W.cell? ⟨bm, 0, none⟩ = some (.int .i64 g)) (by kernel_rfl) (HSC.out _ (keeps_below HB0.out S)) (fun hHeld => ?_)
  refine wpAnyH_take (i := 0) (v := ?_) rfl (by kernel_rfl) (by kernel_rfl) (by kernel_rfl) (fun _ _ _ h => h) (Or.inl ⟨by rfl, ?_⟩) (by assumption) ?_
  rotate_left
  · intro W hS
    try dsimp only at hS
    go_simp
    try with_reducible rfl
  simp only [List.getElem_toArray, List.getElem_cons_zero, Act.put, List.setIfInBounds_toArray, List.set_cons_zero, List.set_cons_succ]
  refine wpAnyH_take (i := 1) (v := ?_) rfl (by kernel_rfl) (by kernel_rfl) (by kernel_rfl) (fun _ _ _ h => h) (Or.inl ⟨by rfl, ?_⟩) (by assumption) ?_
  rotate_left
  · intro W hS
    try dsimp only at hS
    go_simp
    try with_reducible rfl
  simp only [List.getElem_toArray, List.getElem_cons_succ, List.getElem_cons_zero, Act.put, List.setIfInBounds_toArray, List.set_cons_zero, List.set_cons_succ]
  refine wpAnyH_take (i := 2) (v := ?_) rfl (by kernel_rfl) (by kernel_rfl) (by kernel_rfl) (fun _ _ _ h => h) (Or.inl ⟨by rfl, ?_⟩) (by assumption) ?_
  rotate_left
  · intro W hS
    try dsimp only at hS
    go_simp
    try with_reducible rfl
  simp only [List.getElem_toArray, List.getElem_cons_succ, List.getElem_cons_zero, Act.put, List.setIfInBounds_toArray, List.set_cons_zero, List.set_cons_succ]
  refine wpAnyH_ready (rs := [3]) (by kernel_rfl) (by simp) ?_
  refine AllReadyH.cons rfl (fun K hK => ?_) AllReadyH.nil
  go_simp
  with_reducible refine (HNM.out _ HB0.out).mono ?_
  rintro e w2 ⟨rfl, hb2⟩
  have HB2 : Hid (Below W.heap.size W w2) := Lib.hid (below_then HB0.out hb2)
  clear hb2
  refine hK.out _ _ (HSC.out _ (keeps_below HB2.out S)) (fun hHeld => ?_)
  clear hK K
  try simp only [List.getElem_toArray, List.getElem_cons_succ, List.getElem_cons_zero, Act.put, List.setIfInBounds_toArray, List.set_cons_zero, List.set_cons_succ]
  refine wpAnyH_ready (rs := [4]) (by kernel_rfl) (by simp) ?_
  refine AllReadyH.cons rfl (fun K hK => ?_) AllReadyH.nil
  go_simp
  with_reducible refine (HREN.out _ HB2.out).mono ?_
  rintro e w3 ⟨rfl, ht3⟩
  have HT := Lib.hid ht3
  clear ht3
  refine hK.out _ _ (HSC.out _ (turns_keeps HT.out)) (fun hHeld => ?_)
  clear hK K
  try simp only [List.getElem_toArray, List.getElem_cons_succ, List.getElem_cons_zero, Act.put, List.setIfInBounds_toArray, List.set_cons_zero, List.set_cons_succ]
  refine wpAnyH_take (i := 5) (v := ?_) rfl (by kernel_rfl) (by kernel_rfl) (by kernel_rfl) (fun _ _ _ h => h) (Or.inl ⟨by rfl, ?_⟩) (by assumption) ?_
  rotate_left
  · intro W hS
    try dsimp only at hS
    go_simp
    try with_reducible rfl
  simp only [List.getElem_toArray, List.getElem_cons_succ, List.getElem_cons_zero, Act.put, List.setIfInBounds_toArray, List.set_cons_zero, List.set_cons_succ]
  refine wpAnyH_done (by kernel_rfl) ?_ _
  go_wp2
  go_ret
  exact ⟨rfl, HT.out⟩

end Go.Proofs.YtacfcfbleogioaaGreatDoor
