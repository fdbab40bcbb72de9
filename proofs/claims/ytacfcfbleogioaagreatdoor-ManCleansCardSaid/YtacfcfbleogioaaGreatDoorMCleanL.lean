/-
  The walk of the law ManCleans at every files and manifest. Conditions: the slices lead to what they are said to, no longer than 2 to the 47; the library's table of powers of ten and its two errors are laid; errors.errorType holds its handle.
-/
import Derived.Test.YtacfcfbleogioaaGreatDoorMClean
import Derived.Test.YtacfcfbleogioaaGreatDoorMGreat
namespace Go.Proofs.YtacfcfbleogioaaGreatDoor
open Go.RowKit Go.Lib Go.Joins

theorem loadS_calm : ∀ {L : List FilI} {d d' : Dsk}, loadS L d = some d' → d'.tr = d.tr ∧ d'.down = d.down ∧ d'.ops = d.ops ∧ d'.room = d.room
  | [], d, d', h => by
    obtain rfl : d = d' := by simpa [loadS] using h
    exact ⟨rfl, rfl, rfl, rfl⟩
  | f :: L, d, d', h => by
    unfold loadS at h
    split at h
    · obtain ⟨h1, h2, h3, h4⟩ := loadS_calm h
      exact ⟨h1, h2, h3, h4⟩
    · cases h
/-- The files that are wanted. -/
def wantF (OS : List ByteArray) (L : List FilI) : List FilI := L.filter (fun f => !among OS f.name)
theorem want_is {d : Dsk} {m : Mfs} : wantF (orphM d m) (d.L.map toI) = (d.L.filter (fun f => needM m f.name)).map toI := by
  unfold wantF
  rw [List.filter_map]
  congr 1
  refine List.filter_congr (fun x hx => ?_)
  show (!among (orphM d m) x.name) = _
  have hmem : among (orphM d m) x.name = !needM m x.name := by
    rw [Bool.eq_iff_iff, among_is]
    unfold orphM
    rw [List.mem_filter]
    constructor
    · exact fun h => h.2
    · exact fun h => ⟨List.mem_map_of_mem hx, h⟩
  rw [hmem, Bool.not_not]

/-- What the law has gathered. -/
structure WantSt (w0 wr : World) (Sb : Nat → Prop) (v : Value) (M : List FilI) (cells : List Value) : Prop where
  own : wr.ownsRow 0 63 3 v M.length cells
  fc : FCells wr Sb cells M
  new : ∀ k, v.ownBlock = some k → w0.heap.size ≤ k
  bel : Below w0.heap.size w0 wr
theorem among_dropC {l : List ByteArray} {i : Nat} {x : ByteArray} (n : ByteArray) (hx : l[i]? = some x) : among (l.drop i) n = (decide (x = n) || among (l.drop (i + 1)) n) := by
  obtain ⟨h1, rfl⟩ := List.getElem?_eq_some_iff.1 hx
  rw [List.drop_eq_getElem_cons h1, among_cons]
theorem want_take {OS : List ByteArray} {LB : List FilI} {i : Nat} {f : FilI} (hf : LB[i]? = some f) : wantF OS (LB.take (i + 1)) = wantF OS (LB.take i) ++ (if among OS f.name then [] else [f]) := by
  unfold wantF
  rw [List.take_add_one, hf, List.filter_append]
  cases h : among OS f.name <;> simp [h]
theorem WantSt.below {w0 wr w' : World} {Sb : Nat → Prop} {v : Value} {M : List FilI} {cells : List Value} (h : WantSt w0 wr Sb v M cells) (hb : Below wr.heap.size wr w') : WantSt w0 w' Sb v M cells :=
  ⟨ownsRow_keep h.own (keeps_below hb Non) (fun _ _ h => h), h.fc.keep (keeps_below hb Non) (fun _ _ h => h), h.new, below_then h.bel hb⟩
theorem WantSt.more {w0 wr : World} {Sb : Nat → Prop} {v : Value} {M : List FilI} {cells : List Value} (h : WantSt w0 wr Sb v M cells) (hSb : ∀ k, Sb k → k < w0.heap.size) (hM : M.length ≤ 1000) (f : FilI) {a : Option Addr} {n c : Nat} (hb : Byt wr Sb (.slice a n c) f.data) :
    ∃ v' w', (∀ ty, (Builtin.append_ #[22, 22] ty #[v, .slice (some ⟨wr.heap.size, 0, none⟩) 1 1]).run Tryz.prog (wr.alloc (.cells #[.string f.name, .slice a n c, .int .i64 f.safe] 63)) = .ok v' w') ∧ ∃ cells', WantSt w0 w' Sb v' (M ++ [f]) cells' := by
  obtain ⟨v', w', h1, h2, h3, h4⟩ := append_file h.own hM f.name a n c f.safe
  have hk : Keeps (fun k => v.ownBlock = some k) wr w' := ((Keeps.refl _ wr).alloc _).grown h3 (fun k e => .inl e)
  have hdis : ∀ k, Sb k → ¬ v.ownBlock = some k := fun k hs e => by have := hSb k hs; have := h.new k e; omega
  refine ⟨v', w', h1, _, by rw [List.length_append]; exact h2, (h.fc.keep hk hdis).app (FCells.one (hb.keep hk hdis)), fun k e => ?_, h.bel.trans (hk.toBelow h.bel.size (fun k e => h.new k e))⟩
  rcases h4 k e with h5 | h5
  · exact h.new k h5
  · have := h.bel.size; omega

set_option maxRecDepth 100000 in
set_option maxHeartbeats 16000000 in
theorem law_cleans (fa : Option Addr) (L : List FilI) (nf cf : Nat) (g l : Int) (a : Option Addr) (segs : List Int) (n c : Nat) (w : World) (ht : Tab w) (he : Errs w) (hgd : Handle w) (hf : Fils w (Was0 w) fa L) (hnf : L.length = nf) (hbf : nf ≤ 140737488355328) (hdf : ∀ f ∈ L, f.data.length ≤ 140737488355328)
    (hr : IRow w (Was0 w) a segs) (hn : segs.length = n) (hm : n ≤ 140737488355328) :
    Calls Tryz.prog 5 #[.slice fa nf cf, .agg #[.int .i64 g, .int .i64 l, .slice a n c]] w (Leaves (.bool true) w) := by
  obtain ⟨W1, hW1⟩ : ∃ W, w.alloc (.cells #[.int .i64 g, .int .i64 l, .slice a n c] 25) = W := ⟨_, rfl⟩
  have hb1 : Below w.heap.size w W1 := by rw [← hW1]; exact (Below.refl _ _).alloc (Nat.le_refl _) _
  have hk1 : W1.heap[w.heap.size]? = some (.cells #[.int .i64 g, .int .i64 l, .slice a n c] 25 (0, 0)) := by rw [← hW1]; exact heap_alloc_new _ _
  have HW1 := Lib.hid hW1
  have HB1 := Lib.hid hb1
  have HTAB := Lib.hid (ht.below hb1)
  have HER := Lib.hid (he.below hb1)
  have HGD := Lib.hid (hgd.below hb1)
  have HR := Lib.hid (hr.below hb1)
  have HFL := Lib.hid (hf.keep (keeps_below hb1 Non) (fun _ _ h => h))
  have HN := Lib.hid hn
  have HNF := Lib.hid hnf
  have HDF := Lib.hid hdf
  have HC : Hid (∀ W, Below W1.heap.size W1 W → W.cell? ⟨w.heap.size, 0, none⟩ = some (.int .i64 g) ∧ W.cell? ⟨w.heap.size, 1, none⟩ = some (.int .i64 l) ∧ W.cell? ⟨w.heap.size, 2, none⟩ = some (.slice a n c)) := Lib.hid (fun W hb => by
    have h := block_below hb hk1
    exact ⟨(cell_of_block h 0).trans rfl, (cell_of_block h 1).trans rfl, (cell_of_block h 2).trans rfl⟩)
  clear hW1 hb1 hk1 ht he hgd hf hr hn hnf hdf
  go_enter Tryz.func5, Tryz.ntmps5
  go_wp2_with fail
  rw [HW1.out]
  with_reducible refine (awake8_calls W1 HTAB.out).mono ?_
  rintro e w2 ⟨rfl, hb2⟩
  have HB2 := Lib.hid hb2
  have HSM := Lib.hid (small_calls fa L cf nf w2 (HFL.out.keep (keeps_below hb2 Non) (fun _ _ h => h)) HNF.out (by omega) (fun f hf => Nat.le_trans (HDF.out f hf) (by decide)))
  obtain ⟨q, hq⟩ : ∃ q, smallF L 0 0 = q := ⟨_, rfl⟩
  rw [hq] at HSM
  have HQ := Lib.hid hq
  clear hb2 hq
  go_wp2_with fail
  with_reducible refine HSM.out.mono ?_
  rintro e w3 ⟨rfl, k3, hk3⟩
  have hb23 : Below w2.heap.size w2 w3 := by rw [hk3]; exact below_drewN _ _
  have HB3 := Lib.hid (below_then HB2.out hb23)
  have HB03 := Lib.hid (below_then HB1.out HB3.out)
  clear hk3 hb23 HSM HB2
  obtain ⟨c0, c1, c2⟩ := HC.out _ HB3.out
  cases q with
  | false =>
    go_wp2
    go_ret
    exact ⟨rfl, HB03.out⟩
  | true =>
  have HMY := Lib.hid (rmay8_calls g l a segs n c w3 (HR.out.below HB3.out) HN.out hm)
  obtain ⟨b, hb⟩ : ∃ b, mayM ⟨g, l, segs⟩ = b := ⟨_, rfl⟩
  rw [hb] at HMY
  have HMB := Lib.hid hb
  clear hb
  go_wp2_with fail
  with_reducible refine HMY.out.mono ?_
  rintro e w4 ⟨rfl, hb4⟩
  have HB4 := Lib.hid (below_then HB3.out hb4)
  have HB04 := Lib.hid (below_then HB1.out HB4.out)
  clear hb4 HMY c0 c1 c2 HB03 HB3
  cases b with
  | false =>
    go_wp2
    go_ret
    exact ⟨rfl, HB04.out⟩
  | true =>
  obtain ⟨hs1, hs2, hs3⟩ := smallF_total L 0 0 HQ.out
  have hnf100 : nf ≤ 100 := by
    rcases hs3 with h | h
    · rw [HNF.out] at h; omega
    · rw [h] at HNF; have := HNF.out; simp at this; omega
  have HLD := Lib.hid (load_calls fa L cf nf 32768 w4 (HFL.out.keep (keeps_below HB4.out Non) (fun _ _ h => h)) HNF.out (by omega) (fun f hf => Nat.le_trans (hs2 f hf) (by decide)) (by omega) (by decide))
  obtain ⟨qd, hqd⟩ : ∃ q, loadS L (dsk0 32768) = q := ⟨_, rfl⟩
  rw [hqd] at HLD
  have HQD := Lib.hid hqd
  clear hs1 hs2 hs3 hqd
  go_wp2_with fail
  with_reducible refine HLD.out.mono ?_
  rintro e w5 hld
  cases qd with
  | none =>
    obtain ⟨rfl, hb5⟩ := hld
    have HB5 := Lib.hid (below_then HB04.out hb5)
    clear hb5
    go_wp2
    go_ret
    exact ⟨rfl, HB5.out⟩
  | some d =>
  obtain ⟨B, S5, rfl, hd5, hf5, hb5⟩ := hld
  obtain ⟨htr, hdn, hop, hrm⟩ := loadS_calm HQD.out
  have HL5 : Hid (Live W1 w5 S5 B d) := Lib.hid (Live.born HB4.out hd5 hf5 hb5)
  have HFEW : Hid (Few d 32768 0) := Lib.hid ⟨hd5.1, by have h1 := hd5.1.fit; rw [hrm] at h1; have h2 : (dsk0 32768).room = 32768 := rfl; omega, by rw [hop]; exact Int.le_refl _, by rw [hop]; exact Int.le_refl _⟩
  have HFI := Lib.hid (files_calls w5 HL5.out.disk (Nat.le_trans HFEW.out.used (by decide)))
  have HCM := Lib.hid (clean_calm (m := ⟨g, l, segs⟩) hdn htr hd5.1.srt)
  have HL5B : Hid (∀ k, S5 k → k < w5.heap.size) := Lib.hid hd5.2.1
  have HMO : Hid ((d.L.map toI).length ≤ 64) := Lib.hid (by rw [List.length_map]; exact hd5.1.most)
  clear hd5 hf5 hb5 htr hdn hop hrm HLD HQD HB4 HB04
  unfold FilesOut at HFI
  go_wp2_with fail
  with_reducible refine HFI.out.mono ?_
  rintro e w6 ⟨a6, c6, S6, rfl, hf6, h06, hl6, hm6, hS6, hb6⟩
  have HL6 := Lib.hid (HL5.out.quiet hb6)
  have HSZ56 : Hid (w5.heap.size ≤ w6.heap.size) := Lib.hid hb6.size
  have HF6 := Lib.hid hf6
  have HS6 := Lib.hid hS6
  have hn64 : n ≤ 64 := by have h1 := (mayM_is.1 HMB.out).len1; have h2 : segs.length = n := HN.out; dsimp only at h1; omega
  obtain ⟨c0, c1, c2⟩ := HC.out _ HL6.out.bel
  have HO1 := Lib.hid (orphans_calls g l a segs n c w6 HL6.out.disk (HR.out.below HL6.out.bel) HN.out (by omega) (HTAB.out.below HL6.out.bel) (HER.out.below HL6.out.bel))
  unfold OrphOut at HO1
  clear hf6 h06 hl6 hm6 hS6 hb6 HFI HL5
  go_wp2_with fail
  with_reducible refine HO1.out.mono ?_
  rintro e w7 ⟨a7, c7, S7, rfl, hv7, hS7, hb7⟩
  have HV7 := Lib.hid hv7
  have HS7 := Lib.hid hS7
  have HB67 := Lib.hid hb7
  have HL7 := Lib.hid (HL6.out.quiet hb7)
  obtain ⟨c0, c1, c2⟩ := HC.out _ HL7.out.bel
  have HCL := Lib.hid (mclean_calls g l a segs n c HL7.out HTAB.out HER.out (HR.out.below HL7.out.bel) HN.out (by omega) HFEW.out (by decide) (by decide))
  rw [HCM.out.1] at HCL
  obtain ⟨d8, hd8⟩ : ∃ x, (cleanM d ⟨g, l, segs⟩).2 = x := ⟨_, rfl⟩
  have HD8 := Lib.hid hd8
  rw [hd8] at HCL HCM
  clear hv7 hS7 hb7 HO1 hd8
  go_wp2_with fail
  with_reducible refine HCL.out.mono ?_
  rintro e w8 ⟨ev, rfl, herr, S8, hl8, hf8, hk8, _⟩
  have HL8 := Lib.hid hl8
  have HK8 := Lib.hid hk8
  have HCD := Lib.hid (code_calls 0 g ev w8 herr (HGD.out.below hl8.bel))
  clear herr hl8 hf8 hk8 HCL c0 c1 c2
  go_wp2_with fail
  with_reducible refine HCD.out.mono ?_
  rintro e w9 ⟨rfl, hb9⟩
  have HL9 := Lib.hid (HL8.out.quiet hb9)
  have HB89 := Lib.hid hb9
  obtain ⟨c0, c1, c2⟩ := HC.out _ HL9.out.bel
  have HO2 := Lib.hid (orphans_calls g l a segs n c w9 HL9.out.disk (HR.out.below HL9.out.bel) HN.out (by omega) (HTAB.out.below HL9.out.bel) (HER.out.below HL9.out.bel))
  unfold OrphOut at HO2
  rw [HCM.out.2.2] at HO2
  clear hb9 HCD
  go_wp2_with fail
  with_reducible refine HO2.out.mono ?_
  rintro e w10 ⟨a10, c10, S10, rfl, _, _, hb10⟩
  have HL10 := Lib.hid (HL9.out.quiet hb10)
  have HK7 : Hid (Keeps S5 w7 w10) := Lib.hid ((HK8.out.trans (keeps_below (below_then HB89.out hb10) Non) (fresh_non _ _)))
  obtain ⟨LB, hLB⟩ : ∃ x, d.L.map toI = x := ⟨_, rfl⟩
  obtain ⟨OS, hOS⟩ : ∃ x, orphM d ⟨g, l, segs⟩ = x := ⟨_, rfl⟩
  have HDB : Hid (∀ f ∈ LB, f.data.length ≤ 32768) := Lib.hid (fun f hf => by
    rw [← hLB] at hf
    obtain ⟨x, hx, rfl⟩ := List.mem_map.1 hf
    exact Nat.le_trans (used_mem hx) HFEW.out.used)
  have HWANT : Hid (d8.L.map toI = wantF OS LB) := Lib.hid (by rw [← hOS, ← hLB, want_is, HCM.out.2.1])
  have hLBl : LB.length = d.L.length := by rw [← hLB, List.length_map]
  rw [hLB] at HF6 HMO
  rw [hOS] at HV7 ⊢
  have HFB : Hid (Fils w10 S6 a6 LB) := Lib.hid ((HF6.out.keep (keeps_below HB67.out Non) (fun _ _ h => h)).keep HK7.out (fun k hk hs => by have h1 := (HS6.out k hk).1; have h2 := HL5B.out k hs; omega))
  have HVO : Hid (VRow w10 S7 a7 (OS.map Value.string)) := Lib.hid (HV7.out.keep HK7.out (fun k hk hs => by have h1 := HS7.out k hk; have h2 := HL5B.out k hs; have h3 := HSZ56.out; omega))
  have HSB : Hid (∀ k, S6 k → k < w10.heap.size) := Lib.hid (fun k hk => by have h1 := (HS6.out k hk).2; have h2 := HB67.out.size; have h3 := HK7.out.size; omega)
  obtain ⟨n1, hn1'⟩ : ∃ x, d.L.length = x := ⟨_, rfl⟩
  have hn1 : LB.length = n1 := hLBl.trans hn1'
  obtain ⟨n2, hn2⟩ : ∃ x, OS.length = x := ⟨_, rfl⟩
  have hn2l : n2 ≤ 64 := by rw [← hn2, ← hOS]; exact Nat.le_trans (List.length_filter_le _ _) (by rw [List.length_map]; exact HFEW.out.inv.most)
  have hn1l : n1 ≤ 64 := by rw [← hn1]; exact HMO.out
  rw [hn1', hn2]
  have HN1 := Lib.hid hn1
  have HN2 := Lib.hid hn2
  have HW0 : Hid (WantSt w10 w10 S6 (.slice none 0 0) [] []) := Lib.hid ⟨World.ownsRow_nil _ _ _ _, FCells.nil _ _, (fun k e => by cases e), Below.refl _ _⟩
  clear hb10 HO2 hLB hOS hn1 hn1' hLBl hn2 HF6 HV7 HMO HS6 HS7 HB67 HB89 HK8 HL6 HL7 HL8 HL9 HK7 c0 c1 c2
  go_wp2_with fail
  go_loopg [9, 10] n1 (fun gk wv idx wr => ∃ (i : Nat) (cells : List Value) (v : Value), v = wv ∧ idx = .int .i64 (i : Int) ∧ gk + i = n1 ∧ WantSt w10 wr S6 v (wantF OS (LB.take i)) cells)
  case atStart => exact ⟨0, [], _, rfl, rfl, rfl, HW0.out⟩
  case round =>
    obtain ⟨i, cells, v, hvw, rfl, hg, hwt⟩ := hrel
    subst hvw
    have HG := Lib.hid hg
    have HWT := Lib.hid hwt
    clear hg hwt HW0
    by_cases hlt : i < n1
    · obtain ⟨g', rfl⟩ : ∃ g', gk = g' + 1 := ⟨gk - 1, by have := HG.out; omega⟩
      have hdd : decide ((i : Int) < (n1 : Int)) = true := by simp; omega
      obtain ⟨f, hfx⟩ : ∃ f, LB[i]? = some f := ⟨LB[i]'(by rw [HN1.out]; exact hlt), List.getElem?_eq_getElem _⟩
      obtain ⟨fb, fo, da, dc, rfl, hSf, e0, e1, e2, hrow, hd0, hdl, hdm⟩ := fils_at HFB.out hfx
      have HFX := Lib.hid hfx
      have HFC : Hid (∀ W, Below w10.heap.size w10 W → W.cell? ⟨fb, fo + i * 3, none⟩ = some (.string f.name) ∧ W.cell? ⟨fb, fo + i * 3 + 1, none⟩ = some (.slice da f.data.length dc) ∧ W.cell? ⟨fb, fo + i * 3 + 2, none⟩ = some (.int .i64 f.safe)) := Lib.hid (fun W hb =>
        ⟨(hb.cell (p := ⟨fb, fo + i * 3, none⟩) (lt_of_cell e0)).trans e0, (hb.cell (p := ⟨fb, fo + i * 3 + 1, none⟩) (lt_of_cell e1)).trans e1, (hb.cell (p := ⟨fb, fo + i * 3 + 2, none⟩) (lt_of_cell e2)).trans e2⟩)
      have HBY : Hid (∀ W, Below w10.heap.size w10 W → Byt W S6 (.slice da f.data.length dc) f.data) := Lib.hid (fun W hb => ⟨da, dc, rfl, hrow.below hb, hd0, hdl, hdm⟩)
      clear e0 e1 e2 hrow hfx
      obtain ⟨nm, hnm⟩ : ∃ x, f.name = x := ⟨_, rfl⟩
      obtain ⟨sf, hsf⟩ : ∃ x, f.safe = x := ⟨_, rfl⟩
      obtain ⟨dl, hdl2⟩ : ∃ x, f.data.length = x := ⟨_, rfl⟩
      have HNS := Lib.hid (And.intro hnm (And.intro hsf hdl2))
      rw [hnm, hsf, hdl2] at HFC
      rw [hdl2] at HBY
      clear hnm hsf hdl2
      go_wp2_with fail
      go_loopg [11, 12] n2 (fun gj bv jv wr2 => ∃ (j : Nat) (b : Bool), bv = .bool b ∧ jv = .int .i64 (j : Int) ∧ gj + j = n2 ∧ (b || among (OS.drop j) nm) = among OS nm ∧ WantSt w10 wr2 S6 v (wantF OS (LB.take i)) cells)
      case atStart => exact ⟨0, false, rfl, rfl, rfl, rfl, HWT.out⟩
      case round =>
        obtain ⟨j, b, rfl, rfl, hgj, hbm, hwt⟩ := hrel
        have HGJ := Lib.hid hgj
        have HBM := Lib.hid hbm
        have HWT2 := Lib.hid hwt
        clear hgj hbm hwt
        obtain ⟨e0, e1, e2⟩ := HFC.out _ HWT2.out.bel
        by_cases hj : j < n2
        · obtain ⟨g2, rfl⟩ : ∃ g', gk = g' + 1 := ⟨gk - 1, by have := HGJ.out; omega⟩
          have hdj : decide ((j : Int) < (n2 : Int)) = true := by simp; omega
          cases b with
          | true =>
            go_wp2_with fail
            go_quiet (fail)
            go_wp2
            go_roundg g2
            case measure => omega
            case rel => exact ⟨j + 1, true, rfl, by go_num, by have := HGJ.out; omega, HBM.out, HWT2.out.below (below_drewN _ _)⟩
          | false =>
            obtain ⟨x, hx⟩ : ∃ x, OS[j]? = some x := ⟨OS[j]'(by rw [HN2.out]; exact hj), List.getElem?_eq_getElem _⟩
            obtain ⟨ab, ao, rfl, hcx0⟩ := vrow_at HVO.out (i := j) (x := .string x) (by rw [List.getElem?_map, hx]; rfl)
            have hcx : wr.cell? ⟨ab, ao + j, none⟩ = some (.string x) := (HWT2.out.bel.cell (p := ⟨ab, ao + j, none⟩) (lt_of_cell hcx0)).trans hcx0
            have hst := HBM.out
            rw [among_dropC nm hx] at hst
            clear hx hcx0
            by_cases hxn : x = nm
            · subst hxn
              rw [decide_eq_true rfl, Bool.true_or] at hst
              have HST := Lib.hid hst
              have q1 : (x.toList == x.toList) = true := by simp
              clear hst HBM
              go_wp2_with fail
              go_quiet (fail)
              go_wp2
              go_roundg g2
              case measure => omega
              case rel => exact ⟨j + 1, true, rfl, by go_num, by have := HGJ.out; omega, by rw [Bool.true_or]; have h := HST.out; rw [Bool.false_or] at h; exact h, HWT2.out.below (below_drewN _ _)⟩
            · rw [decide_eq_false hxn, Bool.false_or] at hst
              have HST := Lib.hid hst
              have q1 := toList_ne hxn
              clear hst HBM hxn
              go_wp2_with fail
              go_quiet (fail)
              go_wp2
              go_roundg g2
              case measure => omega
              case rel => exact ⟨j + 1, false, rfl, by go_num, by have := HGJ.out; omega, HST.out, HWT2.out.below (below_drewN _ _)⟩
        · have hdj : decide ((j : Int) < (n2 : Int)) = false := by simp; omega
          have hbq : b = among OS nm := by
            have h := HBM.out
            rw [List.drop_eq_nil_of_le (by rw [HN2.out]; omega)] at h
            rw [← h]
            simp [among]
          have HWK := Lib.hid (want_take (OS := OS) HFX.out)
          rw [HNS.out.1, ← hbq] at HWK
          clear hbq HBM
          cases b with
          | true =>
            have HE : Hid (wantF OS (LB.take (i + 1)) = wantF OS (LB.take i)) := Lib.hid (by rw [HWK.out, if_pos rfl, List.append_nil])
            go_wp2
            go_roundg g'
            case measure => omega
            case rel => exact ⟨i + 1, cells, v, rfl, by go_num, by have := HG.out; omega, by rw [HE.out]; exact HWT2.out⟩
          | false =>
            have hml : (wantF OS (LB.take i)).length ≤ 1000 := Nat.le_trans (List.length_filter_le _ _) (by rw [List.length_take]; omega)
            obtain ⟨v', w', hrun, cells', hwt'⟩ := HWT2.out.more HSB.out hml f (HBY.out _ HWT2.out.bel)
            rw [HNS.out.1, HNS.out.2.1] at hrun
            have HRUN := Lib.hid hrun
            have HWT3 : Hid (WantSt w10 w' S6 v' (wantF OS (LB.take (i + 1))) cells') := Lib.hid (by rw [HWK.out, if_neg (by decide)]; exact hwt')
            clear hrun hwt' hml
            go_wp2_with (first | (at_builtin; refine wpList_step (fun K hK => step_app HRUN.out (.tmp 74) (.tmp 79) rfl rfl rfl rfl (hK _ _ ?_))) | fail)
            go_roundg g'
            case measure => omega
            case rel => exact ⟨i + 1, cells', v', rfl, by go_num, by have := HG.out; omega, HWT3.out⟩
    · have hdd : decide ((i : Int) < (n1 : Int)) = false := by simp; omega
      have hwt := HWT.out
      rw [List.take_of_length_le (by rw [HN1.out]; omega)] at hwt
      have HWF := Lib.hid hwt
      have HL11 := Lib.hid (HL10.out.quiet hwt.bel)
      have HF8 : Hid (Few d8 32768 (0 + d.L.length)) := Lib.hid (by rw [← HD8.out]; exact HFEW.out.clean _)
      have HFI := Lib.hid (files_calls wr HL11.out.disk (Nat.le_trans HF8.out.used (by decide)))
      unfold FilesOut at HFI
      rw [HWANT.out] at HFI
      obtain ⟨WF, hWF⟩ : ∃ x, wantF OS LB = x := ⟨_, rfl⟩
      have HDW : Hid (∀ f ∈ WF, f.data.length ≤ 1073741824) := Lib.hid (fun f hf => by
        rw [← hWF] at hf
        exact Nat.le_trans (HDB.out f (List.mem_filter.1 hf).1) (by decide))
      have HWL : Hid (WF.length ≤ 64) := Lib.hid (by rw [← hWF]; exact Nat.le_trans (List.length_filter_le _ _) (by rw [HN1.out]; exact hn1l))
      rw [hWF] at HFI HWF
      clear hwt hWF HWT HWANT HFB HVO HCM
      go_wp2_with fail
      with_reducible refine HFI.out.mono ?_
      rintro e w12 ⟨a12, c12, S12, rfl, hf12, _, _, _, _, hb12⟩
      obtain ⟨av, cv, Sv, hvv, hfv⟩ : ∃ (av : Option Addr) (cv : Nat) (Sv : Nat → Prop), v = .slice av WF.length cv ∧ Fils w12 Sv av WF := by
        have h := (HWF.out.below hb12)
        rcases h.own.2 with ⟨h1, h2⟩ | ⟨g0, cap, cur, h1, _, h3, h4, h5, h6, h7⟩
        · exact ⟨none, 0, S6, by rw [h1, h2], _, h.fc, .inl (List.length_eq_zero_iff.1 h2)⟩
        · refine ⟨_, cap, fun k => S6 k ∨ k = g0, h1, _, h.fc.mono (fun k hk => .inl hk), .inr ⟨g0, 0, rfl, .inr rfl, fun j u hj => ?_⟩⟩
          rw [Nat.zero_add, cell_of_block h3 j]
          have hlt := (List.getElem?_eq_some_iff.1 hj).1
          rw [← h7, List.getElem?_take] at hj
          split at hj
          · rwa [Array.getElem?_toList] at hj
          · cases hj
      subst hvv
      have HSA := Lib.hid (same_calls a12 av WF WF c12 cv WF.length WF.length w12 hf12 hfv rfl rfl (by have := HWL.out; omega) (by have := HWL.out; omega) HDW.out HDW.out)
      rw [sameB_eq.2 rfl] at HSA
      have HBE := Lib.hid (below_then HB1.out (below_then HL11.out.bel hb12))
      clear hf12 hb12 hfv HFI
      go_wp2_with fail
      with_reducible refine HSA.out.mono ?_
      rintro e w13 ⟨rfl, k13, hk13⟩
      have hb13 : Below w12.heap.size w12 w13 := by rw [hk13]; exact below_drewN _ _
      have HB13 := Lib.hid (below_then HBE.out hb13)
      clear hb13 hk13
      go_wp2
      go_ret
      exact ⟨rfl, HB13.out⟩

end Go.Proofs.YtacfcfbleogioaaGreatDoor
