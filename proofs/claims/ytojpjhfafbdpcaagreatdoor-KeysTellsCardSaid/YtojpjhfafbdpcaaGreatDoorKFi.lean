/-
  keys.Find: the rule of a path, its texts copied. Conditions: the rules and the path lie in memory; no slice of the rules has more than 2 to the 40 texts.
-/
import Derived.Test.YtojpjhfafbdpcaaGreatDoorKE
import Derived.Test.YtojpjhfafbdpcaaGreatDoorKB
namespace Go.Proofs.YtojpjhfafbdpcaaGreatDoor
open Go.RowKit Go.Lib Go.Joins

/-- What a copy of texts leaves. -/
def CloneOut (l : List (List UInt8)) (w : World) (e : Ending) (w' : World) : Prop := ∃ v, e = .returned v ∧ StrIn w' (fun k => w.heap.size ≤ k) v l ∧ Below w.heap.size w w'
theorem clone_calls {w : World} {S : Nat → Prop} {v : Value} {l : List (List UInt8)} (h : StrIn w S v l) (hn : l.length ≤ 1099511627776) : Calls Tryz.prog 36 #[v] w (CloneOut l w) := by
  obtain ⟨a, c, rfl, hc, hm, ha, hr⟩ := h
  rcases hr with rfl | ⟨b, o, rfl, _, hr⟩
  · cases a with
    | none =>
      refine (Tryz.slices_Clone_string_nil 0 c w).mono ?_
      rintro e w' ⟨rfl, rfl⟩
      exact ⟨_, rfl, StrIn.nil _ _, Below.refl _ _⟩
    | some ad =>
      refine (Tryz.slices_Clone_string_zero ad c w).mono ?_
      rintro e w' ⟨v', rfl, how, _, hb⟩
      refine ⟨_, rfl, ?_, hb⟩
      rcases how.2 with ⟨h1, h0⟩ | ⟨g, cap, cur, h1, hg, hgb, hcap, hcm, hcur, htk⟩
      · rw [h1]
        exact StrIn.nil _ _
      · exact ⟨_, cap, h1, hcap, hcm, fun e => (by cases e), .inl rfl⟩
  · have hz : ∀ j, j < (l.map strB).length → w.cell? ⟨b, o + j, none⟩ = some (.string ((l.map strB).getD j ByteArray.empty)) := by
      intro j hj
      rw [List.length_map] at hj
      rw [List.getD_eq_getElem?_getD, List.getElem?_map, List.getElem?_eq_getElem hj]
      exact hr j _ (List.getElem?_eq_getElem hj)
    refine (Tryz.slices_Clone_string b o l.length c (l.map strB) w (by rw [List.length_map]; exact Nat.le_refl _) (by omega) hz).mono ?_
    rintro e w' ⟨v', rfl, how, _, hb⟩
    refine ⟨_, rfl, ?_, hb⟩
    have htake : ((l.map strB).take l.length).map Value.string = strV l := by
      rw [List.take_of_length_le (by rw [List.length_map]; exact Nat.le_refl _), List.map_map]
      rfl
    rw [htake] at how
    rcases how.2 with ⟨h1, h0⟩ | ⟨g, cap, cur, h1, hg, hgb, hcap, hcm, hcur, htk⟩
    · rw [h1, List.length_eq_zero_iff.1 h0]
      exact StrIn.nil _ _
    · refine ⟨_, cap, h1, hcap, hcm, fun e => (by cases e), .inr ⟨g, 0, rfl, hg, fun i x hx => ?_⟩⟩
      have hcl := how.cells (g := g) (by rw [h1]; rfl) i _ (strV_at hx)
      rw [Addr.add_mid] at hcl
      exact hcl
/-- What Find leaves. -/
def SeekOut (l : List Rl) (p : List (List UInt8)) (w : World) (e : Ending) (w' : World) : Prop := ∃ pv kv y, e = .returned (.tuple #[.agg #[pv, kv], .bool (has l p)]) ∧ StrIn w' Any pv (Rl.path y) ∧ StrIn w' Any kv (Rl.keys y) ∧ Below w.heap.size w w' ∧ ∀ (i : Nat) (x : Rl), placeI l p = (i : Int) → l[i]? = some x → y = x

set_option maxRecDepth 100000 in
set_option maxHeartbeats 8000000 in
theorem seek_calls {w : World} {S S' : Nat → Prop} {v pv : Value} {l : List Rl} {p : List (List UInt8)} (hl : RlsIn w S v l) (hp : StrIn w S' pv p) (hf : ∀ r ∈ l, r.path.length ≤ 1099511627776 ∧ r.keys.length ≤ 1099511627776) :
    Calls Tryz.prog 16 #[v, pv] w (SeekOut l p w) := by
  obtain ⟨a, c, rfl, hlc, hcm, _⟩ := hl.form
  obtain ⟨a2, c2, rfl, _⟩ := hp.form
  obtain ⟨n, hn⟩ : ∃ n, l.length = n := ⟨_, rfl⟩
  obtain ⟨z, hz⟩ : ∃ z, p.length = z := ⟨_, rfl⟩
  rw [hn] at hl hlc ⊢
  rw [hz] at hp ⊢
  obtain ⟨W1, hW1⟩ : ∃ W1, w.alloc (.cells #[.slice none 0 0, .slice none 0 0] 38) = W1 := ⟨_, rfl⟩
  have hb1 : Below w.heap.size w W1 := by rw [← hW1]; exact (Below.refl _ _).alloc (Nat.le_refl _) _
  have hk1 : W1.heap[w.heap.size]? = some (.cells #[.slice none 0 0, .slice none 0 0] 38 (0, 0)) := by rw [← hW1]; exact heap_alloc_new _ _
  have HPL := Lib.hid (place_calls (hl.below hb1) (hp.below hb1))
  have HR := Lib.hid hl
  have HN := Lib.hid hn
  have HF := Lib.hid hf
  have HB1 := Lib.hid hb1
  have HK1 := Lib.hid hk1
  have HW1 := Lib.hid hW1
  clear hl hp hf hn hz hcm hb1 hk1 hW1
  unfold SeekOut
  rcases placeI_cases l p with ⟨i, x, h1, h2, _, h4, h5⟩ | ⟨h1, h4⟩
  · rw [h1] at HPL
    have hlt : decide ((i : Int) < 0) = false := by simp
    have hin : i < n := by rw [← HN.out]; exact h5
    have hji : (i : Int) < (n : Int) := by omega
    have hic : i ≤ c := by omega
    rw [h4]
    have hfx := HF.out x (List.mem_of_getElem? h2)
    have HY : Hid (∀ (j : Nat) (y : Rl), placeI l p = (j : Int) → l[j]? = some y → x = y) := Lib.hid (fun j y hj hy => by
      rw [h1] at hj
      have : i = j := by omega
      subst this
      rw [h2] at hy
      exact Option.some.inj hy)
    obtain ⟨b, o, xv, kv, hab, c0, c1, hxv, hkv⟩ := HR.out.at h2
    subst hab
    obtain ⟨pa, pc, rfl, _⟩ := hxv.form
    obtain ⟨ka, kc, rfl, _⟩ := hkv.form
    obtain ⟨n1, hn1⟩ : ∃ n1, x.path.length = n1 := ⟨_, rfl⟩
    obtain ⟨n2, hn2⟩ : ∃ n2, x.keys.length = n2 := ⟨_, rfl⟩
    have HXV := Lib.hid (fun (W : World) (hb : Below w.heap.size w W) => clone_calls (hxv.below hb) hfx.1)
    have HKV := Lib.hid (fun (W : World) (hb : Below w.heap.size w W) => clone_calls (hkv.below hb) hfx.2)
    unfold CloneOut at HXV HKV
    rw [hn1] at c0 HXV
    rw [hn2] at c1 HKV
    have HC0 := Lib.hid c0
    have HC1 := Lib.hid c1
    have HBW : Hid (b < w.heap.size) := Lib.hid (lt_of_cell c0)
    clear h1 h2 h4 h5 hxv hkv c0 c1 hfx hin
    go_enter Tryz.func16, Tryz.ntmps16
    go_wp2_with fail
    rw [HW1.out]
    with_reducible refine HPL.out.mono ?_
    rintro e w2 ⟨rfl, hb2⟩
    have HB2 := Lib.hid (below_then HB1.out hb2)
    have HK2 := Lib.hid (block_below hb2 HK1.out)
    have d0 := (HB2.out.cell (lt_of_cell HC0.out)).trans HC0.out
    have d1 := (HB2.out.cell (lt_of_cell HC1.out)).trans HC1.out
    clear hb2 HPL
    go_upto_region 4 with (fail)
    have HX2 := Lib.hid (HXV.out w2.drew HB2.out.drew)
    have HN1 := Lib.hid hn1
    have HN2 := Lib.hid hn2
    clear hn1 hn2
    refine wp_region_held_drew (S := fun W => W.cell? ⟨b, o + i * 2, none⟩ = some (.slice pa n1 pc) ∧ W.cell? ⟨b, o + i * 2 + 1, none⟩ = some (.slice ka n2 kc)) (by kernel_rfl) ⟨d0, d1⟩ (fun hHeld => ?_)
    refine wpAnyH_take (i := 0) (v := ?_) rfl (by kernel_rfl) (by kernel_rfl) (by kernel_rfl) (fun _ _ _ h => h) (Or.inl ⟨by rfl, ?_⟩) (by assumption) ?_
    rotate_left
    · intro W hS
      try dsimp only at hS
      go_simp
      try with_reducible rfl
    simp only [List.getElem_toArray, List.getElem_cons_zero, Act.put, List.setIfInBounds_toArray, List.set_cons_zero, List.set_cons_succ]
    refine wpAnyH_take (i := 1) (v := ?_) rfl (by kernel_rfl) (by kernel_rfl) (by kernel_rfl) (fun _ _ _ h => h) (Or.inl ⟨by rfl, ?_⟩) (by assumption) ?_
    rotate_left
    · intro W hS
      try dsimp only at hS
      go_simp
      try with_reducible rfl
    simp only [List.getElem_toArray, List.getElem_cons_succ, List.getElem_cons_zero, Act.put, List.setIfInBounds_toArray, List.set_cons_zero, List.set_cons_succ]
    refine wpAnyH_take (i := 2) (v := ?_) rfl (by kernel_rfl) (by kernel_rfl) (by kernel_rfl) (fun _ _ _ h => h) (Or.inl ⟨by rfl, ?_⟩) (by assumption) ?_
    rotate_left
    · intro W hS
      try dsimp only at hS
      go_simp
      try with_reducible rfl
    simp only [List.getElem_toArray, List.getElem_cons_succ, List.getElem_cons_zero, Act.put, List.setIfInBounds_toArray, List.set_cons_zero, List.set_cons_succ]
    refine wpAnyH_take (i := 3) (v := ?_) rfl (by kernel_rfl) (by kernel_rfl) (by kernel_rfl) (fun _ _ _ h => h) (Or.inl ⟨by rfl, ?_⟩) (by assumption) ?_
    rotate_left
    · intro W hS
      try dsimp only at hS
      go_simp
      try with_reducible rfl
    simp only [List.getElem_toArray, List.getElem_cons_succ, List.getElem_cons_zero, Act.put, List.setIfInBounds_toArray, List.set_cons_zero, List.set_cons_succ]
    refine wpAnyH_take (i := 4) (v := ?_) rfl (by kernel_rfl) (by kernel_rfl) (by kernel_rfl) (fun _ _ _ h => h) (Or.inl ⟨by rfl, ?_⟩) (by assumption) ?_
    rotate_left
    · intro W hS
      try dsimp only at hS
      go_simp
      try with_reducible rfl
    simp only [List.getElem_toArray, List.getElem_cons_succ, List.getElem_cons_zero, Act.put, List.setIfInBounds_toArray, List.set_cons_zero, List.set_cons_succ]
    refine wpAnyH_take (i := 6) (v := ?_) rfl (by kernel_rfl) (by kernel_rfl) (by kernel_rfl) (fun _ _ _ h => h) (Or.inl ⟨by rfl, ?_⟩) (by assumption) ?_
    rotate_left
    · intro W hS
      try dsimp only at hS
      go_simp
      try with_reducible rfl
    simp only [List.getElem_toArray, List.getElem_cons_succ, List.getElem_cons_zero, Act.put, List.setIfInBounds_toArray, List.set_cons_zero, List.set_cons_succ]
    refine wpAnyH_take (i := 7) (v := ?_) rfl (by kernel_rfl) (by kernel_rfl) (by kernel_rfl) (fun _ _ _ h => h) (Or.inl ⟨by rfl, ?_⟩) (by assumption) ?_
    rotate_left
    · intro W hS
      try dsimp only at hS
      go_simp
      try with_reducible rfl
    simp only [List.getElem_toArray, List.getElem_cons_succ, List.getElem_cons_zero, Act.put, List.setIfInBounds_toArray, List.set_cons_zero, List.set_cons_succ]
    refine wpAnyH_take (i := 8) (v := ?_) rfl (by kernel_rfl) (by kernel_rfl) (by kernel_rfl) (fun _ _ _ h => h) (Or.inl ⟨by rfl, ?_⟩) (by assumption) ?_
    rotate_left
    · intro W hS
      try dsimp only at hS
      go_simp
      try with_reducible rfl
    simp only [List.getElem_toArray, List.getElem_cons_succ, List.getElem_cons_zero, Act.put, List.setIfInBounds_toArray, List.set_cons_zero, List.set_cons_succ]
    refine wpAnyH_take (i := 9) (v := ?_) rfl (by kernel_rfl) (by kernel_rfl) (by kernel_rfl) (fun _ _ _ h => h) (Or.inl ⟨by rfl, ?_⟩) (by assumption) ?_
    rotate_left
    · intro W hS
      try dsimp only at hS
      go_simp
      try with_reducible rfl
    simp only [List.getElem_toArray, List.getElem_cons_succ, List.getElem_cons_zero, Act.put, List.setIfInBounds_toArray, List.set_cons_zero, List.set_cons_succ]
    refine wpAnyH_take (i := 10) (v := ?_) rfl (by kernel_rfl) (by kernel_rfl) (by kernel_rfl) (fun _ _ _ h => h) (Or.inl ⟨by rfl, ?_⟩) (by assumption) ?_
    rotate_left
    · intro W hS
      try dsimp only at hS
      go_simp
      try with_reducible rfl
    simp only [List.getElem_toArray, List.getElem_cons_succ, List.getElem_cons_zero, Act.put, List.setIfInBounds_toArray, List.set_cons_zero, List.set_cons_succ]
    refine wpAnyH_ready (rs := [5]) (by kernel_rfl) (by simp) ?_
    refine AllReadyH.cons rfl (fun K hK => ?_) AllReadyH.nil
    go_simp
    with_reducible refine HX2.out.mono ?_
    rintro e w3 ⟨vv, rfl, hv3, hb3⟩
    obtain ⟨va, vc, rfl, _⟩ := hv3.form
    rw [HN1.out] at hv3 ⊢
    have HB3 : Hid (Below w.heap.size w w3) := Lib.hid (below_then (HB2.out.drew) hb3)
    have HK3 : Hid (w3.heap[w.heap.size]? = some (.cells #[.slice none 0 0, .slice none 0 0] 38 (0, 0))) := Lib.hid (block_below hb3 HK2.out)
    have HV3 : Hid (StrIn w3 (fun k => w.heap.size < k) (.slice va n1 vc) x.path) := Lib.hid (hv3.mono (fun k _ h => Nat.lt_of_lt_of_le (lt_of_block HK2.out) h))
    have hc0 := (HB3.out.cell (lt_of_cell HC0.out)).trans HC0.out
    have hc1 := (HB3.out.cell (lt_of_cell HC1.out)).trans HC1.out
    have HX3 := Lib.hid (HKV.out w3 HB3.out)
    clear hb3 hv3 HX2
    refine hK.out _ _ ⟨hc0, hc1⟩ (fun hHeld => ?_)
    clear hK K
    try simp only [List.getElem_toArray, List.getElem_cons_succ, List.getElem_cons_zero, Act.put, List.setIfInBounds_toArray, List.set_cons_zero, List.set_cons_succ]
    refine wpAnyH_ready (rs := [11]) (by kernel_rfl) (by simp) ?_
    refine AllReadyH.cons rfl (fun K hK => ?_) AllReadyH.nil
    go_simp
    with_reducible refine HX3.out.mono ?_
    rintro e w4 ⟨vk, rfl, hv4, hb4⟩
    obtain ⟨vka, vkc, rfl, _⟩ := hv4.form
    rw [HN2.out] at hv4 ⊢
    have HB4 : Hid (Below w.heap.size w w4) := Lib.hid (below_then HB3.out hb4)
    have HK4 : Hid (w4.heap[w.heap.size]? = some (.cells #[.slice none 0 0, .slice none 0 0] 38 (0, 0))) := Lib.hid (block_below hb4 HK3.out)
    have HV4 : Hid (StrIn w4 (fun k => w.heap.size < k) (.slice va n1 vc) x.path) := Lib.hid (HV3.out.below hb4)
    have HU4 : Hid (StrIn w4 (fun k => w.heap.size < k) (.slice vka n2 vkc) x.keys) := Lib.hid (hv4.mono (fun k _ h => Nat.lt_of_lt_of_le (lt_of_block HK3.out) h))
    have hc0 := (HB4.out.cell (lt_of_cell HC0.out)).trans HC0.out
    have hc1 := (HB4.out.cell (lt_of_cell HC1.out)).trans HC1.out
    clear hb4 hv4 HX3
    refine hK.out _ _ ⟨hc0, hc1⟩ (fun hHeld => ?_)
    clear hK K
    try simp only [List.getElem_toArray, List.getElem_cons_succ, List.getElem_cons_zero, Act.put, List.setIfInBounds_toArray, List.set_cons_zero, List.set_cons_succ]
    refine wpAnyH_take (i := 12) (v := ?_) rfl (by kernel_rfl) (by kernel_rfl) (by kernel_rfl) (fun _ _ _ h => h) (Or.inl ⟨by rfl, ?_⟩) (by assumption) ?_
    rotate_left
    · intro W hS
      try dsimp only at hS
      go_simp
      try with_reducible rfl
    simp only [List.getElem_toArray, List.getElem_cons_succ, List.getElem_cons_zero, Act.put, List.setIfInBounds_toArray, List.set_cons_zero, List.set_cons_succ]
    have hs8 := HK4.out
    have z0 : w4.cell? ⟨w.heap.size, 0, none⟩ = some (.slice none 0 0) := (cell_of_block hs8 0).trans rfl
    have z1 : w4.cell? ⟨w.heap.size, 1, none⟩ = some (.slice none 0 0) := (cell_of_block hs8 1).trans rfl
    have u0 := unfrozen_of_block hs8 0
    have u1 := unfrozen_of_block hs8 1
    have hd0 := (HB4.out.cell (lt_of_cell HC0.out)).trans HC0.out
    have hd1 := (HB4.out.cell (lt_of_cell HC1.out)).trans HC1.out
    have HNE : Hid (w.heap.size ≠ b) := Lib.hid (by have := HBW.out; omega)
    obtain ⟨hkk, hcc, hbb, hoo⟩ := store_two (n := w.heap.size) (.slice va n1 vc) (.slice vka n2 vkc) HK4.out HNE.out (Nat.le_refl _)
    have HKK := Lib.hid hkk
    have HCC := Lib.hid hcc
    have HBB := Lib.hid hbb
    have HOO := Lib.hid hoo
    clear hs8 hkk hcc hbb hoo
    refine wpAnyH_ready (rs := [13]) (by kernel_rfl) (by simp) ?_
    refine AllReadyH.cons rfl (fun K hK => ?_) AllReadyH.nil
    go_simp
    refine hK.out _ _ ⟨(HCC.out _).trans hd0, (HCC.out _).trans hd1⟩ (fun hHeld => ?_)
    clear hK K
    try simp only [List.getElem_toArray, List.getElem_cons_succ, List.getElem_cons_zero, Act.put, List.setIfInBounds_toArray, List.set_cons_zero, List.set_cons_succ]
    refine wpAnyH_take (i := 14) (v := ?_) rfl (by kernel_rfl) (by kernel_rfl) (by kernel_rfl) (fun _ _ _ h => h) (Or.inl ⟨by rfl, ?_⟩) (by assumption) ?_
    rotate_left
    · intro W hS
      try dsimp only at hS
      go_simp
      try with_reducible rfl
    simp only [List.getElem_toArray, List.getElem_cons_succ, List.getElem_cons_zero, Act.put, List.setIfInBounds_toArray, List.set_cons_zero, List.set_cons_succ]
    refine wpAnyH_done (by kernel_rfl) ?_ _
    go_wp2_with fail
    have g0 := (cell_of_block HKK.out 0).trans (show (#[(.slice va n1 vc : Value), .slice vka n2 vkc] : Array Value)[0]? = some (.slice va n1 vc) from rfl)
    have g1 := (cell_of_block HKK.out 1).trans (show (#[(.slice va n1 vc : Value), .slice vka n2 vkc] : Array Value)[1]? = some (.slice vka n2 vkc) from rfl)
    refine bodyPost_ret (v := .tuple #[.agg #[.slice va n1 vc, .slice vka n2 vkc], .bool true]) (by simp [results, Tryz.results16, go_sem, g0, g1]) rfl ⟨_, _, x, rfl, ?_, ?_, ?_, HY.out⟩
    · exact ((HV4.out.stored (B := w.heap.size) (by have := HNE.out; omega) HOO.out).mono (fun _ _ _ => trivial))
    · exact ((HU4.out.stored (B := w.heap.size) (by have := HNE.out; omega) HOO.out).mono (fun _ _ _ => trivial))
    · exact HB4.out.trans HBB.out
  · rw [h1] at HPL
    have hlt : decide ((-1 : Int) < 0) = true := rfl
    rw [h4]
    have HY : Hid (∀ (j : Nat) (y : Rl), placeI l p = (j : Int) → l[j]? = some y → (⟨[], []⟩ : Rl) = y) := Lib.hid (fun j y hj _ => by
      rw [h1] at hj
      omega)
    clear h1 h4
    go_enter Tryz.func16, Tryz.ntmps16
    go_wp2_with fail
    rw [HW1.out]
    with_reducible refine HPL.out.mono ?_
    rintro e w2 ⟨rfl, hb2⟩
    have HB2 := Lib.hid (below_then HB1.out hb2)
    have HK2 := Lib.hid (block_below hb2 HK1.out)
    have z0 : w2.cell? ⟨w.heap.size, 0, none⟩ = some (.slice none 0 0) := (cell_of_block HK2.out 0).trans rfl
    have z1 : w2.cell? ⟨w.heap.size, 1, none⟩ = some (.slice none 0 0) := (cell_of_block HK2.out 1).trans rfl
    have u0 := unfrozen_of_block HK2.out 0
    have u1 := unfrozen_of_block HK2.out 1
    obtain ⟨hkk, _, hbb, _⟩ := store_two (n := w.heap.size) (.slice none 0 0) (.slice none 0 0) HK2.out (show w.heap.size ≠ w.heap.size + 1 by omega) (Nat.le_refl _)
    have HKK := Lib.hid hkk
    have HBB := Lib.hid hbb
    clear hb2 HPL hkk hbb
    go_wp2_with fail
    have g0 := (cell_of_block HKK.out 0).trans (show (#[(.slice none 0 0 : Value), .slice none 0 0] : Array Value)[0]? = some (.slice none 0 0) from rfl)
    have g1 := (cell_of_block HKK.out 1).trans (show (#[(.slice none 0 0 : Value), .slice none 0 0] : Array Value)[1]? = some (.slice none 0 0) from rfl)
    refine bodyPost_ret (v := .tuple #[.agg #[.slice none 0 0, .slice none 0 0], .bool false]) (by simp [results, Tryz.results16, go_sem, g0, g1]) rfl ⟨_, _, ⟨[], []⟩, rfl, StrIn.nil _ _, StrIn.nil _ _, ?_, HY.out⟩
    exact HB2.out.trans HBB.out

end Go.Proofs.YtojpjhfafbdpcaaGreatDoor
