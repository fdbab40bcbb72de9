/-
  KeysTells: of any rules it is told as the document says whether they are a specification, their text, and of any path its rule and whether it is a frontier. Conditions: the rules and the path lie in memory, none longer than 2 to the 60; the tables, the library's bound and the handle are laid.
-/
import Derived.Test.YtojpjhfafbdpcaaGreatDoorKLi
import Derived.Test.YtojpjhfafbdpcaaGreatDoorKFi
namespace Go.Proofs.YtojpjhfafbdpcaaGreatDoor
open Go.RowKit Go.Lib Go.Joins Go.Shelf

theorem rls_made {W : World} {S S' : Nat → Prop} {pv kv : Value} {x : Rl} (hp : StrIn W S pv x.path) (hk : StrIn W S' kv x.keys) : RlsIn (W.alloc (.cells #[pv, kv] 38)) Any (.slice (some ⟨W.heap.size, 0, none⟩) 1 1) [x] := by
  have hb := (Below.refl W.heap.size W).alloc (Nat.le_refl _) (.cells #[pv, kv] 38)
  have hn := heap_alloc_new W (.cells #[pv, kv] 38)
  refine ⟨_, 1, rfl, Nat.le_refl _, by decide, (fun e => by cases e), .inr ⟨W.heap.size, 0, rfl, trivial, fun k y hy => ?_⟩⟩
  cases k with
  | zero =>
    obtain rfl : x = y := by simpa using hy
    exact ⟨pv, kv, (cell_of_block hn 0).trans rfl, (cell_of_block hn 1).trans rfl, (hp.below hb).any, (hk.below hb).any⟩
  | succ k => simp at hy

set_option maxRecDepth 100000 in
set_option maxHeartbeats 16000000 in
theorem tells_calls {w : World} {S S' : Nat → Prop} {v pv : Value} {l : List Rl} {p : List (List UInt8)} (hl : RlsIn w S v l) (hb : ∀ r ∈ l, RlBig r) (hp : StrIn w S' pv p) (_hpb : p.length ≤ reachBytes ∧ ∀ x ∈ p, x.length ≤ reachBytes) (hE : AwE w) :
    Calls Tryz.prog 4 #[v, pv] w (Leaves (.bool true) w) := by
  have HAW := Lib.hid (awake_calls w hE)
  have HSM := Lib.hid (fun (W : World) (hb1 : Below w.heap.size w W) => small_calls (hl.below hb1) hb)
  have HL := Lib.hid hl
  have HP := Lib.hid hp
  have HE := Lib.hid hE
  obtain ⟨a, c, rfl, hlc, hcm, _⟩ := hl.form
  obtain ⟨a2, c2, rfl, hlc2, hcm2, _⟩ := hp.form
  obtain ⟨n, hn⟩ : ∃ n, l.length = n := ⟨_, rfl⟩
  obtain ⟨z, hz⟩ : ∃ z, p.length = z := ⟨_, rfl⟩
  have HN := Lib.hid hn
  rw [hn] at HL HSM hlc ⊢
  rw [hz] at HP hlc2 ⊢
  have hm : n ≤ 9223372036854775807 := by unfold maxLen at hcm; omega
  have hm2 : z ≤ 9223372036854775807 := by unfold maxLen at hcm2; omega
  obtain ⟨q1, hq1⟩ : ∃ q, smallGo 0 l = q := ⟨_, rfl⟩
  rw [hq1] at HSM
  clear hl hp hb hE hn hz hcm hcm2 _hpb
  cases q1 with
  | false =>
    clear hq1
    go_enter Tryz.func4, Tryz.ntmps4
    go_wp2_with fail
    with_reducible refine HAW.out.mono ?_
    rintro e w1 ⟨rfl, hb1⟩
    have HB1 := Lib.hid hb1
    clear hb1
    go_wp2_with fail
    with_reducible refine (HSM.out w1 HB1.out).mono ?_
    rintro e w2 ⟨rfl, hb2⟩
    have HB2 := Lib.hid (below_then HB1.out hb2)
    clear hb2
    go_wp2
    go_ret
    exact ⟨rfl, HB2.out⟩
  | true =>
    obtain ⟨hfew, hlen, hsum⟩ := small_few hq1
    obtain ⟨htl, hpk⟩ := small_text hq1
    by_cases hbig : 100 < z
    · have hdz : decide ((z : Int) > 100) = true := by simp; omega
      clear hq1 hfew hpk hsum htl hlen
      go_enter Tryz.func4, Tryz.ntmps4
      go_wp2_with fail
      with_reducible refine HAW.out.mono ?_
      rintro e w1 ⟨rfl, hb1⟩
      have HB1 := Lib.hid hb1
      clear hb1
      go_wp2_with fail
      with_reducible refine (HSM.out w1 HB1.out).mono ?_
      rintro e w2 ⟨rfl, hb2⟩
      have HB2 := Lib.hid (below_then HB1.out hb2)
      clear hb2
      go_wp2
      go_ret
      exact ⟨rfl, HB2.out⟩
    · have hdz : decide ((z : Int) > 100) = false := by simp; omega
      have hbe : (mayW l == mayW l) = true := by simp
      have hse : ((strB (textW l)).toList == (strB (textW l)).toList) = true := by simp
      have hfe : (frontW l p == frontW l p) = true := by simp
      have HMA := Lib.hid (fun (W : World) (hb1 : Below w.heap.size w W) => may_calls (HL.out.below hb1) hfew (HE.out.env.below hb1))
      have HMB := Lib.hid (fun (W : World) (hb1 : Below w.heap.size w W) => rmay_calls (HL.out.below hb1) hfew)
      have HTA := Lib.hid (fun (W : World) (hb1 : Below w.heap.size w W) => text_calls (HL.out.below hb1) (by omega) (fun r hr => by have := hpk r hr; omega))
      have HTB := Lib.hid (fun (W : World) (hb1 : Below w.heap.size w W) => rtext_calls (HL.out.below hb1) (by omega))
      have HFA := Lib.hid (fun (W : World) (hb1 : Below w.heap.size w W) => front_calls (HL.out.below hb1) (HP.out.below hb1))
      have HFB := Lib.hid (fun (W : World) (hb1 : Below w.heap.size w W) => rfront_calls (HL.out.below hb1) (HP.out.below hb1))
      have HFI := Lib.hid (fun (W : World) (hb1 : Below w.heap.size w W) => seek_calls (HL.out.below hb1) (HP.out.below hb1) (fun r hr => by have := hpk r hr; omega))
      have HFR := Lib.hid (fun (W : World) (hb1 : Below w.heap.size w W) => rfind_calls (HL.out.below hb1) (HP.out.below hb1))
      unfold SeekOut at HFI
      obtain ⟨qm, hqm⟩ : ∃ q, mayW l = q := ⟨_, rfl⟩
      obtain ⟨tx, htx⟩ : ∃ q, strB (textW l) = q := ⟨_, rfl⟩
      obtain ⟨qf, hqf⟩ : ∃ q, frontW l p = q := ⟨_, rfl⟩
      rw [hqm] at HMA HMB hbe
      rw [htx] at HTA HTB hse
      rw [hqf] at HFA HFB hfe
      clear hq1 hfew hpk hsum htl hlen hqm htx hqf
      go_enter Tryz.func4, Tryz.ntmps4
      go_wp2_with fail
      with_reducible refine HAW.out.mono ?_
      rintro e w1 ⟨rfl, hb1⟩
      have HB1 := Lib.hid hb1
      clear hb1
      go_wp2_with fail
      with_reducible refine (HSM.out w1 HB1.out).mono ?_
      rintro e w2 ⟨rfl, hb2⟩
      have HB2 := Lib.hid (below_then HB1.out hb2)
      clear hb2
      go_wp2_with fail
      with_reducible refine (HFI.out w2 HB2.out).mono ?_
      rintro e w3 ⟨rv, kv, y, rfl, hpv, hkv, hb3, hy⟩
      have HB3 := Lib.hid (below_then HB2.out hb3)
      have HY := Lib.hid hy
      obtain ⟨pa, pc, rfl, _⟩ := hpv.form
      obtain ⟨ka, kc, rfl, _⟩ := hkv.form
      obtain ⟨n1, hn1⟩ : ∃ n1, (Rl.path y).length = n1 := ⟨_, rfl⟩
      obtain ⟨n2, hn2⟩ : ∃ n2, (Rl.keys y).length = n2 := ⟨_, rfl⟩
      rw [hn1] at hpv ⊢
      rw [hn2] at hkv ⊢
      have HPV := Lib.hid hpv
      have HKV := Lib.hid hkv
      obtain ⟨W4, hW4⟩ : ∃ W4, w3.alloc (.cells #[.slice pa n1 pc, .slice ka n2 kc] 38) = W4 := ⟨_, rfl⟩
      have hb4 : Below w3.heap.size w3 W4 := by rw [← hW4]; exact (Below.refl _ _).alloc (Nat.le_refl _) _
      have hk4 : W4.heap[w3.heap.size]? = some (.cells #[.slice pa n1 pc, .slice ka n2 kc] 38 (0, 0)) := by rw [← hW4]; exact heap_alloc_new _ _
      have HW4 := Lib.hid hW4
      have HB34 := Lib.hid hb4
      have HK4 := Lib.hid hk4
      have HB4 := Lib.hid (below_then HB3.out hb4)
      have HR4 := Lib.hid (HFR.out W4 HB4.out)
      clear hb3 hy hpv hkv hn1 hn2 hW4 hb4 hk4 HFI HFR HAW HSM
      go_wp2_with (rw [HW4.out])
      try rw [HW4.out]
      with_reducible refine HR4.out.mono ?_
      rintro e w5 ⟨rfl, hb5⟩
      have HB5 := Lib.hid (below_then HB4.out hb5)
      have HB35 := Lib.hid (below_then HB34.out hb5)
      have HK5 := Lib.hid (block_below hb5 HK4.out)
      have HC0 : Hid (w5.cell? ⟨w3.heap.size, 0, none⟩ = some (.slice pa n1 pc)) := Lib.hid ((cell_of_block HK5.out 0).trans rfl)
      have HC1 : Hid (w5.cell? ⟨w3.heap.size, 1, none⟩ = some (.slice ka n2 kc)) := Lib.hid ((cell_of_block HK5.out 1).trans rfl)
      clear hb5 HR4 HK4 HW4 HB34
      rcases placeI_cases l p with ⟨i, x, h1, h2, _, h4, h5⟩ | ⟨h1, h4⟩
      · have hyx := HY.out i x h1 h2
        subst hyx
        rw [h1, h4]
        obtain ⟨b, o, hab, hone⟩ := (HL.out.below HB5.out).one h2
        subst hab
        have HONE := Lib.hid hone
        have hin : i + 1 ≤ n := by rw [← HN.out]; exact h5
        have hic : i + 1 ≤ c := by omega
        have hge : decide ((i : Int) ≥ 0) = true := by simp
        have HLT : Hid (i < n) := Lib.hid hin
        have s1 : IntKind.i64.wrap ((i : Int) + 1) = (i : Int) + 1 := IntWalk.i64_in _ (by omega)
        have hci : ¬ (c = i) := by omega
        have hi0 : (0 : Int) ≤ (i : Int) + 1 := by omega
        have hcj : (i : Int) + 1 ≤ (c : Int) := by omega
        have hii : (i : Int) ≤ 9223372036854775806 := by omega
        clear h1 h2 h4 h5 hone
        go_upto_region 7 with (fail)
        refine wp_region_held_drew (S := fun W => W.cell? ⟨w3.heap.size, 0, none⟩ = some (.slice pa n1 pc) ∧ W.cell? ⟨w3.heap.size, 1, none⟩ = some (.slice ka n2 kc)) (by kernel_rfl) ⟨HC0.out, HC1.out⟩ (fun hHeld => ?_)
        refine wpAnyH_take (i := 0) (v := ?_) rfl (by kernel_rfl) (by kernel_rfl) (by kernel_rfl) (fun _ _ _ h => h) (Or.inl ⟨by rfl, ?_⟩) (by assumption) ?_
        rotate_left
        · intro W hS
          try dsimp only at hS
          go_simp
          try with_reducible rfl
        simp only [List.getElem_toArray, List.getElem_cons_zero, Act.put, List.setIfInBounds_toArray, List.set_cons_zero, List.set_cons_succ]
        refine wpAnyH_take (i := 1) (v := ?_) rfl (by kernel_rfl) (by kernel_rfl) (by kernel_rfl) (fun _ _ _ h => h) (Or.inl ⟨by rfl, ?_⟩) (by assumption) ?_
        rotate_left
        · intro W hS
          try dsimp only at hS
          go_simp
          try with_reducible rfl
        simp only [List.getElem_toArray, List.getElem_cons_succ, List.getElem_cons_zero, Act.put, List.setIfInBounds_toArray, List.set_cons_zero, List.set_cons_succ]
        refine wpAnyH_take (i := 2) (v := ?_) rfl (by kernel_rfl) (by kernel_rfl) (by kernel_rfl) (fun _ _ _ h => h) (Or.inl ⟨by rfl, ?_⟩) (by assumption) ?_
        rotate_left
        · intro W hS
          try dsimp only at hS
          go_simp
          try with_reducible rfl
        simp only [List.getElem_toArray, List.getElem_cons_succ, List.getElem_cons_zero, Act.put, List.setIfInBounds_toArray, List.set_cons_zero, List.set_cons_succ]
        refine wpAnyH_take (i := 3) (v := ?_) rfl (by kernel_rfl) (by kernel_rfl) (by kernel_rfl) (fun _ _ _ h => h) (Or.inl ⟨by rfl, ?_⟩) (by assumption) ?_
        rotate_left
        · intro W hS
          try dsimp only at hS
          go_simp
          try with_reducible rfl
        simp only [List.getElem_toArray, List.getElem_cons_succ, List.getElem_cons_zero, Act.put, List.setIfInBounds_toArray, List.set_cons_zero, List.set_cons_succ]
        refine wpAnyH_take (i := 4) (v := ?_) rfl (by kernel_rfl) (by kernel_rfl) (by kernel_rfl) (fun _ _ _ h => h) (Or.inl ⟨by rfl, ?_⟩) (by assumption) ?_
        rotate_left
        · intro W hS
          try dsimp only at hS
          go_simp
          try with_reducible rfl
        simp only [List.getElem_toArray, List.getElem_cons_succ, List.getElem_cons_zero, Act.put, List.setIfInBounds_toArray, List.set_cons_zero, List.set_cons_succ]
        refine wpAnyH_take (i := 5) (v := ?_) rfl (by kernel_rfl) (by kernel_rfl) (by kernel_rfl) (fun _ _ _ h => h) (Or.inl ⟨by rfl, ?_⟩) (by assumption) ?_
        rotate_left
        · intro W hS
          try dsimp only at hS
          go_simp
          try with_reducible rfl
        simp only [List.getElem_toArray, List.getElem_cons_succ, List.getElem_cons_zero, Act.put, List.setIfInBounds_toArray, List.set_cons_zero, List.set_cons_succ]
        refine wpAnyH_take (i := 6) (v := ?_) rfl (by kernel_rfl) (by kernel_rfl) (by kernel_rfl) (fun _ _ _ h => h) (Or.inl ⟨by rfl, ?_⟩) (by assumption) ?_
        rotate_left
        · intro W hS
          try dsimp only at hS
          go_simp
          try with_reducible rfl
        simp only [List.getElem_toArray, List.getElem_cons_succ, List.getElem_cons_zero, Act.put, List.setIfInBounds_toArray, List.set_cons_zero, List.set_cons_succ]
        refine wpAnyH_take (i := 7) (v := ?_) rfl (by kernel_rfl) (by kernel_rfl) (by kernel_rfl) (fun _ _ _ h => h) (Or.inl ⟨by rfl, ?_⟩) (by assumption) ?_
        rotate_left
        · intro W hS
          try dsimp only at hS
          go_simp
          try with_reducible rfl
        simp only [List.getElem_toArray, List.getElem_cons_succ, List.getElem_cons_zero, Act.put, List.setIfInBounds_toArray, List.set_cons_zero, List.set_cons_succ]
        refine wpAnyH_take (i := 9) (v := ?_) rfl (by kernel_rfl) (by kernel_rfl) (by kernel_rfl) (fun _ _ _ h => h) (Or.inl ⟨by rfl, ?_⟩) (by assumption) ?_
        rotate_left
        · intro W hS
          try dsimp only at hS
          go_simp
          try with_reducible rfl
        simp only [List.getElem_toArray, List.getElem_cons_succ, List.getElem_cons_zero, Act.put, List.setIfInBounds_toArray, List.set_cons_zero, List.set_cons_succ]
        refine wpAnyH_take (i := 10) (v := ?_) rfl (by kernel_rfl) (by kernel_rfl) (by kernel_rfl) (fun _ _ _ h => h) (Or.inl ⟨by rfl, ?_⟩) (by assumption) ?_
        rotate_left
        · intro W hS
          try dsimp only at hS
          go_simp
          try with_reducible rfl
        simp only [List.getElem_toArray, List.getElem_cons_succ, List.getElem_cons_zero, Act.put, List.setIfInBounds_toArray, List.set_cons_zero, List.set_cons_succ]
        refine wpAnyH_take (i := 11) (v := ?_) rfl (by kernel_rfl) (by kernel_rfl) (by kernel_rfl) (fun _ _ _ h => h) (Or.inl ⟨by rfl, ?_⟩) (by assumption) ?_
        rotate_left
        · intro W hS
          try dsimp only at hS
          go_simp
          try with_reducible rfl
        simp only [List.getElem_toArray, List.getElem_cons_succ, List.getElem_cons_zero, Act.put, List.setIfInBounds_toArray, List.set_cons_zero, List.set_cons_succ]
        refine wpAnyH_take (i := 12) (v := ?_) rfl (by kernel_rfl) (by kernel_rfl) (by kernel_rfl) (fun _ _ _ h => h) (Or.inl ⟨by rfl, ?_⟩) (by assumption) ?_
        rotate_left
        · intro W hS
          try dsimp only at hS
          go_simp
          try with_reducible rfl
        simp only [List.getElem_toArray, List.getElem_cons_succ, List.getElem_cons_zero, Act.put, List.setIfInBounds_toArray, List.set_cons_zero, List.set_cons_succ]
        refine wpAnyH_take (i := 13) (v := ?_) rfl (by kernel_rfl) (by kernel_rfl) (by kernel_rfl) (fun _ _ _ h => h) (Or.inl ⟨by rfl, ?_⟩) (by assumption) ?_
        rotate_left
        · intro W hS
          try dsimp only at hS
          go_simp
          try with_reducible rfl
        simp only [List.getElem_toArray, List.getElem_cons_succ, List.getElem_cons_zero, Act.put, List.setIfInBounds_toArray, List.set_cons_zero, List.set_cons_succ]
        refine wpAnyH_ready (rs := [8]) (by kernel_rfl) (by simp) ?_
        refine AllReadyH.cons rfl (fun K hK => ?_) AllReadyH.nil
        go_simp
        obtain ⟨W6, hW6⟩ : ∃ W6, (w5.alloc (.cells #[.slice pa n1 pc, .slice ka n2 kc] 38)).drew = W6 := ⟨_, rfl⟩
        have hb6 : Below w5.heap.size w5 W6 := by rw [← hW6]; exact ((Below.refl w5.heap.size w5).alloc (Nat.le_refl _) _).drew
        have HR6 : Hid (RlsIn ((w5.alloc (.cells #[.slice pa n1 pc, .slice ka n2 kc] 38)).drew) Any (.slice (some ⟨w5.heap.size, 0, none⟩) 1 1) [y]) := Lib.hid (rls_made (W := w5.drew) ((HPV.out.below HB35.out).below (Below.refl _ _).drew) ((HKV.out.below HB35.out).below (Below.refl _ _).drew))
        rw [hW6] at HR6
        have HRU := Lib.hid (rules_calls HR6.out (HONE.out.below hb6))
        have HB6 := Lib.hid (below_then HB5.out hb6)
        have hc0 := (hb6.cell (lt_of_cell HC0.out)).trans HC0.out
        have hc1 := (hb6.cell (lt_of_cell HC1.out)).trans HC1.out
        have HC06 := Lib.hid hc0
        have HC16 := Lib.hid hc1
        try rw [hW6]
        clear hW6 hb6
        refine hK.out _ _ ⟨hc0, hc1⟩ (fun hHeld => ?_)
        clear hK K hc0 hc1
        try simp only [List.getElem_toArray, List.getElem_cons_succ, List.getElem_cons_zero, Act.put, List.setIfInBounds_toArray, List.set_cons_zero, List.set_cons_succ]
        refine wpAnyH_ready (rs := [14]) (by kernel_rfl) (by simp) ?_
        refine AllReadyH.cons rfl (fun K hK => ?_) AllReadyH.nil
        go_simp
        with_reducible refine HRU.out.mono ?_
        rintro e w7 ⟨rfl, hb7⟩
        have HB7 := Lib.hid (below_then HB6.out hb7)
        have hc0 := (hb7.cell (lt_of_cell HC06.out)).trans HC06.out
        have hc1 := (hb7.cell (lt_of_cell HC16.out)).trans HC16.out
        clear hb7 HRU
        refine hK.out _ _ ⟨hc0, hc1⟩ (fun hHeld => ?_)
        clear hK K
        try simp only [List.getElem_toArray, List.getElem_cons_succ, List.getElem_cons_zero, Act.put, List.setIfInBounds_toArray, List.set_cons_zero, List.set_cons_succ]
        refine wpAnyH_take (i := 15) (v := ?_) rfl (by kernel_rfl) (by kernel_rfl) (by kernel_rfl) (fun _ _ _ h => h) (Or.inl ⟨by rfl, ?_⟩) (by assumption) ?_
        rotate_left
        · intro W hS
          try dsimp only at hS
          go_simp
          try with_reducible rfl
        simp only [List.getElem_toArray, List.getElem_cons_succ, List.getElem_cons_zero, Act.put, List.setIfInBounds_toArray, List.set_cons_zero, List.set_cons_succ]
        refine wpAnyH_take (i := 16) (v := ?_) rfl (by kernel_rfl) (by kernel_rfl) (by kernel_rfl) (fun _ _ _ h => h) (Or.inl ⟨by rfl, ?_⟩) (by assumption) ?_
        rotate_left
        · intro W hS
          try dsimp only at hS
          go_simp
          try with_reducible rfl
        simp only [List.getElem_toArray, List.getElem_cons_succ, List.getElem_cons_zero, Act.put, List.setIfInBounds_toArray, List.set_cons_zero, List.set_cons_succ]
        refine wpAnyH_take (i := 17) (v := ?_) rfl (by kernel_rfl) (by kernel_rfl) (by kernel_rfl) (fun _ _ _ h => h) (Or.inl ⟨by rfl, ?_⟩) (by assumption) ?_
        rotate_left
        · intro W hS
          try dsimp only at hS
          go_simp
          try with_reducible rfl
        simp only [List.getElem_toArray, List.getElem_cons_succ, List.getElem_cons_zero, Act.put, List.setIfInBounds_toArray, List.set_cons_zero, List.set_cons_succ]
        refine wpAnyH_done (by kernel_rfl) ?_ _
        go_wp2_with fail
        with_reducible refine (HMA.out w7 HB7.out).mono ?_
        rintro e w1a ⟨rfl, hbx⟩
        have HB1a := Lib.hid (below_then HB7.out hbx)
        clear hbx
        go_wp2_with fail
        with_reducible refine (HMB.out w1a HB1a.out).mono ?_
        rintro e w1b ⟨rfl, hbx⟩
        have HB1b := Lib.hid (below_then HB1a.out hbx)
        clear hbx
        go_wp2_with fail
        with_reducible refine (HTA.out w1b HB1b.out).mono ?_
        rintro e w1c ⟨rfl, hbx⟩
        have HB1c := Lib.hid (below_then HB1b.out hbx)
        clear hbx
        go_wp2_with fail
        with_reducible refine (HTB.out w1c HB1c.out).mono ?_
        rintro e w1d ⟨rfl, hbx⟩
        have HB1d := Lib.hid (below_then HB1c.out hbx)
        clear hbx
        go_wp2_with fail
        with_reducible refine (HFA.out w1d HB1d.out).mono ?_
        rintro e w1f ⟨rfl, hbx⟩
        have HB1f := Lib.hid (below_then HB1d.out hbx)
        clear hbx
        go_wp2_with fail
        with_reducible refine (HFB.out w1f HB1f.out).mono ?_
        rintro e w1g ⟨rfl, hbx⟩
        have HB1g := Lib.hid (below_then HB1f.out hbx)
        clear hbx
        go_wp2
        go_ret
        exact ⟨rfl, HB1g.out⟩
      · rw [h1, h4]
        have hge : decide ((-1 : Int) ≥ 0) = false := rfl
        clear h1 h4
        go_upto_region 7 with (fail)
        refine wp_region_held_drew (S := fun W => W.cell? ⟨w3.heap.size, 0, none⟩ = some (.slice pa n1 pc) ∧ W.cell? ⟨w3.heap.size, 1, none⟩ = some (.slice ka n2 kc)) (by kernel_rfl) ⟨HC0.out, HC1.out⟩ (fun hHeld => ?_)
        refine wpAnyH_take (i := 0) (v := ?_) rfl (by kernel_rfl) (by kernel_rfl) (by kernel_rfl) (fun _ _ _ h => h) (Or.inl ⟨by rfl, ?_⟩) (by assumption) ?_
        rotate_left
        · intro W hS
          try dsimp only at hS
          go_simp
          try with_reducible rfl
        simp only [List.getElem_toArray, List.getElem_cons_zero, Act.put, List.setIfInBounds_toArray, List.set_cons_zero, List.set_cons_succ]
        refine wpAnyH_take (i := 1) (v := ?_) rfl (by kernel_rfl) (by kernel_rfl) (by kernel_rfl) (fun _ _ _ h => h) (Or.inl ⟨by rfl, ?_⟩) (by assumption) ?_
        rotate_left
        · intro W hS
          try dsimp only at hS
          go_simp
          try with_reducible rfl
        simp only [List.getElem_toArray, List.getElem_cons_succ, List.getElem_cons_zero, Act.put, List.setIfInBounds_toArray, List.set_cons_zero, List.set_cons_succ]
        refine wpAnyH_take (i := 2) (v := ?_) rfl (by kernel_rfl) (by kernel_rfl) (by kernel_rfl) (fun _ _ _ h => h) (Or.inl ⟨by rfl, ?_⟩) (by assumption) ?_
        rotate_left
        · intro W hS
          try dsimp only at hS
          go_simp
          try with_reducible rfl
        simp only [List.getElem_toArray, List.getElem_cons_succ, List.getElem_cons_zero, Act.put, List.setIfInBounds_toArray, List.set_cons_zero, List.set_cons_succ]
        refine wpAnyH_take (i := 3) (v := ?_) rfl (by kernel_rfl) (by kernel_rfl) (by kernel_rfl) (fun _ _ _ h => h) (Or.inl ⟨by rfl, ?_⟩) (by assumption) ?_
        rotate_left
        · intro W hS
          try dsimp only at hS
          go_simp
          try with_reducible rfl
        simp only [List.getElem_toArray, List.getElem_cons_succ, List.getElem_cons_zero, Act.put, List.setIfInBounds_toArray, List.set_cons_zero, List.set_cons_succ]
        refine wpAnyH_take (i := 4) (v := ?_) rfl (by kernel_rfl) (by kernel_rfl) (by kernel_rfl) (fun _ _ _ h => h) (Or.inl ⟨by rfl, ?_⟩) (by assumption) ?_
        rotate_left
        · intro W hS
          try dsimp only at hS
          go_simp
          try with_reducible rfl
        simp only [List.getElem_toArray, List.getElem_cons_succ, List.getElem_cons_zero, Act.put, List.setIfInBounds_toArray, List.set_cons_zero, List.set_cons_succ]
        refine wpAnyH_take (i := 5) (v := ?_) rfl (by kernel_rfl) (by kernel_rfl) (by kernel_rfl) (fun _ _ _ h => h) (Or.inl ⟨by rfl, ?_⟩) (by assumption) ?_
        rotate_left
        · intro W hS
          try dsimp only at hS
          go_simp
          try with_reducible rfl
        simp only [List.getElem_toArray, List.getElem_cons_succ, List.getElem_cons_zero, Act.put, List.setIfInBounds_toArray, List.set_cons_zero, List.set_cons_succ]
        refine wpAnyH_take (i := 6) (v := ?_) rfl (by kernel_rfl) (by kernel_rfl) (by kernel_rfl) (fun _ _ _ h => h) (Or.inl ⟨by rfl, ?_⟩) (by assumption) ?_
        rotate_left
        · intro W hS
          try dsimp only at hS
          go_simp
          try with_reducible rfl
        simp only [List.getElem_toArray, List.getElem_cons_succ, List.getElem_cons_zero, Act.put, List.setIfInBounds_toArray, List.set_cons_zero, List.set_cons_succ]
        refine wpAnyH_take (i := 7) (v := undef) rfl (by kernel_rfl) (by kernel_rfl) (by kernel_rfl) (fun _ _ _ h => h) (Or.inr ⟨by rfl, rfl⟩) (by assumption) ?_
        simp only [List.getElem_toArray, List.getElem_cons_succ, List.getElem_cons_zero, Act.put, List.setIfInBounds_toArray, List.set_cons_zero, List.set_cons_succ]
        refine wpAnyH_take (i := 8) (v := undef) rfl (by kernel_rfl) (by kernel_rfl) (by kernel_rfl) (fun _ _ _ h => h) (Or.inr ⟨by rfl, rfl⟩) (by assumption) ?_
        simp only [List.getElem_toArray, List.getElem_cons_succ, List.getElem_cons_zero, Act.put, List.setIfInBounds_toArray, List.set_cons_zero, List.set_cons_succ]
        refine wpAnyH_take (i := 9) (v := undef) rfl (by kernel_rfl) (by kernel_rfl) (by kernel_rfl) (fun _ _ _ h => h) (Or.inr ⟨by rfl, rfl⟩) (by assumption) ?_
        simp only [List.getElem_toArray, List.getElem_cons_succ, List.getElem_cons_zero, Act.put, List.setIfInBounds_toArray, List.set_cons_zero, List.set_cons_succ]
        refine wpAnyH_take (i := 10) (v := undef) rfl (by kernel_rfl) (by kernel_rfl) (by kernel_rfl) (fun _ _ _ h => h) (Or.inr ⟨by rfl, rfl⟩) (by assumption) ?_
        simp only [List.getElem_toArray, List.getElem_cons_succ, List.getElem_cons_zero, Act.put, List.setIfInBounds_toArray, List.set_cons_zero, List.set_cons_succ]
        refine wpAnyH_take (i := 11) (v := undef) rfl (by kernel_rfl) (by kernel_rfl) (by kernel_rfl) (fun _ _ _ h => h) (Or.inr ⟨by rfl, rfl⟩) (by assumption) ?_
        simp only [List.getElem_toArray, List.getElem_cons_succ, List.getElem_cons_zero, Act.put, List.setIfInBounds_toArray, List.set_cons_zero, List.set_cons_succ]
        refine wpAnyH_take (i := 12) (v := undef) rfl (by kernel_rfl) (by kernel_rfl) (by kernel_rfl) (fun _ _ _ h => h) (Or.inr ⟨by rfl, rfl⟩) (by assumption) ?_
        simp only [List.getElem_toArray, List.getElem_cons_succ, List.getElem_cons_zero, Act.put, List.setIfInBounds_toArray, List.set_cons_zero, List.set_cons_succ]
        refine wpAnyH_take (i := 13) (v := undef) rfl (by kernel_rfl) (by kernel_rfl) (by kernel_rfl) (fun _ _ _ h => h) (Or.inr ⟨by rfl, rfl⟩) (by assumption) ?_
        simp only [List.getElem_toArray, List.getElem_cons_succ, List.getElem_cons_zero, Act.put, List.setIfInBounds_toArray, List.set_cons_zero, List.set_cons_succ]
        refine wpAnyH_take (i := 14) (v := undef) rfl (by kernel_rfl) (by kernel_rfl) (by kernel_rfl) (fun _ _ _ h => h) (Or.inr ⟨by rfl, rfl⟩) (by assumption) ?_
        simp only [List.getElem_toArray, List.getElem_cons_succ, List.getElem_cons_zero, Act.put, List.setIfInBounds_toArray, List.set_cons_zero, List.set_cons_succ]
        refine wpAnyH_take (i := 15) (v := undef) rfl (by kernel_rfl) (by kernel_rfl) (by kernel_rfl) (fun _ _ _ h => h) (Or.inr ⟨by rfl, rfl⟩) (by assumption) ?_
        simp only [List.getElem_toArray, List.getElem_cons_succ, List.getElem_cons_zero, Act.put, List.setIfInBounds_toArray, List.set_cons_zero, List.set_cons_succ]
        refine wpAnyH_take (i := 16) (v := ?_) rfl (by kernel_rfl) (by kernel_rfl) (by kernel_rfl) (fun _ _ _ h => h) (Or.inl ⟨by rfl, ?_⟩) (by assumption) ?_
        rotate_left
        · intro W hS
          try dsimp only at hS
          go_simp
          try with_reducible rfl
        simp only [List.getElem_toArray, List.getElem_cons_succ, List.getElem_cons_zero, Act.put, List.setIfInBounds_toArray, List.set_cons_zero, List.set_cons_succ]
        refine wpAnyH_take (i := 17) (v := ?_) rfl (by kernel_rfl) (by kernel_rfl) (by kernel_rfl) (fun _ _ _ h => h) (Or.inl ⟨by rfl, ?_⟩) (by assumption) ?_
        rotate_left
        · intro W hS
          try dsimp only at hS
          go_simp
          try with_reducible rfl
        simp only [List.getElem_toArray, List.getElem_cons_succ, List.getElem_cons_zero, Act.put, List.setIfInBounds_toArray, List.set_cons_zero, List.set_cons_succ]
        refine wpAnyH_done (by kernel_rfl) ?_ _
        have HB7 : Hid (Below w.heap.size w w5.drew) := Lib.hid HB5.out.drew
        go_wp2_with fail
        with_reducible refine (HMA.out w5.drew HB7.out).mono ?_
        rintro e w1a ⟨rfl, hbx⟩
        have HB1a := Lib.hid (below_then HB7.out hbx)
        clear hbx
        go_wp2_with fail
        with_reducible refine (HMB.out w1a HB1a.out).mono ?_
        rintro e w1b ⟨rfl, hbx⟩
        have HB1b := Lib.hid (below_then HB1a.out hbx)
        clear hbx
        go_wp2_with fail
        with_reducible refine (HTA.out w1b HB1b.out).mono ?_
        rintro e w1c ⟨rfl, hbx⟩
        have HB1c := Lib.hid (below_then HB1b.out hbx)
        clear hbx
        go_wp2_with fail
        with_reducible refine (HTB.out w1c HB1c.out).mono ?_
        rintro e w1d ⟨rfl, hbx⟩
        have HB1d := Lib.hid (below_then HB1c.out hbx)
        clear hbx
        go_wp2_with fail
        with_reducible refine (HFA.out w1d HB1d.out).mono ?_
        rintro e w1f ⟨rfl, hbx⟩
        have HB1f := Lib.hid (below_then HB1d.out hbx)
        clear hbx
        go_wp2_with fail
        with_reducible refine (HFB.out w1f HB1f.out).mono ?_
        rintro e w1g ⟨rfl, hbx⟩
        have HB1g := Lib.hid (below_then HB1f.out hbx)
        clear hbx
        go_wp2
        go_ret
        exact ⟨rfl, HB1g.out⟩

end Go.Proofs.YtojpjhfafbdpcaaGreatDoor
