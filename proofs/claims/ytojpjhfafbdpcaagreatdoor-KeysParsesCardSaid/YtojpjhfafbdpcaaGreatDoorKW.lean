/-
  Whether rules are a specification, and whether they are such as are gone through, told by the reference. Conditions: the slices lead to what they are said to; the texts are no longer than 2 to the 30 (for the first).
-/
import Derived.Test.YtojpjhfafbdpcaaGreatDoorKV
namespace Go.Proofs.YtojpjhfafbdpcaaGreatDoor
open Go.RowKit Go.Lib Go.Joins

set_option maxRecDepth 100000 in
set_option maxHeartbeats 8000000 in
theorem rmay_calls {w : World} {S : Nat → Prop} {v : Value} {l : List Rl} (hl : RlsIn w S v l) (hf : ∀ r ∈ l, RlFew r) :
    Calls Tryz.prog 18 #[v] w (Leaves (.bool (mayW l)) w) := by
  obtain ⟨a, c, rfl, hlc, hcm, _⟩ := hl.form
  have hel := empty_len l
  have hqw : mayW l = (mayGo [] l && (!l.isEmpty && decide (l.length ≤ 64))) := by
    unfold mayW
    rw [Bool.and_comm]
  rw [hqw]
  obtain ⟨Q, hQ⟩ : ∃ Q, mayGo [] l = Q := ⟨_, rfl⟩
  rw [hQ]
  have HQ := Lib.hid hQ
  obtain ⟨n, hn⟩ : ∃ n, l.length = n := ⟨_, rfl⟩
  rw [hn] at hl hlc hel ⊢
  have HR := Lib.hid hl
  have HN := Lib.hid hn
  have HF := Lib.hid hf
  have hm : n ≤ 9223372036854775807 := by unfold maxLen at hcm; omega
  have HEL : Hid ((!l.isEmpty) = decide (1 ≤ n)) := Lib.hid (by
    rw [← hel]
    by_cases h : n = 0
    · rw [decide_eq_false (by omega), h]; rfl
    · rw [decide_eq_true (by omega), beq_eq_false_iff_ne.2 (by omega)]; rfl)
  rw [HEL.out]
  clear hl hf hQ hn hcm hel hqw
  go_enter Tryz.func18, Tryz.ntmps18
  go_wp2_with fail
  go_loopg [3] n (fun gk i wr => ∃ (j : Nat), i = .int .i64 (j : Int) ∧ gk + j = n ∧ mayGo [] (l.take j) = true ∧ Below w.heap.size w wr)
  case atStart => exact ⟨0, rfl, rfl, rfl, Below.refl _ _⟩
  case round =>
    obtain ⟨j, rfl, hg, hq, hb⟩ := hrel
    have HG := Lib.hid hg
    have HM := Lib.hid hq
    have HB := Lib.hid hb
    clear hg hq hb
    by_cases hlt : j < n
    · obtain ⟨g', rfl⟩ : ∃ g', gk = g' + 1 := ⟨gk - 1, by have := HG.out; omega⟩
      have hdd : decide ((j : Int) < (n : Int)) = true := by simp; omega
      have hji : (j : Int) < (n : Int) := by omega
      have hjc : j ≤ c := by omega
      obtain ⟨x, hx⟩ : ∃ x, l[j]? = some x := ⟨l[j]'(by rw [HN.out]; exact hlt), List.getElem?_eq_getElem _⟩
      have hst := may_step hx
      have htk := may_take hx
      rw [HM.out, Bool.true_and] at hst htk
      have hfx := HF.out x (List.mem_of_getElem? hx)
      obtain ⟨b, o, pv, kv, rfl, c0, c1, hpv, hkv⟩ := (HR.out.below HB.out).at hx
      have cF0 := fun dq os => Calls.regrown_of (rrule_calls (hpv.below (below_regrown wr dq os)) (hkv.below (below_regrown wr dq os)) hfx)
      have k0 := fun dq os => cell_regrown c0 dq os
      have k1 := fun dq os => cell_regrown c1 dq os
      have hRl := (HR.out.below HB.out).take (k := j) (by omega)
      have hpvr := hpv
      have hkvr := hkv
      obtain ⟨pa, pc, rfl, _⟩ := hpv.form
      obtain ⟨ka, kc, rfl, _⟩ := hkv.form
      obtain ⟨n1, hn1⟩ : ∃ n1, x.path.length = n1 := ⟨_, rfl⟩
      obtain ⟨n2, hn2⟩ : ∃ n2, x.keys.length = n2 := ⟨_, rfl⟩
      rw [hn1] at c0 k0 cF0 hpvr
      rw [hn2] at c1 k1 cF0 hkvr
      obtain ⟨q1, hq1⟩ : ∃ q, ruleW x = q := ⟨_, rfl⟩
      rw [hq1] at cF0 hst htk
      cases q1 with
      | false =>
        have HI : Hid (Q = false) := Lib.hid (by rw [← HQ.out, hst]; rfl)
        have cF := fun dq os => cF0 dq os
        clear hx hst htk hfx hpv hkv hq1 hn1 hn2 hRl hpvr hkvr cF0 c0 c1
        go_upto_region 4 with (fail)
        refine wp_region_quiet_below (by kernel_rfl) (by kernel_rfl) ?_
        repeat (go_big_quiet_step (with_reducible exact cF _ _))
        refine wpQuiet_nil ?_
        intro _ hw'
        obtain ⟨⟨dq, osq⟩, hw''⟩ := hw'
        subst hw''
        go_wp2_with fail
        go_ret
        exact ⟨by rw [HI.out]; rfl, below_then HB.out (below_regrown wr dq osq)⟩
      | true =>
        have cS0 := fun dq os => Calls.regrown_of (placed_calls (hRl.below (below_regrown wr dq os)) (hpvr.below (below_regrown wr dq os)) (hkvr.below (below_regrown wr dq os)) (ruleW_path hq1))
        rw [Bool.true_and] at hst htk
        obtain ⟨q2, hq2⟩ : ∃ q, placedW (l.take j) x.path = q := ⟨_, rfl⟩
        rw [hq2] at cS0 hst htk
        have cF := fun dq os => cF0 dq os
        have cS := fun dq os => cS0 dq os
        have HHT := Lib.hid htk
        have HST := Lib.hid hst
        clear hx hst htk hfx hpv hkv hq1 hn1 hn2 hRl hpvr hkvr cF0 cS0 hq2 c0 c1
        cases q2 with
        | false =>
          have HI : Hid (Q = false) := Lib.hid (by rw [← HQ.out, HST.out]; rfl)
          go_upto_region 4 with (fail)
          refine wp_region_quiet_below (by kernel_rfl) (by kernel_rfl) ?_
          repeat (go_big_quiet_step (first | with_reducible exact cF _ _ | with_reducible exact cS _ _))
          refine wpQuiet_nil ?_
          intro _ hw'
          obtain ⟨⟨dq, osq⟩, hw''⟩ := hw'
          subst hw''
          go_wp2_with fail
          go_ret
          exact ⟨by rw [HI.out]; rfl, below_then HB.out (below_regrown wr dq osq)⟩
        | true =>
          go_upto_region 4 with (fail)
          refine wp_region_quiet_below (by kernel_rfl) (by kernel_rfl) ?_
          repeat (go_big_quiet_step (first | with_reducible exact cF _ _ | with_reducible exact cS _ _))
          refine wpQuiet_nil ?_
          intro _ hw'
          obtain ⟨⟨dq, osq⟩, hw''⟩ := hw'
          subst hw''
          go_wp2_with fail
          go_roundg g'
          case measure => omega
          case rel => exact ⟨j + 1, by go_num, by have := HG.out; omega, HHT.out, below_then HB.out (below_regrown wr dq osq)⟩
    · have hdd : decide ((j : Int) < (n : Int)) = false := by simp; omega
      have HI : Hid (Q = true) := Lib.hid (by
        have h1 := HM.out
        rw [List.take_of_length_le (by have := HN.out; omega)] at h1
        rw [← HQ.out, h1])
      by_cases h1 : 1 ≤ n
      · have e1 : decide ((n : Int) ≥ 1) = true := by simp; omega
        have e1n : decide (1 ≤ n) = true := decide_eq_true h1
        by_cases h2 : n ≤ 64
        · have e2 : decide ((n : Int) ≤ 64) = true := by simp; omega
          have HF2 : Hid ((Q && (decide (1 ≤ n) && decide (n ≤ 64))) = true) := Lib.hid (by rw [HI.out, e1n, decide_eq_true h2]; rfl)
          go_wp2
          go_ret
          exact ⟨by rw [HF2.out]; rfl, HB.out⟩
        · have e2 : decide ((n : Int) ≤ 64) = false := by simp; omega
          have HF2 : Hid ((Q && (decide (1 ≤ n) && decide (n ≤ 64))) = false) := Lib.hid (by rw [HI.out, e1n, decide_eq_false h2]; rfl)
          go_wp2
          go_ret
          exact ⟨by rw [HF2.out]; rfl, HB.out⟩
      · have e1 : decide ((n : Int) ≥ 1) = false := by simp; omega
        have HF2 : Hid ((Q && (decide (1 ≤ n) && decide (n ≤ 64))) = false) := Lib.hid (by rw [HI.out, decide_eq_false h1]; rfl)
        go_wp2
        go_ret
        exact ⟨by rw [HF2.out]; rfl, HB.out⟩

/-! ### such as are gone through -/
def tally (n : Nat) : List (List UInt8) → Nat
  | [] => n
  | x :: t => if n < 3000 then tally (n + x.length) t else n
def smallGo (n : Nat) : List Rl → Bool
  | [] => true
  | r :: t => if 3000 ≤ tally (tally (n + 1 + r.path.length + r.keys.length) r.path) r.keys then false else smallGo (tally (tally (n + 1 + r.path.length + r.keys.length) r.path) r.keys) t
theorem tally_ge : ∀ (l : List (List UInt8)) (n : Nat), n ≤ tally n l
  | [], n => Nat.le_refl n
  | x :: t, n => by
    rw [tally]
    split
    · have := tally_ge t (n + x.length)
      omega
    · exact Nat.le_refl n
theorem tally_sum : ∀ (l : List (List UInt8)) (n : Nat), tally n l < 3000 → tally n l = n + (l.map List.length).sum
  | [], n, _ => by simp [tally]
  | x :: t, n, h => by
    rw [tally] at h ⊢
    split at h
    · rename_i h1
      rw [if_pos h1, tally_sum t _ h, List.map_cons, List.sum_cons]
      omega
    · omega
def weighR (r : Rl) : Nat := 1 + r.path.length + r.keys.length + (r.path.map List.length).sum + (r.keys.map List.length).sum
theorem small_sum : ∀ (l : List Rl) (n : Nat), smallGo n l = true → l = [] ∨ n + (l.map weighR).sum < 3000
  | [], n, _ => .inl rfl
  | r :: t, n, h => by
    rw [smallGo] at h
    split at h
    · cases h
    · rename_i h1
      right
      have h2 : tally (tally (n + 1 + r.path.length + r.keys.length) r.path) r.keys < 3000 := by omega
      have h3 := tally_sum _ _ h2
      have h4 : tally (n + 1 + r.path.length + r.keys.length) r.path < 3000 := by
        have := tally_ge r.keys (tally (n + 1 + r.path.length + r.keys.length) r.path)
        omega
      have h5 := tally_sum _ _ h4
      rcases small_sum t _ h with h6 | h6
      · subst h6
        rw [List.map_cons, List.sum_cons, List.map_nil, List.sum_nil]
        unfold weighR
        omega
      · rw [List.map_cons, List.sum_cons]
        unfold weighR at h6 ⊢
        omega
theorem weigh_mem {l : List Rl} {r : Rl} (h : r ∈ l) : weighR r ≤ (l.map weighR).sum := by
  induction l with
  | nil => cases h
  | cons x t ih =>
    rw [List.map_cons, List.sum_cons]
    rcases List.mem_cons.1 h with rfl | h
    · omega
    · have := ih h
      omega
theorem weigh_len (l : List Rl) : l.length ≤ (l.map weighR).sum := by
  induction l with
  | nil => exact Nat.le_refl _
  | cons x t ih =>
    rw [List.map_cons, List.sum_cons, List.length_cons]
    unfold weighR at ih ⊢
    omega
theorem small_few {l : List Rl} (h : smallGo 0 l = true) : (∀ r ∈ l, RlFew r) ∧ l.length < 3000 ∧ (l.map weighR).sum < 3000 := by
  rcases small_sum l 0 h with h1 | h1
  · subst h1
    exact ⟨(fun r hr => by cases hr), by decide, by decide⟩
  · refine ⟨fun r hr => ?_, by have := weigh_len l; omega, by omega⟩
    have h2 := weigh_mem hr
    have h3 : weighR r = 1 + r.path.length + r.keys.length + (r.path.map List.length).sum + (r.keys.map List.length).sum := rfl
    exact ⟨fun x hx => by have := sum_mem hx; omega, fun x hx => by have := sum_mem hx; omega⟩

theorem tally_le : ∀ (l : List (List UInt8)) (n B : Nat), (∀ x ∈ l, x.length ≤ B) → tally n l ≤ n + 3000 + B
  | [], n, B, _ => by rw [tally]; omega
  | x :: t, n, B, h => by
    have hx := h x (List.mem_cons_self ..)
    have ht := fun y hy => h y (List.mem_cons_of_mem _ hy)
    rw [tally]
    split
    · rename_i h1
      by_cases h2 : n + x.length < 3000
      · have : ∀ (l : List (List UInt8)) (m : Nat), m < 3000 → (∀ y ∈ l, y.length ≤ B) → tally m l ≤ 3000 + B := by
          intro l
          induction l with
          | nil => intro m hm _; rw [tally]; omega
          | cons y u ih =>
            intro m hm hy
            have h3 := hy y (List.mem_cons_self ..)
            rw [tally, if_pos hm]
            by_cases h4 : m + y.length < 3000
            · exact ih _ h4 (fun z hz => hy z (List.mem_cons_of_mem _ hz))
            · cases u with
              | nil => rw [tally]; omega
              | cons z v => rw [tally, if_neg h4]; omega
        have := this t (n + x.length) h2 ht
        omega
      · cases t with
        | nil => rw [tally]; omega
        | cons y u => rw [tally, if_neg h2]; omega
    · omega
/-- A rule whose slices and texts are shorter than 2 to the 60. -/
def RlBig (r : Rl) : Prop := r.path.length ≤ 1152921504606846976 ∧ r.keys.length ≤ 1152921504606846976 ∧ (∀ x ∈ r.path, x.length ≤ 1152921504606846976) ∧ (∀ x ∈ r.keys, x.length ≤ 1152921504606846976)
theorem tally_step {ps : List (List UInt8)} {k n : Nat} {x : List UInt8} (hx : ps[k]? = some x) (h : n < 3000) : tally n (ps.drop k) = tally (n + x.length) (ps.drop (k + 1)) := by
  obtain ⟨hlt, rfl⟩ := List.getElem?_eq_some_iff.1 hx
  rw [List.drop_eq_getElem_cons hlt, tally, if_pos h]
theorem tally_full {ps : List (List UInt8)} {n : Nat} (h : ¬ n < 3000) : tally n ps = n := by
  cases ps with
  | nil => rfl
  | cons x t => rw [tally, if_neg h]

set_option maxRecDepth 100000 in
set_option maxHeartbeats 8000000 in
theorem small_calls {w : World} {S : Nat → Prop} {v : Value} {l : List Rl} (hl : RlsIn w S v l) (hf : ∀ r ∈ l, RlBig r) :
    Calls Tryz.prog 15 #[v] w (Leaves (.bool (smallGo 0 l)) w) := by
  obtain ⟨a, c, rfl, hlc, hcm, _⟩ := hl.form
  obtain ⟨Q, hQ⟩ : ∃ Q, smallGo 0 l = Q := ⟨_, rfl⟩
  rw [hQ]
  obtain ⟨n, hn⟩ : ∃ n, l.length = n := ⟨_, rfl⟩
  rw [hn] at hl hlc ⊢
  have HQ : Hid (Q = smallGo 0 (l.drop 0)) := Lib.hid hQ.symm
  have HR := Lib.hid hl
  have HN := Lib.hid hn
  have HF := Lib.hid hf
  have hm : n ≤ 9223372036854775807 := by unfold maxLen at hcm; omega
  clear hl hf hQ hn hcm
  go_enter Tryz.func15, Tryz.ntmps15
  go_wp2_with fail
  go_loopg [3, 4] n (fun gk s i wr => ∃ (j t : Nat), s = .int .i64 (t : Int) ∧ i = .int .i64 (j : Int) ∧ gk + j = n ∧ t < 3000 ∧ Q = smallGo t (l.drop j) ∧ Below w.heap.size w wr)
  case atStart => exact ⟨0, 0, rfl, rfl, rfl, by decide, HQ.out, Below.refl _ _⟩
  case round =>
    obtain ⟨j, t, rfl, rfl, hg, ht, hq, hb⟩ := hrel
    have HG := Lib.hid hg
    have HQ2 := Lib.hid hq
    have HB := Lib.hid hb
    clear hg hq hb HQ
    by_cases hlt : j < n
    · obtain ⟨g', rfl⟩ : ∃ g', gk = g' + 1 := ⟨gk - 1, by have := HG.out; omega⟩
      have hdd : decide ((j : Int) < (n : Int)) = true := by simp; omega
      have hji : (j : Int) < (n : Int) := by omega
      obtain ⟨x, hx⟩ : ∃ x, l[j]? = some x := ⟨l[j]'(by rw [HN.out]; exact hlt), List.getElem?_eq_getElem _⟩
      have hst : smallGo t (l.drop j) = (if 3000 ≤ tally (tally (t + 1 + x.path.length + x.keys.length) x.path) x.keys then false else smallGo (tally (tally (t + 1 + x.path.length + x.keys.length) x.path) x.keys) (l.drop (j + 1))) := by
        obtain ⟨h1, h2⟩ := List.getElem?_eq_some_iff.1 hx
        rw [List.drop_eq_getElem_cons h1, smallGo, h2]
      have HST : Hid (Q = _) := Lib.hid (HQ2.out.trans hst)
      obtain ⟨F1, F2, F3, F4⟩ := HF.out x (List.mem_of_getElem? hx)
      obtain ⟨b, o, pv, kv, hab, c0, c1, hpv, hkv⟩ := (HR.out.below HB.out).at hx
      subst hab
      obtain ⟨pa, pc, rfl, hpl, hpm, _⟩ := hpv.form
      obtain ⟨ka, kc, rfl, hkl, hkm, _⟩ := hkv.form
      obtain ⟨ps, ks⟩ := x
      dsimp only at HST F1 F2 F3 F4 c0 c1 hpv hkv hpl hkl
      obtain ⟨n1, hn1⟩ : ∃ n1, ps.length = n1 := ⟨_, rfl⟩
      obtain ⟨n2, hn2⟩ : ∃ n2, ks.length = n2 := ⟨_, rfl⟩
      rw [hn1] at HST F1 c0 hpv hpl
      rw [hn2] at HST F2 c1 hkv hkl
      have HPV := Lib.hid hpv
      have HKV := Lib.hid hkv
      have HF3 := Lib.hid F3
      have HF4 := Lib.hid F4
      have HN1 := Lib.hid hn1
      have HN2 := Lib.hid hn2
      have k0 := fun dq os => cell_regrown c0 dq os
      have k1 := fun dq os => cell_regrown c1 dq os
      have s1 : IntKind.i64.wrap ((t : Int) + 1) = (t : Int) + 1 := IntWalk.i64_in _ (by omega)
      have s2 : IntKind.i64.wrap ((t : Int) + 1 + (n1 : Int)) = (t : Int) + 1 + (n1 : Int) := IntWalk.i64_in _ (by omega)
      have s3 : IntKind.i64.wrap ((t : Int) + 1 + (n1 : Int) + (n2 : Int)) = (t : Int) + 1 + (n1 : Int) + (n2 : Int) := IntWalk.i64_in _ (by omega)
      clear hx hst HQ2 hpv hkv F3 F4 hn1 hn2
      go_upto_region 5 with (fail)
      refine wp_region_quiet_below (by kernel_rfl) (by kernel_rfl) ?_
      repeat (go_big_quiet_step (fail))
      refine wpQuiet_nil ?_
      intro _ hw'
      obtain ⟨⟨dq, osq⟩, hw''⟩ := hw'
      subst hw''
      --CUT
      obtain ⟨W2, hW2⟩ : ∃ W2, Go.Sort.grow (redrawn wr dq) osq = W2 := ⟨_, rfl⟩
      have HBW : Hid (Below wr.heap.size wr W2) := Lib.hid (by rw [← hW2]; exact below_regrown wr dq osq)
      have d0 : W2.cell? ⟨b, o + j * 2, none⟩ = some (.slice pa n1 pc) := by rw [← hW2]; exact cell_regrown c0 dq osq
      have d1 : W2.cell? ⟨b, o + j * 2 + 1, none⟩ = some (.slice ka n2 kc) := by rw [← hW2]; exact cell_regrown c1 dq osq
      have HPV2 := Lib.hid (HPV.out.below HBW.out)
      have HKV2 := Lib.hid (HKV.out.below HBW.out)
      rw [hW2]
      obtain ⟨t1, ht1⟩ : ∃ t1, t + 1 + n1 + n2 = t1 := ⟨_, rfl⟩
      have ht1z : (t : Int) + 1 + (n1 : Int) + (n2 : Int) = (t1 : Int) := by omega
      have HT1 := Lib.hid ht1z
      have ht1b : t1 ≤ 2305843009213696953 := by omega
      rw [ht1] at HST
      clear hW2 k0 k1 c0 c1 s1 s2 s3 HPV HKV ht1 ht1z
      go_upto_block 2 with (fail)
      go_cut [3] (fun s W => s = .int .i64 ((tally t1 ps : Nat) : Int) ∧ Below W2.heap.size W2 W)
      case first =>
        go_wp2_with fail
        go_loopg [3, 5] n1 (fun gk s i W => ∃ (k u : Nat), s = .int .i64 (u : Int) ∧ i = .int .i64 (k : Int) ∧ gk + k = n1 ∧ u ≤ 4611686018427387904 ∧ tally t1 ps = tally u (ps.drop k) ∧ Below W2.heap.size W2 W)
        case atStart => exact ⟨0, t1, by rw [HT1.out], rfl, rfl, by omega, by rw [List.drop_zero], Below.refl _ _⟩
        case round =>
          obtain ⟨k, u, rfl, rfl, hg4, hu, hq4, hb4⟩ := hrel
          rename World => w4
          have HG4 := Lib.hid hg4
          have HT4 := Lib.hid hq4
          have HB4 := Lib.hid hb4
          have e0 := (hb4.cell (lt_of_cell d0)).trans d0
          clear hg4 hq4 hb4
          by_cases hkj : k < n1
          · obtain ⟨g4, rfl⟩ : ∃ g4, gk = g4 + 1 := ⟨gk - 1, by have := HG4.out; omega⟩
            have hd4 : decide ((k : Int) < (n1 : Int)) = true := by simp; omega
            have hkji : (k : Int) < (n1 : Int) := by omega
            by_cases hu3 : u < 3000
            · have hd5 : decide ((u : Int) < 3000) = true := by simp; omega
              obtain ⟨y, hy⟩ : ∃ y, ps[k]? = some y := ⟨ps[k]'(by rw [HN1.out]; exact hkj), List.getElem?_eq_getElem _⟩
              have hyl := HF3.out y (List.mem_of_getElem? hy)
              have HT5 : Hid (tally t1 ps = tally (u + y.length) (ps.drop (k + 1))) := Lib.hid (HT4.out.trans (tally_step hy hu3))
              obtain ⟨b5, o5, hb5, c5⟩ := (HPV2.out.below HB4.out).at hy
              subst hb5
              have hyz := strB_size y
              obtain ⟨z, hz⟩ : ∃ z, strB y = z := ⟨_, rfl⟩
              obtain ⟨yl, hyl2⟩ : ∃ yl, y.length = yl := ⟨_, rfl⟩
              rw [hz, hyl2] at hyz
              rw [hz] at c5
              rw [hyl2] at HT5 hyl
              have s5 : IntKind.i64.wrap ((u : Int) + (z.size : Int)) = (u : Int) + (z.size : Int) := IntWalk.i64_in _ (by omega)
              have HYZ := Lib.hid hyz
              have hzs : (z.size : Int) ≤ 1152921504606846976 := by omega
              clear hy hz hyl hyl2 hyz HT4
              go_wp2_with fail
              go_roundg g4
              case measure => omega
              case rel => exact ⟨k + 1, u + yl, by rw [← HYZ.out]; go_num, by go_num, by have := HG4.out; omega, by have := HYZ.out; omega, HT5.out, HB4.out⟩
            · have hd5 : decide ((u : Int) < 3000) = false := by simp; omega
              have HT5 : Hid (tally t1 ps = u) := Lib.hid (HT4.out.trans (tally_full hu3))
              clear HT4
              go_wp2_with fail
              go_meet
              exact ⟨by rw [HT5.out], HB4.out⟩
          · have hd4 : decide ((k : Int) < (n1 : Int)) = false := by simp; omega
            have HT5 : Hid (tally t1 ps = u) := Lib.hid (by
              rw [HT4.out, List.drop_eq_nil_of_le (by have := HN1.out; omega), tally])
            clear HT4
            go_wp2_with fail
            go_meet
            exact ⟨by rw [HT5.out], HB4.out⟩
      case rest =>
      obtain ⟨rfl, hb6⟩ := hcut
      rename World => w6
      have HB6 := Lib.hid hb6
      have d2 := (hb6.cell (lt_of_cell d0)).trans d0
      have d3 := (hb6.cell (lt_of_cell d1)).trans d1
      have HKV6 := Lib.hid (HKV2.out.below hb6)
      obtain ⟨t2, ht2⟩ : ∃ t2, tally t1 ps = t2 := ⟨_, rfl⟩
      rw [ht2] at HST ⊢
      have ht2b : t2 ≤ 4611686018427387904 := by rw [← ht2]; have := tally_le ps t1 1152921504606846976 HF3.out; omega
      clear hb6 ht2 d0 d1 HT1
      go_upto_block 4 with (fail)
      go_cut [3] (fun s W => s = .int .i64 ((tally t2 ks : Nat) : Int) ∧ Below w6.heap.size w6 W)
      case first =>
        go_wp2_with fail
        go_loopg [3, 6] n2 (fun gk s i W => ∃ (k u : Nat), s = .int .i64 (u : Int) ∧ i = .int .i64 (k : Int) ∧ gk + k = n2 ∧ u ≤ 4611686018427387904 ∧ tally t2 ks = tally u (ks.drop k) ∧ Below w6.heap.size w6 W)
        case atStart => exact ⟨0, t2, rfl, rfl, rfl, by omega, by rw [List.drop_zero], Below.refl _ _⟩
        case round =>
          obtain ⟨k, u, rfl, rfl, hg4, hu, hq4, hb4⟩ := hrel
          rename World => w4
          have HG4 := Lib.hid hg4
          have HT4 := Lib.hid hq4
          have HB4 := Lib.hid hb4
          have e0 := (hb4.cell (lt_of_cell d3)).trans d3
          clear hg4 hq4 hb4
          by_cases hkj : k < n2
          · obtain ⟨g4, rfl⟩ : ∃ g4, gk = g4 + 1 := ⟨gk - 1, by have := HG4.out; omega⟩
            have hd4 : decide ((k : Int) < (n2 : Int)) = true := by simp; omega
            have hkji : (k : Int) < (n2 : Int) := by omega
            by_cases hu3 : u < 3000
            · have hd5 : decide ((u : Int) < 3000) = true := by simp; omega
              obtain ⟨y, hy⟩ : ∃ y, ks[k]? = some y := ⟨ks[k]'(by rw [HN2.out]; exact hkj), List.getElem?_eq_getElem _⟩
              have hyl := HF4.out y (List.mem_of_getElem? hy)
              have HT5 : Hid (tally t2 ks = tally (u + y.length) (ks.drop (k + 1))) := Lib.hid (HT4.out.trans (tally_step hy hu3))
              obtain ⟨b5, o5, hb5, c5⟩ := (HKV6.out.below HB4.out).at hy
              subst hb5
              have hyz := strB_size y
              obtain ⟨z, hz⟩ : ∃ z, strB y = z := ⟨_, rfl⟩
              obtain ⟨yl, hyl2⟩ : ∃ yl, y.length = yl := ⟨_, rfl⟩
              rw [hz, hyl2] at hyz
              rw [hz] at c5
              rw [hyl2] at HT5 hyl
              have s5 : IntKind.i64.wrap ((u : Int) + (z.size : Int)) = (u : Int) + (z.size : Int) := IntWalk.i64_in _ (by omega)
              have HYZ := Lib.hid hyz
              have hzs : (z.size : Int) ≤ 1152921504606846976 := by omega
              clear hy hz hyl hyl2 hyz HT4
              go_wp2_with fail
              go_roundg g4
              case measure => omega
              case rel => exact ⟨k + 1, u + yl, by rw [← HYZ.out]; go_num, by go_num, by have := HG4.out; omega, by have := HYZ.out; omega, HT5.out, HB4.out⟩
            · have hd5 : decide ((u : Int) < 3000) = false := by simp; omega
              have HT5 : Hid (tally t2 ks = u) := Lib.hid (HT4.out.trans (tally_full hu3))
              clear HT4
              go_wp2_with fail
              go_meet
              exact ⟨by rw [HT5.out], HB4.out⟩
          · have hd4 : decide ((k : Int) < (n2 : Int)) = false := by simp; omega
            have HT5 : Hid (tally t2 ks = u) := Lib.hid (by
              rw [HT4.out, List.drop_eq_nil_of_le (by have := HN2.out; omega), tally])
            clear HT4
            go_wp2_with fail
            go_meet
            exact ⟨by rw [HT5.out], HB4.out⟩
      case rest =>
      obtain ⟨rfl, hb7⟩ := hcut
      rename World => w7
      have HB7 := Lib.hid (below_then HB.out (below_then HBW.out (below_then HB6.out hb7)))
      obtain ⟨t3, ht3⟩ : ∃ t3, tally t2 ks = t3 := ⟨_, rfl⟩
      rw [ht3] at HST ⊢
      clear hb7 ht3
      by_cases h3 : 3000 ≤ t3
      · have e3 : decide ((t3 : Int) ≥ 3000) = true := by simp; omega
        have HI : Hid (Q = false) := Lib.hid (by rw [HST.out, if_pos h3])
        go_wp2
        go_ret
        exact ⟨by rw [HI.out]; rfl, HB7.out⟩
      · have e3 : decide ((t3 : Int) ≥ 3000) = false := by simp; omega
        have HI : Hid (Q = smallGo t3 (l.drop (j + 1))) := Lib.hid (by rw [HST.out, if_neg h3])
        go_wp2
        go_roundg g'
        case measure => omega
        case rel => exact ⟨j + 1, t3, rfl, by go_num, by have := HG.out; omega, by omega, HI.out, HB7.out⟩
    · have hdd : decide ((j : Int) < (n : Int)) = false := by simp; omega
      have HI : Hid (Q = true) := Lib.hid (by rw [HQ2.out, List.drop_eq_nil_of_le (by have := HN.out; omega), smallGo])
      go_wp2
      go_ret
      exact ⟨by rw [HI.out]; rfl, HB.out⟩

end Go.Proofs.YtojpjhfafbdpcaaGreatDoor
