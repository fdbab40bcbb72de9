/-
  What of a segment's records is found again: the file behind each operation, behind Append, behind the power's going; what Open tells of it. Of no program. No condition.
-/
import Derived.Test.YtjhiekijbcjohaaGreatDoorPureS
namespace Go.Proofs.YtjhiekijbcjohaaGreatDoor

theorem fnd_upd {n : ByteArray} {h : Fil → Fil} (hh : ∀ f, (h f).name = f.name) : ∀ {L : List Fil} {f : Fil}, fnd n L = some f → fnd n (upd n h L) = some (h f)
  | [], _, hf => by cases hf
  | g :: L, f, hf => by
    by_cases hg : g.name = n
    · have e : g = f := by simpa [fnd, List.find?_cons, hg] using hf
      subst e
      simp [fnd, upd, hg, hh]
    · have h1 : fnd n L = some f := by simpa [fnd, List.find?_cons, hg] using hf
      have h2 := fnd_upd (h := h) hh h1
      simpa [fnd, upd, List.find?_cons, hg] using h2
theorem fnd_crs {n : ByteArray} (ts : List Int) : ∀ (i : Nat) {L : List Fil} {f : Fil}, fnd n L = some f → f.safe ≤ f.data.length → ∃ k, fnd n (crs ts i L) = some ⟨f.name, f.data.take k, k⟩ ∧ f.safe ≤ k ∧ k ≤ f.data.length
  | _, [], _, hf, _ => by cases hf
  | i, g :: L, f, hf, hs => by
    by_cases hg : g.name = n
    · have e : g = f := by simpa [fnd, List.find?_cons, hg] using hf
      subst e
      refine ⟨g.safe + (match ts[i]? with | some t => wth t (g.data.length - g.safe) | none => 0), (by unfold fnd crs; simp only [List.find?_cons, hg, decide_true]; rfl), Nat.le_add_right _ _, ?_⟩
      split
      · have := wth_le ‹Int› (g.data.length - g.safe)
        omega
      · omega
    · have h1 : fnd n L = some f := by simpa [fnd, List.find?_cons, hg] using hf
      obtain ⟨k, h2, h3⟩ := fnd_crs ts (i + 1) h1 hs
      refine ⟨k, ?_, h3⟩
      simpa [fnd, crs, List.find?_cons, hg] using h2

theorem tro_tld {l : List Tro} {i : Int} {t : Tro} (h : tro l i = some t) : tld t.kind ≠ 0 := by
  have h1 := List.find?_some h
  unfold hits at h1
  simp only [Bool.and_eq_true, decide_eq_true_eq] at h1
  obtain ⟨⟨_, h2⟩, h3⟩ := h1
  unfold tld
  rcases (show t.kind = 1 ∨ t.kind = 2 ∨ t.kind = 3 by omega) with h | h | h <;> rw [h] <;> decide

/-- The file behind an Append of the disk's. -/
theorem stepA {d : Dsk} {n : Int} {b : List Nat} {f : Fil} (hf : fnd (nameB n) d.L = some f) :
    ∃ t, t <+: b ∧ fnd (nameB n) (step d (opA n b)).2.L = some ⟨f.name, f.data ++ t, f.safe⟩ ∧ ((step d (opA n b)).1 = 0 → t = b) := by
  have h0 : ∀ f : Fil, (⟨f.name, f.data ++ [], f.safe⟩ : Fil) = f := fun f => by rw [List.append_nil]
  unfold step
  split
  · exact ⟨[], List.nil_prefix, by rw [h0]; exact hf, fun h => absurd h (show ¬ ((45 : Int) = 0) by decide)⟩
  · split
    · next hr => exact ⟨[], List.nil_prefix, by rw [h0]; exact hf, fun h => absurd h hr⟩
    · split
      · exact ⟨b, List.prefix_rfl, fnd_upd (h := addB b) (fun _ => rfl) hf, fun _ => rfl⟩
      · next t ht => exact ⟨b.take (wth t.part b.length), List.take_prefix _ _, fnd_upd (h := addB (b.take (wth t.part b.length))) (fun _ => rfl) hf, fun h => absurd h (tro_tld ht)⟩
/-- .. behind a Sync. -/
theorem stepS {d : Dsk} {n : Int} {f : Fil} (hf : fnd (nameB n) d.L = some f) :
    ((step d (opS n)).1 = 0 ∧ fnd (nameB n) (step d (opS n)).2.L = some ⟨f.name, f.data, f.data.length⟩) ∨ ((step d (opS n)).1 ≠ 0 ∧ fnd (nameB n) (step d (opS n)).2.L = some f) := by
  unfold step
  split
  · exact .inr ⟨show (45 : Int) ≠ 0 by decide, hf⟩
  · split
    · next hr => exact .inr ⟨hr, hf⟩
    · split
      · exact .inl ⟨rfl, fnd_upd (h := synB) (fun _ => rfl) hf⟩
      · next t ht => exact .inr ⟨tro_tld ht, hf⟩
/-- .. behind a Cut. -/
theorem stepK {d : Dsk} {n : Int} {k : Nat} {f : Fil} (hf : fnd (nameB n) d.L = some f) :
    ((step d (opK n k)).1 = 0 ∧ fnd (nameB n) (step d (opK n k)).2.L = some ⟨f.name, f.data.take k, min f.safe k⟩) ∨ ((step d (opK n k)).1 ≠ 0 ∧ fnd (nameB n) (step d (opK n k)).2.L = some f) := by
  unfold step
  split
  · exact .inr ⟨show (45 : Int) ≠ 0 by decide, hf⟩
  · split
    · next hr => exact .inr ⟨hr, hf⟩
    · split
      · exact .inl ⟨rfl, fnd_upd (h := cutB k) (fun _ => rfl) hf⟩
      · next t ht => exact .inr ⟨tro_tld ht, hf⟩

/-- The file behind write. -/
theorem write_file {d : Dsk} {n : Int} {z : Nat} {b : List Nat} {f : Fil} (hf : fnd (nameB n) d.L = some f) (hs : f.safe = f.data.length) (hz : z = f.data.length) (hz0 : z ≠ 0) :
    ∃ f' t, fnd (nameB n) (writeB d n z b).2.2.L = some f' ∧ f'.data = f.data ++ t ∧ t <+: b ∧ f.data.length ≤ f'.safe ∧ f'.safe ≤ f'.data.length ∧
      ((writeB d n z b).1 = 0 → t = b ∧ f'.safe = f'.data.length) ∧ ((writeB d n z b).1 ≠ 0 → (writeB d n z b).2.1 = false → t = []) := by
  obtain ⟨t, ht, hf1, hok⟩ := stepA (b := b) hf
  -- what stands there when the bytes were not laid, or not made safe
  have hbad : ∀ d1 : Dsk, fnd (nameB n) d1.L = some ⟨f.name, f.data ++ t, f.safe⟩ → ∃ f' t', fnd (nameB n) (undoB d1 n z).2.L = some f' ∧ f'.data = f.data ++ t' ∧ t' <+: b ∧ f.data.length ≤ f'.safe ∧ f'.safe ≤ f'.data.length ∧ ((undoB d1 n z).1 = 0 → t' = []) := by
    intro d1 h1
    unfold undoB
    rw [if_neg hz0]
    rcases stepK (k := z) h1 with ⟨h2, h3⟩ | ⟨h2, h3⟩
    · refine ⟨_, [], h3, ?_, List.nil_prefix, ?_, ?_, fun _ => rfl⟩
      · show (f.data ++ t).take z = f.data ++ []
        rw [hz, List.take_left, List.append_nil]
      · show f.data.length ≤ min f.safe z
        omega
      · show min f.safe z ≤ ((f.data ++ t).take z).length
        rw [hz, List.take_left]
        omega
    · refine ⟨_, t, h3, rfl, ht, ?_, ?_, fun h => absurd h h2⟩
      · show f.data.length ≤ f.safe
        omega
      · show f.safe ≤ (f.data ++ t).length
        rw [List.length_append]
        omega
  unfold writeB
  by_cases h1 : (step d (opA n b)).1 = 0
  · have hl : laysB d n b = step (step d (opA n b)).2 (opS n) := if_pos h1
    have htb := hok h1
    subst htb
    rcases stepS hf1 with ⟨h2, h3⟩ | ⟨h2, h3⟩
    · rw [if_pos (by rw [hl]; exact h2)]
      rw [hl]
      refine ⟨_, t, h3, rfl, ht, ?_, Nat.le_refl _, fun _ => ⟨rfl, rfl⟩, fun h => absurd rfl h⟩
      show f.data.length ≤ (f.data ++ t).length
      rw [List.length_append]
      omega
    · rw [if_neg (by rw [hl]; exact h2), hl]
      obtain ⟨f', t', k1, k2, k3, k4, k5, k6⟩ := hbad _ h3
      exact ⟨f', t', k1, k2, k3, k4, k5, fun h => absurd h h2, fun _ h => k6 (by simpa using h)⟩
  · have hl : laysB d n b = step d (opA n b) := if_neg h1
    rw [if_neg (by rw [hl]; exact h1), hl]
    obtain ⟨f', t', k1, k2, k3, k4, k5, k6⟩ := hbad _ hf1
    exact ⟨f', t', k1, k2, k3, k4, k5, fun h => absurd h h1, fun _ h => k6 (by simpa using h)⟩

/-- What the segment's file holds, g being the segment, K the records that are there, M those of the append that left it sick. -/
structure Kept (d : Dsk) (n : Int) (g : Sg) (K M : List (List Nat)) : Prop where
  file : ∃ f t, fnd (nameB n) d.L = some f ∧ f.data = headB n ++ frs K ++ t ∧ t <+: frs M ∧ (headB n ++ frs K).length ≤ f.safe ∧ f.safe ≤ f.data.length ∧ (g.sick = false → t = [])
  size : g.sick = false → g.size = 12 + (frs K).length
  kept : ∀ r ∈ K, 1 ≤ r.length ∧ r.length ≤ 1048576
  may : ∀ r ∈ M, 1 ≤ r.length ∧ r.length ≤ 1048576

theorem Kept.arm {d : Dsk} {n : Int} {g : Sg} {K M : List (List Nat)} (h : Kept d n g K M) (l : List Tro) : Kept (arm l d) n g K M := ⟨h.file, h.size, h.kept, h.may⟩

/-- What Append leaves of a segment that isn't sick. -/
theorem Kept.append {d : Dsk} {n : Int} {g : Sg} {K M : List (List Nat)} (h : Kept d n g K M) (hm : mayN n = true) (hg : g.sick = false) (L : List (List Nat)) :
    ((appendB d n g L).1 = 0 → Kept (appendB d n g L).2.2 n (appendB d n g L).2.1 (K ++ L) M) ∧
    ((appendB d n g L).1 ≠ 0 → (appendB d n g L).2.1.sick = false → Kept (appendB d n g L).2.2 n (appendB d n g L).2.1 K M) ∧
    ((appendB d n g L).1 ≠ 0 → (appendB d n g L).2.1.sick = true → Kept (appendB d n g L).2.2 n (appendB d n g L).2.1 K L) := by
  obtain ⟨f, t, hf, hd, _, h1, h2, h3⟩ := h.file
  have ht := h3 hg
  subst ht
  rw [List.append_nil] at hd
  have hsz := h.size hg
  have hhl := headB_len hm
  unfold appendB
  rw [if_neg (by rw [hg]; decide)]
  split
  · refine ⟨fun h => absurd h (show ¬ ((80 : Int) = 0) by decide), fun _ _ => h, fun _ h => ?_⟩
    rw [hg] at h
    cases h
  · next hL =>
    have hok := okL_rec (L := L) (by simpa using hL)
    have hlen : f.data.length = 12 + (frs K).length := by rw [hd, List.length_append, hhl]
    have hfs : f.safe = f.data.length := by rw [← hd] at h1; omega
    obtain ⟨f', t', k1, k2, k3, k4, k5, k6, k7⟩ := write_file (b := frs L) hf hfs (z := g.size) (by rw [hsz, hlen]) (by omega)
    dsimp only
    refine ⟨fun h0 => ?_, fun h0 hs => ?_, fun h0 hs => ?_⟩
    · obtain ⟨rfl, e2⟩ := k6 h0
      rw [if_pos h0]
      refine ⟨⟨f', [], k1, ?_, List.nil_prefix, ?_, k5, fun _ => rfl⟩, fun _ => ?_, fun r hr => ?_, h.may⟩
      · rw [k2, hd, frs_app, List.append_nil, List.append_assoc]
      · rw [e2, k2, hd, frs_app, List.append_assoc]; exact Nat.le_refl _
      · show g.size + (frs L).length = _
        rw [hsz, frs_app, List.length_append, Nat.add_assoc]
      · rcases List.mem_append.1 hr with hr | hr
        · exact h.kept r hr
        · exact hok r hr
    · have e := k7 h0 hs
      subst e
      rw [if_neg h0]
      refine ⟨⟨f', [], k1, ?_, List.nil_prefix, ?_, k5, fun _ => rfl⟩, fun _ => hsz, h.kept, h.may⟩
      · rw [k2, hd]
      · rw [← hd]; exact k4
    · rw [if_neg h0]
      refine ⟨⟨f', t', k1, ?_, k3, ?_, k5, fun h => ?_⟩, fun h => ?_, h.kept, hok⟩
      · rw [k2, hd]
      · rw [← hd]; exact k4
      · rw [hs] at h; cases h
      · rw [hs] at h; cases h

/-- Some first bytes of frames: the records of the whole ones. -/
theorem all_tear : ∀ (M : List (List Nat)) (j : Nat), (∀ r ∈ M, 1 ≤ r.length ∧ r.length ≤ 1048576) → ∃ i, (allB ((frs M).take j)).1 = M.take i ∧ ((allB ((frs M).take j)).2.2 = 2 ∨ (allB ((frs M).take j)).2.2 = 3)
  | [], j, _ => ⟨0, by simp [frs, allB_nil], .inl (by simp [frs, allB_nil])⟩
  | r :: M, j, h => by
    obtain ⟨h1, h2⟩ := h r (List.mem_cons_self ..)
    have hp : putB r = frm r := by unfold putB; rw [if_pos ⟨h1, h2⟩]
    have hl := frm_len r
    rw [frs, hp]
    by_cases hj : j < 8 + r.length
    · by_cases h0 : j = 0
      · subst h0
        exact ⟨0, by rw [List.take_zero, allB_nil, List.take_zero], .inl (by rw [List.take_zero, allB_nil])⟩
      · have hs := frm_torn r (frs M) h1 h2 j (by omega) hj
        rw [allB_else (by rw [hs]; decide)]
        exact ⟨0, by rw [List.take_zero], .inr hs⟩
    · have e : (frm r ++ frs M).take j = frm r ++ (frs M).take (j - (8 + r.length)) := by
        rw [List.take_append, hl, List.take_of_length_le (by omega)]
      rw [e, allB_frm _ _ h1 h2]
      obtain ⟨i, hi, hw⟩ := all_tear M (j - (8 + r.length)) (fun x hx => h x (List.mem_cons_of_mem _ hx))
      exact ⟨i + 1, by rw [List.take_succ_cons, hi], hw⟩

theorem full_all {K : List (List Nat)} (h : ∀ r ∈ K, 1 ≤ r.length ∧ r.length ≤ 1048576) : full K = K := by
  unfold full
  rw [List.filter_eq_self]
  intro r hr
  have := (h r hr).1
  simp only [decide_eq_true_eq]
  omega

/-- Open, once the power has come again: the records that are there, and the first ones of an append that wasn't undone. -/
theorem Kept.found {d : Dsk} {n : Int} {g : Sg} {K M : List (List Nat)} (h : Kept d n g K M) (hm : mayN n = true) (ts : List Int) :
    (openB (crash ts d) n).1 = 0 ∧ ∃ i, (openB (crash ts d) n).2.2.1 = K ++ M.take i := by
  obtain ⟨f, t, hf, hd, hp, h1, h2, _⟩ := h.file
  obtain ⟨k, hk, hk1, hk2⟩ := fnd_crs ts 0 hf h2
  have hhl := headB_len hm
  obtain ⟨j, hj⟩ : ∃ j, f.data.take k = headB n ++ frs K ++ (frs M).take j := by
    refine ⟨min (k - (headB n ++ frs K).length) t.length, ?_⟩
    rw [hd, List.take_append, List.take_of_length_le (Nat.le_trans h1 hk1)]
    have e := List.prefix_iff_eq_take.1 hp
    rw [e, List.take_take]
    congr 2
    rw [← e]
  have hsm : Small K := fun r hr => (h.kept r hr).2
  obtain ⟨i, hi, hw⟩ := all_tear M j h.may
  have hall := all_frs K ((frs M).take j) hsm
  rw [full_all h.kept] at hall
  have hscan : scanB n (f.data.take k) = (K ++ M.take i, 12 + ((frs K).length + (allB ((frs M).take j)).2.1), (allB ((frs M).take j)).2.2) := by
    have hlen : 12 ≤ (f.data.take k).length := by rw [hj, List.length_append, List.length_append, hhl]; omega
    have ht : (f.data.take k).take 12 = headB n := by rw [hj, List.append_assoc, ← hhl, List.take_left]
    have hdr : (f.data.take k).drop 12 = frs K ++ (frs M).take j := by rw [hj, List.append_assoc, ← hhl, List.drop_left]
    unfold scanB
    rw [if_neg (by rw [hm, ht, List.take_of_length_le (by omega)]; simp), if_neg (by omega), hdr, hall, hi]
  have hgood := scanB_good n (f.data.take k)
  have hcr : (crash ts d).L = crs ts 0 d.L := rfl
  have hfn : fnd (nameB n) (crash ts d).L = some ⟨f.name, f.data.take k, k⟩ := hk
  -- no trouble is left, and the power is there
  have hS : ∀ (d1 : Dsk) (f1 : Fil), d1.down = false → d1.tr = [] → fnd (nameB n) d1.L = some f1 → (step d1 (opS n)).1 = 0 := by
    intro d1 f1 e1 e2 e3
    have hr : ref d1 (opS n) = 0 := by
      unfold ref
      rw [if_neg (show ¬ ((opS n).kind = 1) from (by decide : ¬ (4 = 1)))]
      show (match fnd (nameB n) d1.L with | none => (42 : Int) | some f => refF d1 (opS n) f) = 0
      rw [e3]
      rfl
    unfold step
    rw [if_neg (by rw [e1]; decide), if_neg (by rw [hr]; decide), e2]
    rfl
  have hK : ∀ (d1 : Dsk) (f1 : Fil) (z : Nat), d1.down = false → d1.tr = [] → fnd (nameB n) d1.L = some f1 → z ≤ f1.data.length → (step d1 (opK n z)).1 = 0 ∧ (step d1 (opK n z)).2.down = false ∧ (step d1 (opK n z)).2.tr = [] := by
    intro d1 f1 z e1 e2 e3 e4
    have hr : ref d1 (opK n z) = 0 := by
      unfold ref
      rw [if_neg (show ¬ ((opK n z).kind = 1) from (by decide : ¬ (3 = 1)))]
      show (match fnd (nameB n) d1.L with | none => (42 : Int) | some f => refF d1 (opK n z) f) = 0
      rw [e3]
      show (if (z : Int) < 0 ∨ (f1.data.length : Int) < (z : Int) then (80 : Int) else 0) = 0
      rw [if_neg (by omega)]
    unfold step
    rw [if_neg (by rw [e1]; decide), if_neg (by rw [hr]; decide), e2]
    exact ⟨rfl, e1, rfl⟩
  have hbeg : (beginB (crash ts d) n (scanB n (f.data.take k)).2.1 (scanB n (f.data.take k)).2.2).1 = 0 := by
    unfold beginB
    rcases hw with hw | hw
    · rw [if_pos (by rw [hscan]; exact hw)]
      exact hS _ _ rfl rfl hfn
    · rw [if_neg (by rw [hscan]; show ¬ (_ = 2); rw [hw]; decide), if_pos ⟨by rw [hscan]; exact hw, by rw [hscan]; show 0 < 12 + _; omega⟩]
      obtain ⟨k1, k2, k3⟩ := hK (crash ts d) _ (scanB n (f.data.take k)).2.1 rfl rfl hfn hgood
      rw [if_pos k1]
      rcases stepK (k := (scanB n (f.data.take k)).2.1) hfn with ⟨_, e⟩ | ⟨e, _⟩
      · exact hS _ _ k2 k3 e
      · exact absurd k1 e
  unfold openB
  rw [hfn]
  dsimp only
  rw [if_pos hbeg]
  exact ⟨rfl, i, by rw [hscan]⟩

end Go.Proofs.YtjhiekijbcjohaaGreatDoor
