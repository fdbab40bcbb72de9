/-
  The reference's Count and Depth. Condition: the tree lies in memory, and has no more than 2 to the 20 nodes.
-/
import Derived.Test.YtfonflbpkbibbaaGreatDoorXDp
namespace Go.Proofs.YtfonflbpkbibbaaGreatDoor
open Go.RowKit Go.Lib Go.Joins

theorem kidPs_at (b : Nat) : ∀ o n i, i < n → (kidPs b o n)[i]? = some ⟨b, o + i * 5, none⟩
  | _, 0, _, h => by omega
  | o, n + 1, 0, _ => rfl
  | o, n + 1, i + 1, h => by
    rw [kidPs, List.getElem?_cons_succ, kidPs_at b (o + 5) n i (by omega), show o + 5 + i * 5 = o + (i + 1) * 5 by omega]
theorem cntL_take {l : List Tr} {i : Nat} {t : Tr} (h : l[i]? = some t) : cntL (l.take (i + 1)) = cntL (l.take i) + t.count := by
  rw [List.take_add_one, h]
  show cntL (l.take i ++ [t]) = _
  rw [cntL_app, cntL_one]
theorem cntL_le {l : List Tr} (i : Nat) : cntL (l.take i) ≤ cntL l := by
  have h := cntL_app (l.take i) (l.drop i)
  rw [List.take_append_drop] at h
  omega
theorem depL_take {l : List Tr} {i : Nat} {t : Tr} (h : l[i]? = some t) : depL (l.take (i + 1)) = max (depL (l.take i)) t.depth := by
  rw [List.take_add_one, h]
  show depL (l.take i ++ [t]) = _
  rw [depL_app, depL_one]
theorem count_pos (t : Tr) : 1 ≤ t.count := by
  obtain ⟨z0, z1, z2, z3, z4⟩ := t
  rw [count_mk]; omega
theorem cnt_mem {l : List Tr} {i : Nat} {t : Tr} (h : l[i]? = some t) : t.count ≤ cntL l := by
  have h1 := cntL_take h
  have h2 := cntL_le (l := l) (i + 1)
  omega
set_option maxRecDepth 100000 in
set_option maxHeartbeats 4000000 in
theorem rcount_calls : ∀ (m : Nat) {w : World} {r : Nr} {t : Tr}, NodeIn w Any r t → t.count ≤ m → m ≤ 1000000 → Calls Tryz.prog 14 #[nodeV r] w (Leaves (.int .i64 (t.count : Int)) w)
  | 0, _, _, t, _, h0, _ => by have := count_pos t; omega
  | m + 1, w, r, t, h, hm, hmm => by
    obtain ⟨k, n, x, av, kv⟩ := r
    obtain ⟨sn, hsn⟩ : ∃ s, strB n = s := ⟨_, rfl⟩
    obtain ⟨st, hst⟩ : ∃ s, strB x = s := ⟨_, rfl⟩
    obtain ⟨w0, hw0⟩ : ∃ W, w.alloc (.cells #[.int .i64 k, .string sn, .string st, av, kv] 27) = W := ⟨_, rfl⟩
    have hb0 : Below w.heap.size w w0 := by rw [← hw0]; exact (Below.refl _ _).alloc (Nat.le_refl _) _
    have hbk : w0.heap[w.heap.size]? = some (.cells #[.int .i64 k, .string sn, .string st, av, kv] 27 (0, 0)) := by rw [← hw0]; exact heap_alloc_new w _
    obtain ⟨hk, hn, hx, ⟨xa, xc, hxa, _⟩, rows, hri, hni⟩ := h.kids
    dsimp only at hk hn hx hxa hri
    obtain ⟨ka, kc, hkv, hkc, hkm, hkp⟩ := kids_form hri hni
    obtain ⟨q0, na, hna, q1, nk, hnk⟩ : ∃ _ na, t.attrs.length = na ∧ ∃ _ nk, t.kids.length = nk := ⟨trivial, _, rfl, trivial, _, rfl⟩
    rw [hna] at hxa
    rw [hnk] at hkv hkp hkc
    subst hxa
    subst hkv
    obtain ⟨b2, o2, hk1, hk2⟩ : ∃ b2 o2, (nk = 0 ∨ ka = some ⟨b2, o2, none⟩) ∧ PtrsIn w0 Any (kidPs b2 o2 nk) t.kids := by
      rcases hkp with h0 | ⟨b2, o2, h1, h2⟩
      · exact ⟨0, 0, .inl (by rw [← hnk, h0]; rfl), by rw [h0] at hnk ⊢; rw [← hnk]; exact trivial⟩
      · exact ⟨b2, o2, .inr h1, h2.keep (keeps_below hb0 Non) (fun _ _ h => h) (fun _ h => h)⟩
    have HBK := Lib.hid hbk
    have HB0 := Lib.hid hb0
    have HW0 := Lib.hid hw0
    have HK1 := Lib.hid hk1
    have HK2 := Lib.hid hk2
    have HNK := Lib.hid hnk
    have HNA := Lib.hid hna
    have HKK := Lib.hid hk
    have HCT : Hid (t.count = 1 + na + cntL t.kids) := Lib.hid (by
      obtain ⟨z0, z1, z2, z3, z4⟩ := t
      rw [← hna]
      exact count_mk ..)
    have HNL : Hid (nk ≤ cntL t.kids) := Lib.hid (by rw [← hnk]; exact cntL_len _)
    unfold nodeV
    dsimp only
    rw [hsn, hst]
    have HIH : Hid (∀ {W : World} {r2 : Nr} {t2 : Tr}, NodeIn W Any r2 t2 → t2.count ≤ m → Calls Tryz.prog 14 #[nodeV r2] W (Leaves (.int .i64 (t2.count : Int)) W)) := Lib.hid (fun h1 h2 => rcount_calls m h1 h2 (by omega))
    obtain ⟨T, hT⟩ : ∃ T, t.count = T := ⟨_, rfl⟩
    rw [hT] at hm ⊢
    have HT := Lib.hid hT
    have HM : Hid (T ≤ m + 1 ∧ T ≤ 1000000) := Lib.hid ⟨hm, by omega⟩
    clear hT hm hmm
    clear h hbk hsn hst hb0 hw0 hk hn hx hri hni hkc hkm hkp hk1 hk2 hnk hna q0 q1
    have hadd0 : IntKind.i64.wrap (1 + (na : Int)) = ((1 + na : Nat) : Int) := by
      rw [show 1 + (na : Int) = ((1 + na : Nat) : Int) by omega]
      exact IntWalk.i64_in _ (by have h1 := HM.out; have h2 := HCT.out; have h3 := HT.out; omega)
    go_enter Tryz.func14, Tryz.ntmps14
    go_wp2_with fail
    go_loopg [3, 4] nk (fun g s3 s4 wr => ∃ i : Nat, i + g = nk ∧ s4 = .int .i64 (i : Int) ∧ s3 = .int .i64 ((1 + na + cntL (t.kids.take i) : Nat) : Int) ∧ Below w0.heap.size w0 wr)
    case atStart => exact ⟨0, by omega, rfl, congrArg (Value.int .i64) (show (1 : Int) + (na : Int) = ((1 + na + cntL [] : Nat) : Int) by rw [cntL]; omega), by rw [HW0.out]; exact Below.refl _ _⟩
    case round =>
      obtain ⟨i, hig, rfl, rfl, hb⟩ := hrel
      have HB := Lib.hid hb
      clear hb
      have hbk2 := block_keep HBK.out (keeps_below HB.out Non) (fun h => h)
      have z4 := (cell_of_block hbk2 4).trans rfl
      clear hbk2
      cases gk with
      | zero =>
        obtain rfl : i = nk := by omega
        have hge : ¬ (i < i) := by omega
        have HF : Hid (1 + na + cntL (t.kids.take i) = T) := Lib.hid (by rw [List.take_of_length_le (by have := HNK.out; omega), ← HCT.out, HT.out])
        rw [HF.out]
        go_wp2_with fail
        go_ret
        exact ⟨rfl, HB0.out.trans (HB.out.mono HB0.out.size)⟩
      | succ g =>
        have hlt : i < nk := by omega
        have hltI : (i : Int) < (nk : Int) := by omega
        have hi0 : (0 : Int) ≤ (i : Int) := by omega
        obtain ⟨t2, ht2, b3, o3, r2, hp2, _, hnr2, hnd2⟩ := HK2.out.at (kidPs_at b2 o2 nk i (by omega))
        obtain ⟨rfl, rfl⟩ : b2 = b3 ∧ o2 + i * 5 = o3 := by injection hp2 with h1 h2; exact ⟨h1, h2⟩
        obtain ⟨y0, y1, y2, y3, y4⟩ := hnr2.keep (keeps_below (HB.out) Non) (fun h => h)
        have hnd3 := hnd2.keep (keeps_below (HB.out) Non) (fun _ _ h => h) (fun _ h => h)
        obtain ⟨k2, n2, x2, av2, kv2⟩ := r2
        dsimp only at y0 y1 y2 y3 y4
        obtain rfl : ka = some ⟨b2, o2, none⟩ := by
          rcases HK1.out with h1 | h1
          · omega
          · exact h1
        have HC2 := Lib.hid (HIH.out hnd3 (by have h1 := cnt_mem ht2; have h2 := HM.out; have h3 := HCT.out; have h4 := HT.out; omega))
        unfold nodeV at HC2
        dsimp only at HC2
        obtain ⟨sn2, hsn2⟩ : ∃ s, strB n2 = s := ⟨_, rfl⟩
        obtain ⟨st2, hst2⟩ : ∃ s, strB x2 = s := ⟨_, rfl⟩
        rw [hsn2] at y1 HC2
        rw [hst2] at y2 HC2
        obtain ⟨c1, hc1⟩ : ∃ z, 1 + na + cntL (t.kids.take i) = z := ⟨_, rfl⟩
        obtain ⟨c2, hc2⟩ : ∃ z, t2.count = z := ⟨_, rfl⟩
        rw [hc2] at HC2
        rw [hc1]
        have HN2 : Hid (1 + na + cntL (t.kids.take (i + 1)) = c1 + c2) := Lib.hid (by rw [cntL_take ht2, ← hc1, hc2]; omega)
        have HLE : Hid (c1 + c2 ≤ 1000000 ∧ nk ≤ 1000000) := Lib.hid (by
          have h1 := HN2.out
          have h2 := cntL_le (l := t.kids) (i + 1)
          have h3 := HM.out
          have h4 := HCT.out
          have h5 := HT.out
          have h6 := HNL.out
          omega)
        have hadd1 : IntKind.i64.wrap ((c1 : Int) + (c2 : Int)) = (c1 : Int) + (c2 : Int) := IntWalk.i64_in _ (by have := HLE.out; omega)
        have hadd : IntKind.i64.wrap ((i : Int) + 1) = (i : Int) + 1 := IntWalk.i64_in _ (by have := HLE.out; omega)
        clear hp2 hnr2 hnd2 hnd3 ht2 hsn2 hst2 hc1 hc2
        go_wp2_with fail
        with_reducible refine HC2.out.mono ?_
        rintro e w2 ⟨rfl, hb2⟩
        have HB2 := Lib.hid (HB.out.trans (hb2.mono HB.out.size))
        clear hb2 HC2
        go_wp2_with fail
        go_roundg g
        case measure => omega
        case rel => exact ⟨i + 1, by omega, rfl, congrArg (Value.int .i64) (by rw [HN2.out]; omega), HB2.out⟩

end Go.Proofs.YtfonflbpkbibbaaGreatDoor
