/-
 The reference's Depth. Condition: the tree lies in memory, and has no more than 2 to the 20 nodes.
-/
import Derived.Test.YtocnedpclllbhaaGreatDoorXDp
import Derived.Test.YtocnedpclllbhaaGreatDoorXTo
namespace Go.Proofs.YtocnedpclllbhaaGreatDoor
open Go.RowKit Go.Lib Go.Joins

theorem kidPs_at (b : Nat) : ∀ o n i, i < n → (kidPs b o n)[i]? = some ⟨b, o + i * 5, none⟩
  | _, 0, _, h => by omega
  | o, n + 1, 0, _ => rfl
  | o, n + 1, i + 1, h => by
    rw [kidPs, List.getElem?_cons_succ, kidPs_at b (o + 5) n i (by omega), show o + 5 + i * 5 = o + (i + 1) * 5 by omega]
theorem cntL_take {l : List Tr} {i : Nat} {t : Tr} (h : l[i]? = some t) : cntL (l.take (i + 1)) = cntL (l.take i) + t.count := by
  rw [List.take_add_one, h]
  show cntL (l.take i ++ [t]) = _
  rw [cntL_app, cntL_one]
theorem cntL_le {l : List Tr} (i : Nat) : cntL (l.take i) ≤ cntL l := by
  have h := cntL_app (l.take i) (l.drop i)
  rw [List.take_append_drop] at h
  omega
theorem count_pos (t : Tr) : 1 ≤ t.count := by
  obtain ⟨z0, z1, z2, z3, z4⟩ := t
  rw [count_mk]; omega
theorem cnt_mem {l : List Tr} {i : Nat} {t : Tr} (h : l[i]? = some t) : t.count ≤ cntL l := by
  have h1 := cntL_take h
  have h2 := cntL_le (l := l) (i + 1)
  omega
set_option maxRecDepth 100000 in
set_option maxHeartbeats 4000000 in
theorem rcount_calls : ∀ (m : Nat) {w : World} {r : Nr} {t : Tr}, NodeIn w Any r t → t.count ≤ m → m ≤ 1000000 → Calls Tryz.prog 21 #[nodeV r] w (Leaves (.int .i64 (t.count : Int)) w)
  | 0, _, _, t, _, h0, _ => by have := count_pos t; omega
  | m + 1, w, r, t, h, hm, hmm => by
    obtain ⟨k, n, x, av, kv⟩ := r
    obtain ⟨sn, hsn⟩ : ∃ s, strB n = s := ⟨_, rfl⟩
    obtain ⟨st, hst⟩ : ∃ s, strB x = s := ⟨_, rfl⟩
    obtain ⟨w0, hw0⟩ : ∃ W, w.alloc (.cells #[.int .i64 k, .string sn, .string st, av, kv] 25) = W := ⟨_, rfl⟩
    have hb0 : Below w.heap.size w w0 := by rw [← hw0]; exact (Below.refl _ _).alloc (Nat.le_refl _) _
    have hbk : w0.heap[w.heap.size]? = some (.cells #[.int .i64 k, .string sn, .string st, av, kv] 25 (0, 0)) := by rw [← hw0]; exact heap_alloc_new w _
    obtain ⟨hk, hn, hx, ⟨xa, xc, hxa, _⟩, rows, hri, hni⟩ := h.kids
    dsimp only at hk hn hx hxa hri
    obtain ⟨ka, kc, hkv, hkc, hkm, hkp⟩ := kids_form hri hni
    obtain ⟨q0, na, hna, q1, nk, hnk⟩ : ∃ _ na, t.attrs.length = na ∧ ∃ _ nk, t.kids.length = nk := ⟨trivial, _, rfl, trivial, _, rfl⟩
    rw [hna] at hxa
    rw [hnk] at hkv hkp hkc
    subst hxa
    subst hkv
    obtain ⟨b2, o2, hk1, hk2⟩ : ∃ b2 o2, (nk = 0 ∨ ka = some ⟨b2, o2, none⟩) ∧ PtrsIn w0 Any (kidPs b2 o2 nk) t.kids := by
      rcases hkp with h0 | ⟨b2, o2, h1, h2⟩
      · exact ⟨0, 0, .inl (by rw [← hnk, h0]; rfl), by rw [h0] at hnk ⊢; rw [← hnk]; exact trivial⟩
      · exact ⟨b2, o2, .inr h1, h2.keep (keeps_below hb0 Non) (fun _ _ h => h) (fun _ h => h)⟩
    have HBK := Lib.hid hbk
    have HB0 := Lib.hid hb0
    have HW0 := Lib.hid hw0
    have HK1 := Lib.hid hk1
    have HK2 := Lib.hid hk2
    have HNK := Lib.hid hnk
    have HNA := Lib.hid hna
    have HKK := Lib.hid hk
    have HCT : Hid (t.count = 1 + na + cntL t.kids) := Lib.hid (by
      obtain ⟨z0, z1, z2, z3, z4⟩ := t
      rw [← hna]
      exact count_mk ..)
    have HNL : Hid (nk ≤ cntL t.kids) := Lib.hid (by rw [← hnk]; exact cntL_len _)
    unfold nodeV
    dsimp only
    rw [hsn, hst]
    have HIH : Hid (∀ {W : World} {r2 : Nr} {t2 : Tr}, NodeIn W Any r2 t2 → t2.count ≤ m → Calls Tryz.prog 21 #[nodeV r2] W (Leaves (.int .i64 (t2.count : Int)) W)) := Lib.hid (fun h1 h2 => rcount_calls m h1 h2 (by omega))
    obtain ⟨T, hT⟩ : ∃ T, t.count = T := ⟨_, rfl⟩
    rw [hT] at hm ⊢
    have HT := Lib.hid hT
    have HM : Hid (T ≤ m + 1 ∧ T ≤ 1000000) := Lib.hid ⟨hm, by omega⟩
    clear hT hm hmm
    clear h hbk hsn hst hb0 hw0 hk hn hx hri hni hkc hkm hkp hk1 hk2 hnk hna q0 q1
    have hadd0 : IntKind.i64.wrap (1 + (na : Int)) = ((1 + na : Nat) : Int) := by
      rw [show 1 + (na : Int) = ((1 + na : Nat) : Int) by omega]
      exact IntWalk.i64_in _ (by have h1 := HM.out; have h2 := HCT.out; have h3 := HT.out; omega)
    go_enter Tryz.func21, Tryz.ntmps21
    go_wp2_with fail
    go_loopg [3, 4] nk (fun g s3 s4 wr => ∃ i : Nat, i + g = nk ∧ s4 = .int .i64 (i : Int) ∧ s3 = .int .i64 ((1 + na + cntL (t.kids.take i) : Nat) : Int) ∧ Below w0.heap.size w0 wr)
    case atStart => exact ⟨0, by omega, rfl, congrArg (Value.int .i64) (show (1 : Int) + (na : Int) = ((1 + na + cntL [] : Nat) : Int) by rw [cntL]; omega), by rw [HW0.out]; exact Below.refl _ _⟩
    case round =>
      obtain ⟨i, hig, rfl, rfl, hb⟩ := hrel
      have HB := Lib.hid hb
      clear hb
      have hbk2 := block_keep HBK.out (keeps_below HB.out Non) (fun h => h)
      have z4 := (cell_of_block hbk2 4).trans rfl
      clear hbk2
      cases gk with
      | zero =>
        obtain rfl : i = nk := by omega
        have hge : ¬ (i < i) := by omega
        have HF : Hid (1 + na + cntL (t.kids.take i) = T) := Lib.hid (by rw [List.take_of_length_le (by have := HNK.out; omega), ← HCT.out, HT.out])
        rw [HF.out]
        go_wp2_with fail
        go_ret
        exact ⟨rfl, HB0.out.trans (HB.out.mono HB0.out.size)⟩
      | succ g =>
        have hlt : i < nk := by omega
        have hltI : (i : Int) < (nk : Int) := by omega
        have hi0 : (0 : Int) ≤ (i : Int) := by omega
        obtain ⟨t2, ht2, b3, o3, r2, hp2, _, hnr2, hnd2⟩ := HK2.out.at (kidPs_at b2 o2 nk i (by omega))
        obtain ⟨rfl, rfl⟩ : b2 = b3 ∧ o2 + i * 5 = o3 := by injection hp2 with h1 h2; exact ⟨h1, h2⟩
        obtain ⟨y0, y1, y2, y3, y4⟩ := hnr2.keep (keeps_below (HB.out) Non) (fun h => h)
        have hnd3 := hnd2.keep (keeps_below (HB.out) Non) (fun _ _ h => h) (fun _ h => h)
        obtain ⟨k2, n2, x2, av2, kv2⟩ := r2
        dsimp only at y0 y1 y2 y3 y4
        obtain rfl : ka = some ⟨b2, o2, none⟩ := by
          rcases HK1.out with h1 | h1
          · omega
          · exact h1
        have HC2 := Lib.hid (HIH.out hnd3 (by have h1 := cnt_mem ht2; have h2 := HM.out; have h3 := HCT.out; have h4 := HT.out; omega))
        unfold nodeV at HC2
        dsimp only at HC2
        obtain ⟨sn2, hsn2⟩ : ∃ s, strB n2 = s := ⟨_, rfl⟩
        obtain ⟨st2, hst2⟩ : ∃ s, strB x2 = s := ⟨_, rfl⟩
        rw [hsn2] at y1 HC2
        rw [hst2] at y2 HC2
        obtain ⟨c1, hc1⟩ : ∃ z, 1 + na + cntL (t.kids.take i) = z := ⟨_, rfl⟩
        obtain ⟨c2, hc2⟩ : ∃ z, t2.count = z := ⟨_, rfl⟩
        rw [hc2] at HC2
        rw [hc1]
        have HN2 : Hid (1 + na + cntL (t.kids.take (i + 1)) = c1 + c2) := Lib.hid (by rw [cntL_take ht2, ← hc1, hc2]; omega)
        have HLE : Hid (c1 + c2 ≤ 1000000 ∧ nk ≤ 1000000) := Lib.hid (by
          have h1 := HN2.out
          have h2 := cntL_le (l := t.kids) (i + 1)
          have h3 := HM.out
          have h4 := HCT.out
          have h5 := HT.out
          have h6 := HNL.out
          omega)
        have hadd1 : IntKind.i64.wrap ((c1 : Int) + (c2 : Int)) = (c1 : Int) + (c2 : Int) := IntWalk.i64_in _ (by have := HLE.out; omega)
        have hadd : IntKind.i64.wrap ((i : Int) + 1) = (i : Int) + 1 := IntWalk.i64_in _ (by have := HLE.out; omega)
        clear hp2 hnr2 hnd2 hnd3 ht2 hsn2 hst2 hc1 hc2
        go_wp2_with fail
        with_reducible refine HC2.out.mono ?_
        rintro e w2 ⟨rfl, hb2⟩
        have HB2 := Lib.hid (HB.out.trans (hb2.mono HB.out.size))
        clear hb2 HC2
        go_wp2_with fail
        go_roundg g
        case measure => omega
        case rel => exact ⟨i + 1, by omega, rfl, congrArg (Value.int .i64) (by rw [HN2.out]; omega), HB2.out⟩


def atSz : List (List UInt8 × List UInt8) → Nat
  | [] => 0
  | a :: l => (1 + a.1.length + a.2.length) + atSz l
mutual
def Tr.sz : Tr → Nat
  | .mk _ n x a ks => 1 + n.length + x.length + atSz a + szL ks
def szL : List Tr → Nat
  | [] => 0
  | t :: ts => t.sz + szL ts
end
theorem sz_mk (k : Int) (n x : List UInt8) (a : List (List UInt8 × List UInt8)) (ks : List Tr) : (Tr.mk k n x a ks).sz = 1 + n.length + x.length + atSz a + szL ks := by rw [Tr.sz]
theorem sz_eq (t : Tr) : t.sz = 1 + t.name.length + t.text.length + atSz t.attrs + szL t.kids := by
  obtain ⟨z0, z1, z2, z3, z4⟩ := t
  exact sz_mk ..
theorem atSz_app : ∀ l m, atSz (l ++ m) = atSz l + atSz m
  | [], m => by rw [List.nil_append, atSz]; omega
  | a :: l, m => by rw [List.cons_append, atSz, atSz, atSz_app l m]; omega
theorem szL_app : ∀ l m, szL (l ++ m) = szL l + szL m
  | [], m => by rw [List.nil_append, szL]; omega
  | a :: l, m => by rw [List.cons_append, szL, szL, szL_app l m]; omega
theorem atSz_take {l : List (List UInt8 × List UInt8)} {i : Nat} {x : List UInt8 × List UInt8} (h : l[i]? = some x) : atSz (l.take (i + 1)) = atSz (l.take i) + (1 + x.1.length + x.2.length) := by
  rw [List.take_add_one, h]
  show atSz (l.take i ++ [x]) = _
  rw [atSz_app, atSz, atSz]
  rfl
theorem szL_take {l : List Tr} {i : Nat} {x : Tr} (h : l[i]? = some x) : szL (l.take (i + 1)) = szL (l.take i) + x.sz := by
  rw [List.take_add_one, h]
  show szL (l.take i ++ [x]) = _
  rw [szL_app, szL, szL]
  rfl
theorem atSz_le {l : List (List UInt8 × List UInt8)} (i : Nat) : atSz (l.take i) ≤ atSz l := by
  have h := atSz_app (l.take i) (l.drop i)
  rw [List.take_append_drop] at h
  omega
theorem szL_le {l : List Tr} (i : Nat) : szL (l.take i) ≤ szL l := by
  have h := szL_app (l.take i) (l.drop i)
  rw [List.take_append_drop] at h
  omega
theorem atSz_len : ∀ l, l.length ≤ atSz l
  | [] => Nat.le_refl _
  | a :: l => by rw [atSz, List.length_cons]; have := atSz_len l; omega
mutual
theorem count_sz : ∀ t : Tr, t.count ≤ t.sz
  | .mk k n x a ks => by
    have h1 := cntL_szL ks
    have h2 := atSz_len a
    rw [count_mk, sz_mk]
    omega
theorem cntL_szL : ∀ l : List Tr, cntL l ≤ szL l
  | [] => by rw [cntL, szL]; exact Nat.le_refl _
  | t :: l => by
    have h1 := count_sz t
    have h2 := cntL_szL l
    rw [cntL, szL]
    omega
end
/-- What small answers. -/
def SmallOut (w : World) (most s : Nat) (e : Ending) (w' : World) : Prop := ∃ v : Nat, e = .returned (.int .i64 (v : Int)) ∧ v ≤ s ∧ (v ≤ most → v = s) ∧ Below w.heap.size w w'
set_option maxRecDepth 100000 in
set_option maxHeartbeats 8000000 in
theorem small_step {m most : Nat} (hmo : most ≤ 1000000) (hih : ∀ {W : World} {r2 : Nr} {t2 : Tr}, NodeIn W Any r2 t2 → t2.count ≤ m → t2.sz ≤ 10000000 → Calls Tryz.prog 34 #[nodeV r2, .int .i64 (most : Int)] W (SmallOut W most t2.sz)) {w : World} {r : Nr} {t : Tr} (h : NodeIn w Any r t) (hm : t.count ≤ m + 1) (hs : t.sz ≤ 10000000) : Calls Tryz.prog 34 #[nodeV r, .int .i64 (most : Int)] w (SmallOut w most t.sz) := by
  have hse := sz_eq t
  have hatt := h.kids.2.2.2.1
  obtain ⟨k, n, x, av, kv⟩ := r
  obtain ⟨sn, hsn⟩ : ∃ s, strB n = s := ⟨_, rfl⟩
  obtain ⟨st, hst⟩ : ∃ s, strB x = s := ⟨_, rfl⟩
  obtain ⟨w0, hw0⟩ : ∃ W, w.alloc (.cells #[.int .i64 k, .string sn, .string st, av, kv] 25) = W := ⟨_, rfl⟩
  have hb0 : Below w.heap.size w w0 := by rw [← hw0]; exact (Below.refl _ _).alloc (Nat.le_refl _) _
  have hbk : w0.heap[w.heap.size]? = some (.cells #[.int .i64 k, .string sn, .string st, av, kv] 25 (0, 0)) := by rw [← hw0]; exact heap_alloc_new w _
  obtain ⟨hk, hn, hx, ⟨xa, xc, hxa, _⟩, rows, hri, hni⟩ := h.kids
  dsimp only at hk hn hx hxa hri
  obtain ⟨ka, kc, hkv, hkc, hkm, hkp⟩ := kids_form hri hni
  obtain ⟨q0, na, hna, q1, nk, hnk⟩ : ∃ _ na, t.attrs.length = na ∧ ∃ _ nk, t.kids.length = nk := ⟨trivial, _, rfl, trivial, _, rfl⟩
  rw [hna] at hxa
  rw [hnk] at hkv hkp hkc
  subst hxa
  subst hkv
  obtain ⟨b2, o2, hk1, hk2⟩ : ∃ b2 o2, (nk = 0 ∨ ka = some ⟨b2, o2, none⟩) ∧ PtrsIn w0 Any (kidPs b2 o2 nk) t.kids := by
    rcases hkp with h0 | ⟨b2, o2, h1, h2⟩
    · exact ⟨0, 0, .inl (by rw [← hnk, h0]; rfl), by rw [h0] at hnk ⊢; rw [← hnk]; exact trivial⟩
    · exact ⟨b2, o2, .inr h1, h2.keep (keeps_below hb0 Non) (fun _ _ h => h) (fun _ h => h)⟩
  have HBK := Lib.hid hbk
  have HB0 := Lib.hid hb0
  have HW0 := Lib.hid hw0
  have HK1 := Lib.hid hk1
  have HK2 := Lib.hid hk2
  have HNK := Lib.hid hnk
  have HNA := Lib.hid hna
  have HKK := Lib.hid hk
  have HCT : Hid (t.count = 1 + na + cntL t.kids) := Lib.hid (by
    obtain ⟨z0, z1, z2, z3, z4⟩ := t
    rw [← hna]
    exact count_mk ..)
  have HNL : Hid (nk ≤ cntL t.kids) := Lib.hid (by rw [← hnk]; exact cntL_len _)
  unfold nodeV
  dsimp only
  rw [hsn, hst]
  have HIH : Hid (∀ {W : World} {r2 : Nr} {t2 : Tr}, NodeIn W Any r2 t2 → t2.count ≤ m → t2.sz ≤ 10000000 → Calls Tryz.prog 34 #[nodeV r2, .int .i64 (most : Int)] W (SmallOut W most t2.sz)) := Lib.hid (fun h1 h2 h3 => hih h1 h2 h3)
  have HMO := Lib.hid hmo
  have HM := Lib.hid hm
  obtain ⟨T, hT⟩ : ∃ T, t.sz = T := ⟨_, rfl⟩
  rw [hT] at hs hse ⊢
  rw [← hn, ← hx] at hse
  have hz1 : sn.size = n.length := by rw [← hsn, strB_size]
  have hz2 : st.size = x.length := by rw [← hst, strB_size]
  rw [← hz1, ← hz2] at hse
  obtain ⟨b0, hb0e⟩ : ∃ z, 1 + sn.size + st.size = z := ⟨_, rfl⟩
  rw [hb0e] at hse
  have HSE := Lib.hid hse
  have HS := Lib.hid hs
  have HB0E := Lib.hid hb0e
  have HATT : Hid (AttIn w0 Any (.slice xa na xc) t.attrs) := Lib.hid (att_below hatt hb0)
  have HSZL : Hid (atSz t.attrs ≤ T ∧ szL t.kids ≤ T ∧ na ≤ atSz t.attrs ∧ nk ≤ szL t.kids) := Lib.hid (by
    have h1 := atSz_len t.attrs
    have h2 := cntL_len t.kids
    have h3 := cntL_szL t.kids
    omega)
  clear hmo hih hm hT hs hse hatt hz1 hz2
  clear h hbk hsn hst hb0 hw0 hk hn hx hri hni hkc hkm hkp hk1 hk2 hnk hna q0 q1
  have hadd0 : IntKind.i64.wrap (1 + (sn.size : Int)) = 1 + (sn.size : Int) := IntWalk.i64_in _ (by have h1 := HSE.out; have h2 := HS.out; omega)
  have hadd1 : IntKind.i64.wrap (1 + (sn.size : Int) + (st.size : Int)) = (b0 : Int) := by
    rw [show 1 + (sn.size : Int) + (st.size : Int) = (b0 : Int) by omega]
    exact IntWalk.i64_in _ (by have h1 := HSE.out; have h2 := HS.out; omega)
  clear hb0e
  go_enter Tryz.func34, Tryz.ntmps34
  go_wp2_with fail
  go_loopg [5, 6] na (fun g s5 s6 wr => ∃ (i : Nat), i + g = na ∧ s6 = .int .i64 (i : Int) ∧ s5 = .int .i64 ((b0 + atSz (t.attrs.take i) : Nat) : Int) ∧ Below w0.heap.size w0 wr)
  case atStart => exact ⟨0, by omega, rfl, congrArg (Value.int .i64) (by rw [List.take_zero, atSz]; rfl), by rw [HW0.out]; exact Below.refl _ _⟩
  case round =>
    obtain ⟨i, hig, rfl, rfl, hb⟩ := hrel
    have HB := Lib.hid hb
    clear hb
    have hbk2 := block_keep HBK.out (keeps_below HB.out Non) (fun h => h)
    have z3 := (cell_of_block hbk2 3).trans rfl
    have z4 := (cell_of_block hbk2 4).trans rfl
    clear hbk2
    obtain ⟨c1, hc1⟩ : ∃ z, b0 + atSz (t.attrs.take i) = z := ⟨_, rfl⟩
    rw [hc1]
    have HC1 := Lib.hid hc1
    have HCL : Hid (c1 ≤ T ∧ T ≤ 10000000 ∧ na ≤ 10000000 ∧ nk ≤ 10000000) := Lib.hid (by
      have h1 := atSz_le (l := t.attrs) i
      have h2 := HSE.out
      have h3 := HS.out
      have h4 := HSZL.out
      omega)
    clear hc1
    cases gk with
    | zero =>
      obtain rfl : na = i := by omega
      have hge : ¬ (na < na) := by omega
      have HCE : Hid (c1 + szL t.kids = T) := Lib.hid (by
        rw [← HC1.out, List.take_of_length_le (by have := HNA.out; omega), HSE.out])
      go_wp2_with fail
      go_loopg [5, 7] nk (fun g s5 s7 wx => ∃ (i c : Nat), i + g = nk ∧ s7 = .int .i64 (i : Int) ∧ s5 = .int .i64 (c : Int) ∧ c ≤ c1 + szL (t.kids.take i) ∧ (c ≤ most → c = c1 + szL (t.kids.take i)) ∧ Below w0.heap.size w0 wx)
      case atStart => exact ⟨0, c1, by omega, rfl, rfl, by omega, fun _ => by rw [List.take_zero, szL]; omega, HB.out⟩
      case round =>
        obtain ⟨i, c, hig, rfl, rfl, hle, heq, hb⟩ := hrel
        have HB := Lib.hid hb
        have HLE := Lib.hid hle
        have HEQ := Lib.hid heq
        clear hb hle heq z3 z4
        have hbk2 := block_keep HBK.out (keeps_below HB.out Non) (fun h => h)
        have z3 := (cell_of_block hbk2 3).trans rfl
        have z4 := (cell_of_block hbk2 4).trans rfl
        clear hbk2
        have HFIN : Hid (most < c ∨ i = nk → c ≤ T ∧ (c ≤ most → c = T)) := Lib.hid (fun h => by
          have h1 := szL_le (l := t.kids) i
          have h2 := HCE.out
          have h3 := HLE.out
          refine ⟨by omega, fun h4 => ?_⟩
          rcases h with h | h
          · omega
          · have h5 := HEQ.out h4
            rw [List.take_of_length_le (by have := HNK.out; omega)] at h5
            omega)
        have HCB : Hid (c ≤ 10000000) := Lib.hid (by
          have h1 := szL_le (l := t.kids) i
          have h2 := HCE.out
          have h3 := HLE.out
          have h4 := HCL.out
          omega)
        cases gk with
        | zero =>
          obtain rfl : nk = i := by omega
          have hge : ¬ (nk < nk) := by omega
          go_wp2_with fail
          go_ret
          exact ⟨c, rfl, (HFIN.out (.inr trivial)).1, (HFIN.out (.inr trivial)).2, HB0.out.trans (HB.out.mono HB0.out.size)⟩
        | succ g =>
          have hlt : i < nk := by omega
          by_cases hcm : c ≤ most
          · have hltI : (i : Int) < (nk : Int) := by omega
            have hi0 : (0 : Int) ≤ (i : Int) := by omega
            obtain ⟨t2, ht2, b3, o3, r2, hp2, _, hnr2, hnd2⟩ := HK2.out.at (kidPs_at b2 o2 nk i (by omega))
            obtain ⟨rfl, rfl⟩ : b2 = b3 ∧ o2 + i * 5 = o3 := by injection hp2 with h1 h2; exact ⟨h1, h2⟩
            obtain ⟨y0, y1, y2, y3, y4⟩ := hnr2.keep (keeps_below (HB.out) Non) (fun h => h)
            have hnd3 := hnd2.keep (keeps_below (HB.out) Non) (fun _ _ h => h) (fun _ h => h)
            obtain ⟨k2, n2, x2, av2, kv2⟩ := r2
            dsimp only at y0 y1 y2 y3 y4
            obtain rfl : ka = some ⟨b2, o2, none⟩ := by
              rcases HK1.out with h1 | h1
              · omega
              · exact h1
            have HC2 := Lib.hid (HIH.out hnd3 (by have h1 := cnt_mem ht2; have h2 := HM.out; have h3 := kids_cnt t; omega) (by have h1 := szL_take ht2; have h2 := szL_le (l := t.kids) (i + 1); have h3 := HCE.out; have h4 := HCL.out; omega))
            unfold nodeV at HC2
            dsimp only at HC2
            obtain ⟨sn2, hsn2⟩ : ∃ s, strB n2 = s := ⟨_, rfl⟩
            obtain ⟨st2, hst2⟩ : ∃ s, strB x2 = s := ⟨_, rfl⟩
            rw [hsn2] at y1 HC2
            rw [hst2] at y2 HC2
            have HT2 := Lib.hid (szL_take ht2)
            have HCC := Lib.hid (HEQ.out hcm)
            have hadd : IntKind.i64.wrap ((i : Int) + 1) = (i : Int) + 1 := IntWalk.i64_in _ (by have := HCL.out; omega)
            have HHL : Hid (szL (t.kids.take (i + 1)) ≤ szL t.kids) := Lib.hid (szL_le _)
            clear hp2 hnr2 hnd2 hnd3 ht2 hsn2 hst2
            go_wp2_with fail
            with_reducible refine HC2.out.mono ?_
            rintro e w2 ⟨v2, rfl, hv1, hv2, hb2⟩
            have HB2 := Lib.hid (HB.out.trans (hb2.mono HB.out.size))
            have hadd2 : IntKind.i64.wrap ((c : Int) + (v2 : Int)) = (c : Int) + (v2 : Int) := IntWalk.i64_in _ (by have h1 := HCB.out; have h2 := HT2.out; have h3 := HHL.out; have h4 := HCE.out; have h5 := HCL.out; omega)
            have HV := Lib.hid (And.intro hv1 hv2)
            clear hb2 HC2 hv1 hv2
            go_wp2_with fail
            go_roundg g
            case measure => omega
            case rel => exact ⟨i + 1, c + v2, by omega, rfl, rfl, by have h1 := HT2.out; have h2 := HV.out.1; have h3 := HCC.out; omega, fun h => by have h1 := HT2.out; have h2 := HV.out.2 (by omega); have h3 := HCC.out; omega, HB2.out⟩
          · have hcmI : ¬ (c ≤ most) := hcm
            go_wp2_with fail
            go_ret
            exact ⟨c, rfl, (HFIN.out (.inl (by omega))).1, (HFIN.out (.inl (by omega))).2, HB0.out.trans (HB.out.mono HB0.out.size)⟩
    | succ g =>
      have hlt : i < na := by omega
      by_cases hcm : c1 ≤ most
      · have hltI : (i : Int) < (na : Int) := by omega
        have hi0 : (0 : Int) ≤ (i : Int) := by omega
        obtain ⟨y, hy⟩ : ∃ y, t.attrs[i]? = some y := ⟨_, List.getElem?_eq_getElem (by have := HNA.out; omega)⟩
        obtain ⟨ab, ao, hxae, e1, e2⟩ : ∃ ab ao, xa = some ⟨ab, ao, none⟩ ∧ wr.cell? ⟨ab, ao + i * 2, none⟩ = some (.string (strB y.1)) ∧ wr.cell? ⟨ab, ao + i * 2 + 1, none⟩ = some (.string (strB y.2)) := by
          obtain ⟨a9, c9, h1, _, _, _, h5⟩ := HATT.out
          injection h1 with h1 _ _
          rcases h5 with h5 | ⟨ab, ao, h6, _, h7⟩
          · rw [h5] at hy; simp at hy
          · obtain ⟨h8, h9⟩ := h7 i y hy
            exact ⟨ab, ao, h1.trans h6, (HB.out.cell (lt_of_cell h8)).trans h8, (HB.out.cell (lt_of_cell h9)).trans h9⟩
        subst hxae
        obtain ⟨s1, hs1⟩ : ∃ z, strB y.1 = z := ⟨_, rfl⟩
        obtain ⟨s2, hs2⟩ : ∃ z, strB y.2 = z := ⟨_, rfl⟩
        have hz1 : s1.size = y.1.length := by rw [← hs1, strB_size]
        have hz2 : s2.size = y.2.length := by rw [← hs2, strB_size]
        rw [hs1] at e1
        rw [hs2] at e2
        have HNX : Hid (b0 + atSz (t.attrs.take (i + 1)) = c1 + 1 + s1.size + s2.size) := Lib.hid (by have h1 := atSz_take hy; have h2 := HC1.out; omega)
        have HNB : Hid (c1 + 1 + s1.size + s2.size ≤ 10000000) := Lib.hid (by have h1 := HNX.out; have h2 := atSz_le (l := t.attrs) (i + 1); have h3 := HSE.out; have h4 := HCL.out; omega)
        have hadd : IntKind.i64.wrap ((i : Int) + 1) = (i : Int) + 1 := IntWalk.i64_in _ (by have := HCL.out; omega)
        have ha1 : IntKind.i64.wrap ((c1 : Int) + 1) = (c1 : Int) + 1 := IntWalk.i64_in _ (by have := HNB.out; omega)
        have ha2 : IntKind.i64.wrap ((c1 : Int) + 1 + (s1.size : Int)) = (c1 : Int) + 1 + (s1.size : Int) := IntWalk.i64_in _ (by have := HNB.out; omega)
        have ha3 : IntKind.i64.wrap ((c1 : Int) + 1 + (s1.size : Int) + (s2.size : Int)) = (c1 : Int) + 1 + (s1.size : Int) + (s2.size : Int) := IntWalk.i64_in _ (by have := HNB.out; omega)
        clear hy hs1 hs2 hz1 hz2
        go_wp2_with fail
        go_quiet (fail)
        go_wp2_with fail
        go_roundg g
        case measure => omega
        case rel => exact ⟨i + 1, by omega, rfl, congrArg (Value.int .i64) (by rw [HNX.out]; omega), below_drewNv HB.out _⟩
      · have hcmI : ¬ (c1 ≤ most) := hcm
        go_wp2_with fail
        go_loopg [5, 7] 0 (fun g s5 s7 wx => s7 = .int .i64 0 ∧ s5 = .int .i64 (c1 : Int) ∧ wx = wr)
        case atStart => exact ⟨rfl, rfl, rfl⟩
        case round =>
          obtain ⟨rfl, rfl, hwr⟩ := hrel
          subst hwr
          have HF : Hid (SmallOut w most T (.returned (.int .i64 (c1 : Int))) wr) := Lib.hid ⟨c1, rfl, HCL.out.1, fun h => absurd h hcm, HB0.out.trans (HB.out.mono HB0.out.size)⟩
          by_cases hn0 : 0 < nk
          · go_wp2_with fail
            go_ret
            exact HF.out
          · go_wp2_with fail
            go_ret
            exact HF.out
theorem small_calls {most : Nat} (hmo : most ≤ 1000000) : ∀ (m : Nat) {w : World} {r : Nr} {t : Tr}, NodeIn w Any r t → t.count ≤ m → t.sz ≤ 10000000 → Calls Tryz.prog 34 #[nodeV r, .int .i64 (most : Int)] w (SmallOut w most t.sz)
  | 0, _, _, t, _, h0, _ => by have := count_pos t; omega
  | m + 1, _, _, _, h, hm, hs => small_step hmo (fun h1 h2 h3 => small_calls hmo m h1 h2 h3) h hm hs


theorem depL_take {l : List Tr} {i : Nat} {t : Tr} (h : l[i]? = some t) : depL (l.take (i + 1)) = max (depL (l.take i)) t.depth := by
  rw [List.take_add_one, h]
  show depL (l.take i ++ [t]) = _
  rw [depL_app, depL_one]
set_option maxRecDepth 100000 in
set_option maxHeartbeats 4000000 in
theorem rdepth_calls : ∀ (m : Nat) {w : World} {r : Nr} {t : Tr}, NodeIn w Any r t → t.count ≤ m → m ≤ 1000000 → Calls Tryz.prog 22 #[nodeV r] w (Leaves (.int .i64 (t.depth : Int)) w)
  | 0, _, _, t, _, h0, _ => by have := count_pos t; omega
  | m + 1, w, r, t, h, hm, hmm => by
    obtain ⟨k, n, x, av, kv⟩ := r
    obtain ⟨sn, hsn⟩ : ∃ s, strB n = s := ⟨_, rfl⟩
    obtain ⟨st, hst⟩ : ∃ s, strB x = s := ⟨_, rfl⟩
    obtain ⟨w0, hw0⟩ : ∃ W, w.alloc (.cells #[.int .i64 k, .string sn, .string st, av, kv] 25) = W := ⟨_, rfl⟩
    have hb0 : Below w.heap.size w w0 := by rw [← hw0]; exact (Below.refl _ _).alloc (Nat.le_refl _) _
    have hbk : w0.heap[w.heap.size]? = some (.cells #[.int .i64 k, .string sn, .string st, av, kv] 25 (0, 0)) := by rw [← hw0]; exact heap_alloc_new w _
    obtain ⟨hk, hn, hx, ⟨xa, xc, hxa, _⟩, rows, hri, hni⟩ := h.kids
    dsimp only at hk hn hx hxa hri
    obtain ⟨ka, kc, hkv, hkc, hkm, hkp⟩ := kids_form hri hni
    obtain ⟨q0, na, hna, q1, nk, hnk⟩ : ∃ _ na, t.attrs.length = na ∧ ∃ _ nk, t.kids.length = nk := ⟨trivial, _, rfl, trivial, _, rfl⟩
    rw [hna] at hxa
    rw [hnk] at hkv hkp hkc
    subst hxa
    subst hkv
    obtain ⟨b2, o2, hk1, hk2⟩ : ∃ b2 o2, (nk = 0 ∨ ka = some ⟨b2, o2, none⟩) ∧ PtrsIn w0 Any (kidPs b2 o2 nk) t.kids := by
      rcases hkp with h0 | ⟨b2, o2, h1, h2⟩
      · exact ⟨0, 0, .inl (by rw [← hnk, h0]; rfl), by rw [h0] at hnk ⊢; rw [← hnk]; exact trivial⟩
      · exact ⟨b2, o2, .inr h1, h2.keep (keeps_below hb0 Non) (fun _ _ h => h) (fun _ h => h)⟩
    have HBK := Lib.hid hbk
    have HB0 := Lib.hid hb0
    have HW0 := Lib.hid hw0
    have HK1 := Lib.hid hk1
    have HK2 := Lib.hid hk2
    have HNK := Lib.hid hnk
    have HNA := Lib.hid hna
    have HKK := Lib.hid hk
    have HCT : Hid (t.count = 1 + na + cntL t.kids) := Lib.hid (by
      obtain ⟨z0, z1, z2, z3, z4⟩ := t
      rw [← hna]
      exact count_mk ..)
    have HNL : Hid (nk ≤ cntL t.kids) := Lib.hid (by rw [← hnk]; exact cntL_len _)
    unfold nodeV
    dsimp only
    rw [hsn, hst]
    have HIH : Hid (∀ {W : World} {r2 : Nr} {t2 : Tr}, NodeIn W Any r2 t2 → t2.count ≤ m → Calls Tryz.prog 22 #[nodeV r2] W (Leaves (.int .i64 (t2.depth : Int)) W)) := Lib.hid (fun h1 h2 => rdepth_calls m h1 h2 (by omega))
    obtain ⟨T, hT⟩ : ∃ T, t.depth = T := ⟨_, rfl⟩
    rw [hT]
    have HT := Lib.hid hT
    have HM : Hid (t.count ≤ m + 1 ∧ t.count ≤ 1000000) := Lib.hid ⟨hm, by omega⟩
    have HTM : Hid (T ≤ 1000000) := Lib.hid (by have := depth_le_count t; omega)
    have hdp : t.depth = if k = 1 then depL t.kids + 1 else 0 := by
      rw [hk]
      obtain ⟨z0, z1, z2, z3, z4⟩ := t
      exact depth_mk ..
    clear hT hm hmm
    clear h hk hbk hsn hst hb0 hw0 hn hx hri hni hkc hkm hkp hk1 hk2 hnk hna q0 q1
    by_cases hk1 : k = 1
    · subst hk1
      rw [if_pos rfl] at hdp
      have HDP := Lib.hid hdp
      clear hdp
      go_enter Tryz.func22, Tryz.ntmps22
      go_wp2_with fail
      go_loopg [3, 4] nk (fun g s3 s4 wr => ∃ i : Nat, i + g = nk ∧ s4 = .int .i64 (i : Int) ∧ s3 = .int .i64 ((depL (t.kids.take i) : Nat) : Int) ∧ Below w0.heap.size w0 wr)
      case atStart => exact ⟨0, by omega, rfl, congrArg (Value.int .i64) (show (0 : Int) = ((depL [] : Nat) : Int) by rw [depL]; rfl), by rw [HW0.out]; exact Below.refl _ _⟩
      case round =>
        obtain ⟨i, hig, rfl, rfl, hb⟩ := hrel
        have HB := Lib.hid hb
        clear hb
        have hbk2 := block_keep HBK.out (keeps_below HB.out Non) (fun h => h)
        have z4 := (cell_of_block hbk2 4).trans rfl
        clear hbk2
        cases gk with
        | zero =>
          obtain rfl : i = nk := by omega
          have hge : ¬ (i < i) := by omega
          obtain ⟨d1, hd1⟩ : ∃ z, depL (t.kids.take i) = z := ⟨_, rfl⟩
          rw [hd1]
          have HF : Hid (d1 + 1 = T) := Lib.hid (by rw [← HT.out, HDP.out, ← hd1, List.take_of_length_le (by have := HNK.out; omega)])
          have hadd : IntKind.i64.wrap ((d1 : Int) + 1) = (d1 : Int) + 1 := IntWalk.i64_in _ (by have h1 := HF.out; have h2 := HTM.out; omega)
          clear hd1
          go_wp2_with fail
          go_ret
          exact ⟨congrArg (fun z => Ending.returned (Value.int .i64 z)) (by have := HF.out; omega), HB0.out.trans (HB.out.mono HB0.out.size)⟩
        | succ g =>
          have hlt : i < nk := by omega
          have hltI : (i : Int) < (nk : Int) := by omega
          have hi0 : (0 : Int) ≤ (i : Int) := by omega
          obtain ⟨t2, ht2, b3, o3, r2, hp2, _, hnr2, hnd2⟩ := HK2.out.at (kidPs_at b2 o2 nk i (by omega))
          obtain ⟨rfl, rfl⟩ : b2 = b3 ∧ o2 + i * 5 = o3 := by injection hp2 with h1 h2; exact ⟨h1, h2⟩
          obtain ⟨y0, y1, y2, y3, y4⟩ := hnr2.keep (keeps_below (HB.out) Non) (fun h => h)
          have hnd3 := hnd2.keep (keeps_below (HB.out) Non) (fun _ _ h => h) (fun _ h => h)
          obtain ⟨k2, n2, x2, av2, kv2⟩ := r2
          dsimp only at y0 y1 y2 y3 y4
          obtain rfl : ka = some ⟨b2, o2, none⟩ := by
            rcases HK1.out with h1 | h1
            · omega
            · exact h1
          have HC2 := Lib.hid (HIH.out hnd3 (by have h1 := cnt_mem ht2; have h2 := HM.out; have h3 := HCT.out; omega))
          unfold nodeV at HC2
          dsimp only at HC2
          obtain ⟨sn2, hsn2⟩ : ∃ s, strB n2 = s := ⟨_, rfl⟩
          obtain ⟨st2, hst2⟩ : ∃ s, strB x2 = s := ⟨_, rfl⟩
          rw [hsn2] at y1 HC2
          rw [hst2] at y2 HC2
          obtain ⟨c1, hc1⟩ : ∃ z, depL (t.kids.take i) = z := ⟨_, rfl⟩
          obtain ⟨c2, hc2⟩ : ∃ z, t2.depth = z := ⟨_, rfl⟩
          rw [hc2] at HC2
          rw [hc1]
          have HN2 : Hid (depL (t.kids.take (i + 1)) = max c1 c2) := Lib.hid (by rw [depL_take ht2, ← hc1, ← hc2])
          have HLE : Hid (nk ≤ 1000000) := Lib.hid (by
            have h3 := HM.out
            have h4 := HCT.out
            have h6 := HNL.out
            omega)
          have hadd : IntKind.i64.wrap ((i : Int) + 1) = (i : Int) + 1 := IntWalk.i64_in _ (by have := HLE.out; omega)
          clear hp2 hnr2 hnd2 hnd3 ht2 hsn2 hst2 hc1 hc2
          go_wp2_with fail
          with_reducible refine HC2.out.mono ?_
          rintro e w2 ⟨rfl, hb2⟩
          have HB2 := Lib.hid (HB.out.trans (hb2.mono HB.out.size))
          clear hb2 HC2
          go_wp2_with fail
          go_roundg g
          case measure => omega
          case rel => exact ⟨i + 1, by omega, rfl, congrArg (Value.int .i64) (by rw [HN2.out]; omega), HB2.out⟩
    · rw [if_neg hk1] at hdp
      have HF : Hid (T = 0) := Lib.hid (by rw [← HT.out]; exact hdp)
      have hkn : (k != 1) = true := by rw [bne_iff_ne]; exact hk1
      rw [HF.out]
      clear hdp hk1
      go_enter Tryz.func22, Tryz.ntmps22
      go_wp2_with fail
      go_ret
      exact ⟨rfl, by rw [HW0.out]; exact HB0.out⟩

end Go.Proofs.YtocnedpclllbhaaGreatDoor
