/-
 The reference's Node and Nodes: nodes as they are written. Conditions: they lie in memory; what is written of them is no longer than 2 to the 30.
-/
import Derived.Test.YtocnedpclllbhaaGreatDoorVA
import Derived.Lib.QuietBelow
namespace Go.Proofs.YtocnedpclllbhaaGreatDoor
open Go.RowKit Go.Lib Go.Joins Go.Sort

theorem below_drew {n : Nat} {w w' : World} (h : Below n w w') (k : Nat) : Below n w (w'.drewN k) := ⟨h.os, h.tape, h.output, h.size, h.block⟩
theorem wrs_app : ∀ a b : List Tr, wrL (a ++ b) = wrL a ++ wrL b
  | [], b => by rw [List.nil_append, wrL, List.nil_append]
  | t :: a, b => by rw [List.cons_append, wrL, wrL, wrs_app a b, List.append_assoc]
theorem wrs_snoc {l : List Tr} {i : Nat} {t : Tr} (h : l[i]? = some t) : wrL (l.take (i + 1)) = wrL (l.take i) ++ wrN t := by
  have e : l.take (i + 1) = l.take i ++ [t] := by rw [List.take_add_one, h]; rfl
  rw [e, wrs_app, wrL, wrL, List.append_nil]
theorem wrs_take (l : List Tr) (i : Nat) : (wrL (l.take i)).length ≤ (wrL l).length := by
  have h := wrs_app (l.take i) (l.drop i)
  rw [List.take_append_drop] at h
  rw [h, List.length_append]
  omega
theorem wrs_mem {l : List Tr} {i : Nat} {t : Tr} (h : l[i]? = some t) : (wrN t).length ≤ (wrL l).length := by
  have h1 := wrs_take l (i + 1)
  rw [wrs_snoc h, List.length_append] at h1
  omega
theorem ats_snoc {l : List (List UInt8 × List UInt8)} {i : Nat} {a : List UInt8 × List UInt8} (h : l[i]? = some a) : attrsB (l.take (i + 1)) = attrsB (l.take i) ++ attrB a := by
  have e : l.take (i + 1) = l.take i ++ [a] := by rw [List.take_add_one, h]; rfl
  unfold attrsB
  rw [e, List.flatMap_append, List.flatMap_cons, List.flatMap_nil, List.append_nil]
theorem ats_take (l : List (List UInt8 × List UInt8)) (i : Nat) : (attrsB (l.take i)).length ≤ (attrsB l).length := by
  have h : attrsB l = attrsB (l.take i) ++ attrsB (l.drop i) := by
    unfold attrsB
    rw [← List.flatMap_append, List.take_append_drop]
  rw [h, List.length_append]
  omega
theorem att_at {w : World} {a : Option Addr} {n c : Nat} {l : List (List UInt8 × List UInt8)} (h : AttIn w Any (.slice a n c) l) {i : Nat} {x : List UInt8 × List UInt8} (hx : l[i]? = some x) : ∃ b o, a = some ⟨b, o, none⟩ ∧ w.cell? ⟨b, o + i * 2, none⟩ = some (.string (strB x.1)) ∧ w.cell? ⟨b, o + i * 2 + 1, none⟩ = some (.string (strB x.2)) := by
  obtain ⟨a', c', h1, _, _, _, h5⟩ := h
  injection h1 with h1 _ _
  subst h1
  rcases h5 with rfl | ⟨b, o, h5, _, h7⟩
  · simp at hx
  · exact ⟨b, o, h5, h7 i x hx⟩
set_option maxRecDepth 100000 in
set_option maxHeartbeats 8000000 in
theorem rnodes_step {m : Nat} (hN : ∀ {W : World} {r2 : Nr} {t2 : Tr}, NodeIn W Any r2 t2 → t2.count ≤ m → (wrN t2).length ≤ 1073741824 → Calls Tryz.prog 12 #[nodeV r2] W (Leaves (.string (strB (wrN t2))) W))
    {w : World} {v : Value} {rows : List Nr} {ks : List Tr} (hr : RowIn w Any v rows) (hn : NodesIn w Any rows ks) (hc : cntL ks ≤ m) (hs : (wrL ks).length ≤ 1073741824) : Calls Tryz.prog 14 #[v] w (Leaves (.string (strB (wrL ks))) w) := by
  obtain ⟨ka, kc, rfl, hkc, hkm, hkp⟩ := kids_form hr hn
  obtain ⟨n, hnk⟩ : ∃ n, ks.length = n := ⟨_, rfl⟩
  rw [hnk] at hkp hkc ⊢
  obtain ⟨b2, o2, hk1, hk2⟩ : ∃ b2 o2, (n = 0 ∨ ka = some ⟨b2, o2, none⟩) ∧ PtrsIn w Any (kidPs b2 o2 n) ks := by
    rcases hkp with h0 | ⟨b2, o2, h1, h2⟩
    · exact ⟨0, 0, .inl (by rw [← hnk, h0]; rfl), by rw [h0] at hnk ⊢; rw [← hnk]; exact trivial⟩
    · exact ⟨b2, o2, .inr h1, h2⟩
  have HNK := Lib.hid hnk
  have HK1 := Lib.hid hk1
  have HK2 := Lib.hid hk2
  have HIH : Hid (∀ {W : World} {r2 : Nr} {t2 : Tr}, NodeIn W Any r2 t2 → t2.count ≤ m → (wrN t2).length ≤ 1073741824 → Calls Tryz.prog 12 #[nodeV r2] W (Leaves (.string (strB (wrN t2))) W)) := Lib.hid (fun h1 h2 h3 => hN h1 h2 h3)
  have HC := Lib.hid hc
  have HS := Lib.hid hs
  unfold maxLen at hkm
  obtain ⟨Q, hQ⟩ : ∃ Q, strB (wrL ks) = Q := ⟨_, rfl⟩
  rw [hQ]
  have HQ := Lib.hid hQ
  clear hN hr hn hc hs hkp hk1 hk2 hnk hQ
  go_enter Tryz.func14, Tryz.ntmps14
  go_wp2_with fail
  go_loopg [3, 4] n (fun g s ix wr => ∃ (i : Nat), s = .string (strB (wrL (ks.take i))) ∧ ix = .int .i64 (i : Int) ∧ g + i = n ∧ Below w.heap.size w wr)
  case atStart => exact ⟨0, rfl, rfl, rfl, Below.refl _ _⟩
  case round =>
    obtain ⟨i, rfl, rfl, hg, hb⟩ := hrel
    have HB := Lib.hid hb
    have hos : (strB (wrL (ks.take i))).size ≤ 1073741824 := by
      rw [strB_size]
      have := wrs_take ks i
      have := HS.out
      omega
    obtain ⟨o, ho⟩ : ∃ o, strB (wrL (ks.take i)) = o := ⟨_, rfl⟩
    rw [ho] at hos ⊢
    have HO := Lib.hid ho
    clear hb ho
    cases gk with
    | zero =>
      obtain rfl : i = n := by omega
      have hge : ¬ ((i : Int) < (i : Int)) := by omega
      have HF : Hid (o = Q) := Lib.hid (by rw [← HO.out, ← HQ.out, List.take_of_length_le (by have := HNK.out; omega)])
      go_wp2_with fail
      go_ret
      exact ⟨by rw [HF.out]; rfl, HB.out⟩
    | succ g =>
      have hlt : (i : Int) < (n : Int) := by omega
      have hi0 : (0 : Int) ≤ (i : Int) := by omega
      have hin : i < n := by omega
      have hadd : IntKind.i64.wrap ((i : Int) + 1) = ((i + 1 : Nat) : Int) := IntWalk.i64_in _ (by omega)
      obtain ⟨t2, ht2, b3, o3, r2, hp2, _, hnr2, hnd2⟩ := HK2.out.at (kidPs_at b2 o2 n i (by omega))
      obtain ⟨rfl, rfl⟩ : b2 = b3 ∧ o2 + i * 5 = o3 := by injection hp2 with h1 h2; exact ⟨h1, h2⟩
      obtain ⟨y0, y1, y2, y3, y4⟩ := hnr2.keep (keeps_below HB.out Non) (fun h => h)
      have hnd3 := hnd2.keep (keeps_below HB.out Non) (fun _ _ h => h) (fun _ h => h)
      obtain ⟨k2, n2, x2, av2, kv2⟩ := r2
      dsimp only at y0 y1 y2 y3 y4
      obtain rfl : ka = some ⟨b2, o2, none⟩ := by
        rcases HK1.out with h1 | h1
        · omega
        · exact h1
      have hwl : (wrN t2).length ≤ 1073741824 := by
        have := wrs_mem ht2
        have := HS.out
        omega
      have HC2 := HIH.out hnd3 (by have h1 := cnt_mem ht2; have h2 := HC.out; omega) hwl
      have hos2 : (strB (wrN t2)).size ≤ 1073741824 := by rw [strB_size]; exact hwl
      have HNX : Hid (o ++ strB (wrN t2) = strB (wrL (ks.take (i + 1)))) := Lib.hid (by rw [wrs_snoc ht2, ← HO.out, strB_app])
      unfold nodeV at HC2
      dsimp only at HC2
      obtain ⟨sn2, hsn2⟩ : ∃ s, strB n2 = s := ⟨_, rfl⟩
      obtain ⟨st2, hst2⟩ : ∃ s, strB x2 = s := ⟨_, rfl⟩
      obtain ⟨z2, hz2⟩ : ∃ s, strB (wrN t2) = s := ⟨_, rfl⟩
      rw [hsn2] at y1 HC2
      rw [hst2] at y2 HC2
      rw [hz2] at HC2 hos2 HNX
      have HC2 := Lib.hid HC2
      have hq : ¬ (9223372036854775807 < o.size + z2.size) := by omega
      clear hp2 hnr2 hnd2 hnd3 ht2 hsn2 hst2 hz2 hwl
      go_wp2_with fail
      with_reducible refine HC2.out.mono ?_
      rintro e w2 ⟨rfl, hb2⟩
      have HB2 := Lib.hid (below_then HB.out hb2)
      clear hb2 HC2
      go_wp2_with fail
      go_roundg g
      case measure => omega
      case rel => exact ⟨i + 1, by rw [HNX.out], by go_num, by omega, HB2.out⟩

set_option maxRecDepth 100000 in
set_option maxHeartbeats 16000000 in
theorem rnode_step {m : Nat} (hN : ∀ {W : World} {v2 : Value} {rows2 : List Nr} {ks2 : List Tr}, RowIn W Any v2 rows2 → NodesIn W Any rows2 ks2 → cntL ks2 ≤ m → (wrL ks2).length ≤ 1073741824 → Calls Tryz.prog 14 #[v2] W (Leaves (.string (strB (wrL ks2))) W))
    {w : World} {r : Nr} {t : Tr} (h : NodeIn w Any r t) (hc : t.count ≤ m + 1) (hs : (wrN t).length ≤ 1073741824) : Calls Tryz.prog 12 #[nodeV r] w (Leaves (.string (strB (wrN t))) w) := by
  obtain ⟨k0, n0, x0, ats, ks⟩ := t
  obtain ⟨k, n, x, av, kv⟩ := r
  obtain ⟨hk, hn, hx, hat, rows, hri, hni⟩ := h.kids
  dsimp only [Tr.kind, Tr.name, Tr.text, Tr.attrs, Tr.kids] at hk hn hx hat hri hni
  subst hk
  subst hn
  subst hx
  obtain ⟨aa, na, ca, rfl⟩ := hat.slice
  obtain ⟨ka, nk, ck, rfl⟩ := hri.slice
  have hal : na = ats.length := by
    obtain ⟨_, _, e, _⟩ := hat
    injection e
  have hac : na ≤ ca := by
    obtain ⟨_, _, e, h1, _⟩ := hat
    injection e with _ e1 e2
    omega
  have hkl : nk = ks.length := by
    obtain ⟨_, _, e, _⟩ := hri
    injection e with _ e1 _
    rw [e1, hni.1]
  have hcm : ca ≤ 9223372036854775807 := by
    obtain ⟨_, _, e, _, h1, _⟩ := hat
    injection e with _ _ e2
    unfold maxLen at h1
    omega
  have hck : cntL ks ≤ m := by
    rw [count_mk] at hc
    omega
  rw [wr_mk] at hs ⊢
  obtain ⟨sn, hsn⟩ : ∃ s, strB n = s := ⟨_, rfl⟩
  obtain ⟨st, hst⟩ : ∃ s, strB x = s := ⟨_, rfl⟩
  obtain ⟨w0, hw0⟩ : ∃ W, w.alloc (.cells #[.int .i64 k, .string sn, .string st, .slice aa na ca, .slice ka nk ck] 25) = W := ⟨_, rfl⟩
  have hb0 : Below w.heap.size w w0 := by rw [← hw0]; exact (Below.refl _ _).alloc (Nat.le_refl _) _
  have hblk : w0.heap[w.heap.size]? = some (.cells #[.int .i64 k, .string sn, .string st, .slice aa na ca, .slice ka nk ck] 25 (0, 0)) := by rw [← hw0]; exact heap_alloc_new w _
  have HCELL : Hid (∀ W, Below w0.heap.size w0 W → W.cell? ⟨w.heap.size, 0, none⟩ = some (.int .i64 k) ∧ W.cell? ⟨w.heap.size, 1, none⟩ = some (.string sn) ∧ W.cell? ⟨w.heap.size, 2, none⟩ = some (.string st) ∧ W.cell? ⟨w.heap.size, 3, none⟩ = some (.slice aa na ca) ∧ W.cell? ⟨w.heap.size, 4, none⟩ = some (.slice ka nk ck)) := Lib.hid (fun W hW => by
    have h1 := block_below hW hblk
    exact ⟨(cell_of_block h1 0).trans rfl, (cell_of_block h1 1).trans rfl, (cell_of_block h1 2).trans rfl, (cell_of_block h1 3).trans rfl, (cell_of_block h1 4).trans rfl⟩)
  have HAT : Hid (AttIn w0 Any (.slice aa na ca) ats) := Lib.hid (hat.keep (keeps_below hb0 Non) (fun _ _ h => h) (fun _ h => h))
  have HB0 := Lib.hid hb0
  have HW0 := Lib.hid hw0
  have HSN := Lib.hid hsn
  have HST := Lib.hid hst
  unfold nodeV
  dsimp only
  rw [hsn, hst]
  obtain ⟨z0, z1, z2, z3, z4⟩ := HCELL.out w0 (Below.refl _ _)
  rw [← HW0.out] at z0 z1 z2 z3 z4
  by_cases hk2 : k = 2
  · rw [if_neg (by omega), if_pos hk2] at hs ⊢
    subst hk2
    have HES := resc_calls w0 false x (by have := esc_len false x; omega)
    rw [hst] at HES
    obtain ⟨Q, hQ⟩ : ∃ Q, strB (escS false x) = Q := ⟨_, rfl⟩
    rw [hQ] at HES ⊢
    have HES := Lib.hid HES
    clear h hc hs hat hri hni hal hac hkl hcm hck hsn hst hw0 hb0 hblk hQ hN
    go_enter Tryz.func12, Tryz.ntmps12
    go_wp2_with fail
    rw [HW0.out]
    with_reducible refine HES.out.mono ?_
    rintro e w2 ⟨rfl, hb2⟩
    have HB2 := Lib.hid (below_then HB0.out hb2)
    clear hb2
    go_wp2_with fail
    go_ret
    exact ⟨rfl, HB2.out⟩
  by_cases hk3 : k = 3
  · rw [if_neg (by omega), if_neg hk2, if_pos hk3] at hs ⊢
    subst hk3
    have hzs : st.size ≤ 1073741824 := by
      rw [← hst, strB_size]
      simp only [List.length_cons, List.length_append, List.length_nil] at hs
      omega
    have HF : Hid (⟨#[60, 33, 45, 45]⟩ ++ st ++ ⟨#[45, 45, 62]⟩ = strB (60 :: 33 :: 45 :: 45 :: (x ++ [45, 45, 62]))) := Lib.hid (by
      rw [← hst, show (⟨#[60, 33, 45, 45]⟩ : ByteArray) = strB [60, 33, 45, 45] from rfl, show (⟨#[45, 45, 62]⟩ : ByteArray) = strB [45, 45, 62] from rfl, strB_app, strB_app]
      rfl)
    have hq1 : ¬ (9223372036854775807 < 4 + st.size) := by omega
    have hq2 : ¬ (9223372036854775807 < 4 + st.size + 3) := by omega
    clear h hc hs hat hri hni hal hac hkl hcm hck hsn hst hw0 hb0 hblk hN
    go_enter Tryz.func12, Tryz.ntmps12
    go_wp2_with fail
    go_ret
    exact ⟨by rw [← HF.out]; rfl, by rw [HW0.out]; exact HB0.out⟩
  by_cases hk4 : k = 4
  · rw [if_neg (by omega), if_neg hk2, if_neg hk3, if_pos hk4] at hs ⊢
    subst hk4
    simp only [List.length_cons, List.length_append, List.length_nil] at hs
    have hzn : sn.size ≤ 1073741824 := by rw [← hsn, strB_size]; omega
    by_cases hx0 : x = []
    · subst hx0
      obtain rfl : (⟨#[]⟩ : ByteArray) = st := hst
      have HF : Hid (⟨#[60, 63]⟩ ++ sn ++ ⟨#[63, 62]⟩ = strB (60 :: 63 :: (n ++ ([] ++ [63, 62])))) := Lib.hid (by
        rw [← hsn, show (⟨#[60, 63]⟩ : ByteArray) = strB [60, 63] from rfl, show (⟨#[63, 62]⟩ : ByteArray) = strB [63, 62] from rfl, strB_app, strB_app]
        rfl)
      have hq1 : ¬ (9223372036854775807 < 2 + sn.size) := by omega
      have hq2 : ¬ (9223372036854775807 < 2 + sn.size + 2) := by omega
      clear h hc hs hat hri hni hal hac hkl hcm hck hsn hw0 hb0 hblk hN
      go_enter Tryz.func12, Tryz.ntmps12
      go_wp2_with fail
      go_ret
      exact ⟨by rw [← HF.out]; rfl, by rw [HW0.out]; exact HB0.out⟩
    · rw [if_neg hx0] at hs ⊢
      rw [List.length_cons] at hs
      have hzs : st.size ≤ 1073741824 := by rw [← hst, strB_size]; omega
      obtain ⟨hf1, hf2⟩ := strB_full hx0
      rw [hst] at hf1 hf2
      have HF : Hid (⟨#[60, 63]⟩ ++ sn ++ ⟨#[32]⟩ ++ st ++ ⟨#[63, 62]⟩ = strB (60 :: 63 :: (n ++ 32 :: (x ++ [63, 62])))) := Lib.hid (by
        rw [← hsn, ← hst, show (⟨#[60, 63]⟩ : ByteArray) = strB [60, 63] from rfl, show (⟨#[32]⟩ : ByteArray) = strB [32] from rfl, show (⟨#[63, 62]⟩ : ByteArray) = strB [63, 62] from rfl, strB_app, strB_app, strB_app, strB_app]
        refine congrArg strB ?_
        simp)
      have hq1 : ¬ (9223372036854775807 < 2 + sn.size) := by omega
      have hq2 : ¬ (9223372036854775807 < 2 + sn.size + 1) := by omega
      have hq3 : ¬ (9223372036854775807 < 2 + sn.size + 1 + st.size) := by omega
      have hq4 : ¬ (9223372036854775807 < 2 + sn.size + 1 + st.size + 2) := by omega
      clear h hc hs hat hri hni hal hac hkl hcm hck hsn hst hw0 hb0 hblk hN hx0
      go_enter Tryz.func12, Tryz.ntmps12
      go_wp2_with fail
      go_ret
      exact ⟨by rw [← HF.out]; rfl, by rw [HW0.out]; exact HB0.out⟩
  by_cases hk1 : k = 1
  case neg =>
    rw [if_neg hk1, if_neg hk2, if_neg hk3, if_neg hk4] at hs ⊢
    have e1 : (k == 2) = false := beq_eq_false_iff_ne.2 hk2
    have e2 : (k == 3) = false := beq_eq_false_iff_ne.2 hk3
    have e3 : (k == 4) = false := beq_eq_false_iff_ne.2 hk4
    have e4 : (k != 1) = true := by rw [bne, beq_eq_false_iff_ne.2 hk1]; rfl
    clear h hc hs hat hri hni hal hac hkl hcm hck hsn hst hw0 hb0 hblk hN
    go_enter Tryz.func12, Tryz.ntmps12
    go_wp2_with fail
    go_ret
    exact ⟨rfl, by rw [HW0.out]; exact HB0.out⟩
  rw [if_pos hk1] at hs ⊢
  subst hk1
  simp only [List.length_cons, List.length_append] at hs
  have hzn : sn.size ≤ 1073741824 := by rw [← hsn, strB_size]; omega
  have HLA : Hid (n.length + (attrsB ats).length ≤ 1073741824) := Lib.hid (by omega)
  have HAL := Lib.hid hal
  have HKL := Lib.hid hkl
  have HHS := Lib.hid hs
  have HNODES : Hid (∀ W, Below w0.heap.size w0 W → (wrL ks).length ≤ 1073741824 → Calls Tryz.prog 14 #[.slice ka nk ck] W (Leaves (.string (strB (wrL ks))) W)) := Lib.hid (fun W hW hl => hN (hri.keep (keeps_below (below_then hb0 hW) Non) (fun _ _ h => h) (fun _ h => h)) (hni.keep (keeps_below (below_then hb0 hW) Non) (fun _ _ h => h) (fun _ h => h)) hck hl)
  have hq1 : ¬ (9223372036854775807 < 1 + sn.size) := by omega
  obtain ⟨Q, hQ⟩ : ∃ Q, strB (60 :: (n ++ (attrsB ats ++ (if ks.isEmpty = true then [47, 62] else 62 :: (wrL ks ++ 60 :: 47 :: (n ++ [62])))))) = Q := ⟨_, rfl⟩
  rw [hQ]
  have HQ := Lib.hid hQ
  clear h hc hs hat hri hni hal hkl hck hsn hst hw0 hb0 hblk hN hQ hk2 hk3 hk4
  go_enter Tryz.func12, Tryz.ntmps12
  go_wp2_with fail
  rw [HW0.out]
  clear z0 z1 z2 z3 z4
  go_loopg [3, 4] na (fun g s ix wr => ∃ (i : Nat), s = .string (strB (60 :: (n ++ attrsB (ats.take i)))) ∧ ix = .int .i64 (i : Int) ∧ g + i = na ∧ Below w0.heap.size w0 wr)
  case atStart => exact ⟨0, by rw [← HSN.out, List.take_zero]; show Value.string _ = Value.string (strB (60 :: (n ++ []))); rw [List.append_nil, show (⟨#[60]⟩ : ByteArray) = strB [60] from rfl, strB_app]; rfl, rfl, rfl, Below.refl _ _⟩
  case round =>
    obtain ⟨i, rfl, rfl, hg, hb⟩ := hrel
    have HB := Lib.hid hb
    have hos : (strB (60 :: (n ++ attrsB (ats.take i)))).size ≤ 1073741825 := by
      rw [strB_size, List.length_cons, List.length_append]
      have := ats_take ats i
      have := HLA.out
      omega
    obtain ⟨o, ho⟩ : ∃ o, strB (60 :: (n ++ attrsB (ats.take i))) = o := ⟨_, rfl⟩
    rw [ho] at hos ⊢
    have HO := Lib.hid ho
    clear hb ho
    obtain ⟨z0, z1, z2, z3, z4⟩ := HCELL.out wr HB.out
    cases gk with
    | zero =>
      obtain rfl : i = na := by omega
      have hge : ¬ ((i : Int) < (i : Int)) := by omega
      have HOF : Hid (strB (60 :: (n ++ attrsB ats)) = o) := Lib.hid (by rw [← HO.out, List.take_of_length_le (by have := HAL.out; omega)])
      have HBW := Lib.hid (below_then HB0.out HB.out)
      by_cases hk0 : nk = 0
      · have hke : ks = [] := List.length_eq_zero_iff.1 (by rw [← HKL.out]; exact hk0)
        have HF : Hid (o ++ ⟨#[47, 62]⟩ = Q) := Lib.hid (by
          rw [← HQ.out, hke, ← HOF.out, show (⟨#[47, 62]⟩ : ByteArray) = strB [47, 62] from rfl, strB_app]
          refine congrArg strB ?_
          simp)
        have hq2 : ¬ (9223372036854775807 < o.size + 2) := by omega
        subst hk0
        clear hke
        go_wp2_with fail
        go_ret
        exact ⟨by rw [← HF.out]; rfl, HBW.out⟩
      · have hk0' : ((nk : Int) == 0) = false := beq_eq_false_iff_ne.2 (by omega)
        have hke : ks.isEmpty = false := by
          cases ks with
          | nil => exact absurd HKL.out hk0
          | cons _ _ => rfl
        have hsl := HHS.out
        rw [hke, if_neg Bool.false_ne_true] at hsl
        simp only [List.length_cons, List.length_append, List.length_nil] at hsl
        obtain ⟨z, hz⟩ : ∃ z, strB (wrL ks) = z := ⟨_, rfl⟩
        have hzz : z.size ≤ 1073741824 := by rw [← hz, strB_size]; omega
        have hwl : (wrL ks).length ≤ 1073741824 := by omega
        have cN := fun dq os => HNODES.out (grow (redrawn wr dq) os) (HB.out.trans ((below_regrown wr dq os).mono HB.out.size)) hwl
        rw [hz] at cN
        have cN := fun dq os => Calls.regrown_of (cN dq os)
        have cz1 := fun dq os => cell_regrown z1 dq os
        have cz4 := fun dq os => cell_regrown z4 dq os
        have HF : Hid (o ++ ⟨#[62]⟩ ++ z ++ ⟨#[60, 47]⟩ ++ sn ++ ⟨#[62]⟩ = Q) := Lib.hid (by
          rw [← HQ.out, hke, if_neg Bool.false_ne_true, ← HOF.out, ← hz, ← HSN.out, show (⟨#[62]⟩ : ByteArray) = strB [62] from rfl, show (⟨#[60, 47]⟩ : ByteArray) = strB [60, 47] from rfl, strB_app, strB_app, strB_app, strB_app, strB_app]
          refine congrArg strB ?_
          simp)
        have hq2 : ¬ (9223372036854775807 < o.size + 1) := by omega
        have hq3 : ¬ (9223372036854775807 < o.size + 1 + z.size) := by omega
        have hq4 : ¬ (9223372036854775807 < o.size + 1 + z.size + 2) := by omega
        have hq5 : ¬ (9223372036854775807 < o.size + 1 + z.size + 2 + sn.size) := by omega
        have hq6 : ¬ (9223372036854775807 < o.size + 1 + z.size + 2 + sn.size + 1) := by omega
        clear hke hsl hz hk0 hwl
        go_upto_region 18 with (fail)
        clear z0 z1 z2 z3 z4
        refine wp_region_quiet_below (by kernel_rfl) (by kernel_rfl) ?_
        repeat (go_big_quiet_step (with_reducible exact cN _ _))
        refine wpQuiet_nil ?_
        intro _ hw'
        obtain ⟨⟨dq, osq⟩, hw''⟩ := hw'
        subst hw''
        go_wp2_with fail
        go_ret
        exact ⟨by rw [← HF.out]; rfl, below_then HB0.out (below_then HB.out (below_regrown wr dq osq))⟩
    | succ g =>
      have hlt : (i : Int) < (na : Int) := by omega
      have hi0 : (0 : Int) ≤ (i : Int) := by omega
      have hin : i < na := by omega
      have hadd : IntKind.i64.wrap ((i : Int) + 1) = ((i + 1 : Nat) : Int) := IntWalk.i64_in _ (by omega)
      obtain ⟨⟨an, ax⟩, ha⟩ : ∃ a, ats[i]? = some a := ⟨_, List.getElem?_eq_getElem (by rw [← HAL.out]; exact hin)⟩
      obtain ⟨b, p, rfl, y1, y2⟩ := att_at HAT.out ha
      dsimp only at y1 y2
      replace y1 := cell_below HB.out y1
      replace y2 := cell_below HB.out y2
      have hlen : (attrsB (ats.take i)).length + (an.length + (escS true ax).length + 4) ≤ (attrsB ats).length := by
        have h1 := ats_take ats (i + 1)
        rw [ats_snoc ha, List.length_append] at h1
        unfold attrB at h1
        simp only [List.length_cons, List.length_append, List.length_nil] at h1
        omega
      have hxl : ax.length ≤ 1073741824 := by have h1 := esc_len true ax; have := HLA.out; omega
      obtain ⟨sa, hsa⟩ : ∃ s, strB an = s := ⟨_, rfl⟩
      obtain ⟨sx, hsx⟩ : ∃ s, strB ax = s := ⟨_, rfl⟩
      obtain ⟨z, hz⟩ : ∃ s, strB (escS true ax) = s := ⟨_, rfl⟩
      have cN := fun dq os => resc_calls (grow (redrawn wr dq) os) true ax hxl
      rw [hsx, hz] at cN
      have cN := fun dq os => Calls.regrown_of (cN dq os)
      rw [hsa] at y1
      rw [hsx] at y2
      have hs1 : sa.size ≤ 1073741824 := by rw [← hsa, strB_size]; have := HLA.out; omega
      have hs2 : z.size ≤ 1073741824 := by rw [← hz, strB_size]; have := HLA.out; omega
      have HNX : Hid (o ++ ⟨#[32]⟩ ++ sa ++ ⟨#[61, 34]⟩ ++ z ++ ⟨#[34]⟩ = strB (60 :: (n ++ attrsB (ats.take (i + 1))))) := Lib.hid (by
        rw [ats_snoc ha, ← HO.out, ← hsa, ← hz, show (⟨#[32]⟩ : ByteArray) = strB [32] from rfl, show (⟨#[61, 34]⟩ : ByteArray) = strB [61, 34] from rfl, show (⟨#[34]⟩ : ByteArray) = strB [34] from rfl, strB_app, strB_app, strB_app, strB_app, strB_app]
        refine congrArg strB ?_
        unfold attrB
        simp)
      have hq2 : ¬ (9223372036854775807 < o.size + 1) := by omega
      have hq3 : ¬ (9223372036854775807 < o.size + 1 + sa.size) := by omega
      have hq4 : ¬ (9223372036854775807 < o.size + 1 + sa.size + 2) := by omega
      have hq5 : ¬ (9223372036854775807 < o.size + 1 + sa.size + 2 + z.size) := by omega
      have hq6 : ¬ (9223372036854775807 < o.size + 1 + sa.size + 2 + z.size + 1) := by omega
      have cz3 := fun dq os => cell_regrown z3 dq os
      have cy1 := fun dq os => cell_regrown y1 dq os
      have cy2 := fun dq os => cell_regrown y2 dq os
      clear ha hlen hxl hsa hsx hz
      go_upto_region 15 with (fail)
      clear z0 z1 z2 z3 z4 y1 y2
      refine wp_region_quiet_below (by kernel_rfl) (by kernel_rfl) ?_
      repeat (go_big_quiet_step (with_reducible exact cN _ _))
      refine wpQuiet_nil ?_
      intro _ hw'
      obtain ⟨⟨dq, osq⟩, hw''⟩ := hw'
      subst hw''
      have HB2 := Lib.hid (below_then HB.out (below_regrown wr dq osq))
      go_wp2_with fail
      go_roundg g
      case measure => omega
      case rel => exact ⟨i + 1, by rw [HNX.out], by go_num, by omega, HB2.out⟩
theorem rwr_calls : ∀ (m : Nat) {w : World} {r : Nr} {t : Tr}, NodeIn w Any r t → t.count ≤ m → (wrN t).length ≤ 1073741824 → Calls Tryz.prog 12 #[nodeV r] w (Leaves (.string (strB (wrN t))) w)
  | 0, _, _, t, _, h0, _ => by have := count_pos t; omega
  | m + 1, _, _, _, h, hc, hs => rnode_step (fun h1 h2 h3 h4 => rnodes_step (fun h5 h6 h7 => rwr_calls m h5 h6 h7) h1 h2 h3 h4) h hc hs
theorem rwrs_calls {w : World} {v : Value} {rows : List Nr} {ks : List Tr} (hr : RowIn w Any v rows) (hn : NodesIn w Any rows ks) (hs : (wrL ks).length ≤ 1073741824) : Calls Tryz.prog 14 #[v] w (Leaves (.string (strB (wrL ks))) w) :=
  rnodes_step (fun h1 h2 h3 => rwr_calls _ h1 h2 h3) hr hn (Nat.le_refl _) hs
end Go.Proofs.YtocnedpclllbhaaGreatDoor
