/-
  The law's walk over a tree: is it as trees are? Condition: the tree lies in memory, and is as trees are; it has no more than 2 to the 20 nodes.
-/
import Derived.Test.YtfonflbpkbibbaaGreatDoorXRc
import Derived.Test.YtfonflbpkbibbaaGreatDoorTrim
namespace Go.Proofs.YtfonflbpkbibbaaGreatDoor
open Go.RowKit Go.Lib Go.Joins

theorem name_text (W : World) (l : List UInt8) (h : l.length ≤ 1000000) (b : Bool) (hb : nameR (runesFrom (fs l) l.length l.length 0) = b) : Calls Tryz.prog 44 #[.string (strB l)] W (Leaves (.bool b) W) := by
  have h2 := refName_calls (strB l) W (by rw [strB_size]; omega)
  rw [strB_list, strB_size, hb] at h2
  exact h2
/-- A name, as the reference tells names, and not too long. -/
def nmB (l : List UInt8) : Bool := decide (l.length ≤ 1000000) && nameR (runesFrom (fs l) l.length l.length 0)
theorem sndL_at {nm : List UInt8 → Bool} {p : Bool} {l : List Tr} (e : sndL nm p l = true) {i : Nat} {t : Tr} (h : l[i]? = some t) : t.snd nm = true := sndL_mem e t (List.mem_of_getElem? h)
theorem sndL_two {nm : List UInt8 → Bool} : ∀ {l : List Tr} {p : Bool}, sndL nm p l = true → ∀ {i : Nat} {a b : Tr}, l[i]? = some a → l[i + 1]? = some b → ¬ (a.kind = 2 ∧ b.kind = 2)
  | [], _, _, i, a, b, ha, _ => by simp at ha
  | [x], _, _, i, a, b, _, hb => by simp at hb
  | x :: y :: l, p, e, 0, a, b, ha, hb => by
    rw [sndL, sndL] at e
    obtain rfl : x = a := by simpa using ha
    obtain rfl : y = b := by simpa using hb
    rintro ⟨h1, h2⟩
    rw [h1, h2] at e
    simp at e
  | x :: y :: l, p, e, i + 1, a, b, ha, hb => by
    rw [sndL, Bool.and_eq_true, Bool.and_eq_true] at e
    exact sndL_two e.2 (i := i) ha hb
theorem fit_kind {nm : List UInt8 → Bool} {k : Int} {n t : List UInt8} {ats : List (List UInt8 × List UInt8)} {ks : List Tr} (h : fitN nm k n t ats ks = true) : (k = 1 ∧ nm n = true ∧ t = []) ∨ ((k = 2 ∧ t ≠ [] ∨ k = 3 ∨ k = 4) ∧ ats = [] ∧ ks = []) := by
  unfold fitN at h
  simp only [Bool.and_eq_true, Bool.not_eq_true', Bool.or_eq_false_iff, Bool.and_eq_false_iff, decide_eq_false_iff_not, beq_eq_false_iff_ne, beq_iff_eq, Bool.not_eq_false'] at h
  obtain ⟨⟨⟨⟨h1, h2⟩, h3⟩, h4⟩, h5⟩ := h
  by_cases hk : k = 1
  · rcases h1 with h1 | h1
    · exact absurd hk h1
    · exact .inl ⟨hk, h1.1, h1.2⟩
  · right
    rcases h5 with h5 | h5
    · exact absurd h5 hk
    · refine ⟨?_, List.length_eq_zero_iff.1 (by omega), List.length_eq_zero_iff.1 (by omega)⟩
      rcases h2 with h2 | h2
      · have : k = 3 ∨ k = 4 := by omega
        exact this.elim (fun h => .inr (.inl h)) (fun h => .inr (.inr h))
      · by_cases hk2 : k = 2
        · exact .inl ⟨hk2, h2⟩
        · have : k = 3 ∨ k = 4 := by omega
          exact this.elim (fun h => .inr (.inl h)) (fun h => .inr (.inr h))
theorem nmB_calls (l : List UInt8) (h : nmB l = true) (W : World) : Calls Tryz.prog 44 #[.string (strB l)] W (Leaves (.bool true) W) := by
  unfold nmB at h
  rw [Bool.and_eq_true, decide_eq_true_eq] at h
  exact name_text W l h.1 true h.2
set_option maxRecDepth 100000 in
set_option maxHeartbeats 8000000 in
theorem sound_step {m : Nat} (hih : ∀ {W : World} {r2 : Nr} {t2 : Tr}, NodeIn W Any r2 t2 → t2.snd nmB = true → t2.count ≤ m → Calls Tryz.prog 15 #[nodeV r2] W (Leaves (.bool true) W)) {w : World} {r : Nr} {t : Tr} (h : NodeIn w Any r t) (hs : t.snd nmB = true) (hm : t.count ≤ m + 1) (hmm : m + 1 ≤ 1000000) : Calls Tryz.prog 15 #[nodeV r] w (Leaves (.bool true) w) := by
  obtain ⟨k, n, x, av, kv⟩ := r
  obtain ⟨sn, hsn⟩ : ∃ s, strB n = s := ⟨_, rfl⟩
  obtain ⟨st, hst⟩ : ∃ s, strB x = s := ⟨_, rfl⟩
  obtain ⟨w0, hw0⟩ : ∃ W, w.alloc (.cells #[.int .i64 k, .string sn, .string st, av, kv] 27) = W := ⟨_, rfl⟩
  have hb0 : Below w.heap.size w w0 := by rw [← hw0]; exact (Below.refl _ _).alloc (Nat.le_refl _) _
  have hbk : w0.heap[w.heap.size]? = some (.cells #[.int .i64 k, .string sn, .string st, av, kv] 27 (0, 0)) := by rw [← hw0]; exact heap_alloc_new w _
  obtain ⟨hk, hn, hx, ⟨xa, xc, hxa, _⟩, rows, hri, hni⟩ := h.kids
  dsimp only at hk hn hx hxa hri
  obtain ⟨ka, kc, hkv, hkc, hkm, hkp⟩ := kids_form hri hni
  obtain ⟨q0, na, hna, q1, nk, hnk⟩ : ∃ _ na, t.attrs.length = na ∧ ∃ _ nk, t.kids.length = nk := ⟨trivial, _, rfl, trivial, _, rfl⟩
  rw [hna] at hxa
  rw [hnk] at hkv hkp hkc
  subst hxa
  subst hkv
  obtain ⟨b2, o2, hk1, hk2⟩ : ∃ b2 o2, (nk = 0 ∨ ka = some ⟨b2, o2, none⟩) ∧ PtrsIn w0 Any (kidPs b2 o2 nk) t.kids := by
    rcases hkp with h0 | ⟨b2, o2, h1, h2⟩
    · exact ⟨0, 0, .inl (by rw [← hnk, h0]; rfl), by rw [h0] at hnk ⊢; rw [← hnk]; exact trivial⟩
    · exact ⟨b2, o2, .inr h1, h2.keep (keeps_below hb0 Non) (fun _ _ h => h) (fun _ h => h)⟩
  have HBK := Lib.hid hbk
  have HB0 := Lib.hid hb0
  have HW0 := Lib.hid hw0
  have HK1 := Lib.hid hk1
  have HK2 := Lib.hid hk2
  have HNK := Lib.hid hnk
  have HNA := Lib.hid hna
  have HKK := Lib.hid hk
  have HCT : Hid (t.count = 1 + na + cntL t.kids) := Lib.hid (by
    obtain ⟨z0, z1, z2, z3, z4⟩ := t
    rw [← hna]
    exact count_mk ..)
  have HNL : Hid (nk ≤ cntL t.kids) := Lib.hid (by rw [← hnk]; exact cntL_len _)
  unfold nodeV
  dsimp only
  rw [hsn, hst]
  have HIH : Hid (∀ {W : World} {r2 : Nr} {t2 : Tr}, NodeIn W Any r2 t2 → t2.snd nmB = true → t2.count ≤ m → Calls Tryz.prog 15 #[nodeV r2] W (Leaves (.bool true) W)) := Lib.hid (fun h1 h2 h3 => hih h1 h2 h3)
  clear hih
  have HM : Hid (t.count ≤ m + 1 ∧ t.count ≤ 1000000) := Lib.hid ⟨hm, by omega⟩
  have hs2 : fitN nmB t.kind t.name t.text t.attrs t.kids = true ∧ sndL nmB false t.kids = true := by
    obtain ⟨z0, z1, z2, z3, z4⟩ := t
    rw [snd_mk, Bool.and_eq_true] at hs
    exact hs
  have HSL := Lib.hid hs2.2
  have hfk := fit_kind hs2.1
  rw [← hk, ← hn, ← hx] at hfk
  have hwn : ∀ W, nmB n = true → Calls Tryz.prog 44 #[.string sn] W (Leaves (.bool true) W) := fun W h => by
    have := nmB_calls n h W
    rw [hsn] at this
    exact this
  have hte : (st.toList == []) = (x == []) := by rw [← hst, str_eq]
  have hna0 : t.attrs = [] → na = 0 := fun h => by rw [← hnk] at *; rw [← hna, h]; rfl
  have hnk0 : t.kids = [] → nk = 0 := fun h => by rw [← hnk, h]; rfl
  clear hs hm hmm hs2
  clear h hbk hsn hst hb0 hw0 hk hn hx hri hni hkc hkm hkp hk1 hk2 hnk hna q0 q1
  rcases hfk with ⟨rfl, hnm, hxe⟩ | ⟨hkk, ha0, hk0⟩
  · have hst0 : (st.toList == []) = true := by rw [hte, hxe]; rfl
    have HNM := Lib.hid (fun W => hwn W hnm)
    clear hwn hte hnm hxe hna0 hnk0
    go_enter Tryz.func15, Tryz.ntmps15
    go_wp2_with fail
    rw [HW0.out]
    with_reducible refine (HNM.out w0).mono ?_
    rintro e w2 ⟨rfl, hb2⟩
    have HBS := Lib.hid hb2
    have hbk2 := block_keep HBK.out (keeps_below hb2 Non) (fun h => h)
    have z0 := (cell_of_block hbk2 0).trans rfl
    have z2 := (cell_of_block hbk2 2).trans rfl
    have z3 := (cell_of_block hbk2 3).trans rfl
    have z4 := (cell_of_block hbk2 4).trans rfl
    clear hbk2 hb2
    go_wp2_with fail
    go_loopg [3] nk (fun g s3 wr => ∃ i : Nat, i + g = nk ∧ s3 = .int .i64 (i : Int) ∧ Below w0.heap.size w0 wr)
    case atStart => exact ⟨0, by omega, rfl, HBS.out⟩
    case round =>
      obtain ⟨i, hig, rfl, hb⟩ := hrel
      have HB := Lib.hid hb
      clear hb
      have hbk2 := block_keep HBK.out (keeps_below HB.out Non) (fun h => h)
      have z4 := (cell_of_block hbk2 4).trans rfl
      clear hbk2
      cases gk with
      | zero =>
        obtain rfl : i = nk := by omega
        have hge : ¬ (i < i) := by omega
        go_wp2_with fail
        go_ret
        exact ⟨rfl, HB0.out.trans (HB.out.mono HB0.out.size)⟩
      | succ g =>
        have hlt : i < nk := by omega
        have hltI : (i : Int) < (nk : Int) := by omega
        have hi0 : (0 : Int) ≤ (i : Int) := by omega
        obtain ⟨t2, ht2, b3, o3, r2, hp2, _, hnr2, hnd2⟩ := HK2.out.at (kidPs_at b2 o2 nk i (by omega))
        obtain ⟨rfl, rfl⟩ : b2 = b3 ∧ o2 + i * 5 = o3 := by injection hp2 with h1 h2; exact ⟨h1, h2⟩
        obtain ⟨y0, y1, y2, y3, y4⟩ := hnr2.keep (keeps_below (HB.out) Non) (fun h => h)
        have hnd3 := hnd2.keep (keeps_below (HB.out) Non) (fun _ _ h => h) (fun _ h => h)
        obtain ⟨k2, n2, x2, av2, kv2⟩ := r2
        dsimp only at y0 y1 y2 y3 y4
        obtain rfl : ka = some ⟨b2, o2, none⟩ := by
          rcases HK1.out with h1 | h1
          · omega
          · exact h1
        have HC2 := Lib.hid (HIH.out hnd3 (sndL_at HSL.out ht2) (by have h1 := cnt_mem ht2; have h2 := HM.out; have h3 := HCT.out; omega))
        unfold nodeV at HC2
        dsimp only at HC2
        have hkk : k2 = t2.kind := hnd2.kids.1
        obtain ⟨sn2, hsn2⟩ : ∃ s, strB n2 = s := ⟨_, rfl⟩
        obtain ⟨st2, hst2⟩ : ∃ s, strB x2 = s := ⟨_, rfl⟩
        rw [hsn2] at y1 HC2
        rw [hst2] at y2 HC2
        have HLE : Hid (nk ≤ 1000000) := Lib.hid (by
          have h3 := HM.out
          have h4 := HCT.out
          have h6 := HNL.out
          omega)
        have hadd : IntKind.i64.wrap ((i : Int) + 1) = (i : Int) + 1 := IntWalk.i64_in _ (by have := HLE.out; omega)
        have HKK := Lib.hid hkk
        have HT2 := Lib.hid ht2
        have HNR2 := Lib.hid hnr2
        clear hp2 hnr2 hnd2 hnd3 ht2 hsn2 hst2 hkk
        go_wp2_with fail
        with_reducible refine HC2.out.mono ?_
        rintro e w2 ⟨rfl, hb2⟩
        have HB2 := Lib.hid (HB.out.trans (hb2.mono HB.out.size))
        replace z4 := (hb2.cell (lt_of_cell z4)).trans z4
        replace y0 := (hb2.cell (lt_of_cell y0)).trans y0
        clear hb2 HC2 y1 y2 y3 y4
        rcases Nat.eq_zero_or_pos i with h0 | hip
        · subst h0
          go_wp2_with fail
          go_roundg g
          case measure => omega
          case rel => exact ⟨0 + 1, by omega, rfl, HB2.out⟩
        · obtain ⟨p, hp⟩ : ∃ p, p + 1 = i := ⟨i - 1, by omega⟩
          have hpw : IntKind.i64.wrap ((i : Int) - 1) = (p : Int) := by
            rw [show (i : Int) - 1 = (p : Int) by omega]
            exact IntWalk.i64_in _ (by have := HLE.out; omega)
          have hpi : p < i := by omega
          have HPI := Lib.hid hp
          clear hp
          by_cases hk22 : k2 = 2
          · obtain ⟨t3, ht3, b3, o3, r3, hp3, _, hnr3, hnd3⟩ := HK2.out.at (kidPs_at b2 o2 nk p (by omega))
            obtain ⟨rfl, rfl⟩ : b2 = b3 ∧ o2 + p * 5 = o3 := by injection hp3 with h1 h2; exact ⟨h1, h2⟩
            obtain ⟨x0, _, _, _, _⟩ := hnr3.keep (keeps_below (HB2.out) Non) (fun h => h)
            have hk3 : (r3.kind == 2) = false := beq_eq_false_iff_ne.2 (fun h => sndL_two HSL.out ht3 (by rw [HPI.out]; exact HT2.out) ⟨by rw [← hnd3.kids.1]; exact h, by rw [← HKK.out]; exact hk22⟩)
            obtain ⟨k3, n3, x3, av3, kv3⟩ := r3
            dsimp only at x0 hk3
            subst hk22
            have hp0 : (0 : Int) ≤ (p : Int) := by omega
            have hpn : (p : Int) < (nk : Int) := by omega
            clear hp3 hnr3 hnd3 ht3 HT2 HKK hpi
            go_wp2_with fail
            go_roundg g
            case measure => omega
            case rel => exact ⟨i + 1, by omega, rfl, HB2.out⟩
          · have hke : (k2 == 2) = false := beq_eq_false_iff_ne.2 hk22
            clear hpi hk22 hpw
            go_wp2_with fail
            go_roundg g
            case measure => omega
            case rel => exact ⟨i + 1, by omega, rfl, HB2.out⟩
  · have hna1 : na = 0 := hna0 ha0
    have hnk1 : nk = 0 := hnk0 hk0
    subst hna1
    subst hnk1
    have HBS : Hid (Below w0.heap.size w0 w0) := Lib.hid (Below.refl _ _)
    clear hwn hna0 hnk0 ha0 hk0
    rcases hkk with ⟨rfl, hxe⟩ | rfl | rfl
    · have hst0 : (st.toList == []) = false := by rw [hte, beq_eq_false_iff_ne]; exact hxe
      clear hte hxe
      go_enter Tryz.func15, Tryz.ntmps15
      go_wp2_with fail
      rw [HW0.out]
      go_loopg [3] 0 (fun g s3 wr => s3 = .int .i64 0 ∧ wr = w0)
      case atStart => exact ⟨rfl, rfl⟩
      case round =>
        obtain ⟨rfl, hwr⟩ := hrel
        have z4 : wr.cell? ⟨w.heap.size, 4, none⟩ = some (.slice ka 0 kc) := by rw [hwr]; exact (cell_of_block HBK.out 4).trans rfl
        have HBR := Lib.hid (show Below w.heap.size w wr by rw [hwr]; exact HB0.out)
        clear hwr
        go_wp2_with fail
        go_ret
        exact ⟨rfl, HBR.out⟩
    · clear hte
      go_enter Tryz.func15, Tryz.ntmps15
      go_wp2_with fail
      rw [HW0.out]
      go_loopg [3] 0 (fun g s3 wr => s3 = .int .i64 0 ∧ wr = w0)
      case atStart => exact ⟨rfl, rfl⟩
      case round =>
        obtain ⟨rfl, hwr⟩ := hrel
        have z4 : wr.cell? ⟨w.heap.size, 4, none⟩ = some (.slice ka 0 kc) := by rw [hwr]; exact (cell_of_block HBK.out 4).trans rfl
        have HBR := Lib.hid (show Below w.heap.size w wr by rw [hwr]; exact HB0.out)
        clear hwr
        go_wp2_with fail
        go_ret
        exact ⟨rfl, HBR.out⟩
    · clear hte
      go_enter Tryz.func15, Tryz.ntmps15
      go_wp2_with fail
      rw [HW0.out]
      go_loopg [3] 0 (fun g s3 wr => s3 = .int .i64 0 ∧ wr = w0)
      case atStart => exact ⟨rfl, rfl⟩
      case round =>
        obtain ⟨rfl, hwr⟩ := hrel
        have z4 : wr.cell? ⟨w.heap.size, 4, none⟩ = some (.slice ka 0 kc) := by rw [hwr]; exact (cell_of_block HBK.out 4).trans rfl
        have HBR := Lib.hid (show Below w.heap.size w wr by rw [hwr]; exact HB0.out)
        clear hwr
        go_wp2_with fail
        go_ret
        exact ⟨rfl, HBR.out⟩

theorem sound_calls : ∀ (m : Nat) {w : World} {r : Nr} {t : Tr}, NodeIn w Any r t → t.snd nmB = true → t.count ≤ m → m ≤ 1000000 → Calls Tryz.prog 15 #[nodeV r] w (Leaves (.bool true) w)
  | 0, _, _, t, _, _, h0, _ => by have := count_pos t; omega
  | m + 1, _, _, _, h, hs, hm, hmm => sound_step (fun h1 h2 h3 => sound_calls m h1 h2 h3 (by omega)) h hs hm hmm

end Go.Proofs.YtfonflbpkbibbaaGreatDoor
