/-
  The program's Append to a segment. Conditions: the disk and the segment lie in blocks of the law's own; the disk is small, the records are few and short; the library's table of powers of ten is laid.
-/
import Derived.Test.YtjhiekijbcjohaaGreatDoorSCreate
namespace Go.Proofs.YtjhiekijbcjohaaGreatDoor
open Go.RowKit Go.Lib Go.Joins

theorem frs_flat : ∀ L : List (List Nat), (L.map putB).flatten = frs L
  | [] => rfl
  | r :: L => by rw [List.map_cons, List.flatten_cons, frs_flat L]; rfl
theorem tot_put : ∀ L : List (List Nat), tot (L.map putB) ≤ 8 * L.length + tot L
  | [] => Nat.zero_le _
  | r :: L => by
    have := tot_put L
    have := putB_len r
    rw [List.map_cons, tot_cons, tot_cons, List.length_cons]
    omega

/-- What the loop of Append has made: a row of frames, the first i of them. -/
def FrSt (w wr : World) (F m : Nat) (L : List (List Nat)) (i : Nat) : Prop :=
  Below w.heap.size w wr ∧ w.heap.size ≤ F ∧ ∃ (C : List Value) (SF : Nat → Prop), wr.heap[F]? = some (.cells C.toArray 27 (0, 0)) ∧ C.length = m ∧ (∀ j r, j < i → L[j]? = some r → ∃ u, C[j]? = some u ∧ Byt wr SF u (putB r)) ∧ (∀ k, SF k → k ≠ F ∧ k < wr.heap.size)
theorem FrSt.put {w wr w2 : World} {F m i : Nat} {L : List (List Nat)} {r : List Nat} {v : Value} (h : FrSt w wr F m L i) (hi : i < m) (hr : L[i]? = some r) (ho : Own wr w2 v (putB r)) : (∃ u, w2.cell? ⟨F, i, none⟩ = some u) ∧ w2.frozen? ⟨F, i, none⟩ = false ∧ FrSt w (w2.setCell ⟨F, i, none⟩ v) F m L (i + 1) ∧ (w2.setCell ⟨F, i, none⟩ v).cell? ⟨F, i, none⟩ = some v := by
  obtain ⟨h1, h2, C, SF, h3, h4, h5, h6⟩ := h
  have hF := lt_of_block h3
  have h3' : w2.heap[F]? = some (.cells C.toArray 27 (0, 0)) := block_below ho.bel h3
  have hiC : i < C.length := by omega
  have hk : Keeps (One F) w2 (w2.setCell ⟨F, i, none⟩ v) := (Keeps.refl (One F) w2).setCell (p := ⟨F, i, none⟩) (.inl rfl) v
  have hb := block_setCell (i := i) h3' v
  have hset : C.toArray.setIfInBounds i v = (C.set i v).toArray := by simp
  rw [hset] at hb
  refine ⟨⟨C[i], ?_⟩, unfrozen_of_block h3' i, ⟨?_, h2, C.set i v, fun k => (SF k ∧ k < wr.heap.size) ∨ v.ownBlock = some k, hb, by rw [List.length_set]; exact h4, ?_, ?_⟩, ?_⟩
  · rw [cell_of_block h3' i]; simp [hiC]
  · exact (h1.trans (ho.bel.mono h1.size)).trans (hk.toBelow (by have := h1.size; have := ho.bel.size; omega) (fun k e => by rw [show k = F from e]; exact h2))
  · intro j x hj hx
    by_cases hji : j = i
    · subst hji
      rw [hr] at hx
      obtain rfl := Option.some.inj hx
      refine ⟨v, by rw [List.getElem?_set_self hiC], (ho.byt.keep hk (fun k e e2 => ?_)).mono (fun _ h => .inr h)⟩
      have := ho.new k e
      have e3 : k = F := e2
      omega
    · obtain ⟨u, e1, e2⟩ := h5 j x (by omega) hx
      refine ⟨u, by rw [List.getElem?_set_ne (fun e => hji e.symm)]; exact e1, ?_⟩
      obtain ⟨⟨a, c, rfl, hrow, hrest⟩⟩ := e2
      exact ⟨⟨a, c, rfl, ((hrow.below ho.bel).keep hk (fun k e e2 => (h6 k e).1 e2)).mono (fun k e => .inl ⟨e, (h6 k e).2⟩), hrest⟩⟩
  · intro k hk2
    have hsz : (w2.setCell ⟨F, i, none⟩ v).heap.size = w2.heap.size := by simp [World.setCell]
    rw [hsz]
    rcases hk2 with ⟨e, e2⟩ | e
    · exact ⟨(h6 k e).1, Nat.lt_of_lt_of_le e2 ho.bel.size⟩
    · exact ⟨fun e2 => by have := ho.new k e; omega, ho.lt k e⟩
  · rw [cell_of_block hb i]
    simp [hiC]
theorem FrSt.recs {w wr : World} {F m : Nat} {L : List (List Nat)} (h : FrSt w wr F m L m) (hm : L.length = m) : ∃ SR, Recs wr SR (some ⟨F, 0, none⟩) (L.map putB) := by
  obtain ⟨h1, h2, C, SF, h3, h4, h5, h6⟩ := h
  refine ⟨fun k => SF k ∨ k = F, C, ⟨by rw [List.length_map, h4, hm], fun i l hi => ?_⟩, .inr ⟨F, 0, rfl, .inr rfl, fun j u hu => ?_⟩⟩
  · rw [List.getElem?_map] at hi
    obtain ⟨r, hr, rfl⟩ := Option.map_eq_some_iff.1 hi
    obtain ⟨u, e1, e2⟩ := h5 i r (by have := (List.getElem?_eq_some_iff.1 hr).1; omega) hr
    exact ⟨u, e1, e2.mono (fun _ h => .inl h)⟩
  · rw [Nat.zero_add, cell_of_block h3 j]
    simpa using hu

theorem FrSt.made {w : World} {L : List (List Nat)} {m : Nat} (hm : m ≤ 1073741824) : ∃ W1, (Instr.makeSlice 53 (.int .i64 (m : Int)) (.int .i64 (m : Int))).run Tryz.prog w = .ok (.slice (some ⟨w.heap.size, 0, none⟩) m m) W1 ∧ FrSt w W1 w.heap.size m L 0 := by
  obtain ⟨i5, hi5, hj50, hj51, hj52⟩ := info_parts info22
  obtain ⟨W1, hrun, hown, hgr⟩ := run_make_full (P := Tryz.prog) w 0 53 27 i5 (.slice none 0 0) 1 Tryz.underlying53 hi5 hj50 hj51 .i64 .i64 m (by rw [hj52]; omega) (by unfold maxLen; omega) (Nat.zero_le _)
  refine ⟨W1, hrun, (Below.refl _ _).grown hgr (Nat.le_refl _) (fun k e => by cases e), Nat.le_refl _, ?_⟩
  rcases hown.2 with ⟨h1, _⟩ | ⟨g, cap, cur, h1, _, h2, _, _, h3, _⟩
  · cases h1
  · simp only [Value.slice.injEq, Option.some.injEq, Addr.mk.injEq] at h1
    obtain ⟨⟨rfl, _⟩, _, rfl⟩ := h1
    exact ⟨cur.toList, Non, by rw [Array.toArray_toList]; exact h2, by rw [Array.length_toList, h3, Nat.mul_one], fun j r hj => absurd hj (Nat.not_lt_zero j), fun k e => e.elim⟩

def AOut (w0 w : World) (S : Nat → Prop) (b B : Nat) (n c : Int) (d : Dsk) (g : Sg) (e : Ending) (w' : World) : Prop := ∃ ev, e = .returned ev ∧ ErrAt w.heap.size w' c n ev ∧ WSt w0 w w' S b B n d g

set_option maxRecDepth 100000 in
set_option maxHeartbeats 8000000 in
theorem sappend_calls {w0 w : World} {S SR : Nat → Prop} {b B : Nat} {n : Int} {d : Dsk} {z M K : Nat} {sk : Bool} (a : Option Addr) (L : List (List Nat)) (c m : Nat) (h : Live w0 w S B d) (ht : Tab w0) (hg : SegAt w b B n ⟨z, sk⟩) (hb : ¬ S b) (hw0 : w0.heap.size ≤ b) (hfew : Few d M K) (hM : M + (8 * m + tot L) ≤ 1073741824) (hK : K ≤ 1073741000)
    (hr : Recs w SR a L) (hm : L.length = m) (hz : z ≤ 1099511627776) :
    Calls Tryz.prog 23 #[.pointer (some ⟨b, 0, none⟩), .slice a m c] w (AOut w0 w S b B n (appendB d n ⟨z, sk⟩ L).1 (appendB d n ⟨z, sk⟩ L).2.2 (appendB d n ⟨z, sk⟩ L).2.1) := by
  have HST := Lib.hid (WSt.start h hb hg)
  have HFE := Lib.hid (fun W c => fail_calls c n W)
  have c3 := hg.c3
  have c1 := hg.c1
  have HC1 : Hid (∀ W, Below w.heap.size w W → W.cell? ⟨b, 1, none⟩ = some (.int .i64 n)) := Lib.hid (fun W hb => (hg.below hb).c1)
  dsimp only at c3
  cases sk with
  | true =>
    have he : appendB d n ⟨z, true⟩ L = (51, ⟨z, true⟩, d) := if_pos rfl
    rw [he]
    clear he h ht hg hb hfew hr hm HC1
    go_enter Tryz.func23, Tryz.ntmps23
    go_wp2_with fail
    with_reducible refine (HFE.out w 51).mono ?_
    rintro e w7 ⟨ev, rfl, herr, hb7⟩
    have HE := Lib.hid herr
    have HB7 := Lib.hid hb7
    clear herr hb7
    go_wp2
    go_ret
    exact ⟨_, rfl, HE.out, HST.out.quiet HB7.out⟩
  | false =>
    have he : appendB d n ⟨z, false⟩ L = if okL L = false then (80, ⟨z, false⟩, d)
        else ((writeB d n z (frs L)).1, ⟨if (writeB d n z (frs L)).1 = 0 then z + (frs L).length else z, (writeB d n z (frs L)).2.1⟩, (writeB d n z (frs L)).2.2) := if_neg (by simp)
    have hfl := frs_len L
    have htp := tot_put L
    rw [hm] at hfl htp
    have HBADO : Hid (okL L = false → ∀ W1 W ev, ErrAt W1.heap.size W 80 n ev → Below w.heap.size w W1 → Below w.heap.size w W → AOut w0 w S b B n (appendB d n ⟨z, false⟩ L).1 (appendB d n ⟨z, false⟩ L).2.2 (appendB d n ⟨z, false⟩ L).2.1 (.returned ev) W) := Lib.hid (fun hok W1 W ev hE hB1 hB => by
      rw [he, if_pos hok]
      exact ⟨ev, rfl, hE.low hB1.size, HST.out.quiet hB⟩)
    have HOKO : Hid (okL L = true → ∀ w5 W W' ev, Below w.heap.size w w5 → WOut w0 w5 S b B n (writeB d n z (frs L)).1 (writeB d n z (frs L)).2.2 ⟨if (writeB d n z (frs L)).1 = 0 then z + (frs L).length else z, (writeB d n z (frs L)).2.1⟩ (.returned (.int .i64 (writeB d n z (frs L)).1)) W → ErrAt W.heap.size W' (writeB d n z (frs L)).1 n ev → Below W.heap.size W W' → AOut w0 w S b B n (appendB d n ⟨z, false⟩ L).1 (appendB d n ⟨z, false⟩ L).2.2 (appendB d n ⟨z, false⟩ L).2.1 (.returned ev) W') := Lib.hid (fun hok w5 W W' ev hB hW hE hB' => by
      rw [he, if_neg (by rw [hok]; decide)]
      obtain ⟨-, S', k1, k2, k3, k4, k5⟩ := hW
      refine ⟨ev, rfl, hE.low (Nat.le_trans hB.size k5.size), ?_⟩
      refine WSt.quiet ⟨S', k1, fun k e => ?_, k3, k4, (keeps_below hB _).trans k5 (fresh_refl _ _)⟩ hB'
      rcases k2 k e with h6 | h6
      · exact .inl h6
      · exact .inr (Nat.le_trans hB.size h6))
    have hbS := h.disk.2.1
    have hbw := lt_of_block hg
    have HWRT : Hid (∀ w5 (S0 : Nat → Prop) a5 c5, Below w.heap.size w w5 → Row w5 S0 a5 (L.map putB).flatten → (∀ k, S0 k → k < w5.heap.size ∧ w.heap.size ≤ k) → (a5 = none → c5 = 0) → (L.map putB).flatten.length ≤ c5 → c5 ≤ maxLen → Calls Tryz.prog 45 #[.pointer (some ⟨b, 0, none⟩), .slice a5 (L.map putB).flatten.length c5] w5 (WOut w0 w5 S b B n (writeB d n z (frs L)).1 (writeB d n z (frs L)).2.2 ⟨if (writeB d n z (frs L)).1 = 0 then z + (frs L).length else z, (writeB d n z (frs L)).2.1⟩)) := Lib.hid (fun w5 S0 a5 c5 hB hr5 hS5 hn5 hl5 hm5 => by
      rw [frs_flat] at hr5 hl5 ⊢
      exact swrite_calls a5 (frs L) c5 (frs L).length (h.quiet hB) ht (hg.below hB) hb hw0 hfew (by omega) hK hr5 (fun k e => ⟨(hS5 k e).1, fun e2 => by have := hbS k e2; have := (hS5 k e).2; omega⟩) hn5 rfl hl5 hm5 hz)
    have HFL : Hid ((L.map putB).flatten.length = (frs L).length) := Lib.hid (by rw [frs_flat])
    have HCONC := Lib.hid (fun W F (hW : ∃ SR, Recs W SR (some ⟨F, 0, none⟩) (L.map putB)) => by
      obtain ⟨SR2, hR⟩ := hW
      exact concat_calls (some ⟨F, 0, none⟩) (L.map putB) m m W hR (by rw [List.length_map, hm]) (by omega) (by omega))
    have HPUT := Lib.hid (fun W {S0 : Nat → Prop} r da dc (hr0 : Row W S0 da r) (hrl : r.length ≤ 1073741824) (h0 : da = none → dc = 0) (h1 : r.length ≤ dc) (h2 : dc ≤ maxLen) => put_calls da r r.length dc W hr0 rfl hrl h0 h1 h2)
    have HRM : Hid (∀ r ∈ L, r.length ≤ 1073741824) := Lib.hid (fun r hr => by have := tot_mem hr; omega)
    have HR := Lib.hid hr
    have HM := Lib.hid hm
    obtain ⟨PST, hP⟩ : ∃ P, AOut w0 w S b B n (appendB d n ⟨z, false⟩ L).1 (appendB d n ⟨z, false⟩ L).2.2 (appendB d n ⟨z, false⟩ L).2.1 = P := ⟨_, rfl⟩
    rw [hP] at HBADO HOKO ⊢
    have hwb : ∃ q, writeB d n z (frs L) = q := ⟨_, rfl⟩
    obtain ⟨q, hq⟩ := hwb
    rw [hq] at HOKO HWRT
    obtain ⟨q1, q2, q3⟩ := q
    dsimp only at HOKO HWRT
    obtain ⟨gq, hgq⟩ : ∃ gq, Sg.mk (if q1 = 0 then z + (frs L).length else z) q2 = gq := ⟨_, rfl⟩
    rw [hgq] at HOKO HWRT
    have hm63 : m ≤ 281474976710656 := by omega
    obtain ⟨W1, hmk, hst1⟩ := FrSt.made (w := w) (L := L) (m := m) (by omega)
    have HMK := Lib.hid hst1
    clear hst1 hP hq hgq he h ht hg hb hw0 hfew hr hm hfl htp hz hM hK hbS hbw
    go_enter Tryz.func23, Tryz.ntmps23
    go_wp2_with fail
    go_loopg [22] m (fun g idx wr => ∃ (i : Nat), idx = .int .i64 (i : Int) ∧ g + i = m ∧ FrSt w wr w.heap.size m L i ∧ (∀ r ∈ L.take i, 1 ≤ r.length ∧ r.length ≤ 1048576))
    case atStart =>
      exact ⟨0, rfl, rfl, HMK.out, fun r hr => by simp at hr⟩
    case round =>
      obtain ⟨i, rfl, hgm, hst, hall⟩ := hrel
      have HG := Lib.hid hgm
      have HFR := Lib.hid hst
      have HAL := Lib.hid hall
      clear hgm hst hall
      by_cases hlt : i < m
      · obtain ⟨g', rfl⟩ : ∃ g', gk = g' + 1 := ⟨gk - 1, by have := HG.out; omega⟩
        have hdd : decide ((i : Int) < (m : Int)) = true := by simp; omega
        obtain ⟨r, hr⟩ : ∃ r, L[i]? = some r := ⟨L[i]'(by rw [HM.out]; exact hlt), List.getElem?_eq_getElem _⟩
        obtain ⟨rb, ro, da, dc, rfl, _, r0, hrow, hnil, hl1, hl2⟩ := recs_at (HR.out.below HFR.out.1) hr
        have HPC := Lib.hid (HPUT.out wr r da dc hrow (HRM.out r (List.mem_of_getElem? hr)) hnil hl1 hl2)
        have HPUTS := Lib.hid (fun W v (ho : Own wr W v (putB r)) => HFR.out.put hlt hr ho)
        have hplen : (putB r).length = if 1 ≤ r.length ∧ r.length ≤ 1048576 then 8 + r.length else 0 := by
          unfold putB
          split
          · exact frm_len r
          · rfl
        have HPL := Lib.hid hplen
        have HRI := Lib.hid hr
        have hi1 : (i : Int) < (m : Int) := by omega
        obtain ⟨rl, hrl⟩ : ∃ rl, r.length = rl := ⟨_, rfl⟩
        rw [hrl] at r0 HPC HPL
        have HRLN := Lib.hid hrl
        clear hrow hnil hl1 hl2 hr hplen hrl
        go_wp2_with fail
        with_reducible refine HPC.out.mono ?_
        rintro e w2 ⟨v, rfl, hown⟩
        obtain ⟨⟨u0, k0⟩, k1, hst2, k2⟩ := HPUTS.out _ _ hown
        obtain ⟨av, cv, rfl, -⟩ := hown.form
        have HST2 := Lib.hid hst2
        clear hown hst2 HPUTS HPC HFR
        by_cases hv : 1 ≤ rl ∧ rl ≤ 1048576
        · have hp0 : ¬ (putB r).length = 0 := by rw [HPL.out, if_pos hv]; omega
          obtain ⟨pl, hpl⟩ : ∃ pl, (putB r).length = pl := ⟨_, rfl⟩
          rw [hpl] at k2 hp0 HST2 ⊢
          have hpe : ((pl : Int) == 0) = false := by simp; omega
          have HAL2 : Hid (∀ x ∈ L.take (i + 1), 1 ≤ x.length ∧ x.length ≤ 1048576) := Lib.hid (fun x hx => by
            rw [List.take_add_one, HRI.out] at hx
            rcases List.mem_append.1 hx with h6 | h6
            · exact HAL.out x h6
            · obtain rfl : x = r := by simpa using h6
              rw [HRLN.out]; exact hv)
          clear hpl hp0 HPL HAL
          go_wp2
          go_roundg g'
          case measure => omega
          case rel => exact ⟨i + 1, by go_num, by have := HG.out; omega, HST2.out, HAL2.out⟩
        · have hp0 : (putB r).length = 0 := by rw [HPL.out, if_neg hv]
          have HOK : Hid (okL L = false) := Lib.hid (by
            rw [Bool.eq_false_iff]
            intro e
            exact hv (by rw [← HRLN.out]; exact okL_rec e r (List.mem_of_getElem? HRI.out)))
          rw [hp0] at k2 HST2 ⊢
          have c1' := HC1.out _ HST2.out.1
          clear hp0 HPL HAL
          go_wp2_with fail
          with_reducible refine (HFE.out _ 80).mono ?_
          rintro e w7 ⟨ev, rfl, herr, hb7⟩
          have HE := Lib.hid herr
          have HB7 := Lib.hid (below_then HST2.out.1 hb7)
          clear herr hb7
          go_wp2
          exact HBADO.out HOK.out _ _ _ HE.out HST2.out.1 HB7.out
      · have hdd : decide ((i : Int) < (m : Int)) = false := by simp; omega
        obtain rfl : i = m := by have := HG.out; omega
        by_cases hm0 : i = 0
        · subst hm0
          have HOK : Hid (okL L = false) := Lib.hid (by
            have hL : L = [] := List.length_eq_zero_iff.1 HM.out
            rw [hL]; rfl)
          have c1' := HC1.out _ HFR.out.1
          go_wp2_with fail
          with_reducible refine (HFE.out _ 80).mono ?_
          rintro e w7 ⟨ev, rfl, herr, hb7⟩
          have HE := Lib.hid herr
          have HB7 := Lib.hid (below_then HFR.out.1 hb7)
          clear herr hb7
          go_wp2
          exact HBADO.out HOK.out _ _ _ HE.out HFR.out.1 HB7.out
        · have hme : ((i : Int) == 0) = false := by simp; omega
          have HOK : Hid (okL L = true) := Lib.hid (by
            unfold okL
            rw [Bool.and_eq_true, List.all_eq_true]
            refine ⟨by simp; rintro rfl; exact hm0 (HM.out.symm), fun r hr => ?_⟩
            have := HAL.out r (by rw [List.take_of_length_le (by rw [HM.out]; exact Nat.le_refl _)]; exact hr)
            simpa using this)
          have HSC : Hid (∀ W, (Below w.heap.size w W ∨ ∃ w5 : World, Below w.heap.size w w5 ∧ WSt w0 w5 W S b B n q3 gq) → W.cell? ⟨b, 1, none⟩ = some (.int .i64 n)) := Lib.hid (fun W hW => by
            rcases hW with hW | ⟨w5, _, S', _, _, _, hg, _⟩
            · exact HC1.out W hW
            · exact hg.c1)
          have HB0 : Hid (Below w.heap.size w wr.drew) := Lib.hid (below_then HFR.out.1 (below_drewN wr 1))
          have HCC := Lib.hid (fun W (hW : Below w.heap.size w W) (hW2 : Below wr.heap.size wr W) => HCONC.out W w.heap.size (by
            obtain ⟨SR2, hR⟩ := HFR.out.recs HM.out
            exact ⟨SR2, hR.below hW2⟩))
          have HCC := Lib.hid (fun W (hW : W = wr.drew) => HCONC.out W w.heap.size (by
            obtain ⟨SR2, hR⟩ := HFR.out.recs HM.out
            rw [hW]
            exact ⟨SR2, hR.below (below_drewN wr 1)⟩))
          clear hm0 HAL
          go_wp2
          refine wp_region_held_drew (S := fun W => W.cell? ⟨b, 1, none⟩ = some (.int .i64 n)) (by kernel_rfl) (HSC.out _ (.inl HB0.out)) (fun hHeld => ?_)
          refine wpAnyH_take (i := 0) (v := ?_) rfl (by kernel_rfl) (by kernel_rfl) (by kernel_rfl) (fun _ _ _ h => h) (Or.inl ⟨by rfl, ?_⟩) (by assumption) ?_
          rotate_left
          · intro W hS
            try dsimp only at hS
            go_simp
            try with_reducible rfl
          simp only [List.getElem_toArray, List.getElem_cons_zero, Act.put, List.setIfInBounds_toArray, List.set_cons_zero, List.set_cons_succ]
          refine wpAnyH_take (i := 1) (v := ?_) rfl (by kernel_rfl) (by kernel_rfl) (by kernel_rfl) (fun _ _ _ h => h) (Or.inl ⟨by rfl, ?_⟩) (by assumption) ?_
          rotate_left
          · intro W hS
            try dsimp only at hS
            go_simp
            try with_reducible rfl
          simp only [List.getElem_toArray, List.getElem_cons_succ, List.getElem_cons_zero, Act.put, List.setIfInBounds_toArray, List.set_cons_zero, List.set_cons_succ]
          refine wpAnyH_take (i := 4) (v := ?_) rfl (by kernel_rfl) (by kernel_rfl) (by kernel_rfl) (fun _ _ _ h => h) (Or.inl ⟨by rfl, ?_⟩) (by assumption) ?_
          rotate_left
          · intro W hS
            try dsimp only at hS
            go_simp
            try with_reducible rfl
          simp only [List.getElem_toArray, List.getElem_cons_succ, List.getElem_cons_zero, Act.put, List.setIfInBounds_toArray, List.set_cons_zero, List.set_cons_succ]
          refine wpAnyH_take (i := 5) (v := ?_) rfl (by kernel_rfl) (by kernel_rfl) (by kernel_rfl) (fun _ _ _ h => h) (Or.inl ⟨by rfl, ?_⟩) (by assumption) ?_
          rotate_left
          · intro W hS
            try dsimp only at hS
            go_simp
            try with_reducible rfl
          simp only [List.getElem_toArray, List.getElem_cons_succ, List.getElem_cons_zero, Act.put, List.setIfInBounds_toArray, List.set_cons_zero, List.set_cons_succ]
          refine wpAnyH_take (i := 6) (v := ?_) rfl (by kernel_rfl) (by kernel_rfl) (by kernel_rfl) (fun _ _ _ h => h) (Or.inl ⟨by rfl, ?_⟩) (by assumption) ?_
          rotate_left
          · intro W hS
            try dsimp only at hS
            go_simp
            try with_reducible rfl
          simp only [List.getElem_toArray, List.getElem_cons_succ, List.getElem_cons_zero, Act.put, List.setIfInBounds_toArray, List.set_cons_zero, List.set_cons_succ]
          refine wpAnyH_take (i := 7) (v := ?_) rfl (by kernel_rfl) (by kernel_rfl) (by kernel_rfl) (fun _ _ _ h => h) (Or.inl ⟨by rfl, ?_⟩) (by assumption) ?_
          rotate_left
          · intro W hS
            try dsimp only at hS
            go_simp
            try with_reducible rfl
          simp only [List.getElem_toArray, List.getElem_cons_succ, List.getElem_cons_zero, Act.put, List.setIfInBounds_toArray, List.set_cons_zero, List.set_cons_succ]
          refine wpAnyH_ready (rs := [2]) (by kernel_rfl) (by simp) ?_
          refine AllReadyH.cons rfl (fun K hK => ?_) AllReadyH.nil
          go_simp
          with_reducible refine (HCC.out _ rfl).mono ?_
          rintro e w5 ⟨v5, rfl, hown5⟩
          obtain ⟨a5, c5, rfl, hr5, hn5, hl5, hm5⟩ := hown5.form
          have HB5 := Lib.hid (below_then HB0.out hown5.bel)
          have HWR := Lib.hid (HWRT.out w5 (fun k => (Value.slice a5 (L.map putB).flatten.length c5).ownBlock = some k) a5 c5 HB5.out hr5 (fun k e => ⟨hown5.lt k e, Nat.le_trans HB0.out.size (hown5.new k e)⟩) hn5 hl5 hm5)
          rw [HFL.out] at HWR ⊢
          clear hown5 hr5 hn5 hl5 hm5
          refine hK.out _ _ (HSC.out _ (.inl HB5.out)) (fun hHeld => ?_)
          clear hK K
          try simp only [List.getElem_toArray, List.getElem_cons_succ, List.getElem_cons_zero, Act.put, List.setIfInBounds_toArray, List.set_cons_zero, List.set_cons_succ]
          refine wpAnyH_ready (rs := [3]) (by kernel_rfl) (by simp) ?_
          refine AllReadyH.cons rfl (fun K hK => ?_) AllReadyH.nil
          go_simp
          with_reducible refine (HWR.out).mono ?_
          rintro e w6 ⟨rfl, hw6⟩
          have HW6 := Lib.hid hw6
          clear hw6
          refine hK.out _ _ (HSC.out _ (.inr ⟨_, HB5.out, HW6.out⟩)) (fun hHeld => ?_)
          clear hK K
          try simp only [List.getElem_toArray, List.getElem_cons_succ, List.getElem_cons_zero, Act.put, List.setIfInBounds_toArray, List.set_cons_zero, List.set_cons_succ]
          refine wpAnyH_ready (rs := [8]) (by kernel_rfl) (by simp) ?_
          refine AllReadyH.cons rfl (fun K hK => ?_) AllReadyH.nil
          go_simp
          with_reducible refine (HFE.out w6 q1).mono ?_
          rintro e w7 ⟨ev, rfl, herr, hb7⟩
          have HE := Lib.hid herr
          have HB7 := Lib.hid hb7
          clear herr hb7
          refine hK.out _ _ (HSC.out _ (.inr ⟨_, HB5.out, HW6.out.quiet HB7.out⟩)) (fun hHeld => ?_)
          clear hK K
          try simp only [List.getElem_toArray, List.getElem_cons_succ, List.getElem_cons_zero, Act.put, List.setIfInBounds_toArray, List.set_cons_zero, List.set_cons_succ]
          refine wpAnyH_take (i := 9) (v := ?_) rfl (by kernel_rfl) (by kernel_rfl) (by kernel_rfl) (fun _ _ _ h => h) (Or.inl ⟨by rfl, ?_⟩) (by assumption) ?_
          rotate_left
          · intro W hS
            try dsimp only at hS
            go_simp
            try with_reducible rfl
          simp only [List.getElem_toArray, List.getElem_cons_succ, List.getElem_cons_zero, Act.put, List.setIfInBounds_toArray, List.set_cons_zero, List.set_cons_succ]
          refine wpAnyH_done (by kernel_rfl) ?_ _
          go_wp2
          exact HOKO.out HOK.out _ _ _ _ HB5.out ⟨rfl, HW6.out⟩ HE.out HB7.out

end Go.Proofs.YtjhiekijbcjohaaGreatDoor
