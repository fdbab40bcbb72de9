/-
  The reference's Append to a segment. Conditions: the disk and the segment lie in memory; the disk is small, the records are few and short, its troubles are few; the segment isn't empty.
-/
import Derived.Test.YtjhiekijbcjohaaGreatDoorRSegO
import Derived.Deep.RegionHeld
namespace Go.Proofs.YtjhiekijbcjohaaGreatDoor
open Go.RowKit Go.Lib Go.Joins
open List (getElem_toArray getElem_cons_succ getElem_cons_zero setIfInBounds_toArray set_cons_zero set_cons_succ)

/-- wpAnyH_take where the operation is wanted; what is to be computed is asked by itself. -/
theorem tkH {P : Program} {md : Region.Mode} {ops : Array Oper} {Q : Exit → Act → World → Prop} {S : World → Prop} (i : Nat) {oi : Oper} {v : Value} {fuel : Nat} {listed : Array Bool} {a : Act} {w : World} (hi : ops[i]? = some oi)
    (hy : ∀ w, S w → (execOp a.eval oi).run P w = .ok (.value v) w) (h : wpAnyH P md ops Q S fuel (listed.setIfInBounds i true) (a.put oi.dst v) w)
    (hk : (Region.noSelect ops && Region.free md ops listed i && (Region.ready md ops listed).contains i) = true)
    (hQ : ∀ c a w, Q (.panic c) (a.put oi.dst v) w → Q (.panic c) a w) (hg : Region.wanted oi (yielded ops a.tmps) = true) (hS : S w) : wpAnyH P md ops Q S (fuel + 1) listed a w := by
  rw [Bool.and_eq_true, Bool.and_eq_true] at hk
  exact wpAnyH_take hi hk.1.1 hk.1.2 hk.2 hQ (.inl ⟨hg, hy⟩) hS h

/-- The reference's disk and segment, reached from w: nothing else has turned. -/
def RWSt (w w' : World) (S : Nat → Prop) (b B : Nat) (n : Int) (d : Dsk) (g : Sg) : Prop :=
  ∃ S', RefD w' S' B d ∧ Fresh S w.heap.size S' ∧ ¬ S' b ∧ RSegAt w' b B n g ∧ Keeps (fun k => S k ∨ k = b) w w'
theorem RWSt.start {w : World} {S : Nat → Prop} {b B : Nat} {n : Int} {d : Dsk} {g : Sg} (h : RefD w S B d) (hb : ¬ S b) (hg : RSegAt w b B n g) : RWSt w w S b B n d g := ⟨S, h, fresh_refl _ _, hb, hg, Keeps.refl _ _⟩
theorem RWSt.quiet {w w1 w2 : World} {S : Nat → Prop} {b B : Nat} {n : Int} {d : Dsk} {g : Sg} (h : RWSt w w1 S b B n d g) (hb : Below w1.heap.size w1 w2) : RWSt w w2 S b B n d g := by
  obtain ⟨S', h1, h2, h3, h4, h5⟩ := h
  exact ⟨S', h1.below hb, h2, h3, h4.below hb, h5.trans (keeps_below hb Non) (fresh_non _ _)⟩
theorem RWSt.own {w w1 : World} {S : Nat → Prop} {b B : Nat} {n : Int} {d : Dsk} {g : Sg} (h : RWSt w w1 S b B n d g) : ∃ S', RefD w1 S' B d ∧ ¬ S' b ∧ RSegAt w1 b B n g ∧ ∀ w2 d', RTurns w1 S' B d' w2 → RWSt w w2 S b B n d' g := by
  obtain ⟨S1, h1, h2, h3, h4, h5⟩ := h
  refine ⟨S1, h1, h3, h4, fun w2 d' ht => ?_⟩
  obtain ⟨S2, k1, k2, k3⟩ := ht
  have hlt := lt_of_block h4
  refine ⟨S2, k1, fresh_trans h2 k2 h5.size, fun e => ?_, h4.keep k3 h3, h5.trans k3 (fun i hi => ?_)⟩
  · rcases k2 b e with h | h
    · exact h3 h
    · omega
  · rcases h2 i hi with h | h
    · exact .inl (.inl h)
    · exact .inr h
theorem RWSt.store {w w' : World} {S : Nat → Prop} {b B : Nat} {n : Int} {d : Dsk} {g g' : Sg} (h : RWSt w w' S b B n d g) {i : Nat} {v : Value} (hg : RSegAt (w'.setCell ⟨b, i, none⟩ v) b B n g') : RWSt w (w'.setCell ⟨b, i, none⟩ v) S b B n d g' := by
  obtain ⟨S', h1, h2, h3, h4, h5⟩ := h
  have hk : Keeps (One b) w' (w'.setCell ⟨b, i, none⟩ v) := (Keeps.refl (One b) w').setCell (p := ⟨b, i, none⟩) (.inl rfl) v
  exact ⟨S', h1.keep hk (fun k e he => h3 (by rw [← show k = b from he]; exact e)), h2, h3, hg, h5.trans hk (fun k e => .inl (.inr e))⟩
theorem RSegAt.sick_ {w : World} {b B : Nat} {n : Int} {z : Nat} {s : Bool} (h : RSegAt w b B n ⟨z, s⟩) (s' : Bool) : RSegAt (w.setCell ⟨b, 3, none⟩ (.bool s')) b B n ⟨z, s'⟩ := block_setCell (i := 3) h (.bool s')
theorem RSegAt.size_ {w : World} {b B : Nat} {n : Int} {z : Nat} {s : Bool} (h : RSegAt w b B n ⟨z, s⟩) (z' : Nat) : RSegAt (w.setCell ⟨b, 2, none⟩ (.int .i64 (z' : Int))) b B n ⟨z', s⟩ := block_setCell (i := 2) h (.int .i64 (z' : Int))

theorem frs_take {L : List (List Nat)} {i : Nat} {r : List Nat} (hr : L[i]? = some r) : frs (L.take (i + 1)) = frs (L.take i) ++ putB r := by
  rw [List.take_add_one, hr, frs_app]
  show frs (L.take i) ++ (putB r ++ []) = _
  rw [List.append_nil]
theorem frs_take_len (L : List (List Nat)) (i : Nat) : (frs (L.take i)).length ≤ 8 * L.length + tot L := by
  have h1 := frs_len L
  have h2 : frs L = frs (L.take i) ++ frs (L.drop i) := by rw [← frs_app, List.take_append_drop]
  rw [h2, List.length_append] at h1
  omega

def RAOut (w : World) (S : Nat → Prop) (b B : Nat) (n c : Int) (d : Dsk) (g : Sg) (e : Ending) (w' : World) : Prop := e = .returned (.int .i64 c) ∧ RWSt w w' S b B n d g

set_option maxRecDepth 100000 in
set_option maxHeartbeats 16000000 in
theorem rappend_calls {w : World} {S SR : Nat → Prop} {b B : Nat} {n : Int} {d : Dsk} {z M K : Nat} {sk : Bool} (a : Option Addr) (L : List (List Nat)) (c m : Nat) (h : RefD w S B d) (hg : RSegAt w b B n ⟨z, sk⟩) (hb : ¬ S b) (hz0 : z ≠ 0) (hfew : Few d M K) (hM : M ≤ 1000000000) (hML : 8 * m + tot L ≤ 1000000) (hK : K ≤ 1073740000) (htr : d.tr.length ≤ 1048576)
    (hr : Recs w SR a L) (hm : L.length = m) (hz : z ≤ 1099511627776) :
    Calls Tryz.prog 24 #[.pointer (some ⟨b, 0, none⟩), .slice a m c] w (RAOut w S b B n (appendB d n ⟨z, sk⟩ L).1 (appendB d n ⟨z, sk⟩ L).2.2 (appendB d n ⟨z, sk⟩ L).2.1) := by
  have HW00 := Lib.hid (RWSt.start h hb hg)
  have c3 := hg.c3
  dsimp only at c3
  cases sk with
  | true =>
    have he : appendB d n ⟨z, true⟩ L = (51, ⟨z, true⟩, d) := if_pos rfl
    rw [he]
    clear he h hg hb hfew hr hm
    go_enter Tryz.func24, Tryz.ntmps24
    go_wp2
    go_ret
    exact ⟨rfl, HW00.out⟩
  | false =>
    have he : appendB d n ⟨z, false⟩ L = if okL L = false then (80, ⟨z, false⟩, d)
        else ((writeB d n z (frs L)).1, ⟨if (writeB d n z (frs L)).1 = 0 then z + (frs L).length else z, (writeB d n z (frs L)).2.1⟩, (writeB d n z (frs L)).2.2) := if_neg (by simp)
    have HBADO : Hid (okL L = false → ∀ W, Below w.heap.size w W → RAOut w S b B n (appendB d n ⟨z, false⟩ L).1 (appendB d n ⟨z, false⟩ L).2.2 (appendB d n ⟨z, false⟩ L).2.1 (.returned (.int .i64 80)) W) := Lib.hid (fun hok W hB => by
      rw [he, if_pos hok]
      exact ⟨rfl, HW00.out.quiet hB⟩)
    have HOKO : Hid (okL L = true → ∀ W, RWSt w W S b B n (writeB d n z (frs L)).2.2 ⟨if (writeB d n z (frs L)).1 = 0 then z + (frs L).length else z, (writeB d n z (frs L)).2.1⟩ → RAOut w S b B n (appendB d n ⟨z, false⟩ L).1 (appendB d n ⟨z, false⟩ L).2.2 (appendB d n ⟨z, false⟩ L).2.1 (.returned (.int .i64 (writeB d n z (frs L)).1)) W) := Lib.hid (fun hok W hW => by
      rw [he, if_neg (by rw [hok]; decide)]
      exact ⟨rfl, hW⟩)
    obtain ⟨PST, hP⟩ : ∃ P, RAOut w S b B n (appendB d n ⟨z, false⟩ L).1 (appendB d n ⟨z, false⟩ L).2.2 (appendB d n ⟨z, false⟩ L).2.1 = P := ⟨_, rfl⟩
    rw [hP] at HBADO HOKO ⊢
    have hfl := frs_len L
    rw [hm] at hfl
    have HMK : Hid (M ≤ 1000000000 ∧ K ≤ 1073740000 ∧ (frs L).length ≤ 1000000) := Lib.hid ⟨hM, hK, by omega⟩
    have hbw := lt_of_block hg
    have HNM := Lib.hid (fun W => rname_calls n W)
    have HREF : Hid (∀ W, Below w.heap.size w W → RefD W S B d) := Lib.hid (fun W hB => h.below hB)
    have HFIRST : Hid (∀ W, Below w.heap.size w W → ∀ w2 d', RTurns W S B d' w2 → RWSt w w2 S b B n d' ⟨z, false⟩) := Lib.hid (fun W hB w2 d' ht => by
      obtain ⟨S2, k1, k2, k3⟩ := ht.from_ hB
      refine ⟨S2, k1, k2, fun e => ?_, hg.keep k3 hb, k3.mono (fun _ _ e => .inl e)⟩
      rcases k2 b e with h5 | h5
      · exact hb h5
      · omega)
    have hbS := h.2.1
    have HBS : Hid (∀ k, S k → k < w.heap.size) := Lib.hid hbS
    have HF0 := Lib.hid hfew
    have HTR0 := Lib.hid htr
    have HR := Lib.hid hr
    have HM := Lib.hid hm
    have HPUT := Lib.hid (fun W {S0 : Nat → Prop} r da dc (hr0 : Row W S0 da r) (hrl : r.length ≤ 1073741824) (h0 : da = none → dc = 0) => frput_calls da r r.length dc W hr0 rfl hrl h0)
    have HSC2 : Hid (∀ W, (∃ dk, RWSt w W S b B n dk ⟨z, false⟩) → W.cell? ⟨b, 0, none⟩ = some (.pointer (some ⟨B, 0, none⟩)) ∧ W.cell? ⟨b, 1, none⟩ = some (.int .i64 n)) := Lib.hid (fun W hW => by
      obtain ⟨dk, S9, _, _, _, h9, _⟩ := hW
      exact ⟨h9.c0, h9.c1⟩)
    have HSC3 : Hid (∀ W, (∃ dk s, RWSt w W S b B n dk ⟨z, s⟩) → W.cell? ⟨b, 0, none⟩ = some (.pointer (some ⟨B, 0, none⟩)) ∧ W.cell? ⟨b, 1, none⟩ = some (.int .i64 n) ∧ W.cell? ⟨b, 2, none⟩ = some (.int .i64 (z : Int))) := Lib.hid (fun W hW => by
      obtain ⟨dk, s, S9, _, _, _, h9, _⟩ := hW
      exact ⟨h9.c0, h9.c1, h9.c2⟩)
    have htl : ∀ i, (frs (L.take i)).length ≤ 1000000 := fun i => by have := frs_take_len L i; rw [hm] at this; omega
    have HTL := Lib.hid htl
    have hm63 : m ≤ 1000000 := by omega
    have hw := write_cases d n z (frs L)
    have hf2 : Few (step d (opA n (frs L))).2 (M + 1000000) (K + 1) := by
      by_cases hby : ∀ r ∈ L, Byts r
      · exact (hfew.step (opA n (frs L)) (frs_byts hby) (Nat.le_refl _)).mono (by show M + (frs L).length ≤ _; omega) (Nat.le_refl _)
      · exact absurd (fun r hr2 => by
          obtain ⟨j, hj⟩ := List.mem_iff_getElem?.1 hr2
          obtain ⟨_, _, _, _, _, _, _, h9, _⟩ := recs_at hr hj
          exact h9.1) hby
    have ht2 : (step d (opA n (frs L))).2.tr.length ≤ 1048576 := by rw [tr_step]; exact htr
    obtain ⟨⟨c2, d2⟩, hq2⟩ : ∃ q, step d (opA n (frs L)) = q := ⟨_, rfl⟩
    rw [hq2] at hw hf2 ht2
    dsimp only at hw hf2 ht2
    have HQ2 := Lib.hid hq2
    have HF2 := Lib.hid hf2
    have HTR2 := Lib.hid ht2
    have hf4 : Few (step d2 (opS n)).2 (M + 1000000) (K + 2) := hf2.step (opS n) byts_nil (Nat.le_refl _)
    have ht4 : (step d2 (opS n)).2.tr.length ≤ 1048576 := by rw [tr_step]; exact ht2
    obtain ⟨⟨c4, d4⟩, hq4⟩ : ∃ q, step d2 (opS n) = q := ⟨_, rfl⟩
    rw [hq4] at hw hf4 ht4
    dsimp only at hw hf4 ht4
    have HQ4 := Lib.hid hq4
    have HF4 := Lib.hid hf4
    have HTR4 := Lib.hid ht4
    have hun : ∀ d', undoB d' n z = step d' (opK n z) := fun _ => if_neg hz0
    rw [hun, hun] at hw
    have HW := Lib.hid hw
    clear he hP hw hf2 ht2 hf4 ht4 hq2 hq4 hun h hg hb hfew htr hr hm hbS htl hfl hbw hM hK hML
    go_enter Tryz.func24, Tryz.ntmps24
    go_wp2
    go_loopg [5, 6] m (fun gm av iv wr => ∃ (i : Nat), iv = .int .i64 (i : Int) ∧ gm + i = m ∧ Own w wr av (frs (L.take i)) ∧ (∀ r ∈ L.take i, 1 ≤ r.length ∧ r.length ≤ 1048576))
    case atStart => exact ⟨0, rfl, rfl, by rw [List.take_zero]; exact Own.nil w, fun r hr => by simp at hr⟩
    case round =>
      obtain ⟨i, rfl, hgm, hown, hall⟩ := hrel
      have HG := Lib.hid hgm
      have HOWN := Lib.hid hown
      have HAL0 := Lib.hid hall
      clear hgm hown hall
      by_cases hlt : i < m
      · obtain ⟨g', rfl⟩ : ∃ g', gk = g' + 1 := ⟨gk - 1, by have := HG.out; omega⟩
        have hdd : decide ((i : Int) < (m : Int)) = true := by simp; omega
        have hi1 : (i : Int) < (m : Int) := by omega
        obtain ⟨r, hr⟩ : ∃ r, L[i]? = some r := ⟨L[i]'(by rw [HM.out]; exact hlt), List.getElem?_eq_getElem _⟩
        obtain ⟨rb, ro, da, dc, rfl, _, r0, hrow, hnil, hl1, hl2⟩ := recs_at (HR.out.below HOWN.out.bel) hr
        have HRI := Lib.hid hr
        have HFT := Lib.hid (frs_take hr)
        have HBAD : Hid (¬ (1 ≤ r.length ∧ r.length ≤ 1048576) → okL L = false) := Lib.hid (fun hv => by
          rw [Bool.eq_false_iff]
          intro e
          exact hv (okL_rec e r (List.mem_of_getElem? hr)))
        have HPC : Hid (r.length ≤ 1048576 → Calls Tryz.prog 52 #[.slice da r.length dc] wr (Gives (putB r) wr)) := Lib.hid (fun h => HPUT.out wr r da dc hrow (by omega) hnil)
        obtain ⟨rl, hrl⟩ : ∃ rl, r.length = rl := ⟨_, rfl⟩
        have HRL := Lib.hid hrl
        rw [hrl] at r0 HBAD HPC
        clear hrow hnil hl1 hl2 hr hrl
        by_cases h1 : rl < 1
        · have d1 : decide ((rl : Int) < 1) = true := by simp; omega
          go_wp2
          exact HBADO.out (HBAD.out (by omega)) _ HOWN.out.bel
        have d1 : decide ((rl : Int) < 1) = false := by simp; omega
        by_cases h2 : 1048576 < rl
        · have d2' : decide ((1048576 : Int) < (rl : Int)) = true := by simp; omega
          go_wp2
          exact HBADO.out (HBAD.out (by omega)) _ HOWN.out.bel
        have d2' : decide ((1048576 : Int) < (rl : Int)) = false := by simp; omega
        have HPC2 := Lib.hid (HPC.out (by omega))
        have HAL2 : Hid (∀ x ∈ L.take (i + 1), 1 ≤ x.length ∧ x.length ≤ 1048576) := Lib.hid (fun x hx => by
          rw [List.take_add_one, HRI.out] at hx
          rcases List.mem_append.1 hx with h6 | h6
          · exact HAL0.out x h6
          · obtain rfl : x = r := by simpa using h6
            rw [HRL.out]; omega)
        clear HPC HBAD HAL0
        go_wp2_with fail
        with_reducible refine HPC2.out.mono ?_
        rintro e w2 ⟨v, rfl, hown2⟩
        obtain ⟨pa, pc, rfl, hprow, hpn, hpl, hpm⟩ := hown2.form
        obtain ⟨v7, w7, hrun7, hown7, -, -⟩ := (HOWN.out.below hown2.bel).append hprow rfl hpn (by have h8 := HTL.out i; have h9 := putB_len r; have := HRL.out; omega)
        rw [← HFT.out] at hown7
        have HRUN7 := Lib.hid hrun7
        have HO7 := Lib.hid hown7
        obtain ⟨pl, hpl2⟩ : ∃ y, (putB r).length = y := ⟨_, rfl⟩
        rw [hpl2] at HRUN7 ⊢
        clear hown2 hprow hpn hpl hpm hrun7 hown7 hpl2 HOWN HPC2 HFT
        go_wp2_with (at_builtin; refine wpList_step (fun K hK => step_app HRUN7.out (.tmp 32) (.tmp 37) rfl rfl rfl rfl (hK _ _ ?_)))
        go_wp2
        go_roundg g'
        case measure => omega
        case rel => exact ⟨i + 1, by go_num, by have := HG.out; omega, HO7.out, HAL2.out⟩
      · have hdd : decide ((i : Int) < (m : Int)) = false := by simp; omega
        obtain rfl : i = m := by have := HG.out; omega
        by_cases hm0 : i = 0
        · subst hm0
          have HOK : Hid (okL L = false) := Lib.hid (by
            have hL : L = [] := List.length_eq_zero_iff.1 HM.out
            rw [hL]; rfl)
          go_wp2
          exact HBADO.out HOK.out _ HOWN.out.bel
        · have hme : ((i : Int) == 0) = false := by simp; omega
          have HOK : Hid (okL L = true) := Lib.hid (by
            unfold okL
            rw [Bool.and_eq_true, List.all_eq_true]
            refine ⟨by simp; rintro rfl; exact hm0 (HM.out.symm), fun r hr => ?_⟩
            have := HAL0.out r (by rw [List.take_of_length_le (by rw [HM.out]; exact Nat.le_refl _)]; exact hr)
            simpa using this)
          have hown := HOWN.out
          rw [List.take_of_length_le (by rw [HM.out]; exact Nat.le_refl _)] at hown
          obtain ⟨a5, c5, rfl, hrow5, hn5, hl5, hm5⟩ := hown.form
          have HBR := Lib.hid hown.bel
          have HROW : Hid (∀ W, Below wr.heap.size wr W → Row W (fun k => (Value.slice a5 (frs L).length c5).ownBlock = some k) a5 (frs L)) := Lib.hid (fun W hB => hrow5.below hB)
          have HOFF : Hid (∀ k, (Value.slice a5 (frs L).length c5).ownBlock = some k → ¬ S k) := Lib.hid (fun k e hs => by have h1 := hown.new k e; have h2 := HBS.out k hs; omega)
          have HAL : Hid ((a5 = none → c5 = 0) ∧ (frs L).length ≤ c5 ∧ c5 ≤ maxLen) := Lib.hid ⟨hn5, hl5, hm5⟩
          obtain ⟨fl, hfl⟩ : ∃ y, (frs L).length = y := ⟨_, rfl⟩
          rw [hfl] at HROW HOFF HAL HMK HOKO ⊢
          have HFL := Lib.hid hfl
          have HWD2 := Lib.hid (HW00.out.quiet (below_then HBR.out (below_drewN wr 1)))
          clear hown hrow5 hn5 hl5 hm5 hfl HOWN HAL0 HR HPUT
          by_cases e2 : c2 = 0
          case neg =>
            have hw1 := HW.out.1 e2
            obtain ⟨⟨c3, d3⟩, hq3⟩ : ∃ q, step d2 (opK n z) = q := ⟨_, rfl⟩
            have HQ3 := Lib.hid hq3
            rw [hq3] at hw1
            have hok := HOKO.out HOK.out
            rw [hw1] at hok
            dsimp only at hok
            rw [if_neg e2] at hok
            have HFIN := Lib.hid hok
            clear hw1 hq3 hok
            have q2 : (c2 == 0) = false := by simpa using e2
            have q2' : (c2 != 0) = true := by simpa using e2
            go_wp2
            refine wp_region_held_drew (S := fun W => W.cell? ⟨b, 0, none⟩ = some (.pointer (some ⟨B, 0, none⟩)) ∧ W.cell? ⟨b, 1, none⟩ = some (.int .i64 n)) (by kernel_rfl) (HSC2.out _ ⟨_, HWD2.out⟩) (fun hHeld => ?_)
            refine tkH 0 (v := ?_) rfl ?_ ?_ (by kernel_rfl) (fun _ _ _ h => h) (by rfl) (by assumption)
            rotate_left
            · intro W hS; (try dsimp only at hS); go_simp; try with_reducible rfl
            simp only [getElem_toArray, getElem_cons_zero, Act.put, setIfInBounds_toArray, set_cons_zero, set_cons_succ]
            refine tkH 1 (v := ?_) rfl ?_ ?_ (by kernel_rfl) (fun _ _ _ h => h) (by rfl) (by assumption)
            rotate_left
            · intro W hS; (try dsimp only at hS); go_simp; try with_reducible rfl
            simp only [getElem_toArray, getElem_cons_succ, getElem_cons_zero, Act.put, setIfInBounds_toArray, set_cons_zero, set_cons_succ]
            refine tkH 2 (v := ?_) rfl ?_ ?_ (by kernel_rfl) (fun _ _ _ h => h) (by rfl) (by assumption)
            rotate_left
            · intro W hS; (try dsimp only at hS); go_simp; try with_reducible rfl
            simp only [getElem_toArray, getElem_cons_succ, getElem_cons_zero, Act.put, setIfInBounds_toArray, set_cons_zero, set_cons_succ]
            refine tkH 3 (v := ?_) rfl ?_ ?_ (by kernel_rfl) (fun _ _ _ h => h) (by rfl) (by assumption)
            rotate_left
            · intro W hS; (try dsimp only at hS); go_simp; try with_reducible rfl
            simp only [getElem_toArray, getElem_cons_succ, getElem_cons_zero, Act.put, setIfInBounds_toArray, set_cons_zero, set_cons_succ]
            refine tkH 4 (v := ?_) rfl ?_ ?_ (by kernel_rfl) (fun _ _ _ h => h) (by rfl) (by assumption)
            rotate_left
            · intro W hS; (try dsimp only at hS); go_simp; try with_reducible rfl
            simp only [getElem_toArray, getElem_cons_succ, getElem_cons_zero, Act.put, setIfInBounds_toArray, set_cons_zero, set_cons_succ]
            refine tkH 5 (v := ?_) rfl ?_ ?_ (by kernel_rfl) (fun _ _ _ h => h) (by rfl) (by assumption)
            rotate_left
            · intro W hS; (try dsimp only at hS); go_simp; try with_reducible rfl
            simp only [getElem_toArray, getElem_cons_succ, getElem_cons_zero, Act.put, setIfInBounds_toArray, set_cons_zero, set_cons_succ]
            refine tkH 6 (v := ?_) rfl ?_ ?_ (by kernel_rfl) (fun _ _ _ h => h) (by rfl) (by assumption)
            rotate_left
            · intro W hS; (try dsimp only at hS); go_simp; try with_reducible rfl
            simp only [getElem_toArray, getElem_cons_succ, getElem_cons_zero, Act.put, setIfInBounds_toArray, set_cons_zero, set_cons_succ]
            refine tkH 7 (v := ?_) rfl ?_ ?_ (by kernel_rfl) (fun _ _ _ h => h) (by rfl) (by assumption)
            rotate_left
            · intro W hS; (try dsimp only at hS); go_simp; try with_reducible rfl
            simp only [getElem_toArray, getElem_cons_succ, getElem_cons_zero, Act.put, setIfInBounds_toArray, set_cons_zero, set_cons_succ]
            refine tkH 9 (v := ?_) rfl ?_ ?_ (by kernel_rfl) (fun _ _ _ h => h) (by rfl) (by assumption)
            rotate_left
            · intro W hS; (try dsimp only at hS); go_simp; try with_reducible rfl
            simp only [getElem_toArray, getElem_cons_succ, getElem_cons_zero, Act.put, setIfInBounds_toArray, set_cons_zero, set_cons_succ]
            refine wpAnyH_ready (rs := [8]) (by kernel_rfl) (by simp) ?_
            refine AllReadyH.cons rfl (fun K hK => ?_) AllReadyH.nil
            go_simp
            with_reducible refine (HNM.out _).mono ?_
            rintro e wn2 ⟨rfl, hbn2⟩
            have HBW2 := Lib.hid (below_then (below_drewN wr 1) hbn2)
            have HBN2 := Lib.hid (below_then HBR.out HBW2.out)
            have HWN2 := Lib.hid (HWD2.out.quiet hbn2)
            clear hbn2
            refine hK.out _ _ (HSC2.out _ ⟨_, HWN2.out⟩) (fun hHeld => ?_)
            clear hK K
            try simp only [getElem_toArray, getElem_cons_succ, getElem_cons_zero, Act.put, setIfInBounds_toArray, set_cons_zero, set_cons_succ]
            refine wpAnyH_ready (rs := [10]) (by kernel_rfl) (by simp) ?_
            refine AllReadyH.cons rfl (fun K hK => ?_) AllReadyH.nil
            go_simp
            have hr2 := HREF.out _ HBN2.out
            have ht2 := HFIRST.out _ HBN2.out
            have hdo2 := ropa_calls n a5 (frs L) fl c5 hr2 HF0.out (by have := HMK.out; omega) (by have := HMK.out; omega) HTR0.out (HROW.out _ HBW2.out) HOFF.out HAL.out.1 HFL.out HAL.out.2.1 HAL.out.2.2 (by have := HMK.out; omega)
            rw [HQ2.out] at hdo2
            have HDO2 := Lib.hid hdo2
            have HTT2 := Lib.hid ht2
            clear hdo2 ht2 hr2
            with_reducible refine (HDO2.out).mono ?_
            rintro e w2 ⟨rfl, hx2⟩
            have HW2 := Lib.hid (HTT2.out _ _ hx2)
            clear hx2 HDO2 HTT2
            refine hK.out _ _ (HSC2.out _ ⟨_, HW2.out⟩) (fun hHeld => ?_)
            clear hK K
            skip
            refine tkH 11 (v := ?_) rfl ?_ ?_ (by kernel_rfl) (fun _ _ _ h => h) (by rfl) (by assumption)
            rotate_left
            · intro W hS; (try dsimp only at hS); go_simp; try with_reducible rfl
            simp only [getElem_toArray, getElem_cons_succ, getElem_cons_zero, Act.put, setIfInBounds_toArray, set_cons_zero, set_cons_succ]
            refine wpAnyH_done (by kernel_rfl) ?_ _
            go_wp2
            have HWD3 := Lib.hid (HW2.out.quiet (below_drewN _ 1))
            obtain ⟨bq, hbq⟩ : ∃ y : Bool, decide (c3 ≠ 0) = y := ⟨_, rfl⟩
            have HBQ := Lib.hid hbq
            have r1 : (c3 != 0) = bq := by rw [← hbq]; by_cases h0 : c3 = 0 <;> simp [h0]
            have r2 : (c3 == 0) = !bq := by rw [← hbq]; by_cases h0 : c3 = 0 <;> simp [h0]
            have r3 : decide (c3 = 0) = !bq := by rw [← hbq]; by_cases h0 : c3 = 0 <;> simp [h0]
            clear hbq
            refine wp_region_held_drew (S := fun W => W.cell? ⟨b, 0, none⟩ = some (.pointer (some ⟨B, 0, none⟩)) ∧ W.cell? ⟨b, 1, none⟩ = some (.int .i64 n) ∧ W.cell? ⟨b, 2, none⟩ = some (.int .i64 (z : Int))) (by kernel_rfl) (HSC3.out _ ⟨_, _, HWD3.out⟩) (fun hHeld => ?_)
            refine tkH 0 (v := ?_) rfl ?_ ?_ (by kernel_rfl) (fun _ _ _ h => h) (by rfl) (by assumption)
            rotate_left
            · intro W hS; (try dsimp only at hS); go_simp; try with_reducible rfl
            simp only [getElem_toArray, getElem_cons_zero, Act.put, setIfInBounds_toArray, set_cons_zero, set_cons_succ]
            refine tkH 1 (v := ?_) rfl ?_ ?_ (by kernel_rfl) (fun _ _ _ h => h) (by rfl) (by assumption)
            rotate_left
            · intro W hS; (try dsimp only at hS); go_simp; try with_reducible rfl
            simp only [getElem_toArray, getElem_cons_succ, getElem_cons_zero, Act.put, setIfInBounds_toArray, set_cons_zero, set_cons_succ]
            refine tkH 2 (v := ?_) rfl ?_ ?_ (by kernel_rfl) (fun _ _ _ h => h) (by rfl) (by assumption)
            rotate_left
            · intro W hS; (try dsimp only at hS); go_simp; try with_reducible rfl
            simp only [getElem_toArray, getElem_cons_succ, getElem_cons_zero, Act.put, setIfInBounds_toArray, set_cons_zero, set_cons_succ]
            refine tkH 3 (v := ?_) rfl ?_ ?_ (by kernel_rfl) (fun _ _ _ h => h) (by rfl) (by assumption)
            rotate_left
            · intro W hS; (try dsimp only at hS); go_simp; try with_reducible rfl
            simp only [getElem_toArray, getElem_cons_succ, getElem_cons_zero, Act.put, setIfInBounds_toArray, set_cons_zero, set_cons_succ]
            refine tkH 4 (v := ?_) rfl ?_ ?_ (by kernel_rfl) (fun _ _ _ h => h) (by rfl) (by assumption)
            rotate_left
            · intro W hS; (try dsimp only at hS); go_simp; try with_reducible rfl
            simp only [getElem_toArray, getElem_cons_succ, getElem_cons_zero, Act.put, setIfInBounds_toArray, set_cons_zero, set_cons_succ]
            refine tkH 5 (v := ?_) rfl ?_ ?_ (by kernel_rfl) (fun _ _ _ h => h) (by rfl) (by assumption)
            rotate_left
            · intro W hS; (try dsimp only at hS); go_simp; try with_reducible rfl
            simp only [getElem_toArray, getElem_cons_succ, getElem_cons_zero, Act.put, setIfInBounds_toArray, set_cons_zero, set_cons_succ]
            refine tkH 6 (v := ?_) rfl ?_ ?_ (by kernel_rfl) (fun _ _ _ h => h) (by rfl) (by assumption)
            rotate_left
            · intro W hS; (try dsimp only at hS); go_simp; try with_reducible rfl
            simp only [getElem_toArray, getElem_cons_succ, getElem_cons_zero, Act.put, setIfInBounds_toArray, set_cons_zero, set_cons_succ]
            refine tkH 7 (v := ?_) rfl ?_ ?_ (by kernel_rfl) (fun _ _ _ h => h) (by rfl) (by assumption)
            rotate_left
            · intro W hS; (try dsimp only at hS); go_simp; try with_reducible rfl
            simp only [getElem_toArray, getElem_cons_succ, getElem_cons_zero, Act.put, setIfInBounds_toArray, set_cons_zero, set_cons_succ]
            refine tkH 8 (v := ?_) rfl ?_ ?_ (by kernel_rfl) (fun _ _ _ h => h) (by rfl) (by assumption)
            rotate_left
            · intro W hS; (try dsimp only at hS); go_simp; try with_reducible rfl
            simp only [getElem_toArray, getElem_cons_succ, getElem_cons_zero, Act.put, setIfInBounds_toArray, set_cons_zero, set_cons_succ]
            refine tkH 10 (v := ?_) rfl ?_ ?_ (by kernel_rfl) (fun _ _ _ h => h) (by rfl) (by assumption)
            rotate_left
            · intro W hS; (try dsimp only at hS); go_simp; try with_reducible rfl
            simp only [getElem_toArray, getElem_cons_succ, getElem_cons_zero, Act.put, setIfInBounds_toArray, set_cons_zero, set_cons_succ]
            refine tkH 11 (v := ?_) rfl ?_ ?_ (by kernel_rfl) (fun _ _ _ h => h) (by rfl) (by assumption)
            rotate_left
            · intro W hS; (try dsimp only at hS); go_simp; try with_reducible rfl
            simp only [getElem_toArray, getElem_cons_succ, getElem_cons_zero, Act.put, setIfInBounds_toArray, set_cons_zero, set_cons_succ]
            refine tkH 12 (v := ?_) rfl ?_ ?_ (by kernel_rfl) (fun _ _ _ h => h) (by rfl) (by assumption)
            rotate_left
            · intro W hS; (try dsimp only at hS); go_simp; try with_reducible rfl
            simp only [getElem_toArray, getElem_cons_succ, getElem_cons_zero, Act.put, setIfInBounds_toArray, set_cons_zero, set_cons_succ]
            refine tkH 13 (v := ?_) rfl ?_ ?_ (by kernel_rfl) (fun _ _ _ h => h) (by rfl) (by assumption)
            rotate_left
            · intro W hS; (try dsimp only at hS); go_simp; try with_reducible rfl
            simp only [getElem_toArray, getElem_cons_succ, getElem_cons_zero, Act.put, setIfInBounds_toArray, set_cons_zero, set_cons_succ]
            refine wpAnyH_ready (rs := [9]) (by kernel_rfl) (by simp) ?_
            refine AllReadyH.cons rfl (fun K hK => ?_) AllReadyH.nil
            go_simp
            with_reducible refine (HNM.out _).mono ?_
            rintro e wn3 ⟨rfl, hbn3⟩
            have HWN3 := Lib.hid (HWD3.out.quiet hbn3)
            clear hbn3
            refine hK.out _ _ (HSC3.out _ ⟨_, _, HWN3.out⟩) (fun hHeld => ?_)
            clear hK K
            try simp only [getElem_toArray, getElem_cons_succ, getElem_cons_zero, Act.put, setIfInBounds_toArray, set_cons_zero, set_cons_succ]
            refine wpAnyH_ready (rs := [14]) (by kernel_rfl) (by simp) ?_
            refine AllReadyH.cons rfl (fun K hK => ?_) AllReadyH.nil
            go_simp
            obtain ⟨S3, hr3, hb3, hg3, ht3⟩ := HWN3.out.own
            have hdo3 : Calls Tryz.prog 46 #[.pointer (some ⟨B, 0, none⟩), .int .i64 3, .string (nameB n), .string ⟨#[]⟩, .int .i64 (z : Int), .slice none 0 0] wn3 (RDoes wn3 S3 B (.int .i64 (step d2 (opK n z)).1) (step d2 (opK n z)).2) := rop_calls 3 n (z : Int) (by decide) hr3 HF2.out (by have := HMK.out; omega) (by have := HMK.out; omega) HTR2.out
            rw [HQ3.out] at hdo3
            have HDO3 := Lib.hid hdo3
            have HTT3 := Lib.hid ht3
            clear hr3 hb3 hg3 ht3 hdo3
            with_reducible refine (HDO3.out).mono ?_
            rintro e w3 ⟨rfl, hx3⟩
            have HW3 := Lib.hid (HTT3.out _ _ hx3)
            clear hx3 HDO3 HTT3
            refine hK.out _ _ (HSC3.out _ ⟨_, _, HW3.out⟩) (fun hHeld => ?_)
            clear hK K
            skip
            refine tkH 15 (v := ?_) rfl ?_ ?_ (by kernel_rfl) (fun _ _ _ h => h) (by rfl) (by assumption)
            rotate_left
            · intro W hS; (try dsimp only at hS); go_simp; try with_reducible rfl
            simp only [getElem_toArray, getElem_cons_succ, getElem_cons_zero, Act.put, setIfInBounds_toArray, set_cons_zero, set_cons_succ]
            refine tkH 16 (v := ?_) rfl ?_ ?_ (by kernel_rfl) (fun _ _ _ h => h) (by rfl) (by assumption)
            rotate_left
            · intro W hS; (try dsimp only at hS); go_simp; try with_reducible rfl
            simp only [getElem_toArray, getElem_cons_succ, getElem_cons_zero, Act.put, setIfInBounds_toArray, set_cons_zero, set_cons_succ]
            refine tkH 17 (v := ?_) rfl ?_ ?_ (by kernel_rfl) (fun _ _ _ h => h) (by rfl) (by assumption)
            rotate_left
            · intro W hS; (try dsimp only at hS); go_simp; try with_reducible rfl
            simp only [getElem_toArray, getElem_cons_succ, getElem_cons_zero, Act.put, setIfInBounds_toArray, set_cons_zero, set_cons_succ]
            refine wpAnyH_ready (rs := [18]) (by kernel_rfl) (by simp) ?_
            refine AllReadyH.cons rfl (fun K hK => ?_) AllReadyH.nil
            go_simp
            obtain ⟨Sv, hrv, hbv, hgv, htv⟩ := HW3.out.own
            have k3 := unfrozen_of_block hgv 3
            have c3' := hgv.c3
            have HGV := Lib.hid (HW3.out.store (hgv.sick_ bq))
            clear hrv hbv htv
            go_simp
            refine hK.out _ _ (HSC3.out _ ⟨_, _, HGV.out⟩) (fun hHeld => ?_)
            clear hK K
            try simp only [getElem_toArray, getElem_cons_succ, getElem_cons_zero, Act.put, setIfInBounds_toArray, set_cons_zero, set_cons_succ]
            refine wpAnyH_done (by kernel_rfl) ?_ _
            go_wp2
            have hz := HBQ.out
            subst hz
            exact HFIN.out _ HGV.out

          subst e2
          by_cases e4 : c4 = 0
          case neg =>
            have hw1 := HW.out.2.2 rfl e4
            obtain ⟨⟨c3, d3⟩, hq3⟩ : ∃ q, step d4 (opK n z) = q := ⟨_, rfl⟩
            have HQ3 := Lib.hid hq3
            rw [hq3] at hw1
            have hok := HOKO.out HOK.out
            rw [hw1] at hok
            dsimp only at hok
            rw [if_neg e4] at hok
            have HFIN := Lib.hid hok
            clear hw1 hq3 hok
            have q4 : (c4 == 0) = false := by simpa using e4
            have q4' : (c4 != 0) = true := by simpa using e4
            go_wp2
            refine wp_region_held_drew (S := fun W => W.cell? ⟨b, 0, none⟩ = some (.pointer (some ⟨B, 0, none⟩)) ∧ W.cell? ⟨b, 1, none⟩ = some (.int .i64 n)) (by kernel_rfl) (HSC2.out _ ⟨_, HWD2.out⟩) (fun hHeld => ?_)
            refine tkH 0 (v := ?_) rfl ?_ ?_ (by kernel_rfl) (fun _ _ _ h => h) (by rfl) (by assumption)
            rotate_left
            · intro W hS; (try dsimp only at hS); go_simp; try with_reducible rfl
            simp only [getElem_toArray, getElem_cons_zero, Act.put, setIfInBounds_toArray, set_cons_zero, set_cons_succ]
            refine tkH 1 (v := ?_) rfl ?_ ?_ (by kernel_rfl) (fun _ _ _ h => h) (by rfl) (by assumption)
            rotate_left
            · intro W hS; (try dsimp only at hS); go_simp; try with_reducible rfl
            simp only [getElem_toArray, getElem_cons_succ, getElem_cons_zero, Act.put, setIfInBounds_toArray, set_cons_zero, set_cons_succ]
            refine tkH 2 (v := ?_) rfl ?_ ?_ (by kernel_rfl) (fun _ _ _ h => h) (by rfl) (by assumption)
            rotate_left
            · intro W hS; (try dsimp only at hS); go_simp; try with_reducible rfl
            simp only [getElem_toArray, getElem_cons_succ, getElem_cons_zero, Act.put, setIfInBounds_toArray, set_cons_zero, set_cons_succ]
            refine tkH 3 (v := ?_) rfl ?_ ?_ (by kernel_rfl) (fun _ _ _ h => h) (by rfl) (by assumption)
            rotate_left
            · intro W hS; (try dsimp only at hS); go_simp; try with_reducible rfl
            simp only [getElem_toArray, getElem_cons_succ, getElem_cons_zero, Act.put, setIfInBounds_toArray, set_cons_zero, set_cons_succ]
            refine tkH 4 (v := ?_) rfl ?_ ?_ (by kernel_rfl) (fun _ _ _ h => h) (by rfl) (by assumption)
            rotate_left
            · intro W hS; (try dsimp only at hS); go_simp; try with_reducible rfl
            simp only [getElem_toArray, getElem_cons_succ, getElem_cons_zero, Act.put, setIfInBounds_toArray, set_cons_zero, set_cons_succ]
            refine tkH 5 (v := ?_) rfl ?_ ?_ (by kernel_rfl) (fun _ _ _ h => h) (by rfl) (by assumption)
            rotate_left
            · intro W hS; (try dsimp only at hS); go_simp; try with_reducible rfl
            simp only [getElem_toArray, getElem_cons_succ, getElem_cons_zero, Act.put, setIfInBounds_toArray, set_cons_zero, set_cons_succ]
            refine tkH 6 (v := ?_) rfl ?_ ?_ (by kernel_rfl) (fun _ _ _ h => h) (by rfl) (by assumption)
            rotate_left
            · intro W hS; (try dsimp only at hS); go_simp; try with_reducible rfl
            simp only [getElem_toArray, getElem_cons_succ, getElem_cons_zero, Act.put, setIfInBounds_toArray, set_cons_zero, set_cons_succ]
            refine tkH 7 (v := ?_) rfl ?_ ?_ (by kernel_rfl) (fun _ _ _ h => h) (by rfl) (by assumption)
            rotate_left
            · intro W hS; (try dsimp only at hS); go_simp; try with_reducible rfl
            simp only [getElem_toArray, getElem_cons_succ, getElem_cons_zero, Act.put, setIfInBounds_toArray, set_cons_zero, set_cons_succ]
            refine tkH 9 (v := ?_) rfl ?_ ?_ (by kernel_rfl) (fun _ _ _ h => h) (by rfl) (by assumption)
            rotate_left
            · intro W hS; (try dsimp only at hS); go_simp; try with_reducible rfl
            simp only [getElem_toArray, getElem_cons_succ, getElem_cons_zero, Act.put, setIfInBounds_toArray, set_cons_zero, set_cons_succ]
            refine wpAnyH_ready (rs := [8]) (by kernel_rfl) (by simp) ?_
            refine AllReadyH.cons rfl (fun K hK => ?_) AllReadyH.nil
            go_simp
            with_reducible refine (HNM.out _).mono ?_
            rintro e wn2 ⟨rfl, hbn2⟩
            have HBW2 := Lib.hid (below_then (below_drewN wr 1) hbn2)
            have HBN2 := Lib.hid (below_then HBR.out HBW2.out)
            have HWN2 := Lib.hid (HWD2.out.quiet hbn2)
            clear hbn2
            refine hK.out _ _ (HSC2.out _ ⟨_, HWN2.out⟩) (fun hHeld => ?_)
            clear hK K
            try simp only [getElem_toArray, getElem_cons_succ, getElem_cons_zero, Act.put, setIfInBounds_toArray, set_cons_zero, set_cons_succ]
            refine wpAnyH_ready (rs := [10]) (by kernel_rfl) (by simp) ?_
            refine AllReadyH.cons rfl (fun K hK => ?_) AllReadyH.nil
            go_simp
            have hr2 := HREF.out _ HBN2.out
            have ht2 := HFIRST.out _ HBN2.out
            have hdo2 := ropa_calls n a5 (frs L) fl c5 hr2 HF0.out (by have := HMK.out; omega) (by have := HMK.out; omega) HTR0.out (HROW.out _ HBW2.out) HOFF.out HAL.out.1 HFL.out HAL.out.2.1 HAL.out.2.2 (by have := HMK.out; omega)
            rw [HQ2.out] at hdo2
            have HDO2 := Lib.hid hdo2
            have HTT2 := Lib.hid ht2
            clear hdo2 ht2 hr2
            with_reducible refine (HDO2.out).mono ?_
            rintro e w2 ⟨rfl, hx2⟩
            have HW2 := Lib.hid (HTT2.out _ _ hx2)
            clear hx2 HDO2 HTT2
            refine hK.out _ _ (HSC2.out _ ⟨_, HW2.out⟩) (fun hHeld => ?_)
            clear hK K
            skip
            refine tkH 11 (v := ?_) rfl ?_ ?_ (by kernel_rfl) (fun _ _ _ h => h) (by rfl) (by assumption)
            rotate_left
            · intro W hS; (try dsimp only at hS); go_simp; try with_reducible rfl
            simp only [getElem_toArray, getElem_cons_succ, getElem_cons_zero, Act.put, setIfInBounds_toArray, set_cons_zero, set_cons_succ]
            refine wpAnyH_done (by kernel_rfl) ?_ _
            go_wp2
            have HWD4 := Lib.hid (HW2.out.quiet (below_drewN _ 1))
            refine wp_region_held_drew (S := fun W => W.cell? ⟨b, 0, none⟩ = some (.pointer (some ⟨B, 0, none⟩)) ∧ W.cell? ⟨b, 1, none⟩ = some (.int .i64 n)) (by kernel_rfl) (HSC2.out _ ⟨_, HWD4.out⟩) (fun hHeld => ?_)
            refine tkH 0 (v := ?_) rfl ?_ ?_ (by kernel_rfl) (fun _ _ _ h => h) (by rfl) (by assumption)
            rotate_left
            · intro W hS; (try dsimp only at hS); go_simp; try with_reducible rfl
            simp only [getElem_toArray, getElem_cons_zero, Act.put, setIfInBounds_toArray, set_cons_zero, set_cons_succ]
            refine tkH 1 (v := ?_) rfl ?_ ?_ (by kernel_rfl) (fun _ _ _ h => h) (by rfl) (by assumption)
            rotate_left
            · intro W hS; (try dsimp only at hS); go_simp; try with_reducible rfl
            simp only [getElem_toArray, getElem_cons_succ, getElem_cons_zero, Act.put, setIfInBounds_toArray, set_cons_zero, set_cons_succ]
            refine tkH 2 (v := ?_) rfl ?_ ?_ (by kernel_rfl) (fun _ _ _ h => h) (by rfl) (by assumption)
            rotate_left
            · intro W hS; (try dsimp only at hS); go_simp; try with_reducible rfl
            simp only [getElem_toArray, getElem_cons_succ, getElem_cons_zero, Act.put, setIfInBounds_toArray, set_cons_zero, set_cons_succ]
            refine tkH 3 (v := ?_) rfl ?_ ?_ (by kernel_rfl) (fun _ _ _ h => h) (by rfl) (by assumption)
            rotate_left
            · intro W hS; (try dsimp only at hS); go_simp; try with_reducible rfl
            simp only [getElem_toArray, getElem_cons_succ, getElem_cons_zero, Act.put, setIfInBounds_toArray, set_cons_zero, set_cons_succ]
            refine tkH 4 (v := ?_) rfl ?_ ?_ (by kernel_rfl) (fun _ _ _ h => h) (by rfl) (by assumption)
            rotate_left
            · intro W hS; (try dsimp only at hS); go_simp; try with_reducible rfl
            simp only [getElem_toArray, getElem_cons_succ, getElem_cons_zero, Act.put, setIfInBounds_toArray, set_cons_zero, set_cons_succ]
            refine tkH 5 (v := ?_) rfl ?_ ?_ (by kernel_rfl) (fun _ _ _ h => h) (by rfl) (by assumption)
            rotate_left
            · intro W hS; (try dsimp only at hS); go_simp; try with_reducible rfl
            simp only [getElem_toArray, getElem_cons_succ, getElem_cons_zero, Act.put, setIfInBounds_toArray, set_cons_zero, set_cons_succ]
            refine tkH 6 (v := ?_) rfl ?_ ?_ (by kernel_rfl) (fun _ _ _ h => h) (by rfl) (by assumption)
            rotate_left
            · intro W hS; (try dsimp only at hS); go_simp; try with_reducible rfl
            simp only [getElem_toArray, getElem_cons_succ, getElem_cons_zero, Act.put, setIfInBounds_toArray, set_cons_zero, set_cons_succ]
            refine tkH 7 (v := ?_) rfl ?_ ?_ (by kernel_rfl) (fun _ _ _ h => h) (by rfl) (by assumption)
            rotate_left
            · intro W hS; (try dsimp only at hS); go_simp; try with_reducible rfl
            simp only [getElem_toArray, getElem_cons_succ, getElem_cons_zero, Act.put, setIfInBounds_toArray, set_cons_zero, set_cons_succ]
            refine wpAnyH_ready (rs := [8]) (by kernel_rfl) (by simp) ?_
            refine AllReadyH.cons rfl (fun K hK => ?_) AllReadyH.nil
            go_simp
            with_reducible refine (HNM.out _).mono ?_
            rintro e wn4 ⟨rfl, hbn4⟩
            have HWN4 := Lib.hid (HWD4.out.quiet hbn4)
            clear hbn4
            refine hK.out _ _ (HSC2.out _ ⟨_, HWN4.out⟩) (fun hHeld => ?_)
            clear hK K
            try simp only [getElem_toArray, getElem_cons_succ, getElem_cons_zero, Act.put, setIfInBounds_toArray, set_cons_zero, set_cons_succ]
            refine wpAnyH_ready (rs := [9]) (by kernel_rfl) (by simp) ?_
            refine AllReadyH.cons rfl (fun K hK => ?_) AllReadyH.nil
            go_simp
            obtain ⟨S4, hr4, hb4, hg4, ht4⟩ := HWN4.out.own
            clear hb4 hg4
            have hdo4 : Calls Tryz.prog 46 #[.pointer (some ⟨B, 0, none⟩), .int .i64 4, .string (nameB n), .string ⟨#[]⟩, .int .i64 0, .slice none 0 0] wn4 (RDoes wn4 S4 B (.int .i64 (step d2 (opS n)).1) (step d2 (opS n)).2) := rop_calls 4 n 0 (by decide) hr4 HF2.out (by have := HMK.out; omega) (by have := HMK.out; omega) HTR2.out
            rw [HQ4.out] at hdo4
            have HDO4 := Lib.hid hdo4
            have HTT4 := Lib.hid ht4
            clear hdo4 ht4 hr4
            with_reducible refine (HDO4.out).mono ?_
            rintro e w4 ⟨rfl, hx4⟩
            have HW4 := Lib.hid (HTT4.out _ _ hx4)
            clear hx4 HDO4 HTT4
            refine hK.out _ _ (HSC2.out _ ⟨_, HW4.out⟩) (fun hHeld => ?_)
            clear hK K
            skip
            refine tkH 10 (v := ?_) rfl ?_ ?_ (by kernel_rfl) (fun _ _ _ h => h) (by rfl) (by assumption)
            rotate_left
            · intro W hS; (try dsimp only at hS); go_simp; try with_reducible rfl
            simp only [getElem_toArray, getElem_cons_succ, getElem_cons_zero, Act.put, setIfInBounds_toArray, set_cons_zero, set_cons_succ]
            refine wpAnyH_done (by kernel_rfl) ?_ _
            go_wp2
            have HWD3 := Lib.hid (HW4.out.quiet (below_drewN _ 1))
            obtain ⟨bq, hbq⟩ : ∃ y : Bool, decide (c3 ≠ 0) = y := ⟨_, rfl⟩
            have HBQ := Lib.hid hbq
            have r1 : (c3 != 0) = bq := by rw [← hbq]; by_cases h0 : c3 = 0 <;> simp [h0]
            have r2 : (c3 == 0) = !bq := by rw [← hbq]; by_cases h0 : c3 = 0 <;> simp [h0]
            have r3 : decide (c3 = 0) = !bq := by rw [← hbq]; by_cases h0 : c3 = 0 <;> simp [h0]
            clear hbq
            refine wp_region_held_drew (S := fun W => W.cell? ⟨b, 0, none⟩ = some (.pointer (some ⟨B, 0, none⟩)) ∧ W.cell? ⟨b, 1, none⟩ = some (.int .i64 n) ∧ W.cell? ⟨b, 2, none⟩ = some (.int .i64 (z : Int))) (by kernel_rfl) (HSC3.out _ ⟨_, _, HWD3.out⟩) (fun hHeld => ?_)
            refine tkH 0 (v := ?_) rfl ?_ ?_ (by kernel_rfl) (fun _ _ _ h => h) (by rfl) (by assumption)
            rotate_left
            · intro W hS; (try dsimp only at hS); go_simp; try with_reducible rfl
            simp only [getElem_toArray, getElem_cons_zero, Act.put, setIfInBounds_toArray, set_cons_zero, set_cons_succ]
            refine tkH 1 (v := ?_) rfl ?_ ?_ (by kernel_rfl) (fun _ _ _ h => h) (by rfl) (by assumption)
            rotate_left
            · intro W hS; (try dsimp only at hS); go_simp; try with_reducible rfl
            simp only [getElem_toArray, getElem_cons_succ, getElem_cons_zero, Act.put, setIfInBounds_toArray, set_cons_zero, set_cons_succ]
            refine tkH 2 (v := ?_) rfl ?_ ?_ (by kernel_rfl) (fun _ _ _ h => h) (by rfl) (by assumption)
            rotate_left
            · intro W hS; (try dsimp only at hS); go_simp; try with_reducible rfl
            simp only [getElem_toArray, getElem_cons_succ, getElem_cons_zero, Act.put, setIfInBounds_toArray, set_cons_zero, set_cons_succ]
            refine tkH 3 (v := ?_) rfl ?_ ?_ (by kernel_rfl) (fun _ _ _ h => h) (by rfl) (by assumption)
            rotate_left
            · intro W hS; (try dsimp only at hS); go_simp; try with_reducible rfl
            simp only [getElem_toArray, getElem_cons_succ, getElem_cons_zero, Act.put, setIfInBounds_toArray, set_cons_zero, set_cons_succ]
            refine tkH 4 (v := ?_) rfl ?_ ?_ (by kernel_rfl) (fun _ _ _ h => h) (by rfl) (by assumption)
            rotate_left
            · intro W hS; (try dsimp only at hS); go_simp; try with_reducible rfl
            simp only [getElem_toArray, getElem_cons_succ, getElem_cons_zero, Act.put, setIfInBounds_toArray, set_cons_zero, set_cons_succ]
            refine tkH 5 (v := ?_) rfl ?_ ?_ (by kernel_rfl) (fun _ _ _ h => h) (by rfl) (by assumption)
            rotate_left
            · intro W hS; (try dsimp only at hS); go_simp; try with_reducible rfl
            simp only [getElem_toArray, getElem_cons_succ, getElem_cons_zero, Act.put, setIfInBounds_toArray, set_cons_zero, set_cons_succ]
            refine tkH 6 (v := ?_) rfl ?_ ?_ (by kernel_rfl) (fun _ _ _ h => h) (by rfl) (by assumption)
            rotate_left
            · intro W hS; (try dsimp only at hS); go_simp; try with_reducible rfl
            simp only [getElem_toArray, getElem_cons_succ, getElem_cons_zero, Act.put, setIfInBounds_toArray, set_cons_zero, set_cons_succ]
            refine tkH 7 (v := ?_) rfl ?_ ?_ (by kernel_rfl) (fun _ _ _ h => h) (by rfl) (by assumption)
            rotate_left
            · intro W hS; (try dsimp only at hS); go_simp; try with_reducible rfl
            simp only [getElem_toArray, getElem_cons_succ, getElem_cons_zero, Act.put, setIfInBounds_toArray, set_cons_zero, set_cons_succ]
            refine tkH 8 (v := ?_) rfl ?_ ?_ (by kernel_rfl) (fun _ _ _ h => h) (by rfl) (by assumption)
            rotate_left
            · intro W hS; (try dsimp only at hS); go_simp; try with_reducible rfl
            simp only [getElem_toArray, getElem_cons_succ, getElem_cons_zero, Act.put, setIfInBounds_toArray, set_cons_zero, set_cons_succ]
            refine tkH 10 (v := ?_) rfl ?_ ?_ (by kernel_rfl) (fun _ _ _ h => h) (by rfl) (by assumption)
            rotate_left
            · intro W hS; (try dsimp only at hS); go_simp; try with_reducible rfl
            simp only [getElem_toArray, getElem_cons_succ, getElem_cons_zero, Act.put, setIfInBounds_toArray, set_cons_zero, set_cons_succ]
            refine tkH 11 (v := ?_) rfl ?_ ?_ (by kernel_rfl) (fun _ _ _ h => h) (by rfl) (by assumption)
            rotate_left
            · intro W hS; (try dsimp only at hS); go_simp; try with_reducible rfl
            simp only [getElem_toArray, getElem_cons_succ, getElem_cons_zero, Act.put, setIfInBounds_toArray, set_cons_zero, set_cons_succ]
            refine tkH 12 (v := ?_) rfl ?_ ?_ (by kernel_rfl) (fun _ _ _ h => h) (by rfl) (by assumption)
            rotate_left
            · intro W hS; (try dsimp only at hS); go_simp; try with_reducible rfl
            simp only [getElem_toArray, getElem_cons_succ, getElem_cons_zero, Act.put, setIfInBounds_toArray, set_cons_zero, set_cons_succ]
            refine tkH 13 (v := ?_) rfl ?_ ?_ (by kernel_rfl) (fun _ _ _ h => h) (by rfl) (by assumption)
            rotate_left
            · intro W hS; (try dsimp only at hS); go_simp; try with_reducible rfl
            simp only [getElem_toArray, getElem_cons_succ, getElem_cons_zero, Act.put, setIfInBounds_toArray, set_cons_zero, set_cons_succ]
            refine wpAnyH_ready (rs := [9]) (by kernel_rfl) (by simp) ?_
            refine AllReadyH.cons rfl (fun K hK => ?_) AllReadyH.nil
            go_simp
            with_reducible refine (HNM.out _).mono ?_
            rintro e wn3 ⟨rfl, hbn3⟩
            have HWN3 := Lib.hid (HWD3.out.quiet hbn3)
            clear hbn3
            refine hK.out _ _ (HSC3.out _ ⟨_, _, HWN3.out⟩) (fun hHeld => ?_)
            clear hK K
            try simp only [getElem_toArray, getElem_cons_succ, getElem_cons_zero, Act.put, setIfInBounds_toArray, set_cons_zero, set_cons_succ]
            refine wpAnyH_ready (rs := [14]) (by kernel_rfl) (by simp) ?_
            refine AllReadyH.cons rfl (fun K hK => ?_) AllReadyH.nil
            go_simp
            obtain ⟨S3, hr3, hb3, hg3, ht3⟩ := HWN3.out.own
            have hdo3 : Calls Tryz.prog 46 #[.pointer (some ⟨B, 0, none⟩), .int .i64 3, .string (nameB n), .string ⟨#[]⟩, .int .i64 (z : Int), .slice none 0 0] wn3 (RDoes wn3 S3 B (.int .i64 (step d4 (opK n z)).1) (step d4 (opK n z)).2) := rop_calls 3 n (z : Int) (by decide) hr3 HF4.out (by have := HMK.out; omega) (by have := HMK.out; omega) HTR4.out
            rw [HQ3.out] at hdo3
            have HDO3 := Lib.hid hdo3
            have HTT3 := Lib.hid ht3
            clear hr3 hb3 hg3 ht3 hdo3
            with_reducible refine (HDO3.out).mono ?_
            rintro e w3 ⟨rfl, hx3⟩
            have HW3 := Lib.hid (HTT3.out _ _ hx3)
            clear hx3 HDO3 HTT3
            refine hK.out _ _ (HSC3.out _ ⟨_, _, HW3.out⟩) (fun hHeld => ?_)
            clear hK K
            skip
            refine tkH 15 (v := ?_) rfl ?_ ?_ (by kernel_rfl) (fun _ _ _ h => h) (by rfl) (by assumption)
            rotate_left
            · intro W hS; (try dsimp only at hS); go_simp; try with_reducible rfl
            simp only [getElem_toArray, getElem_cons_succ, getElem_cons_zero, Act.put, setIfInBounds_toArray, set_cons_zero, set_cons_succ]
            refine tkH 16 (v := ?_) rfl ?_ ?_ (by kernel_rfl) (fun _ _ _ h => h) (by rfl) (by assumption)
            rotate_left
            · intro W hS; (try dsimp only at hS); go_simp; try with_reducible rfl
            simp only [getElem_toArray, getElem_cons_succ, getElem_cons_zero, Act.put, setIfInBounds_toArray, set_cons_zero, set_cons_succ]
            refine tkH 17 (v := ?_) rfl ?_ ?_ (by kernel_rfl) (fun _ _ _ h => h) (by rfl) (by assumption)
            rotate_left
            · intro W hS; (try dsimp only at hS); go_simp; try with_reducible rfl
            simp only [getElem_toArray, getElem_cons_succ, getElem_cons_zero, Act.put, setIfInBounds_toArray, set_cons_zero, set_cons_succ]
            refine wpAnyH_ready (rs := [18]) (by kernel_rfl) (by simp) ?_
            refine AllReadyH.cons rfl (fun K hK => ?_) AllReadyH.nil
            go_simp
            obtain ⟨Sv, hrv, hbv, hgv, htv⟩ := HW3.out.own
            have k3 := unfrozen_of_block hgv 3
            have c3' := hgv.c3
            have HGV := Lib.hid (HW3.out.store (hgv.sick_ bq))
            clear hrv hbv htv
            go_simp
            refine hK.out _ _ (HSC3.out _ ⟨_, _, HGV.out⟩) (fun hHeld => ?_)
            clear hK K
            try simp only [getElem_toArray, getElem_cons_succ, getElem_cons_zero, Act.put, setIfInBounds_toArray, set_cons_zero, set_cons_succ]
            refine wpAnyH_done (by kernel_rfl) ?_ _
            go_wp2
            have hz := HBQ.out
            subst hz
            exact HFIN.out _ HGV.out

          subst e4
          have hok := HOKO.out HOK.out
          rw [HW.out.2.1 rfl rfl] at hok
          dsimp only at hok
          rw [if_pos rfl] at hok
          have HFIN := Lib.hid hok
          clear hok
          go_wp2
          refine wp_region_held_drew (S := fun W => W.cell? ⟨b, 0, none⟩ = some (.pointer (some ⟨B, 0, none⟩)) ∧ W.cell? ⟨b, 1, none⟩ = some (.int .i64 n)) (by kernel_rfl) (HSC2.out _ ⟨_, HWD2.out⟩) (fun hHeld => ?_)
          refine tkH 0 (v := ?_) rfl ?_ ?_ (by kernel_rfl) (fun _ _ _ h => h) (by rfl) (by assumption)
          rotate_left
          · intro W hS; (try dsimp only at hS); go_simp; try with_reducible rfl
          simp only [getElem_toArray, getElem_cons_zero, Act.put, setIfInBounds_toArray, set_cons_zero, set_cons_succ]
          refine tkH 1 (v := ?_) rfl ?_ ?_ (by kernel_rfl) (fun _ _ _ h => h) (by rfl) (by assumption)
          rotate_left
          · intro W hS; (try dsimp only at hS); go_simp; try with_reducible rfl
          simp only [getElem_toArray, getElem_cons_succ, getElem_cons_zero, Act.put, setIfInBounds_toArray, set_cons_zero, set_cons_succ]
          refine tkH 2 (v := ?_) rfl ?_ ?_ (by kernel_rfl) (fun _ _ _ h => h) (by rfl) (by assumption)
          rotate_left
          · intro W hS; (try dsimp only at hS); go_simp; try with_reducible rfl
          simp only [getElem_toArray, getElem_cons_succ, getElem_cons_zero, Act.put, setIfInBounds_toArray, set_cons_zero, set_cons_succ]
          refine tkH 3 (v := ?_) rfl ?_ ?_ (by kernel_rfl) (fun _ _ _ h => h) (by rfl) (by assumption)
          rotate_left
          · intro W hS; (try dsimp only at hS); go_simp; try with_reducible rfl
          simp only [getElem_toArray, getElem_cons_succ, getElem_cons_zero, Act.put, setIfInBounds_toArray, set_cons_zero, set_cons_succ]
          refine tkH 4 (v := ?_) rfl ?_ ?_ (by kernel_rfl) (fun _ _ _ h => h) (by rfl) (by assumption)
          rotate_left
          · intro W hS; (try dsimp only at hS); go_simp; try with_reducible rfl
          simp only [getElem_toArray, getElem_cons_succ, getElem_cons_zero, Act.put, setIfInBounds_toArray, set_cons_zero, set_cons_succ]
          refine tkH 5 (v := ?_) rfl ?_ ?_ (by kernel_rfl) (fun _ _ _ h => h) (by rfl) (by assumption)
          rotate_left
          · intro W hS; (try dsimp only at hS); go_simp; try with_reducible rfl
          simp only [getElem_toArray, getElem_cons_succ, getElem_cons_zero, Act.put, setIfInBounds_toArray, set_cons_zero, set_cons_succ]
          refine tkH 6 (v := ?_) rfl ?_ ?_ (by kernel_rfl) (fun _ _ _ h => h) (by rfl) (by assumption)
          rotate_left
          · intro W hS; (try dsimp only at hS); go_simp; try with_reducible rfl
          simp only [getElem_toArray, getElem_cons_succ, getElem_cons_zero, Act.put, setIfInBounds_toArray, set_cons_zero, set_cons_succ]
          refine tkH 7 (v := ?_) rfl ?_ ?_ (by kernel_rfl) (fun _ _ _ h => h) (by rfl) (by assumption)
          rotate_left
          · intro W hS; (try dsimp only at hS); go_simp; try with_reducible rfl
          simp only [getElem_toArray, getElem_cons_succ, getElem_cons_zero, Act.put, setIfInBounds_toArray, set_cons_zero, set_cons_succ]
          refine tkH 9 (v := ?_) rfl ?_ ?_ (by kernel_rfl) (fun _ _ _ h => h) (by rfl) (by assumption)
          rotate_left
          · intro W hS; (try dsimp only at hS); go_simp; try with_reducible rfl
          simp only [getElem_toArray, getElem_cons_succ, getElem_cons_zero, Act.put, setIfInBounds_toArray, set_cons_zero, set_cons_succ]
          refine wpAnyH_ready (rs := [8]) (by kernel_rfl) (by simp) ?_
          refine AllReadyH.cons rfl (fun K hK => ?_) AllReadyH.nil
          go_simp
          with_reducible refine (HNM.out _).mono ?_
          rintro e wn2 ⟨rfl, hbn2⟩
          have HBW2 := Lib.hid (below_then (below_drewN wr 1) hbn2)
          have HBN2 := Lib.hid (below_then HBR.out HBW2.out)
          have HWN2 := Lib.hid (HWD2.out.quiet hbn2)
          clear hbn2
          refine hK.out _ _ (HSC2.out _ ⟨_, HWN2.out⟩) (fun hHeld => ?_)
          clear hK K
          try simp only [getElem_toArray, getElem_cons_succ, getElem_cons_zero, Act.put, setIfInBounds_toArray, set_cons_zero, set_cons_succ]
          refine wpAnyH_ready (rs := [10]) (by kernel_rfl) (by simp) ?_
          refine AllReadyH.cons rfl (fun K hK => ?_) AllReadyH.nil
          go_simp
          have hr2 := HREF.out _ HBN2.out
          have ht2 := HFIRST.out _ HBN2.out
          have hdo2 := ropa_calls n a5 (frs L) fl c5 hr2 HF0.out (by have := HMK.out; omega) (by have := HMK.out; omega) HTR0.out (HROW.out _ HBW2.out) HOFF.out HAL.out.1 HFL.out HAL.out.2.1 HAL.out.2.2 (by have := HMK.out; omega)
          rw [HQ2.out] at hdo2
          have HDO2 := Lib.hid hdo2
          have HTT2 := Lib.hid ht2
          clear hdo2 ht2 hr2
          with_reducible refine (HDO2.out).mono ?_
          rintro e w2 ⟨rfl, hx2⟩
          have HW2 := Lib.hid (HTT2.out _ _ hx2)
          clear hx2 HDO2 HTT2
          refine hK.out _ _ (HSC2.out _ ⟨_, HW2.out⟩) (fun hHeld => ?_)
          clear hK K
          skip
          refine tkH 11 (v := ?_) rfl ?_ ?_ (by kernel_rfl) (fun _ _ _ h => h) (by rfl) (by assumption)
          rotate_left
          · intro W hS; (try dsimp only at hS); go_simp; try with_reducible rfl
          simp only [getElem_toArray, getElem_cons_succ, getElem_cons_zero, Act.put, setIfInBounds_toArray, set_cons_zero, set_cons_succ]
          refine wpAnyH_done (by kernel_rfl) ?_ _
          go_wp2
          have HWD4 := Lib.hid (HW2.out.quiet (below_drewN _ 1))
          refine wp_region_held_drew (S := fun W => W.cell? ⟨b, 0, none⟩ = some (.pointer (some ⟨B, 0, none⟩)) ∧ W.cell? ⟨b, 1, none⟩ = some (.int .i64 n)) (by kernel_rfl) (HSC2.out _ ⟨_, HWD4.out⟩) (fun hHeld => ?_)
          refine tkH 0 (v := ?_) rfl ?_ ?_ (by kernel_rfl) (fun _ _ _ h => h) (by rfl) (by assumption)
          rotate_left
          · intro W hS; (try dsimp only at hS); go_simp; try with_reducible rfl
          simp only [getElem_toArray, getElem_cons_zero, Act.put, setIfInBounds_toArray, set_cons_zero, set_cons_succ]
          refine tkH 1 (v := ?_) rfl ?_ ?_ (by kernel_rfl) (fun _ _ _ h => h) (by rfl) (by assumption)
          rotate_left
          · intro W hS; (try dsimp only at hS); go_simp; try with_reducible rfl
          simp only [getElem_toArray, getElem_cons_succ, getElem_cons_zero, Act.put, setIfInBounds_toArray, set_cons_zero, set_cons_succ]
          refine tkH 2 (v := ?_) rfl ?_ ?_ (by kernel_rfl) (fun _ _ _ h => h) (by rfl) (by assumption)
          rotate_left
          · intro W hS; (try dsimp only at hS); go_simp; try with_reducible rfl
          simp only [getElem_toArray, getElem_cons_succ, getElem_cons_zero, Act.put, setIfInBounds_toArray, set_cons_zero, set_cons_succ]
          refine tkH 3 (v := ?_) rfl ?_ ?_ (by kernel_rfl) (fun _ _ _ h => h) (by rfl) (by assumption)
          rotate_left
          · intro W hS; (try dsimp only at hS); go_simp; try with_reducible rfl
          simp only [getElem_toArray, getElem_cons_succ, getElem_cons_zero, Act.put, setIfInBounds_toArray, set_cons_zero, set_cons_succ]
          refine tkH 4 (v := ?_) rfl ?_ ?_ (by kernel_rfl) (fun _ _ _ h => h) (by rfl) (by assumption)
          rotate_left
          · intro W hS; (try dsimp only at hS); go_simp; try with_reducible rfl
          simp only [getElem_toArray, getElem_cons_succ, getElem_cons_zero, Act.put, setIfInBounds_toArray, set_cons_zero, set_cons_succ]
          refine tkH 5 (v := ?_) rfl ?_ ?_ (by kernel_rfl) (fun _ _ _ h => h) (by rfl) (by assumption)
          rotate_left
          · intro W hS; (try dsimp only at hS); go_simp; try with_reducible rfl
          simp only [getElem_toArray, getElem_cons_succ, getElem_cons_zero, Act.put, setIfInBounds_toArray, set_cons_zero, set_cons_succ]
          refine tkH 6 (v := ?_) rfl ?_ ?_ (by kernel_rfl) (fun _ _ _ h => h) (by rfl) (by assumption)
          rotate_left
          · intro W hS; (try dsimp only at hS); go_simp; try with_reducible rfl
          simp only [getElem_toArray, getElem_cons_succ, getElem_cons_zero, Act.put, setIfInBounds_toArray, set_cons_zero, set_cons_succ]
          refine tkH 7 (v := ?_) rfl ?_ ?_ (by kernel_rfl) (fun _ _ _ h => h) (by rfl) (by assumption)
          rotate_left
          · intro W hS; (try dsimp only at hS); go_simp; try with_reducible rfl
          simp only [getElem_toArray, getElem_cons_succ, getElem_cons_zero, Act.put, setIfInBounds_toArray, set_cons_zero, set_cons_succ]
          refine wpAnyH_ready (rs := [8]) (by kernel_rfl) (by simp) ?_
          refine AllReadyH.cons rfl (fun K hK => ?_) AllReadyH.nil
          go_simp
          with_reducible refine (HNM.out _).mono ?_
          rintro e wn4 ⟨rfl, hbn4⟩
          have HWN4 := Lib.hid (HWD4.out.quiet hbn4)
          clear hbn4
          refine hK.out _ _ (HSC2.out _ ⟨_, HWN4.out⟩) (fun hHeld => ?_)
          clear hK K
          try simp only [getElem_toArray, getElem_cons_succ, getElem_cons_zero, Act.put, setIfInBounds_toArray, set_cons_zero, set_cons_succ]
          refine wpAnyH_ready (rs := [9]) (by kernel_rfl) (by simp) ?_
          refine AllReadyH.cons rfl (fun K hK => ?_) AllReadyH.nil
          go_simp
          obtain ⟨S4, hr4, hb4, hg4, ht4⟩ := HWN4.out.own
          clear hb4 hg4
          have hdo4 : Calls Tryz.prog 46 #[.pointer (some ⟨B, 0, none⟩), .int .i64 4, .string (nameB n), .string ⟨#[]⟩, .int .i64 0, .slice none 0 0] wn4 (RDoes wn4 S4 B (.int .i64 (step d2 (opS n)).1) (step d2 (opS n)).2) := rop_calls 4 n 0 (by decide) hr4 HF2.out (by have := HMK.out; omega) (by have := HMK.out; omega) HTR2.out
          rw [HQ4.out] at hdo4
          have HDO4 := Lib.hid hdo4
          have HTT4 := Lib.hid ht4
          clear hdo4 ht4 hr4
          with_reducible refine (HDO4.out).mono ?_
          rintro e w4 ⟨rfl, hx4⟩
          have HW4 := Lib.hid (HTT4.out _ _ hx4)
          clear hx4 HDO4 HTT4
          refine hK.out _ _ (HSC2.out _ ⟨_, HW4.out⟩) (fun hHeld => ?_)
          clear hK K
          skip
          refine tkH 10 (v := ?_) rfl ?_ ?_ (by kernel_rfl) (fun _ _ _ h => h) (by rfl) (by assumption)
          rotate_left
          · intro W hS; (try dsimp only at hS); go_simp; try with_reducible rfl
          simp only [getElem_toArray, getElem_cons_succ, getElem_cons_zero, Act.put, setIfInBounds_toArray, set_cons_zero, set_cons_succ]
          refine wpAnyH_done (by kernel_rfl) ?_ _
          obtain ⟨Sv, hrv, hbv, hgv, htv⟩ := HW4.out.own
          have k2 := unfrozen_of_block hgv 2
          have c2' := hgv.c2
          have hgv2 := HW4.out.store (hgv.size_ (z + fl))
          rw [Int.natCast_add] at hgv2
          have HGV := Lib.hid hgv2
          have hzf : (z : Int) + (fl : Int) ≤ 9223372036854775807 := by have := HMK.out.2.2; omega
          clear hrv hbv htv hgv2
          go_wp2
          exact HFIN.out _ HGV.out

end Go.Proofs.YtjhiekijbcjohaaGreatDoor
