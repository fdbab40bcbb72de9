/-
  The walk of the law FramePuts at every slice of slices of bytes. Condition: no slice is longer than 2 to the 47.
-/
import Derived.Test.YtoceknldlhmnoaaAwake
namespace Go.Proofs.Ytoceknldlhmnoaa
open Go.RowKit Go.Lib

/-- Blocks that were there. -/
def Was (w : World) : Nat → Prop := fun k => k < w.heap.size

theorem owns_apart {w : World} {e e' n n' : Nat} {v v' : Value} {xs xs' : List Value} (h : w.ownsRow 0 e 1 v n xs) (h' : w.ownsRow 0 e' 1 v' n' xs') (hne : e ≠ e') : ∀ k, v.ownBlock = some k → v'.ownBlock ≠ some k := by
  intro k hk hk'
  rcases h.2 with ⟨rfl, _⟩ | ⟨g, cap, cur, rfl, _, hg, _⟩
  · cases hk
  · rcases h'.2 with ⟨rfl, _⟩ | ⟨g', cap', cur', rfl, _, hg', _⟩
    · cases hk'
    · have e1 : g = k := Option.some.inj hk
      have e2 : g' = k := Option.some.inj hk'
      subst e1 e2
      rw [hg] at hg'
      simp only [Option.some.injEq, Obj.cells.injEq] at hg'
      exact hne hg'.2.1

/-- Bytes of the call's own, and a slice of its own of slices that were there. -/
structure PW (w0 w : World) (bv wv : Value) (B : List Nat) (D : List (List Nat)) : Prop where
  b : Own w0 w bv B
  ex : ∃ cells, w.ownsRow 0 22 1 wv D.length cells ∧ RCells w (Was w0) cells D
  new : ∀ k, wv.ownBlock = some k → w0.heap.size ≤ k

theorem PW.nil (w : World) : PW w w (.slice none 0 0) (.slice none 0 0) [] [] := ⟨Own.nil w, ⟨[], World.ownsRow_nil _ _ _ _, RCells.nil _ _⟩, fun k e => by cases e⟩
theorem PW.below {w0 w w' : World} {bv wv : Value} {B : List Nat} {D : List (List Nat)} (h : PW w0 w bv wv B D) (hb : Below w.heap.size w w') : PW w0 w' bv wv B D := by
  obtain ⟨h1, ⟨cells, h2, h3⟩, h4⟩ := h
  exact ⟨h1.below hb, ⟨cells, ownsRow_keep h2 (keeps_below hb Non) (fun _ _ h => h), h3.keep (keeps_below hb Non) (fun _ _ h => h)⟩, h4⟩
theorem PW.addB {w0 w : World} {bv wv : Value} {B : List Nat} {D : List (List Nat)} (h : PW w0 w bv wv B D) {S : Nat → Prop} {ad : Option Addr} {m c : Nat} {x : List Nat} (hr : Row w S ad x) (hx : x.length = m) (hc : ad = none → c = 0) (hs : B.length + m ≤ 2147483648) :
    ∃ v' w', (∀ ty, (Builtin.append_ #[22, 22] ty #[bv, .slice ad m c]).run Try.prog w = .ok v' w') ∧ PW w0 w' v' wv (B ++ x) D := by
  obtain ⟨h1, ⟨cells, h2, h3⟩, h4⟩ := h
  obtain ⟨v', w', hrun, hown, hg, _⟩ := h1.append hr hx hc hs
  have hk : Keeps (fun k => bv.ownBlock = some k) w w' := (Keeps.refl _ w).grown hg (fun k e => .inl e)
  exact ⟨v', w', hrun, hown, ⟨cells, ownsRow_keep h2 hk (fun k e e' => owns_apart h1.row h2 (by decide) k e' e), h3.keep hk (fun k hkk e => by have := h1.new k e; unfold Was at hkk; omega)⟩, h4⟩
theorem PW.addW {w0 w : World} {bv wv : Value} {B : List Nat} {D : List (List Nat)} (h : PW w0 w bv wv B D) {u : Value} {x : List Nat} (hu : Byt w (Was w0) u x) (hs : D.length ≤ 1073741824) :
    ∃ v' w', (∀ ty, (Builtin.append_ #[24, 24] ty #[wv, .slice (some ⟨w.heap.size, 0, none⟩) 1 1]).run Try.prog (w.alloc (.cells #[u] 22)) = .ok v' w') ∧ PW w0 w' bv v' B (D ++ [x]) := by
  obtain ⟨h1, ⟨cells, h2, h3⟩, h4⟩ := h
  have h1c : u.oneCell' = true := by
    obtain ⟨⟨a, c, rfl, _⟩⟩ := hu
    rfl
  obtain ⟨v', w', hrun, ho, hg, hv⟩ := append_any (w := w.alloc (.cells #[u] 22)) Try.underlying24 info22 rfl (by decide) (h2.alloc _)
    (b := ⟨w.heap.size, 0, none⟩) (m := 1) (c := 1) (news := [u]) rfl new_at (by intro z hz; rw [List.mem_singleton.1 hz]; exact h1c) (by unfold maxLen; omega) (by omega)
  have hk : Keeps (fun k => wv.ownBlock = some k) w w' := ((Keeps.refl _ w).alloc _).grown hg (fun k e => .inl e)
  have hsz : (w.alloc (.cells #[u] 22)).heap.size = w.heap.size + 1 := by simp
  have hkS : ∀ k, Was w0 k → ¬ wv.ownBlock = some k := fun k hkk e => by have := h4 k e; unfold Was at hkk; omega
  refine ⟨v', w', hrun, ⟨ownsRow_keep h1.row hk (fun k e e' => owns_apart h1.row h2 (by decide) k e e'), h1.byts, h1.new, h1.bel.trans (hk.toBelow h1.bel.size (fun k e => h4 k e))⟩, ⟨cells ++ [u], by rw [List.length_append]; exact ho, (h3.app (RCells.one hu)).keep hk hkS⟩, fun k e => ?_⟩
  rcases hv k e with h6 | h6
  · exact h4 k h6
  · have := h1.bel.size; omega
theorem PW.form {w0 w : World} {bv wv : Value} {B : List Nat} {D : List (List Nat)} (h : PW w0 w bv wv B D) : ∃ a c S, wv = .slice a D.length c ∧ Recs w S a D := by
  obtain ⟨h1, ⟨cells, h2, h3⟩, h4⟩ := h
  obtain ⟨a, c, h5, h6, _⟩ := recs_of_owns (S := fun k => Was w0 k ∨ wv.ownBlock = some k) (h3.mono (fun k hk => .inl hk)) h2 (fun k e => .inr e)
  exact ⟨a, c, _, h5, h6⟩

theorem frs_take {L : List (List Nat)} {i : Nat} {f : List Nat} (hf : L[i]? = some f) : frs (L.take (i + 1)) = frs (L.take i) ++ putB f := by
  rw [List.take_add_one, hf, frs_app]
  simp [frs]
theorem full_take {L : List (List Nat)} {i : Nat} {f : List Nat} (hf : L[i]? = some f) : full (L.take (i + 1)) = full (L.take i) ++ if 0 < f.length then [f] else [] := by
  rw [List.take_add_one, hf, full_app]
  unfold full
  by_cases h : 0 < f.length <;> simp [h]
theorem frs_take_len (L : List (List Nat)) (i : Nat) : (frs (L.take i)).length ≤ 8 * L.length + tot L := by
  have h1 := frs_len (L.take i)
  have h2 : (L.take i).length ≤ L.length := by rw [List.length_take]; omega
  have h3 := flat_take_le L i
  rw [flat_len] at h3
  omega
theorem full_len (L : List (List Nat)) : (full L).length ≤ L.length := List.length_filter_le ..
theorem tot_bound : ∀ (L : List (List Nat)), (∀ f ∈ L, f.length ≤ 140737488355328) → tot L ≤ L.length * 140737488355328
  | [], _ => Nat.zero_le _
  | f :: L, h => by
    have h1 := tot_bound L (fun g hg => h g (List.mem_cons_of_mem _ hg))
    have h2 := h f (List.mem_cons_self ..)
    rw [tot_cons, List.length_cons, Nat.add_mul]
    omega

set_option maxRecDepth 100000 in
set_option maxHeartbeats 4000000 in
theorem law_puts (a : Option Addr) (L : List (List Nat)) (n c : Nat) (w : World) (hr : Recs w (Was w) a L) (hn : L.length = n) (hb : n ≤ 140737488355328) (hd : ∀ f ∈ L, f.length ≤ 140737488355328) :
    Calls Try.prog 4 #[.slice a n c] w (Leaves (.bool true) w) := by
  have HR := Lib.hid hr
  have HN := Lib.hid hn
  have HD := Lib.hid hd
  clear hr hn hd
  go_enter Try.func4, Try.ntmps4
  go_wp2_with fail
  refine (awake_calls w).mono ?_
  rintro e w1 ⟨rfl, hb1⟩
  have HB1 := Lib.hid hb1
  clear hb1
  by_cases hbig : 1000 < n
  · have hd1 : decide ((n : Int) > 1000) = true := by simp; omega
    go_wp2
    go_ret
    exact ⟨rfl, HB1.out⟩
  have hd1 : decide ((n : Int) > 1000) = false := by simp; omega
  have htb := tot_bound L HD.out
  rw [HN.out] at htb
  go_wp2_with fail
  refine (total_calls a L c n w1 (HR.out.below HB1.out) HN.out (by omega) (by omega)).mono ?_
  rintro e w2 ⟨rfl, rfl⟩
  by_cases hbig2 : 16384 < tot L
  · have hd2 : decide (((tot L : Nat) : Int) > 16384) = true := by simp; omega
    obtain ⟨q, hq⟩ : ∃ q : Int, ((tot L : Nat) : Int) = q := ⟨_, rfl⟩
    rw [hq] at hd2 ⊢
    clear hq htb hbig2
    go_wp2
    go_ret
    exact ⟨rfl, HB1.out⟩
  have hd2 : decide (((tot L : Nat) : Int) > 16384) = false := by simp; omega
  have HT := Lib.hid (Nat.le_of_not_lt hbig2)
  obtain ⟨q, hq⟩ : ∃ q : Int, ((tot L : Nat) : Int) = q := ⟨_, rfl⟩
  rw [hq] at hd2 ⊢
  have hnb : n ≤ 1000 := Nat.le_of_not_lt hbig
  clear hq htb hbig2 hbig hb
  have HP := Lib.hid (PW.nil w2)
  go_wp2
  go_loopg [3, 4, 5] n (fun g bv wv iv wr => ∃ (i : Nat), iv = .int .i64 (i : Int) ∧ g + i = n ∧ PW w2 wr bv wv (frs (L.take i)) (full (L.take i)))
  case atStart => exact ⟨0, rfl, rfl, HP.out⟩
  case round =>
    obtain ⟨i, rfl, hg, hpw⟩ := hrel
    have HG := Lib.hid hg
    have HPW := Lib.hid hpw
    clear hg hpw HP
    by_cases hlt : i < n
    · obtain ⟨g', rfl⟩ : ∃ g', gk = g' + 1 := ⟨gk - 1, by have := HG.out; omega⟩
      have hdd : decide ((i : Int) < (n : Int)) = true := by simp; omega
      obtain ⟨f, hf⟩ : ∃ x, L[i]? = some x := ⟨L[i]'(by rw [HN.out]; exact hlt), List.getElem?_eq_getElem _⟩
      have hfl : f.length ≤ 16384 := Nat.le_trans (tot_mem (List.mem_of_getElem? hf)) HT.out
      have HFT := Lib.hid (frs_take hf)
      have HFU := Lib.hid (full_take hf)
      have HFL := Lib.hid (frs_take_len L i)
      obtain ⟨b, o, da, dc, rfl, _, r0, hrow, hnil, hdc, hdm⟩ := recs_at HR.out hf
      have HBR := Lib.hid (below_then HB1.out HPW.out.b.bel)
      have HROW := Lib.hid hrow
      have HNIL := Lib.hid hnil
      have HDC := Lib.hid hdc
      have HDM := Lib.hid hdm
      have HCELL := Lib.hid (fun W (hW : Below w.heap.size w W) => (World.cell?_of_block (a := ⟨b, o + i, none⟩) (hW.block b (lt_of_cell r0))).trans r0)
      have HWAS : Hid (∀ W, Below w.heap.size w W → Byt W (Was w2) (.slice da f.length dc) f) := Lib.hid (fun W hW =>
        ⟨⟨da, dc, rfl, (HROW.out.mono (fun k hk => Nat.lt_of_lt_of_le hk HB1.out.size)).below hW, HNIL.out, HDC.out, HDM.out⟩⟩)
      have hcell := HCELL.out wr HBR.out
      clear hf hrow hnil hdc hdm r0
      go_wp2_with fail
      refine (put_calls da f f.length dc wr (HROW.out.below HBR.out) rfl (by omega) HNIL.out HDC.out HDM.out).mono ?_
      rintro e w3 ⟨v3, rfl, hown3⟩
      have HB3 := Lib.hid hown3.bel
      have HO3 := Lib.hid hown3
      have hcell3 := HCELL.out w3 (below_then HBR.out HB3.out)
      obtain ⟨a3, c3, hv3, -⟩ := hown3.form
      subst hv3
      clear hown3 hcell
      go_wp2_with fail
      refine (rput_calls da f f.length dc w3 (HROW.out.below (below_then HBR.out HB3.out)) rfl (by omega) HNIL.out).mono ?_
      rintro e w4 ⟨v4, rfl, hown4⟩
      have HB4 := Lib.hid (below_then HB3.out hown4.bel)
      have HO4 := Lib.hid hown4
      have HO34 := Lib.hid (HO3.out.below hown4.bel)
      obtain ⟨a4, c4, hv4, -⟩ := hown4.form
      subst hv4
      have hpl := putB_len f
      have HBY : Hid (Calls Try.prog 14 #[.slice a3 (putB f).length c3, .slice a4 (putB f).length c4] w4 (Tells (.bool true) w4)) := Lib.hid (by
        obtain ⟨ax', cx', e1, hx, -⟩ := HO34.out.form
        obtain ⟨ay', cy', e2, hy, -⟩ := HO4.out.form
        simp only [Value.slice.injEq] at e1 e2
        obtain ⟨rfl, -, rfl⟩ := e1
        obtain ⟨rfl, -, rfl⟩ := e2
        have h := bytes_calls a3 a4 (putB f) (putB f) c3 c4 _ _ w4 hx hy rfl rfl (by omega) (by omega)
        rwa [decide_eq_true rfl] at h)
      clear hown4 hcell3 HO3
      go_wp2_with fail
      refine HBY.out.mono ?_
      rintro e w5 ⟨rfl, k5, rfl⟩
      have HB5 := Lib.hid (below_then HB4.out (below_draws w4 k5))
      obtain ⟨v6, w6, hrun6, hpw6⟩ : ∃ v' w', (∀ ty, (Builtin.append_ #[22, 22] ty #[u3, .slice a3 (putB f).length c3]).run Try.prog (w4.drewN k5) = .ok v' w') ∧ PW w2 w' v' u4 (frs (L.take i) ++ putB f) (full (L.take i)) := by
        obtain ⟨ax', cx', e1, hx, hxn, -⟩ := (HO34.out.below (below_draws w4 k5)).form
        simp only [Value.slice.injEq] at e1
        obtain ⟨rfl, -, rfl⟩ := e1
        exact (HPW.out.below HB5.out).addB hx rfl hxn (by have := HFL.out; have := HT.out; have := HN.out; omega)
      rw [← HFT.out] at hpw6
      have HRUN6 := Lib.hid hrun6
      have HPW6 := Lib.hid hpw6
      have HB6 := Lib.hid (below_then HB1.out hpw6.b.bel)
      have hcell6 := HCELL.out w6 HB6.out
      obtain ⟨k, hk⟩ : ∃ k, (putB f).length = k := ⟨_, rfl⟩
      rw [hk] at HRUN6 ⊢
      clear hrun6 hpw6 hk hpl HBY HO34 HO4 HPW HB3 HB4 HB5 HFT
      by_cases hf0 : 0 < f.length
      · have hdf : decide ((f.length : Int) > 0) = true := by simp; omega
        obtain ⟨v7, w7, hrun7, hpw7⟩ := HPW6.out.addW (HWAS.out w6 HB6.out) (by have := full_len (L.take i); rw [List.length_take, HN.out] at this; omega)
        have hfu := HFU.out
        rw [if_pos hf0] at hfu
        rw [← hfu] at hpw7
        have HRUN7 := Lib.hid hrun7
        have HPW7 := Lib.hid hpw7
        have hcell6' : (w6.alloc (.cells #[.slice da f.length dc] 22)).cell? ⟨b, o + i, none⟩ = some (.slice da f.length dc) := HCELL.out _ (HB6.out.alloc HB6.out.size _)
        clear hrun7 hpw7 hfu
        go_wp2_with (at_builtin; first | refine wpList_step (fun K hK => step_app HRUN6.out (.tmp 39) (.tmp 40) rfl rfl rfl rfl (hK _ _ ?_)) | refine wpList_step (fun K hK => step_app HRUN7.out (.tmp 48) (.tmp 53) rfl rfl rfl rfl (hK _ _ ?_)))
        go_wp2
        go_roundg g'
        case measure => omega
        case rel => exact ⟨i + 1, by go_num, by have := HG.out; omega, HPW7.out⟩
      · have hdf : decide ((f.length : Int) > 0) = false := decide_eq_false (by omega)
        have hfu := HFU.out
        rw [if_neg hf0, List.append_nil] at hfu
        have HPW7 : Hid (PW w2 w6 v6 u4 (frs (L.take (i + 1))) (full (L.take (i + 1)))) := Lib.hid (by rw [hfu]; exact HPW6.out)
        clear hfu
        go_wp2_with (at_builtin; refine wpList_step (fun K hK => step_app HRUN6.out (.tmp 39) (.tmp 40) rfl rfl rfl rfl (hK _ _ ?_)))
        go_wp2
        go_roundg g'
        case measure => omega
        case rel => exact ⟨i + 1, by go_num, by have := HG.out; omega, HPW7.out⟩
    · have hdd : decide ((i : Int) < (n : Int)) = false := by simp; omega
      have hti : L.take i = L := List.take_of_length_le (by rw [HN.out]; omega)
      have hpw := HPW.out
      rw [hti] at hpw
      have HPW2 := Lib.hid hpw
      have hsm : Small L := fun r hr => Nat.le_trans (tot_mem hr) (Nat.le_trans HT.out (by decide))
      have hall : allB (frs L) = (full L, (frs L).length, 2) := by
        have := all_frs L [] hsm
        rw [List.append_nil, allB_nil] at this
        simpa using this
      have hfl := frs_len L
      rw [HN.out] at hfl
      have hfl2 : (frs L).length ≤ 24384 := by have := HT.out; omega
      obtain ⟨a3, c3, hv3, hr3, hn3, hc3, hm3⟩ := hpw.b.form
      subst hv3
      have HALL := Lib.hid (all_calls a3 (frs L) _ c3 wr hr3 rfl (by omega) hc3 hm3 hn3)
      unfold AllOut at HALL
      rw [hall] at HALL
      simp only at HALL
      have hful := full_len L
      rw [HN.out] at hful
      obtain ⟨k, hk⟩ : ∃ k, (frs L).length = k := ⟨_, rfl⟩
      rw [hk] at HALL ⊢
      clear hpw hall hr3 hn3 hc3 hm3 hti HPW hfl hfl2 hk
      obtain ⟨a4, c4, S4, hv4, -⟩ := HPW2.out.form
      subst hv4
      go_wp2_with fail
      refine HALL.out.mono ?_
      rintro e w3 ⟨v3, rfl, hown3⟩
      obtain ⟨a5, c5, S5, hv5, -⟩ := hown3.form
      subst hv5
      have HREC : Hid (Calls Try.prog 13 #[.slice a5 (full L).length c5, .slice a4 (full L).length c4] w3 (Tells (.bool true) w3)) := Lib.hid (by
        obtain ⟨ax', cx', Sx', e1, hx, -⟩ := hown3.form
        obtain ⟨ay', cy', Sy', e2, hy⟩ := (HPW2.out.below hown3.bel).form
        simp only [Value.slice.injEq] at e1 e2
        obtain ⟨rfl, -, rfl⟩ := e1
        obtain ⟨rfl, -, rfl⟩ := e2
        have hE : ∀ f ∈ full L, f.length ≤ 1073741824 := fun f hf => Nat.le_trans (hsm f (List.mem_filter.1 hf).1) (by decide)
        have h := records_calls a5 a4 (full L) (full L) c5 c4 _ _ w3 hx hy rfl rfl (by omega) (by omega) hE hE
        rwa [decide_eq_true rfl] at h)
      have HB3 := Lib.hid (below_then (below_then HB1.out HPW2.out.b.bel) hown3.bel)
      obtain ⟨k2, hk2⟩ : ∃ k, (full L).length = k := ⟨_, rfl⟩
      rw [hk2] at HREC ⊢
      clear hown3 hsm hful hk2 HPW2 HALL
      go_wp2_with fail
      refine HREC.out.mono ?_
      rintro e w4 ⟨rfl, d1, rfl⟩
      have HB4 := Lib.hid (below_then HB3.out (below_draws w3 d1))
      go_wp2
      go_ret
      exact ⟨rfl, HB4.out⟩

end Go.Proofs.Ytoceknldlhmnoaa
