/-
  The record at the beginning of bytes, told by the program and by the reference. Condition: the slice leads to bytes, no more than 2 to the 30.
-/
import Derived.Test.YtacfcfbleogioaaGreatDoorFPut
import Derived.OwnWalk
namespace Go.Proofs.YtacfcfbleogioaaGreatDoor
open Go.RowKit Go.Lib

theorem below_draws (w : World) (k : Nat) : Below w.heap.size w (w.drewN k) := ⟨rfl, rfl, rfl, Nat.le_refl _, fun _ _ => rfl⟩

/-- The record told; how many bytes its frame has. -/
def nxtR (l : List Nat) : List Nat := if standsB l = 1 then recB l else []
def nxtN (l : List Nat) : Nat := if standsB l = 1 then 8 + get32 l else 0
def NextOut (l : List Nat) (w : World) (e : Ending) (w' : World) : Prop :=
  ∃ v, e = .returned (.tuple #[v, .int .i64 ((nxtN l : Nat) : Int), .int .i64 ((standsB l : Nat) : Int)]) ∧ Own w w' v (nxtR l)

/-- The reference's test of the sum. -/
theorem put_same {l : List Nat} (hb : Byts l) (h1 : 1 ≤ get32 l) (h2 : get32 l ≤ 1048576) (h3 : 8 + get32 l ≤ l.length) : putB (recB l) = l.take (8 + get32 l) ↔ standsB l = 1 := by
  have hlen : (recB l).length = get32 l := by unfold recB; rw [List.length_take, List.length_drop]; omega
  have hp : putB (recB l) = frm (recB l) := by unfold putB; rw [hlen, if_pos ⟨h1, h2⟩]
  rw [hp]
  constructor
  · intro he
    have e1 : l.take 4 = w32 (get32 l) := (w32_get hb (by omega)).symm
    have e2 : get32 (l.drop 4) = sumN (w32 (get32 l)) (recB l) := by
      have h5 : get32 ((l.take (8 + get32 l)).drop 4) = get32 (l.drop 4) := by
        rw [List.drop_take, get32_take (by omega)]
      rw [← h5, ← he]
      unfold frm
      rw [hlen]
      show get32 (w32 _ ++ recB l) = _
      exact get_w32 (sumN_lt _ _) _
    unfold standsB
    rw [if_neg (by omega), if_neg (by omega), if_neg (by omega), if_neg (by omega), if_neg (by rw [e1]; exact fun h => h e2)]
  · exact whole_frm hb

set_option maxRecDepth 100000 in
set_option maxHeartbeats 4000000 in
theorem next_calls {S : Nat → Prop} (a : Option Addr) (l : List Nat) (n c : Nat) (w : World) (hr : Row w S a l) (hn : l.length = n) (hm : n ≤ 1073741824) (hc : n ≤ c) (hc2 : c ≤ maxLen) :
    Calls Tryz.prog 76 #[.slice a n c] w (NextOut l w) := by
  by_cases hs : standsB l = 1
  · obtain ⟨g1, g2, g3, _, g5⟩ := fwhole hs
    obtain ⟨b, o, rfl⟩ := row_form hr (by omega)
    have HSTAND := Lib.hid (stands_calls _ l n c w hr hn hm hc hc2)
    have HREACH := Lib.hid (fun W (h : Row W S (some ⟨b, o, none⟩) l) => reach_calls (some ⟨b, o, none⟩) l n c W h hn (by omega))
    have HCLONE := Lib.hid (fun W (h : Row W S (some ⟨b, o + 8, none⟩) (recB l)) => fclone_calls ⟨b, o + 8, none⟩ (recB l) (get32 l) (c - 8) W h g5 (by omega))
    have HOUT : Hid (∀ k v w', Own (w.drewN k) w' v (recB l) → NextOut l w (.returned (.tuple #[v, .int .i64 (8 + (get32 l : Nat)), .int .i64 1])) w') := Lib.hid (fun k v w' h => by
      refine ⟨v, ?_, ?_⟩
      · unfold nxtN
        rw [if_pos hs, hs]
        rfl
      · unfold nxtR
        rw [if_pos hs]
        exact h.from (below_draws w k))
    rw [hs] at HSTAND
    have HR := Lib.hid hr
    have HRR : Hid (Row w S (some ⟨b, o + 8, none⟩) (recB l)) := Lib.hid ((hr.drop 8).take _)
    have gg : (get32 l : Int) ≤ 1048576 := by omega
    have gn : 8 + (get32 l : Int) ≤ (n : Int) := by omega
    obtain ⟨g, hg⟩ : ∃ g, get32 l = g := ⟨_, rfl⟩
    rw [hg] at HREACH HCLONE HOUT g1 g2 g3 gg gn
    clear hr hs hn g5 hg
    go_enter Tryz.func76, Tryz.ntmps76
    go_wp2_with fail
    refine HSTAND.out.mono ?_
    rintro e w1 ⟨rfl, k1, rfl⟩
    go_wp2_with fail
    refine (HREACH.out _ (HR.out.draws k1)).mono ?_
    rintro e w1 ⟨rfl, k2, rfl⟩
    go_wp2_with fail
    refine (HCLONE.out _ (HRR.out.draws _)).mono ?_
    rintro e w1 ⟨v, rfl, hown⟩
    have HO := Lib.hid hown
    clear hown
    go_wp2
    go_ret3
    exact HOUT.out _ _ _ HO.out
  · have HSTAND := Lib.hid (stands_calls _ l n c w hr hn hm hc hc2)
    have HOUT : Hid (∀ k, NextOut l w (.returned (.tuple #[.slice none 0 0, .int .i64 0, .int .i64 ((standsB l : Nat) : Int)])) (w.drewN k)) := Lib.hid (fun k => by
      refine ⟨.slice none 0 0, ?_, ?_⟩
      · unfold nxtN
        rw [if_neg hs]
        rfl
      · unfold nxtR
        rw [if_neg hs]
        exact (Own.nil _).from (below_draws w k))
    have hne : (((standsB l : Nat) : Int) != 1) = true := by simp; omega
    obtain ⟨s, hs2⟩ : ∃ s : Int, ((standsB l : Nat) : Int) = s := ⟨_, rfl⟩
    rw [hs2] at HSTAND HOUT hne
    clear hr hs hs2 hn
    go_enter Tryz.func76, Tryz.ntmps76
    go_wp2_with fail
    refine HSTAND.out.mono ?_
    rintro e w1 ⟨rfl, k1, rfl⟩
    go_wp2
    go_ret3
    exact HOUT.out _

set_option maxRecDepth 100000 in
set_option maxHeartbeats 4000000 in
theorem rnext_calls {S : Nat → Prop} (a : Option Addr) (l : List Nat) (n c : Nat) (w : World) (hr : Row w S a l) (hn : l.length = n) (hm : n ≤ 1073741824) (hc : n ≤ c) (_hc2 : c ≤ maxLen) :
    Calls Tryz.prog 90 #[.slice a n c] w (NextOut l w) := by
  have HELSE : Hid (∀ s : Nat, standsB l = s → s ≠ 1 → ∀ W, Below w.heap.size w W → NextOut l w (.returned (.tuple #[.slice none 0 0, .int .i64 0, .int .i64 (s : Int)])) W) := Lib.hid (fun s hs hs1 W hW => by
    have hn1 : standsB l ≠ 1 := by rw [hs]; exact hs1
    refine ⟨.slice none 0 0, ?_, ?_⟩
    · unfold nxtN
      rw [if_neg hn1, hs]
      rfl
    · unfold nxtR
      rw [if_neg hn1]
      exact (Own.nil _).from hW)
  by_cases h0 : n = 0
  · have hs : standsB l = 2 := by unfold standsB; rw [hn, if_pos h0]
    have H := Lib.hid (HELSE.out 2 hs (by decide) _ (Below.refl _ _))
    subst h0
    clear hr hn hm hc _hc2 HELSE hs
    go_enter Tryz.func90, Tryz.ntmps90
    go_wp2
    go_ret3
    exact H.out
  have hne : ((n : Int) == 0) = false := by simp; omega
  by_cases h4 : n < 4
  · have hs : standsB l = 3 := by unfold standsB; rw [hn, if_neg h0, if_pos h4]
    have H := Lib.hid (HELSE.out 3 hs (by decide) _ (Below.refl _ _))
    have hd : decide ((n : Int) ≥ 4) = false := by simp; omega
    have hd2 : decide ((n : Int) < 4) = true := by simp; omega
    clear hr hn hm hc _hc2 HELSE hs
    go_enter Tryz.func90, Tryz.ntmps90
    go_wp2
    go_ret3
    exact H.out
  have hd : decide ((n : Int) ≥ 4) = true := by simp; omega
  have hd2 : decide ((n : Int) < 4) = false := by simp; omega
  obtain ⟨b, o, rfl⟩ := row_form hr (by omega)
  have HGET := Lib.hid (fun W (h : Row W S (some ⟨b, o, none⟩) l) => get32_calls (some ⟨b, o, none⟩) l n c W h hn (by omega))
  have HR := Lib.hid hr
  have hlt := get32_lt hr.1
  by_cases hlo : get32 l < 1
  · have hs : standsB l = 4 := by unfold standsB; rw [hn, if_neg h0, if_neg h4, if_pos (by omega)]
    have H := Lib.hid (fun k => HELSE.out 4 hs (by decide) _ (below_draws w k))
    have hd3 : decide (((get32 l : Nat) : Int) < 1) = true := by simp; omega
    have g0 : (0 : Int) ≤ ((get32 l : Nat) : Int) := by omega
    obtain ⟨g, hg⟩ : ∃ g : Int, ((get32 l : Nat) : Int) = g := ⟨_, rfl⟩
    rw [hg] at HGET hd3 g0
    clear hr hn hm hc _hc2 HELSE hs hlo hlt hg
    go_enter Tryz.func90, Tryz.ntmps90
    go_wp2_with fail
    refine (HGET.out _ HR.out).mono ?_
    rintro e w1 ⟨rfl, k1, rfl⟩
    go_wp2
    go_ret3
    exact H.out _
  have hd3 : decide (((get32 l : Nat) : Int) < 1) = false := by simp; omega
  by_cases hhi : 1048576 < get32 l
  · have hs : standsB l = 4 := by unfold standsB; rw [hn, if_neg h0, if_neg h4, if_pos (by omega)]
    have H := Lib.hid (fun k => HELSE.out 4 hs (by decide) _ (below_draws w k))
    have hd4 : decide (((get32 l : Nat) : Int) > 1048576) = true := by simp; omega
    have g0 : (0 : Int) ≤ ((get32 l : Nat) : Int) := by omega
    obtain ⟨g, hg⟩ : ∃ g : Int, ((get32 l : Nat) : Int) = g := ⟨_, rfl⟩
    rw [hg] at HGET hd3 hd4 g0
    clear hr hn hm hc _hc2 HELSE hs hlo hlt hg hhi
    go_enter Tryz.func90, Tryz.ntmps90
    go_wp2_with fail
    refine (HGET.out _ HR.out).mono ?_
    rintro e w1 ⟨rfl, k1, rfl⟩
    go_wp2_with fail
    refine (HGET.out _ (HR.out.draws _)).mono ?_
    rintro e w1 ⟨rfl, k2, rfl⟩
    go_wp2
    go_ret3
    exact H.out _
  have hd4 : decide (((get32 l : Nat) : Int) > 1048576) = false := by simp; omega
  by_cases hsh : n < 8 + get32 l
  · have hs : standsB l = 3 := by unfold standsB; rw [hn, if_neg h0, if_neg h4, if_neg (by omega), if_pos hsh]
    have H := Lib.hid (fun k => HELSE.out 3 hs (by decide) _ (below_draws w k))
    have hd5 : decide ((n : Int) < 8 + ((get32 l : Nat) : Int)) = true := by simp; omega
    have g0 : (0 : Int) ≤ ((get32 l : Nat) : Int) := by omega
    have g1 : ((get32 l : Nat) : Int) ≤ 1048576 := by omega
    obtain ⟨g, hg⟩ : ∃ g : Int, ((get32 l : Nat) : Int) = g := ⟨_, rfl⟩
    rw [hg] at HGET hd3 hd4 hd5 g0 g1
    clear hr hn hm hc _hc2 HELSE hs hlo hlt hg hhi hsh
    go_enter Tryz.func90, Tryz.ntmps90
    go_wp2_with fail
    refine (HGET.out _ HR.out).mono ?_
    rintro e w1 ⟨rfl, k1, rfl⟩
    go_wp2_with fail
    refine (HGET.out _ (HR.out.draws _)).mono ?_
    rintro e w1 ⟨rfl, k2, rfl⟩
    go_wp2_with fail
    refine (HGET.out _ (HR.out.draws _)).mono ?_
    rintro e w1 ⟨rfl, k3, rfl⟩
    go_wp2
    go_ret3
    exact H.out _
  have hd5 : decide ((n : Int) < 8 + ((get32 l : Nat) : Int)) = false := by simp; omega
  have hlen : (recB l).length = get32 l := by unfold recB; rw [List.length_take, List.length_drop]; omega
  have hps := put_same hr.1 (by omega) (by omega) (by omega)
  have HPUT := Lib.hid (fun W (h : Row W S (some ⟨b, o + 8, none⟩) (recB l)) => frput_calls (some ⟨b, o + 8, none⟩) (recB l) (get32 l) (c - 8) W h hlen (by omega) (fun e => by cases e))
  have HBY := Lib.hid (fun a2 n2 c2 (W : World) (S2 : Nat → Prop) (h : Row W S2 a2 (putB (recB l))) (hn2 : (putB (recB l)).length = n2) (h' : Row W S (some ⟨b, o, none⟩) (l.take (8 + get32 l))) => bytes_calls a2 (some ⟨b, o, none⟩) (putB (recB l)) (l.take (8 + get32 l)) c2 c n2 (8 + get32 l) W h h' hn2 (by rw [List.length_take]; omega) (by
    have := putB_len (recB l)
    omega) (by omega))
  have HRR : Hid (Row w S (some ⟨b, o + 8, none⟩) (recB l)) := Lib.hid ((hr.drop 8).take _)
  have HRT : Hid (Row w S (some ⟨b, o, none⟩) (l.take (8 + get32 l))) := Lib.hid (hr.take _)
  have HREC := Lib.hid hlen
  by_cases hs : standsB l = 1
  · have hby : decide (putB (recB l) = l.take (8 + get32 l)) = true := decide_eq_true (hps.2 hs)
    have HOUT : Hid (∀ w1 v w', Below w.heap.size w w1 → Own w1 w' v (recB l) → NextOut l w (.returned (.tuple #[v, .int .i64 (8 + (get32 l : Nat)), .int .i64 1])) w') := Lib.hid (fun w1 v w' hb h => by
      refine ⟨v, ?_, ?_⟩
      · unfold nxtN
        rw [if_pos hs, hs]
        rfl
      · unfold nxtR
        rw [if_pos hs]
        exact h.from hb)
    rw [hby] at HBY
    have gg : (get32 l : Int) ≤ 1048576 := by omega
    have gn : 8 + (get32 l : Int) ≤ (n : Int) := by omega
    have HGL := Lib.hid hlen
    obtain ⟨g, hg⟩ : ∃ g, get32 l = g := ⟨_, rfl⟩
    rw [hg] at HGET HPUT HBY HOUT hd3 hd4 hd5 gg gn hlo hhi hsh HRT HGL
    clear hr hn HELSE hs hlt hg hlen hps hby HREC
    go_enter Tryz.func90, Tryz.ntmps90
    go_wp2_with fail
    refine (HGET.out _ HR.out).mono ?_
    rintro e w1 ⟨rfl, k1, rfl⟩
    go_wp2_with fail
    refine (HGET.out _ (HR.out.draws _)).mono ?_
    rintro e w1 ⟨rfl, k2, rfl⟩
    go_wp2_with fail
    refine (HGET.out _ (HR.out.draws _)).mono ?_
    rintro e w1 ⟨rfl, k3, rfl⟩
    go_wp2_with fail
    refine (HGET.out _ (HR.out.draws _)).mono ?_
    rintro e w1 ⟨rfl, k4, rfl⟩
    go_wp2_with fail
    refine (HPUT.out _ (HRR.out.draws _)).mono ?_
    rintro e w5 ⟨v5, rfl, hown5⟩
    have HB5 := Lib.hid (below_then (below_draws w _) hown5.bel)
    obtain ⟨a5, c5, rfl, hr5, _⟩ := hown5.form
    have HR5 := Lib.hid hr5
    clear hown5 hr5
    go_wp2_with fail
    refine (HBY.out a5 _ c5 _ _ HR5.out rfl (HRT.out.below HB5.out)).mono ?_
    rintro e w6 ⟨rfl, k6, rfl⟩
    obtain ⟨v7, w7, hrun7, hown7, -⟩ := (Own.empty (w5.drewN k6)).append (m := 8 + g - 8) (c := c - 8) ((HRR.out.below (below_then HB5.out (below_draws w5 k6))).keep ((Keeps.refl Non _).alloc (.cells #[] 5)) (fun _ _ h => h)) (by have := HGL.out; omega) (fun e => by cases e) (by simp; omega)
    rw [List.nil_append] at hown7
    have H7 := Lib.hid (HOUT.out _ _ _ (below_then HB5.out (below_draws w5 k6)) hown7)
    have HRUN7 := Lib.hid hrun7
    clear hrun7 hown7
    go_wp2_with (at_builtin; refine wpList_step (fun K hK => step_app HRUN7.out (.tmp 50) (.tmp 54) rfl rfl rfl rfl (hK _ _ ?_)))
    go_wp2
    go_ret3
    exact H7.out
  · have hby : decide (putB (recB l) = l.take (8 + get32 l)) = false := decide_eq_false (fun h => hs (hps.1 h))
    have hs4 : standsB l = 4 := by
      rcases stands_any l with h | h | h | h
      · exact absurd h hs
      · exfalso
        unfold standsB at h
        rw [hn, if_neg h0, if_neg h4, if_neg (by omega), if_neg hsh] at h
        split at h <;> cases h
      · exfalso
        unfold standsB at h
        rw [hn, if_neg h0, if_neg h4, if_neg (by omega), if_neg hsh] at h
        split at h <;> cases h
      · exact h
    have H := Lib.hid (fun W hW => HELSE.out 4 hs4 (by decide) W hW)
    rw [hby] at HBY
    have gg : (get32 l : Int) ≤ 1048576 := by omega
    have gn : 8 + (get32 l : Int) ≤ (n : Int) := by omega
    obtain ⟨g, hg⟩ : ∃ g, get32 l = g := ⟨_, rfl⟩
    rw [hg] at HGET HPUT HBY hd3 hd4 hd5 gg gn hlo hhi hsh HRT
    clear hr hn HELSE hs hlt hg hlen hps hby HREC hs4
    go_enter Tryz.func90, Tryz.ntmps90
    go_wp2_with fail
    refine (HGET.out _ HR.out).mono ?_
    rintro e w1 ⟨rfl, k1, rfl⟩
    go_wp2_with fail
    refine (HGET.out _ (HR.out.draws _)).mono ?_
    rintro e w1 ⟨rfl, k2, rfl⟩
    go_wp2_with fail
    refine (HGET.out _ (HR.out.draws _)).mono ?_
    rintro e w1 ⟨rfl, k3, rfl⟩
    go_wp2_with fail
    refine (HGET.out _ (HR.out.draws _)).mono ?_
    rintro e w1 ⟨rfl, k4, rfl⟩
    go_wp2_with fail
    refine (HPUT.out _ (HRR.out.draws _)).mono ?_
    rintro e w5 ⟨v5, rfl, hown5⟩
    have HB5 := Lib.hid (below_then (below_draws w _) hown5.bel)
    obtain ⟨a5, c5, rfl, hr5, _⟩ := hown5.form
    have HR5 := Lib.hid hr5
    clear hown5 hr5
    go_wp2_with fail
    refine (HBY.out a5 _ c5 _ _ HR5.out rfl (HRT.out.below HB5.out)).mono ?_
    rintro e w6 ⟨rfl, k6, rfl⟩
    have H6 := Lib.hid (H.out _ (below_then HB5.out (below_draws w5 k6)))
    go_wp2
    go_ret3
    exact H6.out

end Go.Proofs.YtacfcfbleogioaaGreatDoor
