/-
  All records, told by the program and by the reference. Condition: the slice leads to bytes, no more than 2 to the 30.
-/
import Derived.Test.YtjhiekijbcjohaaGreatDoorFNext
namespace Go.Proofs.YtjhiekijbcjohaaGreatDoor
open Go.RowKit Go.Lib

def AllOut (l : List Nat) (w : World) (e : Ending) (w' : World) : Prop :=
  ∃ v, e = .returned (.tuple #[v, .int .i64 (((allB l).2.1 : Nat) : Int), .int .i64 (((allB l).2.2 : Nat) : Int)]) ∧ OwnR w w' v (allB l).1

theorem row_drop {w : World} {S : Nat → Prop} {x : Addr} {l : List Nat} (h : Row w S (some x) l) (n : Nat) : Row w S (some (x.add n)) (l.drop n) := by
  rcases h.2 with h0 | ⟨b', o', ha, _⟩
  · subst h0
    rw [List.drop_nil]
    exact ⟨(fun c hc => by cases hc), .inl rfl⟩
  · obtain rfl : x = ⟨b', o', none⟩ := by simpa using ha
    rw [Addr.add_mid]
    exact h.drop n

set_option maxRecDepth 100000 in
set_option maxHeartbeats 4000000 in
theorem all_calls {S : Nat → Prop} (a : Option Addr) (l : List Nat) (n c : Nat) (w : World) (hr : Row w S a l) (hn : l.length = n) (hm : n ≤ 1073741824) (hc : n ≤ c) (hc2 : c ≤ maxLen) (h0 : a = none → c = 0) :
    Calls Tryz.prog 94 #[.slice a n c] w (AllOut l w) := by
  obtain ⟨q, hq⟩ : ∃ q, allB l = q := ⟨_, rfl⟩
  obtain ⟨R, G, T⟩ := q
  have HOUT : Hid (∀ v w', OwnR w w' v R → AllOut l w (.returned (.tuple #[v, .int .i64 (G : Int), .int .i64 (T : Int)])) w') := Lib.hid (fun v w' h => by
    unfold AllOut
    rw [hq]
    exact ⟨v, rfl, h⟩)
  have HQ : Hid (R = [] ++ (allB (l.drop 0)).1 ∧ G = 0 + (allB (l.drop 0)).2.1 ∧ T = (allB (l.drop 0)).2.2) := Lib.hid (by rw [List.drop_zero, hq]; exact ⟨rfl, (Nat.zero_add _).symm, rfl⟩)
  cases a with
  | none =>
    have hc0 := h0 rfl
    obtain rfl : n = 0 := by omega
    subst hc0
    have hl : l = [] := List.length_eq_zero_iff.1 hn
    subst hl
    have H := Lib.hid (next_calls (S := S) none [] 0 0 w hr rfl (by decide) (Nat.le_refl _) (Nat.zero_le _))
    have HR : Hid (R = [] ∧ G = 0 ∧ T = 2) := Lib.hid (by
      rw [allB_nil] at hq
      simpa [eq_comm] using hq)
    clear hr hn hm hc hc2 h0 HQ hq
    go_enter Tryz.func94, Tryz.ntmps94
    go_wp2
    go_loopg [5, 6] 0 (fun g acc idx wr => idx = .int .i64 0 ∧ OwnR w wr acc [] ∧ w = wr)
    case atStart => exact ⟨rfl, OwnR.nil w, rfl⟩
    case round =>
      obtain ⟨rfl, hown, rfl⟩ := hrel
      have HO := Lib.hid hown
      clear hown
      go_wp2_with fail
      refine H.out.mono ?_
      rintro e w2 ⟨v, rfl, hown2⟩
      have HO2 : Hid (OwnR w w2 u5 R) := Lib.hid (by rw [HR.out.1]; exact HO.out.below hown2.bel)
      have hst : standsB [] = 2 := rfl
      have hnx : nxtN [] = 0 := rfl
      have H3 := Lib.hid (HOUT.out _ _ HO2.out)
      rw [HR.out.2.1, HR.out.2.2] at H3
      rw [hst, hnx]
      clear hown2 hst hnx HO2 HO
      go_wp2
      go_ret3
      exact H3.out
  | some x =>
    have HN := Lib.hid hn
    have HR := Lib.hid hr
    have HNEXT := Lib.hid (fun p W (hp : p ≤ n) (h : Row W S (some (x.add p)) (l.drop p)) => next_calls (some (x.add p)) (l.drop p) (n - p) (c - p) W h (by rw [List.length_drop, hn]) (by omega) (by omega) (by omega))
    clear hr hn h0 hq
    go_enter Tryz.func94, Tryz.ntmps94
    go_wp2
    go_loopg [5, 6] n (fun g acc idx wr => ∃ (p : Nat) (D : List (List Nat)), idx = .int .i64 (p : Int) ∧ g + p = n ∧ OwnR w wr acc D ∧ D.length ≤ p ∧ (R = D ++ (allB (l.drop p)).1 ∧ G = p + (allB (l.drop p)).2.1 ∧ T = (allB (l.drop p)).2.2))
    case atStart => exact ⟨0, [], rfl, rfl, OwnR.nil w, Nat.le_refl _, HQ.out⟩
    case round =>
      obtain ⟨p, D, rfl, hg, hown, hD, hq⟩ := hrel
      have HG := Lib.hid hg
      have HO := Lib.hid hown
      have HE := Lib.hid hq
      have HD := Lib.hid hD
      have hpn : p ≤ n := by omega
      have HRP := Lib.hid (row_drop (HR.out.below hown.bel) p)
      clear hg hown hq HQ hD
      by_cases hs : standsB (l.drop p) = 1
      · obtain ⟨g1, g2, g3, -, -⟩ := fwhole hs
        rw [List.length_drop, HN.out] at g3
        have hN : nxtN (l.drop p) = 8 + get32 (l.drop p) := if_pos hs
        have hNR : nxtR (l.drop p) = recB (l.drop p) := if_pos hs
        have HE2 : Hid (R = (D ++ [recB (l.drop p)]) ++ (allB (l.drop (p + (8 + get32 (l.drop p))))).1 ∧ G = p + (8 + get32 (l.drop p)) + (allB (l.drop (p + (8 + get32 (l.drop p))))).2.1 ∧ T = (allB (l.drop (p + (8 + get32 (l.drop p))))).2.2) := Lib.hid (by
          obtain ⟨e1, e2, e3⟩ := HE.out
          rw [allB_whole hs, List.drop_drop] at e1 e2 e3
          simp only at e1 e2 e3
          refine ⟨?_, ?_, e3⟩
          · rw [e1, List.append_assoc]; rfl
          · omega)
        have HX := Lib.hid (HNEXT.out p _ hpn HRP.out)
        unfold NextOut at HX
        rw [hN, hs, hNR] at HX
        obtain ⟨sz, hsz⟩ : ∃ sz, 8 + get32 (l.drop p) = sz := ⟨_, rfl⟩
        obtain ⟨rc, hrc⟩ : ∃ rc, recB (l.drop p) = rc := ⟨_, rfl⟩
        rw [hsz] at HE2 g3 HX
        rw [hrc] at HE2 HX
        have hsz1 : 1 ≤ sz := by omega
        have hszn : p + sz ≤ n := by omega
        clear hs g1 g2 g3 hN hNR HE hsz hrc HRP
        go_wp2_with fail
        refine HX.out.mono ?_
        rintro e w2 ⟨v, rfl, hown2⟩
        have hO2 := HO.out.below hown2.bel
        obtain ⟨a2, c2, rfl, -⟩ := hown2.form
        obtain ⟨v3, w3, hrun3, hown3, -⟩ := hO2.append hown2.byt (fun k hk => ⟨hown2.lt k hk, fun e => by
          have h1 := hown2.new k hk
          have h2 := HO.out.lt k e
          omega, Nat.le_trans HO.out.bel.size (hown2.new k hk)⟩) (by have := HD.out; omega)
        have HRUN3 := Lib.hid hrun3
        have HO3 := Lib.hid hown3
        clear hown2 hO2 hrun3 hown3 HO HX
        go_wp2_with (at_builtin; refine wpList_step (fun K hK => step_app HRUN3.out (.tmp 23) (.tmp 25) rfl rfl rfl rfl (hK _ _ ?_)))
        go_wp2
        obtain ⟨g', hg'⟩ : ∃ g', g' + (p + sz) = n := ⟨n - (p + sz), by omega⟩
        go_roundg g'
        case measure => have := HG.out; omega
        case rel => exact ⟨p + sz, D ++ [rc], by go_num, hg', HO3.out, by rw [List.length_append]; have := HD.out; simp; omega, HE2.out⟩
      · have hN : nxtN (l.drop p) = 0 := if_neg hs
        have hE := HE.out
        rw [allB_else hs] at hE
        obtain ⟨e1, e2, e3⟩ := hE
        have hne : (((standsB (l.drop p) : Nat) : Int) != 1) = true := by simp; omega
        have H3 : Hid (∀ w2, OwnR w w2 u5 D → AllOut l w (.returned (.tuple #[u5, .int .i64 (p : Int), .int .i64 ((standsB (l.drop p) : Nat) : Int)])) w2) := Lib.hid (fun w2 h2 => by
          have h := HOUT.out u5 w2 (by rw [e1, List.append_nil]; exact h2)
          rw [e2, e3] at h
          exact h)
        by_cases hcp : c = p
        · have HX := Lib.hid (next_calls (S := S) (some x) (l.drop p) 0 0 wr ⟨fun c hc => HR.out.1 c (List.mem_of_mem_drop hc), .inl (List.drop_eq_nil_of_le (by rw [HN.out]; omega))⟩ (by rw [List.length_drop, HN.out]; omega) (by omega) (by omega) (Nat.zero_le _))
          unfold NextOut at HX
          rw [hN] at HX
          obtain ⟨s, hs2⟩ : ∃ s : Int, ((standsB (l.drop p) : Nat) : Int) = s := ⟨_, rfl⟩
          rw [hs2] at H3 hne HX
          clear hs hN e1 e2 e3 hs2 HE HRP HNEXT HR HN
          subst hcp
          go_wp2_with fail
          refine HX.out.mono ?_
          rintro e w2 ⟨v, rfl, hown2⟩
          have HO2 := Lib.hid (H3.out _ (HO.out.below hown2.bel))
          clear hown2 HX HO H3
          go_wp2
          go_ret3
          exact HO2.out
        · have HX := Lib.hid (HNEXT.out p _ hpn HRP.out)
          unfold NextOut at HX
          rw [hN] at HX
          obtain ⟨s, hs2⟩ : ∃ s : Int, ((standsB (l.drop p) : Nat) : Int) = s := ⟨_, rfl⟩
          rw [hs2] at H3 hne HX
          clear hs hN e1 e2 e3 hs2 HE HRP
          go_wp2_with fail
          refine HX.out.mono ?_
          rintro e w2 ⟨v, rfl, hown2⟩
          have HO2 := Lib.hid (H3.out _ (HO.out.below hown2.bel))
          clear hown2 HX HO H3
          go_wp2
          go_ret3
          exact HO2.out

set_option maxRecDepth 100000 in
set_option maxHeartbeats 4000000 in
theorem rall_calls {S : Nat → Prop} (a : Option Addr) (l : List Nat) (n c : Nat) (w : World) (hr : Row w S a l) (hn : l.length = n) (hm : n ≤ 1073741824) (hc : n ≤ c) (hc2 : c ≤ maxLen) (h0 : a = none → c = 0) :
    Calls Tryz.prog 95 #[.slice a n c] w (AllOut l w) := by
  obtain ⟨q, hq⟩ : ∃ q, allB l = q := ⟨_, rfl⟩
  obtain ⟨R, G, T⟩ := q
  have HOUT : Hid (∀ v w', OwnR w w' v R → AllOut l w (.returned (.tuple #[v, .int .i64 (G : Int), .int .i64 (T : Int)])) w') := Lib.hid (fun v w' h => by
    unfold AllOut
    rw [hq]
    exact ⟨v, rfl, h⟩)
  have HQ : Hid (R = [] ++ (allB (l.drop 0)).1 ∧ G = 0 + (allB (l.drop 0)).2.1 ∧ T = (allB (l.drop 0)).2.2) := Lib.hid (by rw [List.drop_zero, hq]; exact ⟨rfl, (Nat.zero_add _).symm, rfl⟩)
  cases a with
  | none =>
    have hc0 := h0 rfl
    obtain rfl : n = 0 := by omega
    subst hc0
    have hl : l = [] := List.length_eq_zero_iff.1 hn
    subst hl
    have H := Lib.hid (rnext_calls (S := S) none [] 0 0 w hr rfl (by decide) (Nat.le_refl _) (Nat.zero_le _))
    have HR : Hid (R = [] ∧ G = 0 ∧ T = 2) := Lib.hid (by
      rw [allB_nil] at hq
      simpa [eq_comm] using hq)
    clear hr hn hm hc hc2 h0 HQ hq
    go_enter Tryz.func95, Tryz.ntmps95
    go_wp2
    go_loopg [5, 6] 0 (fun g acc idx wr => idx = .int .i64 0 ∧ OwnR w wr acc [] ∧ w = wr)
    case atStart => exact ⟨rfl, OwnR.nil w, rfl⟩
    case round =>
      obtain ⟨rfl, hown, rfl⟩ := hrel
      have HO := Lib.hid hown
      clear hown
      go_wp2_with fail
      refine H.out.mono ?_
      rintro e w2 ⟨v, rfl, hown2⟩
      have HO2 : Hid (OwnR w w2 u5 R) := Lib.hid (by rw [HR.out.1]; exact HO.out.below hown2.bel)
      have hst : standsB [] = 2 := rfl
      have hnx : nxtN [] = 0 := rfl
      have H3 := Lib.hid (HOUT.out _ _ HO2.out)
      rw [HR.out.2.1, HR.out.2.2] at H3
      rw [hst, hnx]
      clear hown2 hst hnx HO2 HO
      go_wp2
      go_ret3
      exact H3.out
  | some x =>
    have HN := Lib.hid hn
    have HR := Lib.hid hr
    have HNEXT := Lib.hid (fun p W (hp : p ≤ n) (h : Row W S (some (x.add p)) (l.drop p)) => rnext_calls (some (x.add p)) (l.drop p) (n - p) (c - p) W h (by rw [List.length_drop, hn]) (by omega) (by omega) (by omega))
    clear hr hn h0 hq
    go_enter Tryz.func95, Tryz.ntmps95
    go_wp2
    go_loopg [5, 6] n (fun g acc idx wr => ∃ (p : Nat) (D : List (List Nat)), idx = .int .i64 (p : Int) ∧ g + p = n ∧ OwnR w wr acc D ∧ D.length ≤ p ∧ (R = D ++ (allB (l.drop p)).1 ∧ G = p + (allB (l.drop p)).2.1 ∧ T = (allB (l.drop p)).2.2))
    case atStart => exact ⟨0, [], rfl, rfl, OwnR.nil w, Nat.le_refl _, HQ.out⟩
    case round =>
      obtain ⟨p, D, rfl, hg, hown, hD, hq⟩ := hrel
      have HG := Lib.hid hg
      have HO := Lib.hid hown
      have HE := Lib.hid hq
      have HD := Lib.hid hD
      have hpn : p ≤ n := by omega
      have HRP := Lib.hid (row_drop (HR.out.below hown.bel) p)
      clear hg hown hq HQ hD
      by_cases hs : standsB (l.drop p) = 1
      · obtain ⟨g1, g2, g3, -, -⟩ := fwhole hs
        rw [List.length_drop, HN.out] at g3
        have hN : nxtN (l.drop p) = 8 + get32 (l.drop p) := if_pos hs
        have hNR : nxtR (l.drop p) = recB (l.drop p) := if_pos hs
        have HE2 : Hid (R = (D ++ [recB (l.drop p)]) ++ (allB (l.drop (p + (8 + get32 (l.drop p))))).1 ∧ G = p + (8 + get32 (l.drop p)) + (allB (l.drop (p + (8 + get32 (l.drop p))))).2.1 ∧ T = (allB (l.drop (p + (8 + get32 (l.drop p))))).2.2) := Lib.hid (by
          obtain ⟨e1, e2, e3⟩ := HE.out
          rw [allB_whole hs, List.drop_drop] at e1 e2 e3
          simp only at e1 e2 e3
          refine ⟨?_, ?_, e3⟩
          · rw [e1, List.append_assoc]; rfl
          · omega)
        have HX := Lib.hid (HNEXT.out p _ hpn HRP.out)
        unfold NextOut at HX
        rw [hN, hs, hNR] at HX
        obtain ⟨sz, hsz⟩ : ∃ sz, 8 + get32 (l.drop p) = sz := ⟨_, rfl⟩
        obtain ⟨rc, hrc⟩ : ∃ rc, recB (l.drop p) = rc := ⟨_, rfl⟩
        rw [hsz] at HE2 g3 HX
        rw [hrc] at HE2 HX
        have hsz1 : 1 ≤ sz := by omega
        have hszn : p + sz ≤ n := by omega
        clear hs g1 g2 g3 hN hNR HE hsz hrc HRP
        go_wp2_with fail
        refine HX.out.mono ?_
        rintro e w2 ⟨v, rfl, hown2⟩
        have hO2 := HO.out.below hown2.bel
        obtain ⟨a2, c2, rfl, -⟩ := hown2.form
        obtain ⟨v3, w3, hrun3, hown3, -⟩ := hO2.append hown2.byt (fun k hk => ⟨hown2.lt k hk, fun e => by
          have h1 := hown2.new k hk
          have h2 := HO.out.lt k e
          omega, Nat.le_trans HO.out.bel.size (hown2.new k hk)⟩) (by have := HD.out; omega)
        have HRUN3 := Lib.hid hrun3
        have HO3 := Lib.hid hown3
        clear hown2 hO2 hrun3 hown3 HO HX
        go_wp2_with (at_builtin; refine wpList_step (fun K hK => step_app HRUN3.out (.tmp 23) (.tmp 25) rfl rfl rfl rfl (hK _ _ ?_)))
        go_wp2
        obtain ⟨g', hg'⟩ : ∃ g', g' + (p + sz) = n := ⟨n - (p + sz), by omega⟩
        go_roundg g'
        case measure => have := HG.out; omega
        case rel => exact ⟨p + sz, D ++ [rc], by go_num, hg', HO3.out, by rw [List.length_append]; have := HD.out; simp; omega, HE2.out⟩
      · have hN : nxtN (l.drop p) = 0 := if_neg hs
        have hE := HE.out
        rw [allB_else hs] at hE
        obtain ⟨e1, e2, e3⟩ := hE
        have hne : (((standsB (l.drop p) : Nat) : Int) != 1) = true := by simp; omega
        have H3 : Hid (∀ w2, OwnR w w2 u5 D → AllOut l w (.returned (.tuple #[u5, .int .i64 (p : Int), .int .i64 ((standsB (l.drop p) : Nat) : Int)])) w2) := Lib.hid (fun w2 h2 => by
          have h := HOUT.out u5 w2 (by rw [e1, List.append_nil]; exact h2)
          rw [e2, e3] at h
          exact h)
        by_cases hcp : c = p
        · have HX := Lib.hid (rnext_calls (S := S) (some x) (l.drop p) 0 0 wr ⟨fun c hc => HR.out.1 c (List.mem_of_mem_drop hc), .inl (List.drop_eq_nil_of_le (by rw [HN.out]; omega))⟩ (by rw [List.length_drop, HN.out]; omega) (by omega) (by omega) (Nat.zero_le _))
          unfold NextOut at HX
          rw [hN] at HX
          obtain ⟨s, hs2⟩ : ∃ s : Int, ((standsB (l.drop p) : Nat) : Int) = s := ⟨_, rfl⟩
          rw [hs2] at H3 hne HX
          clear hs hN e1 e2 e3 hs2 HE HRP HNEXT HR HN
          subst hcp
          go_wp2_with fail
          refine HX.out.mono ?_
          rintro e w2 ⟨v, rfl, hown2⟩
          have HO2 := Lib.hid (H3.out _ (HO.out.below hown2.bel))
          clear hown2 HX HO H3
          go_wp2
          go_ret3
          exact HO2.out
        · have HX := Lib.hid (HNEXT.out p _ hpn HRP.out)
          unfold NextOut at HX
          rw [hN] at HX
          obtain ⟨s, hs2⟩ : ∃ s : Int, ((standsB (l.drop p) : Nat) : Int) = s := ⟨_, rfl⟩
          rw [hs2] at H3 hne HX
          clear hs hN e1 e2 e3 hs2 HE HRP
          go_wp2_with fail
          refine HX.out.mono ?_
          rintro e w2 ⟨v, rfl, hown2⟩
          have HO2 := Lib.hid (H3.out _ (HO.out.below hown2.bel))
          clear hown2 HX HO H3
          go_wp2
          go_ret3
          exact HO2.out

end Go.Proofs.YtjhiekijbcjohaaGreatDoor
