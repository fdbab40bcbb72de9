/-
  A record's frame, put by the program and by the reference. Condition: the slice leads to bytes, no more than 2 to the 30.
-/
import Derived.Test.YtacfcfbleogioaaGreatDoorOwn
namespace Go.Proofs.YtacfcfbleogioaaGreatDoor
open Go.RowKit Go.Lib

theorem recs_made {w : World} {S : Nat → Prop} {cells : List Value} {L : List (List Nat)} (h : RCells w S cells L) : Recs (w.alloc (.cells cells.toArray 61)) (fun k => S k ∨ k = w.heap.size) (some ⟨w.heap.size, 0, none⟩) L := by
  refine ⟨cells, (h.keep ((Keeps.refl Non w).alloc _) (fun _ _ h => h)).mono (fun _ h => .inl h), .inr ⟨_, _, rfl, .inr rfl, fun j u hu => ?_⟩⟩
  rw [Nat.zero_add, World.cell?_alloc_mark w cells.toArray 61 (0, 0) j]
  simpa using hu

/-- Four6 bytes of a number, of the call's own. -/
def Fours (n : Nat) (w : World) (e : Ending) (w' : World) : Prop := e = .returned (.slice (some ⟨w.heap.size, 0, none⟩) 4 4) ∧ Own w w' (.slice (some ⟨w.heap.size, 0, none⟩) 4 4) (w32 n)
theorem four_gives {n : Nat} (h : n < 4294967296) {w w' : World} {e : Ending} (hf : Four6 (n : Int) w e w') : Fours n w e w' := by
  obtain ⟨h1, h2, h3⟩ := four_own h hf
  exact ⟨h1, ⟨⟨h2.1, by rcases h2.2 with h | ⟨g, cap, cur, e1, _, e2⟩; exact .inl h; exact .inr ⟨g, cap, cur, e1, Nat.zero_le _, e2⟩⟩, w32_byts n, (fun k e => Nat.le_of_eq (Option.some.inj e)), h3⟩⟩
theorem write_gives (n : Nat) (w : World) (h : n < 4294967296) : Calls Tryz.prog 113 #[.int .u32 (n : Int)] w (Fours n w) := (write_calls (n : Int) w (by omega) (by omega)).mono fun _ _ hf => four_gives h hf
theorem put32_gives (n : Nat) (w : World) (h : n < 4294967296) : Calls Tryz.prog 107 #[.int .u32 (n : Int)] w (Fours n w) := (put32_calls (n : Int) w (by omega) (by omega)).mono fun _ _ hf => four_gives h hf

theorem byt_of {w : World} {S : Nat → Prop} {a : Option Addr} {l : List Nat} {n c : Nat} (hr : Row w S a l) (hn : l.length = n) (h0 : a = none → c = 0) (h1 : n ≤ c) (h2 : c ≤ maxLen) : Byt w S (.slice a n c) l := by
  subst hn
  exact ⟨⟨a, c, rfl, hr, h0, h1, h2⟩⟩

set_option maxRecDepth 100000 in
set_option maxHeartbeats 4000000 in
theorem put_calls {S : Nat → Prop} (a : Option Addr) (l : List Nat) (n c : Nat) (w : World) (hr : Row w S a l) (hn : l.length = n) (hm : n ≤ 1073741824) (h0 : a = none → c = 0) (h1 : n ≤ c) (h2 : c ≤ maxLen) :
    Calls Tryz.prog 75 #[.slice a n c] w (Gives (putB l) w) := by
  by_cases hmay : 1 ≤ n ∧ n ≤ 1048576
  · have hmb : mayB (n : Int) = true := by unfold mayB; simp; omega
    have hp : putB l = w32 n ++ (w32 (sumN (w32 n) l) ++ l) := by
      unfold putB frm
      rw [hn, if_pos hmay]
    rw [hp]
    have HS := Lib.hid (sumN_lt (w32 n) l)
    have HSUM := Lib.hid (fun b W (h : Row W (fun k => (Value.slice (some b) 4 4).ownBlock = some k) (some b) (w32 n)) (h' : Row W S a l) => fsum_calls (some b) a (w32 n) l 4 4 n c W h rfl (by omega) h' hn hm)
    obtain ⟨s, hs⟩ : ∃ s, sumN (w32 n) l = s := ⟨_, rfl⟩
    rw [hs] at HS HSUM ⊢
    have HR := Lib.hid hr
    have HB := Lib.hid (byt_of hr hn h0 h1 h2)
    have hn32 : (n : Int) < 4294967296 := by omega
    clear hr hp hs
    go_enter Tryz.func75, Tryz.ntmps75
    go_wp2_with fail
    refine (fmay_calls _ _).mono ?_
    rintro e w1 ⟨rfl, rfl⟩
    rw [hmb]
    go_wp2_with fail
    refine (write_gives n w1 (by omega)).mono ?_
    rintro e w2 ⟨rfl, hown2⟩
    have HO2 := Lib.hid hown2
    obtain ⟨a2, c2, hv2, hr2, -⟩ := hown2.form
    simp only [Value.slice.injEq] at hv2
    obtain ⟨rfl, -, rfl⟩ := hv2
    have HR2 := Lib.hid hr2
    clear hown2 hr2
    go_wp2_with fail
    refine (HSUM.out _ w2 HR2.out (HR.out.below HO2.out.bel)).mono ?_
    rintro e w3 ⟨rfl, rfl⟩
    go_wp2_with fail
    refine (write_gives s w3 HS.out).mono ?_
    rintro e w4 ⟨rfl, hown4⟩
    have HO4 := Lib.hid hown4
    clear hown4
    have HREC : Hid (∃ S', Recs (w4.alloc (.cells #[.slice (some ⟨w1.heap.size, 0, none⟩) 4 4, .slice (some ⟨w3.heap.size, 0, none⟩) 4 4, .slice a n c] 61)) S' (some ⟨w4.heap.size, 0, none⟩) [w32 n, w32 s, l]) := Lib.hid ⟨_, recs_made
      ((RCells.one ((HO2.out.below HO4.out.bel).byt.mono (S' := fun _ => True) (fun _ _ => trivial))).app ((RCells.one (HO4.out.byt.mono (S' := fun _ => True) (fun _ _ => trivial))).app (RCells.one (((HB.out.below HO2.out.bel).below HO4.out.bel).mono (S' := fun _ => True) (fun _ _ => trivial)))))⟩
    go_wp2_with fail
    obtain ⟨S', hrec⟩ := HREC.out
    refine (concat_calls _ [w32 n, w32 s, l] 3 3 _ hrec rfl (by rw [tot_cons, tot_cons, tot_cons, tot_nil, w32_len, w32_len, hn]; omega) (by omega)).mono ?_
    rintro e w5 ⟨v5, rfl, hown5⟩
    have HO5 := Lib.hid hown5
    clear hown5 hrec
    go_wp2
    go_ret
    refine ⟨v5, rfl, ?_⟩
    have h5 := HO5.out.from (((below_then HO2.out.bel HO4.out.bel)).alloc (by have h6 := HO2.out.bel.size; have h7 := HO4.out.bel.size; omega) _)
    simpa using h5
  · have hmb : mayB (n : Int) = false := by
      unfold mayB
      rw [Bool.eq_false_iff]
      intro h
      simp at h
      exact hmay (by omega)
    have hp : putB l = [] := by
      unfold putB
      rw [hn, if_neg hmay]
    rw [hp]
    clear hr hp hn h0 h1 h2
    go_enter Tryz.func75, Tryz.ntmps75
    go_wp2_with fail
    refine (fmay_calls _ _).mono ?_
    rintro e w1 ⟨rfl, rfl⟩
    rw [hmb]
    go_wp2
    go_ret
    exact ⟨_, rfl, Own.nil _⟩

set_option maxRecDepth 100000 in
set_option maxHeartbeats 4000000 in
theorem frput_calls {S : Nat → Prop} (a : Option Addr) (l : List Nat) (n c : Nat) (w : World) (hr : Row w S a l) (hn : l.length = n) (hm : n ≤ 1073741824) (h0 : a = none → c = 0) :
    Calls Tryz.prog 108 #[.slice a n c] w (Gives (putB l) w) := by
  by_cases hlo : n < 1
  · have hd : decide ((n : Int) < 1) = true := by simp; omega
    have hp : putB l = [] := by
      unfold putB
      rw [hn, if_neg (by omega)]
    rw [hp]
    clear hr hp hn h0
    go_enter Tryz.func108, Tryz.ntmps108
    go_wp2
    go_ret
    exact ⟨_, rfl, Own.nil _⟩
  have hd : decide ((n : Int) < 1) = false := by simp; omega
  by_cases hhi : 1048576 < n
  · have hd2 : decide ((n : Int) > 1048576) = true := by simp; omega
    have hp : putB l = [] := by
      unfold putB
      rw [hn, if_neg (by omega)]
    rw [hp]
    clear hr hp hn h0
    go_enter Tryz.func108, Tryz.ntmps108
    go_wp2
    go_ret
    exact ⟨_, rfl, Own.nil _⟩
  have hd2 : decide ((n : Int) > 1048576) = false := by simp; omega
  have hp : putB l = w32 n ++ w32 (sumN (w32 n) l) ++ l := by
    unfold putB frm
    rw [hn, if_pos (by omega), List.append_assoc]
  rw [hp]
  have HS := Lib.hid (sumN_lt (w32 n) l)
  have HSUM := Lib.hid (fun b k W S' (h : Row W S' b (w32 n ++ l)) => ref_calls b (w32 n ++ l) (4 + n) k W h (by rw [List.length_append, w32_len, hn]) (by omega))
  have hsu : uv (sumB (w32 n ++ l)) = ((sumN (w32 n) l : Nat) : Int) := by rw [← on_sum]; rfl
  rw [hsu] at HSUM
  obtain ⟨s, hs⟩ : ∃ s, sumN (w32 n) l = s := ⟨_, rfl⟩
  rw [hs] at HS HSUM ⊢
  have HR := Lib.hid hr
  have H0 := Lib.hid h0
  have HN := Lib.hid hn
  have hn32 : (n : Int) < 4294967296 := by omega
  clear hr hp hs hsu h0 hn
  go_enter Tryz.func108, Tryz.ntmps108
  go_wp2_with fail
  refine (put32_gives n w (by omega)).mono ?_
  rintro e w2 ⟨rfl, hown2⟩
  have HO2 := Lib.hid hown2
  obtain ⟨a2, c2, hv2, hr2, hnil2, -⟩ := hown2.form
  simp only [Value.slice.injEq] at hv2
  obtain ⟨rfl, -, rfl⟩ := hv2
  obtain ⟨v3, w3, hrun3, hown3, -⟩ := (Own.empty w2).append (hr2.keep ((Keeps.refl Non w2).alloc (.cells #[] 5)) (fun _ _ h => h)) rfl hnil2 (by rw [w32_len]; simp)
  have HRUN3 := Lib.hid hrun3
  have HO3 := Lib.hid hown3
  have HB3 := Lib.hid (below_then HO2.out.bel hown3.bel)
  obtain ⟨v4, w4, hrun4, hown4, -⟩ := hown3.append (HR.out.below HB3.out) HN.out H0.out (by rw [List.nil_append, w32_len]; omega)
  rw [List.nil_append] at hown4
  have HRUN4 := Lib.hid hrun4
  have HB4 := Lib.hid (below_then HO2.out.bel hown4.bel)
  have HO24 := Lib.hid (HO2.out.below hown4.bel)
  obtain ⟨a3, c3, rfl, -⟩ := hown3.form
  obtain ⟨a4, c4, rfl, hr4, -⟩ := hown4.form
  have HR4 := Lib.hid hr4
  have hlen4 : (w32 n ++ l).length = 4 + n := by rw [List.length_append, w32_len, HN.out]
  rw [hlen4] at HRUN4 HR4
  rw [List.nil_append] at HRUN3 HRUN4
  rw [w32_len] at HRUN3 HRUN4
  clear hown2 hr2 hnil2 hrun3 hown3 hrun4 hown4 hr4 HO3 hlen4
  go_wp2_with (at_builtin; first | refine wpList_step (fun K hK => step_app HRUN3.out (.tmp 17) (.tmp 18) rfl rfl rfl rfl (hK _ _ ?_)) | refine wpList_step (fun K hK => step_app HRUN4.out (.tmp 19) (.tmp 20) rfl rfl rfl rfl (hK _ _ ?_)))
  refine (HSUM.out a4 c4 w4 _ HR4.out).mono ?_
  rintro e w5 ⟨rfl, rfl⟩
  go_wp2_with fail
  refine (put32_gives s w5 HS.out).mono ?_
  rintro e w6 ⟨rfl, hown6⟩
  have HB6 := Lib.hid (below_then HB4.out hown6.bel)
  have HO26 := Lib.hid (HO24.out.below hown6.bel)
  obtain ⟨a6, c6, hv6, hr6, hnil6, -⟩ := hown6.form
  simp only [Value.slice.injEq] at hv6
  obtain ⟨rfl, -, rfl⟩ := hv6
  obtain ⟨v7, w7, hrun7, hown7, -⟩ := HO26.out.append hr6 rfl hnil6 (by rw [w32_len, w32_len]; omega)
  obtain ⟨v8, w8, hrun8, hown8, -⟩ := hown7.append (HR.out.below hown7.bel) HN.out H0.out (by rw [List.length_append, w32_len, w32_len]; omega)
  have HRUN7 := Lib.hid hrun7
  have HRUN8 := Lib.hid hrun8
  have HO8 := Lib.hid hown8
  obtain ⟨a7, c7, rfl, -⟩ := hown7.form
  obtain ⟨a8, c8, rfl, -⟩ := hown8.form
  rw [List.length_append, w32_len, w32_len] at HRUN7 HRUN8
  rw [List.length_append, List.length_append, w32_len, w32_len, HN.out] at HRUN8 HO8
  clear hown6 hr6 hnil6 hrun7 hown7 hrun8 hown8 HO2 HB3 HB4 HO24 HO26
  go_wp2_with (at_builtin; first | refine wpList_step (fun K hK => step_app HRUN7.out (.tmp 24) (.tmp 25) rfl rfl rfl rfl (hK _ _ ?_)) | refine wpList_step (fun K hK => step_app HRUN8.out (.tmp 26) (.tmp 27) rfl rfl rfl rfl (hK _ _ ?_)))
  go_wp2
  go_ret
  exact ⟨_, rfl, HO8.out⟩

end Go.Proofs.YtacfcfbleogioaaGreatDoor
