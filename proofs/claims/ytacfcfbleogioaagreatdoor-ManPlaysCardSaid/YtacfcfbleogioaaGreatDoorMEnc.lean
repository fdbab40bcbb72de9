/-
  A manifest's bytes, told by the program. Condition: the slice leads to numbers.
-/
import Derived.Test.YtacfcfbleogioaaGreatDoorMName
import Derived.Test.YtacfcfbleogioaaGreatDoorMRowA
import Derived.Test.YtacfcfbleogioaaGreatDoorOwnA
import Derived.Lib.SlBytesConst
namespace Go.Proofs.YtacfcfbleogioaaGreatDoor
open Go.RowKit Go.Lib Go.Joins

theorem ws_at : ∀ {l : List Int} {i j : Nat} {x : Int}, l[i]? = some x → j < 4 → (wsB l)[4 * i + j]? = some (x.toNat / 2 ^ (8 * j) % 256)
  | [], i, j, x, h, _ => by simp at h
  | y :: l, 0, j, x, h, hj => by
    obtain rfl : y = x := by simpa using h
    rw [wsB, List.getElem?_append_left (by rw [w32_len]; omega)]
    have : j = 0 ∨ j = 1 ∨ j = 2 ∨ j = 3 := by omega
    rcases this with rfl | rfl | rfl | rfl
    · show some (y.toNat % 256) = _; simp
    · rfl
    · rfl
    · rfl
  | y :: l, i + 1, j, x, h, hj => by
    have hx : l[i]? = some x := by simpa using h
    rw [wsB, List.getElem?_append_right (by rw [w32_len]; omega), w32_len, show 4 * (i + 1) + j - 4 = 4 * i + j by omega]
    exact ws_at hx hj

/-- What the loops have made: nothing yet, or so many of the bytes. -/
def EncSt (W4 : World) (L : List Nat) (A0 k : Nat) (acc : Value) (wr : World) : Prop :=
  (k = 0 ∧ acc = .slice (some ⟨A0, 0, none⟩) 4 4 ∧ wr = W4) ∨ (0 < k ∧ Own W4 wr acc (magicM ++ L.take k))
theorem EncSt.bel {W4 : World} {L : List Nat} {A0 k : Nat} {acc : Value} {wr : World} (h : EncSt W4 L A0 k acc wr) : Below W4.heap.size W4 wr := by
  rcases h with ⟨_, _, rfl⟩ | ⟨_, h⟩
  · exact Below.refl _ _
  · exact h.bel
theorem EncSt.form {W4 : World} {L : List Nat} {A0 k : Nat} {acc : Value} {wr : World} (h : EncSt W4 L A0 k acc wr) : ∃ sa sn sc, acc = .slice sa sn sc := by
  rcases h with ⟨_, rfl, _⟩ | ⟨_, h⟩
  · exact ⟨_, _, _, rfl⟩
  · obtain ⟨sa, sc, h, -⟩ := h.form
    exact ⟨sa, _, sc, h⟩
theorem EncSt.next {W4 : World} {S0 : Nat → Prop} {L : List Nat} {A0 k y : Nat} {acc : Value} {wr : World} (hrow : Row W4 S0 (some ⟨A0, 0, none⟩) magicM) (h : EncSt W4 L A0 k acc wr) (hy : L[k]? = some y) (hyb : y < 256) (hk : k ≤ 1000000) {X : Int} (hX : X = (y : Int)) :
    ∃ v' w', (∀ ty, (Builtin.append_ #[61, 61] ty #[acc, .slice (some ⟨wr.heap.size, 0, none⟩) 1 1]).run Tryz.prog (wr.alloc (.cells #[.int .u8 X] 5)) = .ok v' w') ∧ EncSt W4 L A0 (k + 1) v' w' := by
  subst hX
  have hx := row_new wr [y] (fun c hc => by obtain rfl := List.mem_singleton.1 hc; exact hyb) (0, 0)
  have htk : L.take (k + 1) = L.take k ++ [y] := by rw [List.take_add_one, hy]; rfl
  have hbw : Below wr.heap.size wr (wr.alloc (.cells #[.int .u8 (y : Int)] 5)) := (Below.refl _ _).alloc (Nat.le_refl _) _
  unfold EncSt
  rw [htk, ← List.append_assoc]
  rcases h with ⟨rfl, rfl, rfl⟩ | ⟨_, hown⟩
  · obtain ⟨v', w', h1, h2⟩ := append_full (n := 4) (m := 1) (c := 1) (hrow.below hbw) rfl hx rfl (by decide) (by decide)
    exact ⟨v', w', h1, .inr ⟨by decide, by rw [List.take_zero, List.append_nil]; exact h2.from hbw⟩⟩
  · obtain ⟨v', w', h1, h2, -⟩ := (hown.below hbw).append (m := 1) (c := 1) hx rfl (fun e => by cases e) (by rw [List.length_append, List.length_take]; simp only [magicM, List.length_cons, List.length_nil]; omega)
    exact ⟨v', w', h1, .inr ⟨by omega, h2⟩⟩
def magM : Array Value := #[.int .u8 82, .int .u8 67, .int .u8 77, .int .u8 49]

set_option maxRecDepth 100000 in
set_option maxHeartbeats 8000000 in
theorem mencode_calls {S : Nat → Prop} (g l : Int) (a : Option Addr) (segs : List Int) (n c : Nat) (w : World) (hr : IRow w S a segs) (hn : segs.length = n) (hm : n ≤ 1099511627776) (h0 : a = none → c = 0) :
    Calls Tryz.prog 30 #[.agg #[.int .i64 g, .int .i64 l, .slice a n c]] w (Gives (encM ⟨g, l, segs⟩) w) := by
  obtain ⟨W1, hW1⟩ : ∃ W1, w.alloc (.cells #[.int .i64 g, .int .i64 l, .slice a n c] 25) = W1 := ⟨_, rfl⟩
  have hb1 : Below w.heap.size w W1 := by rw [← hW1]; exact (Below.refl _ _).alloc (Nat.le_refl _) _
  have HMAY := Lib.hid (mmay_calls g l a segs n c W1 (hr.below hb1) hn hm)
  have c0 : W1.cell? ⟨w.heap.size, 0, none⟩ = some (.int .i64 g) := by rw [← hW1]; exact (World.cell?_alloc_mark w _ _ (0, 0) 0).trans rfl
  have c1 : W1.cell? ⟨w.heap.size, 1, none⟩ = some (.int .i64 l) := by rw [← hW1]; exact (World.cell?_alloc_mark w _ _ (0, 0) 1).trans rfl
  have c2 : W1.cell? ⟨w.heap.size, 2, none⟩ = some (.slice a n c) := by rw [← hW1]; exact (World.cell?_alloc_mark w _ _ (0, 0) 2).trans rfl
  have HW1 := Lib.hid hW1
  have HB1 := Lib.hid hb1
  have HR1 := Lib.hid (hr.below hb1)
  cases hmm : mayM ⟨g, l, segs⟩ with
  | false =>
    rw [encM_not hmm]
    rw [hmm] at HMAY
    clear hr hb1 hW1 hn hmm c0 c1 c2
    go_enter Tryz.func30, Tryz.ntmps30
    go_wp2_with fail
    rw [HW1.out]
    with_reducible refine HMAY.out.mono ?_
    rintro e w2 ⟨rfl, hb2⟩
    have HB2 := Lib.hid (below_then HB1.out hb2)
    clear hb2
    go_wp2
    go_ret
    exact ⟨_, rfl, (Own.nil _).from HB2.out⟩
  | true =>
    have hmay := mayM_is.1 hmm
    have HNUMS : Hid (∀ x ∈ numsM ⟨g, l, segs⟩, 0 ≤ x ∧ x < 4294967296) := Lib.hid (numsM_may hmay)
    have hn64 : n ≤ 64 := by have := hmay.len1; rw [← hn]; exact this
    have HENC : Hid (encM ⟨g, l, segs⟩ = putB (magicM ++ wsB (numsM ⟨g, l, segs⟩))) := Lib.hid (if_pos hmm)
    have HNL : Hid ((numsM ⟨g, l, segs⟩).length = 3 + n) := Lib.hid (by unfold numsM; rw [List.length_append, hn]; rfl)
    have HNI : Hid (numsM ⟨g, l, segs⟩ = [g, l, (n : Int)] ++ segs) := Lib.hid (by unfold numsM; rw [hn])
    rw [hmm] at HMAY
    rw [HENC.out]
    obtain ⟨NL, hNL⟩ : ∃ NL, numsM ⟨g, l, segs⟩ = NL := ⟨_, rfl⟩
    rw [hNL] at HNUMS HNL HNI ⊢
    have HCV : Hid (∀ W : World, (convert 61 61 (.slice (some ⟨W.heap.size, 0, none⟩) 4 4)).run Tryz.prog (W.alloc (.cells magM 5)) = .ok (.slice (some ⟨W.heap.size, 0, none⟩) 4 4) (W.alloc (.cells magM 5 (4, 5)))) := Lib.hid (fun W =>
      Lib.run_convert_bytes_const W 61 5 magM 4 4 Tryz.underlying61 Tryz.underlying5)
    have HN := Lib.hid hn
    clear hr hb1 hW1 hmm hmay hNL HENC hn
    go_enter Tryz.func30, Tryz.ntmps30
    go_wp2_with fail
    rw [HW1.out]
    with_reducible refine HMAY.out.mono ?_
    rintro e w2 ⟨rfl, hb2⟩
    have HB2 := Lib.hid hb2
    have d0 := (hb2.cell (p := ⟨w.heap.size, 0, none⟩) (lt_of_cell c0)).trans c0
    have d1 := (hb2.cell (p := ⟨w.heap.size, 1, none⟩) (lt_of_cell c1)).trans c1
    have d2 := (hb2.cell (p := ⟨w.heap.size, 2, none⟩) (lt_of_cell c2)).trans c2
    have hcv := HCV.out w2
    have hrow0 := row_new w2 magicM (by decide) (4, 5)
    have hb3 : Below w2.heap.size w2 (w2.alloc (.cells magM 5 (4, 5))) := (Below.refl _ _).alloc (Nat.le_refl _) _
    have hrow1 : Row (w2.alloc (.cells magM 5 (4, 5))) (One w2.heap.size) (some ⟨w2.heap.size, 0, none⟩) magicM := hrow0
    have hW3s : (w2.alloc (.cells magM 5 (4, 5))).heap.size = w2.heap.size + 1 := by simp
    obtain ⟨W3, hW3⟩ : ∃ W3, w2.alloc (.cells magM 5 (4, 5)) = W3 := ⟨_, rfl⟩
    rw [hW3] at hcv hb3 hrow1 hW3s
    have e0 := (hb3.cell (p := ⟨w.heap.size, 0, none⟩) (lt_of_cell d0)).trans d0
    have e1 := (hb3.cell (p := ⟨w.heap.size, 1, none⟩) (lt_of_cell d1)).trans d1
    have e2 := (hb3.cell (p := ⟨w.heap.size, 2, none⟩) (lt_of_cell d2)).trans d2
    have HB3 := Lib.hid hb3
    have HROW3 := Lib.hid hrow1
    -- the numbers
    have ho3 := OwnI.three W3 g l (n : Int)
    have hb34 := ho3.bel
    have hf2 : (W3.alloc (.cells #[.int .i64 g, .int .i64 l, .int .i64 (n : Int)] 3)).cell? ⟨w.heap.size, 2, none⟩ = some (.slice a n c) := (hb34.cell (p := ⟨w.heap.size, 2, none⟩) (lt_of_cell e2)).trans e2
    have hapi := ho3.append (m := n) (c := c) ((HR1.out.below HB2.out).below HB3.out |>.below hb34) HN.out h0 (by show 3 + n ≤ _; omega)
    obtain ⟨v4, W4, hrun4, hown4, -⟩ := hapi
    obtain ⟨a4, c4, rfl, hir4, ha4, hl4, hcm4⟩ := hown4.form
    have hlen4 : ([g, l, (n : Int)] ++ segs).length = 3 + n := by rw [List.length_append, HN.out]; rfl
    rw [hlen4] at hl4 hrun4
    rw [← HNI.out] at hir4
    rw [hW3s] at hrun4
    have HIR4 := Lib.hid hir4
    have HRUN4 := Lib.hid hrun4
    have HB4 := Lib.hid hown4.bel
    clear hb2 hb3 hrow0 hrow1 ho3 hb34 hown4 hir4 ha4 hl4 hcm4 hlen4 hrun4 d0 d1 d2 c0 c1 c2 HMAY HR1 HNI HCV h0
    unfold magM at hcv
    have HW4 : Hid (∀ wr, Below W4.heap.size W4 wr → Below w.heap.size w wr) := Lib.hid (fun wr hb => below_then HB1.out (below_then HB2.out (below_then HB3.out (below_then HB4.out hb))))
    have HROW4 := Lib.hid (HROW3.out.below HB4.out)
    have HFL : Hid (∀ i x, NL[i]? = some x → ∃ m : Nat, x = (m : Int) ∧ m < 4294967296 ∧ ∀ j, j < 4 → (wsB NL)[4 * i + j]? = some (m / 2 ^ (8 * j) % 256)) := Lib.hid (fun i x hx => by
      obtain ⟨h1, h2⟩ := HNUMS.out x (List.mem_of_getElem? hx)
      exact ⟨x.toNat, by omega, by omega, fun j hj => ws_at hx hj⟩)
    have HWL : Hid ((wsB NL).length = 4 * (3 + n)) := Lib.hid (by rw [wsB_len, HNL.out])
    have HPUT := Lib.hid (fun W S0 b c (h : Row W S0 b (magicM ++ wsB NL)) (k : Nat) hk hm h0 h1 h2 => put_calls b (magicM ++ wsB NL) k c W h hk hm h0 h1 h2)
    obtain ⟨L, hL⟩ : ∃ L, wsB NL = L := ⟨_, rfl⟩
    rw [hL] at HFL HWL HPUT
    have HGOAL : Hid (magicM ++ wsB NL = magicM ++ L) := Lib.hid (by rw [hL])
    obtain ⟨N, hN⟩ : ∃ N, 3 + n = N := ⟨_, rfl⟩
    rw [hN] at HNL HWL HRUN4
    have hN67 : N ≤ 67 := by omega
    have HNV := Lib.hid hN
    clear hL hN HNUMS HB1 HB2 HB3 HB4 HROW3
    go_wp2_with (at_builtin; refine wpList_step (fun K hK => step_app HRUN4.out (.tmp 19) (.tmp 21) rfl rfl rfl rfl (hK _ _ ?_)))
    clear hW3 hW3s hcv e0 e1 e2 hf2 HRUN4
    go_wp2_with fail
    go_loopg [3, 24] N (fun gk acc idx wr => ∃ (i : Nat), idx = .int .i64 (i : Int) ∧ gk + i = N ∧ EncSt W4 L w2.heap.size (4 * i) acc wr)
    case atStart => exact ⟨0, rfl, rfl, .inl ⟨rfl, rfl, rfl⟩⟩
    case round =>
      obtain ⟨i, rfl, hg, hst⟩ := hrel
      have HG := Lib.hid hg
      have HST := Lib.hid hst
      clear hg hst
      by_cases hlt : i < N
      · obtain ⟨g', rfl⟩ : ∃ g', gk = g' + 1 := ⟨gk - 1, by have := HG.out; omega⟩
        have hd1 : decide ((i : Int) < (N : Int)) = true := by simp; omega
        obtain ⟨x, hx⟩ : ∃ x, NL[i]? = some x := ⟨NL[i]'(by rw [HNL.out]; exact hlt), List.getElem?_eq_getElem _⟩
        obtain ⟨m, rfl, hm32, hws⟩ := HFL.out i x hx
        obtain ⟨ab, ao, rfl, _, hcx0⟩ := irow_at HIR4.out hx
        have hcx := (HST.out.bel.cell (p := ⟨ab, ao + i, none⟩) (lt_of_cell hcx0)).trans hcx0
        have HWS := Lib.hid hws
        clear hx hws hcx0
        go_wp2_with fail
        go_loopg [3, 28] 4 (fun gj acc2 idx2 wr2 => ∃ (j : Nat), idx2 = .int .i64 (j : Int) ∧ gj + j = 4 ∧ EncSt W4 L w2.heap.size (4 * i + j) acc2 wr2)
        case atStart => exact ⟨0, rfl, rfl, HST.out⟩
        case round =>
          obtain ⟨j, rfl, hgj, hst2⟩ := hrel
          have HGJ := Lib.hid hgj
          have HST2 := Lib.hid hst2
          clear hgj hst2
          by_cases hlj : j < 4
          · obtain ⟨gj', rfl⟩ : ∃ g', gk = g' + 1 := ⟨gk - 1, by have := HGJ.out; omega⟩
            have hdj : decide ((j : Int) < 4) = true := by simp; omega
            have HAPP := Lib.hid (fun X hX => HST2.out.next HROW4.out (HWS.out j hlj) (Nat.mod_lt _ (by decide)) (by omega) (X := X) hX)
            obtain ⟨sa, sn, sc, rfl⟩ := HST2.out.form
            clear HST2 HWS
            have h4 : j = 0 ∨ j = 1 ∨ j = 2 ∨ j = 3 := by omega
            rcases h4 with rfl | rfl | rfl | rfl
            · obtain ⟨v3, w3, hrun3, hst3⟩ := HAPP.out ((m : Int) % 256) (by simp)
              have HRUN := Lib.hid hrun3
              have HS3 := Lib.hid hst3
              clear hrun3 hst3 HAPP
              go_wp2_with (at_builtin; refine wpList_step (fun K hK => step_app HRUN.out (.tmp 31) (.tmp 37) rfl rfl rfl rfl (hK _ _ ?_)))
              go_wp2
              go_roundg gj'
              case measure => omega
              case rel => exact ⟨0 + 1, by go_num, by have := HGJ.out; omega, HS3.out⟩
            · obtain ⟨v3, w3, hrun3, hst3⟩ := HAPP.out ((m : Int) / 256 % 256) (by simp)
              have HRUN := Lib.hid hrun3
              have HS3 := Lib.hid hst3
              clear hrun3 hst3 HAPP
              go_wp2_with (at_builtin; refine wpList_step (fun K hK => step_app HRUN.out (.tmp 31) (.tmp 37) rfl rfl rfl rfl (hK _ _ ?_)))
              go_wp2
              go_roundg gj'
              case measure => omega
              case rel => exact ⟨1 + 1, by go_num, by have := HGJ.out; omega, HS3.out⟩
            · obtain ⟨v3, w3, hrun3, hst3⟩ := HAPP.out ((m : Int) / 65536 % 256) (by simp)
              have HRUN := Lib.hid hrun3
              have HS3 := Lib.hid hst3
              clear hrun3 hst3 HAPP
              go_wp2_with (at_builtin; refine wpList_step (fun K hK => step_app HRUN.out (.tmp 31) (.tmp 37) rfl rfl rfl rfl (hK _ _ ?_)))
              go_wp2
              go_roundg gj'
              case measure => omega
              case rel => exact ⟨2 + 1, by go_num, by have := HGJ.out; omega, HS3.out⟩
            · obtain ⟨v3, w3, hrun3, hst3⟩ := HAPP.out ((m : Int) / 16777216) (by simp; omega)
              have HRUN := Lib.hid hrun3
              have HS3 := Lib.hid hst3
              clear hrun3 hst3 HAPP
              go_wp2_with (at_builtin; refine wpList_step (fun K hK => step_app HRUN.out (.tmp 31) (.tmp 37) rfl rfl rfl rfl (hK _ _ ?_)))
              go_wp2
              go_roundg gj'
              case measure => omega
              case rel => exact ⟨3 + 1, by go_num, by have := HGJ.out; omega, HS3.out⟩
          · have hdj : decide ((j : Int) < 4) = false := by simp; omega
            obtain rfl : j = 4 := by have := HGJ.out; omega
            have HS4 : Hid (EncSt W4 L w2.heap.size (4 * (i + 1)) u3 wr) := Lib.hid HST2.out
            clear HST2
            go_wp2
            go_roundg g'
            case measure => omega
            case rel => exact ⟨i + 1, by go_num, by have := HG.out; omega, HS4.out⟩
      · have hd1 : decide ((i : Int) < (N : Int)) = false := by simp; omega
        have hiN : i = N := by have := HG.out; omega
        have hown : Own W4 wr u3 (magicM ++ L) := by
          rcases HST.out with ⟨h, _⟩ | ⟨_, h⟩
          · have := HNV.out; omega
          · rw [hiN, List.take_of_length_le (by rw [HWL.out]; have := HNV.out; omega)] at h
            exact h
        obtain ⟨sa, sc, rfl, hr2, h1, h2, h3⟩ := hown.form
        have hlen : (magicM ++ L).length = 4 + 4 * (3 + n) := by rw [List.length_append, HWL.out, HNV.out]; rfl
        rw [hlen] at h2
        have HP := Lib.hid (HPUT.out wr _ sa sc hr2 (4 + 4 * (3 + n)) hlen (by omega) h1 h2 h3)
        have HBW := Lib.hid (HW4.out _ hown.bel)
        rw [hlen]
        clear hown hr2 h1 h2 h3 hlen HST HPUT hiN
        go_wp2_with fail
        with_reducible refine HP.out.mono ?_
        rintro e w5 ⟨v5, rfl, hown5⟩
        have HF : Hid (Own w w5 v5 (putB (magicM ++ wsB NL))) := Lib.hid (by rw [HGOAL.out]; exact hown5.from HBW.out)
        clear hown5
        go_wp2
        go_ret
        exact ⟨v5, rfl, HF.out⟩

end Go.Proofs.YtacfcfbleogioaaGreatDoor
