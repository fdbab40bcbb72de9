/-
  The law's fixed answers. Conditions: the laid variables hold what their initialisers lay.
-/
import Derived.Test.YtemohjodihcdfaaGreatDoorXAm
import Derived.Test.YtemohjodihcdfaaGreatDoorXPz
import Derived.Test.YtemohjodihcdfaaGreatDoorFCode
namespace Go.Proofs.YtemohjodihcdfaaGreatDoor
open Go.RowKit Go.Lib Go.Joins

/-- A token's cells in memory. -/
def TkIn (w : World) (b i : Nat) (x : Tk × Value) : Prop :=
  w.cell? ⟨b, i * 5, none⟩ = some (.int .i64 (x.1.kind : Int)) ∧ w.cell? ⟨b, i * 5 + 1, none⟩ = some (.int .i64 (x.1.at_ : Int)) ∧ w.cell? ⟨b, i * 5 + 2, none⟩ = some (.string (strB x.1.name)) ∧ w.cell? ⟨b, i * 5 + 3, none⟩ = some (.string (strB x.1.text)) ∧ w.cell? ⟨b, i * 5 + 4, none⟩ = some x.2
theorem OwnT.tokens {n0 : Nat} {w : World} {v : Value} {ps : List (Tk × Value)} (h : OwnT n0 w v ps) : (v = .slice none 0 0 ∧ ps = []) ∨ ∃ b c, v = .slice (some ⟨b, 0, none⟩) ps.length c ∧ ps.length ≤ c ∧ c ≤ maxLen ∧ b < w.heap.size ∧ n0 ≤ b ∧ ∀ i x, ps[i]? = some x → TkIn w b i x := by
  rcases h.row.2 with ⟨h1, h0⟩ | ⟨g, cap, cur, h1, hg, hgb, hcap, hcm, hcur, htk⟩
  · exact .inl ⟨h1, List.length_eq_zero_iff.1 h0⟩
  · refine .inr ⟨g, cap, h1, hcap, hcm, lt_of_block hgb, h.new g (by rw [h1]; rfl), fun i x hx => ?_⟩
    have hc := h.row.cells (g := g) (by rw [h1]; rfl)
    obtain ⟨x1, x2, x3, x4, x5⟩ := tksC_at hx
    have y1 := hc _ _ x1
    have y2 := hc _ _ x2
    have y3 := hc _ _ x3
    have y4 := hc _ _ x4
    have y5 := hc _ _ x5
    rw [Addr.add_mid, Nat.zero_add] at y1 y2 y3 y4 y5
    exact ⟨y1, y2, y3, y4, y5⟩
theorem TkIn.keep {w w' : World} {b i : Nat} {x : Tk × Value} (h : TkIn w b i x) (hb : Below w.heap.size w w') : TkIn w' b i x :=
  ⟨(hb.cell (lt_of_cell h.1)).trans h.1, (hb.cell (lt_of_cell h.2.1)).trans h.2.1, (hb.cell (lt_of_cell h.2.2.1)).trans h.2.2.1, (hb.cell (lt_of_cell h.2.2.2.1)).trans h.2.2.2.1, (hb.cell (lt_of_cell h.2.2.2.2)).trans h.2.2.2.2⟩
/-- A row of bytes in a block of its own is a document. -/
theorem doc_of_cells {w : World} {b : Nat} {l : List UInt8} {c : Nat} (h : ∀ k, k < l.length → w.cell? ⟨b, 0 + k, none⟩ = some (.int .u8 (fs l k : Int))) (hc : l.length ≤ c) (hm : c ≤ maxLen) : DocAt w (some ⟨b, 0, none⟩) c l where
  row := .inr ⟨b, 0, rfl, h⟩
  nul := fun h => by cases h
  cap := hc
  most := hm
def vals (l : List UInt8) : List Value := l.map fun x => .int .u8 (x.toNat : Int)
theorem doc_new (w : World) (l : List UInt8) (k m : Nat) (c : Nat) (hc : l.length ≤ c) (hm : c ≤ maxLen) : DocAt (w.alloc (.cells (vals l).toArray 5 (k, m))) (some ⟨w.heap.size, 0, none⟩) c l :=
  doc_of_cells (fun j hj => by
    rw [World.cell?_alloc_mark, Nat.zero_add, List.getElem?_toArray]
    unfold vals
    rw [List.getElem?_map]
    show Option.map _ l[j]? = _
    rw [List.getElem?_eq_getElem hj]
    show some (Value.int .u8 _) = some (Value.int .u8 ((l.getD j 0).toNat : Int))
    rw [List.getD_eq_getElem?_getD, List.getElem?_eq_getElem hj]
    rfl) hc hm
set_option maxRecDepth 100000 in
set_option maxHeartbeats 8000000 in
theorem awake_calls (w : World) (hE : EnvAt w) (hg : Handle w) (h15 : 15 ≤ w.heap.size) : Calls Tryz.prog 10 #[] w (Leaves (.bool true) w) := by
  have kc := fun (w : World) (C : Array Value) (n c : Nat) => Lib.run_convert_bytes_const (P := Tryz.prog) w 22 5 C n c Tryz.underlying22 Tryz.underlying5
  have HE := Lib.hid hE
  have HG := Lib.hid hg
  have H15 := Lib.hid h15
  have HB1 : Hid (Below w.heap.size w (w.alloc (.cells #[.int .u8 60, .int .u8 97, .int .u8 32, .int .u8 120, .int .u8 61, .int .u8 39, .int .u8 49, .int .u8 39, .int .u8 62, .int .u8 98, .int .u8 38, .int .u8 97, .int .u8 109, .int .u8 112, .int .u8 59, .int .u8 99, .int .u8 60, .int .u8 47, .int .u8 97, .int .u8 62] 5 (20, 21)))) := Lib.hid ((Below.refl _ _).alloc (Nat.le_refl _) _)
  have HA1 : Hid (Calls Tryz.prog 11 #[.slice (some ⟨w.heap.size, 0, none⟩) 20 20] (w.alloc (.cells #[.int .u8 60, .int .u8 97, .int .u8 32, .int .u8 120, .int .u8 61, .int .u8 39, .int .u8 49, .int .u8 39, .int .u8 62, .int .u8 98, .int .u8 38, .int .u8 97, .int .u8 109, .int .u8 112, .int .u8 59, .int .u8 99, .int .u8 60, .int .u8 47, .int .u8 97, .int .u8 62] 5 (20, 21))) (AllOut (w.alloc (.cells #[.int .u8 60, .int .u8 97, .int .u8 32, .int .u8 120, .int .u8 61, .int .u8 39, .int .u8 49, .int .u8 39, .int .u8 62, .int .u8 98, .int .u8 38, .int .u8 97, .int .u8 109, .int .u8 112, .int .u8 59, .int .u8 99, .int .u8 60, .int .u8 47, .int .u8 97, .int .u8 62] 5 (20, 21))) (allS doc1))) := Lib.hid (all_calls (l := doc1) (doc_new w doc1 20 21 20 (by decide) (by decide)) (HE.out.below HB1.out) (Nat.le_trans h15 HB1.out.size))
  rw [all_doc1] at HA1
  clear hE hg h15
  go_enter Tryz.func10, Tryz.ntmps10
  go_wp2_with fail
  with_reducible refine HA1.out.mono ?_
  rintro e w1 ⟨v, ps, rfl, hps, hown, hb⟩
  have hb1 : Below w.heap.size w w1 := below_then HB1.out hb
  clear HA1 HB1 hb
  obtain ⟨b, cc, hv, hcc⟩ : ∃ b cc, v = .slice (some ⟨b, 0, none⟩) 3 cc ∧ (w1.cell? ⟨b, 6, none⟩ = some (.int .i64 9) ∧ w1.cell? ⟨b, 8, none⟩ = some (.string (strB [98, 38, 99]))) := by
    rcases hown.tokens with ⟨_, h0⟩ | ⟨b, cc, h1, _, _, _, _, h2⟩
    · rw [h0] at hps; cases hps
    · have hl : ps.length = 3 := by have := congrArg List.length hps; rw [List.length_map] at this; exact this
      obtain ⟨x1, hx1⟩ : ∃ x, ps[1]? = some x := ⟨_, List.getElem?_eq_getElem (by omega)⟩
      have hf : x1.1 = ⟨4, 9, [], [98, 38, 99], []⟩ := by
        have h3 : (ps.map Prod.fst)[1]? = some x1.1 := by rw [List.getElem?_map, hx1]; rfl
        rw [hps] at h3
        exact (Option.some.inj h3).symm
      have h4 := h2 1 x1 hx1
      rw [TkIn, hf] at h4
      exact ⟨b, cc, by rw [h1, hl], h4.2.1, h4.2.2.2.1⟩
  subst hv
  obtain ⟨e6, e8⟩ := hcc
  have HBW := Lib.hid hb1
  have HB2 : Hid (Below w1.heap.size w1 (w1.alloc (.cells #[.int .u8 60, .int .u8 97] 5 (2, 3)))) := Lib.hid ((Below.refl _ _).alloc (Nat.le_refl _) _)
  have HA2 : Hid (Calls Tryz.prog 11 #[.slice (some ⟨w1.heap.size, 0, none⟩) 2 2] (w1.alloc (.cells #[.int .u8 60, .int .u8 97] 5 (2, 3))) (AllOut (w1.alloc (.cells #[.int .u8 60, .int .u8 97] 5 (2, 3))) (allS [60, 97]))) := Lib.hid (all_calls (l := [60, 97]) (doc_new w1 [60, 97] 2 3 2 (by decide) (by decide)) (HE.out.below (HBW.out.trans (HB2.out.mono HBW.out.size))) (Nat.le_trans H15.out (Nat.le_trans HBW.out.size HB2.out.size)))
  rw [all_doc2] at HA2
  clear hps hown hb1
  go_wp2_with fail
  with_reducible refine HA2.out.mono ?_
  rintro e w2 ⟨ev, rfl, _, her, hb⟩
  have hb12 : Below w1.heap.size w1 w2 := below_then HB2.out hb
  have hbw2 : Below w.heap.size w w2 := below_then HBW.out hb12
  have HBZ := Lib.hid hbw2
  have HCO := Lib.hid (code_calls _ _ ev w2 her (HG.out.below hbw2))
  have HER := Lib.hid her
  replace e6 := (hb12.cell (lt_of_cell e6)).trans e6
  replace e8 := (hb12.cell (lt_of_cell e8)).trans e8
  obtain ⟨s8, hs8⟩ : ∃ s, strB [98, 38, 99] = s := ⟨_, rfl⟩
  have hse : (s8.toList == [98, 38, 99]) = true := by rw [← hs8, str_eq]; rfl
  rw [hs8] at e8
  clear hs8 her hb hb12 hbw2 HA2 HB2
  go_wp2_with fail
  with_reducible refine HCO.out.mono ?_
  rintro e w3 ⟨rfl, hb⟩
  have HAT := Lib.hid (at_calls _ _ ev w3 (HER.out.below hb) ((HG.out.below HBZ.out).below hb))
  have HB3 := Lib.hid (below_then HBZ.out hb)
  clear hb
  go_wp2_with fail
  with_reducible refine HAT.out.mono ?_
  rintro e w4 ⟨rfl, hb⟩
  have HB4 := Lib.hid (below_then HB3.out hb)
  clear hb
  go_wp2_with fail
  go_ret
  exact ⟨rfl, HB4.out⟩

end Go.Proofs.YtemohjodihcdfaaGreatDoor
