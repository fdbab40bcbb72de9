/-
  What the laid variables hold, wherever a scan's block alone has turned; a name, told by a document's scan. Conditions: the laid variables hold what their initialisers lay; the scan lies in memory, in a block behind theirs.
-/
import Derived.Test.YtfonflbpkbibbaaGreatDoorXB
import Derived.Deep.DeepCutAuto
import Derived.Lib.SlBytesRow
import Derived.Deep.RegionHeld3
namespace Go.Proofs.YtfonflbpkbibbaaGreatDoor
open Go.RowKit Go.Lib Go.Joins

/-- What SimpleFold's table holds for ASCII. -/
def foldN (i : Nat) : Nat := if 65 ≤ i ∧ i ≤ 90 then i + 32 else if i = 107 then 8490 else if i = 115 then 383 else if 97 ≤ i ∧ i ≤ 122 then i - 32 else i
def SomeErr (g : Nat) (w : World) : Prop := ∃ ev, w.cell? ⟨g, 0, none⟩ = some ev ∧ (ev = .nilIface ∨ ∃ te pe, ev = .iface te pe)
/-- What the laid variables hold. -/
structure EnvAt (w : World) : Prop where
  laid : Laid w
  mx : MaxLen w
  es : SomeErr 11 w
  er : SomeErr 12 w
  fold : ∀ i, i < 128 → w.cell? ⟨6, i, none⟩ = some (.int .u16 (foldN i : Int))
theorem cell_keeps {w w' : World} {B b o : Nat} {v : Value} (h : w.cell? ⟨b, o, none⟩ = some v) (hk : Keeps (One B) w w') (hb : b ≠ B) : w'.cell? ⟨b, o, none⟩ = some v :=
  (World.cell?_of_block (hk.block b (lt_of_cell h) hb)).trans h
theorem EnvAt.keeps {w w' : World} {B : Nat} (h : EnvAt w) (hk : Keeps (One B) w w') (hB : 15 ≤ B) : EnvAt w' where
  laid := ⟨⟨fun c hc => cell_keeps (h.laid.1.1 c hc) hk (by omega), fun i hi => ⟨cell_keeps (h.laid.1.2 i hi).1 hk (by omega), cell_keeps (h.laid.1.2 i hi).2 hk (by omega)⟩⟩, fun j v hj => cell_keeps (h.laid.2.1 j v hj) hk (by omega), fun j v hj => cell_keeps (h.laid.2.2.1 j v hj) hk (by omega), fun j v hj => cell_keeps (h.laid.2.2.2 j v hj) hk (by omega)⟩
  mx := let ⟨m, hm⟩ := h.mx; ⟨m, cell_keeps hm hk (by omega)⟩
  es := let ⟨v, hv, hc⟩ := h.es; ⟨v, cell_keeps hv hk (by omega), hc⟩
  er := let ⟨v, hv, hc⟩ := h.er; ⟨v, cell_keeps hv hk (by omega), hc⟩
  fold := fun i hi => cell_keeps (h.fold i hi) hk (by omega)
theorem EnvAt.below {w w' : World} (h : EnvAt w) (hb : Below w.heap.size w w') : EnvAt w' := h.keeps (B := w.heap.size + 15) ((Keeps.refl _ w).below hb (Nat.le_refl _)) (by omega)

/-- Bytes as a text. -/
def strB (l : List UInt8) : ByteArray := ⟨l.toArray⟩
/-- The bytes from a place up to another one. -/
def cut (l : List UInt8) (i j : Nat) : List UInt8 := (l.drop i).take (j - i)
theorem ScAt.text {w : World} {B b o c : Nat} {l : List UInt8} {p : Nat} {t : List UInt8} (h : ScAt w B (some ⟨b, o, none⟩) c l p t) (i j k : Nat) (hij : i ≤ j) (hj : j ≤ l.length) : (convert 22 9 (.slice (some ⟨b, o + i, none⟩) (j - i) k)).run Tryz.prog w = .ok (.string (strB (cut l i j))) w := by
  have hb : Lib.Bytes w b o (strB l) := fun x hx => by
    have hx2 : x < l.length := hx
    rcases h.row with h0 | ⟨b2, o2, h1, h2, h3⟩
    · omega
    · cases h1
      rw [h3 x hx2]
      congr 2
      unfold fs strB
      rw [List.getD_eq_getElem?_getD, List.getElem?_eq_getElem hx2]
      rfl
  have hs : (strB l).size = l.length := rfl
  rw [Lib.run_convert_window (P := Tryz.prog) w 22 5 9 Tryz.underlying22 Tryz.underlying5 Tryz.underlying9 b o (strB l) hb i (j - i) k (by rw [hs]; omega)]
  congr 2
  apply ByteArray.ext
  apply Array.toList_inj.1
  unfold strB cut
  simp [ByteArray.data_extract, List.extract_eq_take_drop]
theorem ScAt.row8 {w : World} {B : Nat} {a : Option Addr} {c : Nat} {l : List UInt8} {i : Nat} {t : List UInt8} (h : ScAt w B a c l i t) : Row8 w a l.length (fs l) := by
  refine ⟨fs_lt l, by have := h.few; omega, ?_⟩
  rcases h.row with h0 | ⟨b, o, h1, _, h3⟩
  · exact .inl h0
  · exact .inr ⟨b, o, h1, h3⟩
theorem nx_fits {f : Nat → Nat} {N p : Nat} (hp : p < N) (hg : goesB (nx f N p).1 = true) : p + (nx f N p).2 ≤ N ∧ 1 ≤ (nx f N p).2 := by
  cases he : errD (dN f N p) with
  | true => rw [nx_err he] at hg; exact absurd hg (by decide)
  | false =>
    by_cases hc : inTab charsT (dN f N p).1 = true
    · rw [nx_yes he hc]
      exact ⟨dN_fits hp he, dN_pos f N p⟩
    · rw [nx_no hc] at hg; exact absurd hg (by decide)
theorem nx_small (f : Nat → Nat) (N p : Nat) : (nx f N p).1 < 2147483648 := by
  unfold nx
  dsimp only
  split
  · next h =>
    have := (chars_nat _).1 h.1
    omega
  · decide
theorem goes_of_begins {m : Int} (h : beginsB m = true) : goesB m = true := by
  unfold beginsB at h
  unfold goesB
  rw [h, Bool.or_true]
theorem goes_of_fits {fb : Bool} {m : Nat} (h : fitsB fb m = true) : goesB (m : Int) = true := by
  cases fb with
  | true => exact goes_of_begins h
  | false => exact h
theorem fs_drop (l : List UInt8) (j k : Nat) : fs (l.drop j) k = fs l (j + k) := by
  unfold fs
  rw [List.getD_eq_getElem?_getD, List.getD_eq_getElem?_getD, List.getElem?_drop]
theorem nx_drop (l : List UInt8) (j : Nat) : nx (fs (l.drop j)) (l.drop j).length 0 = nx (fs l) l.length j := by
  unfold nx
  simp only [fs_drop, List.length_drop, Nat.sub_zero, Nat.add_zero, Nat.zero_add]

set_option maxRecDepth 100000 in
set_option maxHeartbeats 8000000 in
theorem name_calls {w : World} {B : Nat} {a : Option Addr} {c : Nat} {l : List UInt8} {i : Nat} {t : List UInt8} (h : ScAt w B a c l i t) (hE : EnvAt w) (hB : 15 ≤ B) : Calls Tryz.prog 131 #[.pointer (some ⟨B, 0, none⟩)] w (ScOut w B a c l (fun x => .string (strB x)) (nameS i t)) := by
  obtain ⟨e0, e1⟩ := h.cells
  have hfew := h.few
  obtain ⟨R, hR⟩ : ∃ R, nmG t.length true i t = R := ⟨_, rfl⟩
  obtain ⟨Q, hQ⟩ : ∃ Q, nameS i t = Q := ⟨_, rfl⟩
  have hb : Q = R.then fun _ j u => if j = i then .no 2 i else .ok (t.take (j - i)) j u := by rw [← hQ]; unfold nameS; rw [hR]
  rw [hQ]
  obtain ⟨n, hn⟩ : ∃ n, l.length = n := ⟨_, rfl⟩
  rw [hn] at e0 hfew
  have HB := Lib.hid hb
  have HR := Lib.hid hR
  have HS := Lib.hid h
  have HEnv := Lib.hid hE
  have HNL := Lib.hid hn
  obtain ⟨G, hG⟩ : ∃ G, t.length = G := ⟨_, rfl⟩
  have HG := Lib.hid hG
  have HTL : Hid (t = l.drop i) := Lib.hid h.left
  clear h hR hb hQ hG hE hn
  go_enter Tryz.func131, Tryz.ntmps131
  go_wp2_with fail
  go_loopg [4] (G + 1) (fun gk s4 wr => ∃ g fb j u, gk = g + 1 ∧ ((fb = true ∧ s4 = .func (.func 112) #[] #[]) ∨ (fb = false ∧ s4 = .func (.func 113) #[] #[])) ∧ u.length ≤ g ∧ i ≤ j ∧ (j = i ∨ fb = false) ∧ nmG g fb j u = R ∧ ScAt wr B a c l j u ∧ Keeps (One B) w wr)
  case atStart => exact ⟨G, true, i, t, rfl, .inl ⟨rfl, rfl⟩, by rw [HG.out]; exact Nat.le_refl _, Nat.le_refl _, .inl rfl, by rw [← HG.out]; exact HR.out, HS.out, Keeps.refl _ _⟩
  case round =>
    obtain ⟨g, fb, j, u, rfl, hfb, hg, hij, hjf, hq, hs, hk⟩ := hrel
    have HQ := Lib.hid hq
    have HS1 := Lib.hid hs
    have HK := Lib.hid hk
    have HE1 : Hid (EnvAt wr) := Lib.hid (HEnv.out.keeps hk hB)
    obtain ⟨y0, y1⟩ := hs.cells
    rw [HNL.out] at y0
    rcases hfb with ⟨rfl, rfl⟩ | ⟨rfl, rfl⟩
    · cases u with
      | nil =>
        have HC := Lib.hid (peek_end hs)
        have HF : Hid (∀ k, ScOut w B a c l (fun x => .string (strB x)) Q (.panicked [{ v := wrongV 6 j, recovered := false }]) (wr.drewN k)) := Lib.hid fun k => by
          rw [HB.out, ← HQ.out]
          cases g <;> exact ⟨rfl, HK.out.drewN k⟩
        clear hq hs hk HR HS HG
        go_wp2_with fail
        with_reducible refine HC.out.mono ?_
        rintro e w1 ⟨rfl, k, rfl⟩
        go_wp2_with fail
        exact ⟨rfl, HF.out _⟩
      | cons x u =>
        have HC := Lib.hid (peek_ok hs)
        obtain ⟨hlt, hx, hu⟩ := hs.head
        rw [HNL.out] at hlt
        obtain ⟨g', rfl⟩ : ∃ g', g = g' + 1 := ⟨g - 1, by have := hg; rw [List.length_cons] at this; omega⟩
        have HNX : Hid (∀ W, Below wr.heap.size wr W → Calls Tryz.prog 122 #[.slice a n c, .int .i64 (j : Int)] W (Leaves (runeOf (nx (fs (x :: u)) (x :: u).length 0)) W)) := Lib.hid (fun W hb => by
          have h := next_calls a n c (fs l) (j : Int) W (HE1.out.below hb).laid (by have := (HS1.out.keep hb).row8; rwa [HNL.out] at this) (by have := HS1.out.cap; rwa [HNL.out] at this) HS1.out.most
          unfold nextZ at h
          rw [if_neg (by omega), Int.toNat_natCast] at h
          rw [HS1.out.left, nx_drop, HNL.out]
          exact h)
        have hst := HQ.out
        rw [nmG, if_neg (List.cons_ne_nil _ _)] at hst
        have hfit : goesB (nx (fs (x :: u)) (x :: u).length 0).1 = true → j + (nx (fs (x :: u)) (x :: u).length 0).2 ≤ n ∧ 1 ≤ (nx (fs (x :: u)) (x :: u).length 0).2 := by
          rw [HS1.out.left, nx_drop, HNL.out]
          exact fun h => nx_fits hlt h
        have hsm : (nx (fs (x :: u)) (x :: u).length 0).1 < 2147483648 := by
          rw [HS1.out.left, nx_drop]
          exact nx_small _ _ _
        obtain ⟨⟨rr, wd⟩, hd⟩ : ∃ d, nx (fs (x :: u)) (x :: u).length 0 = d := ⟨_, rfl⟩
        simp only [hd] at HNX
        rw [hd] at hst hfit hsm
        dsimp only at hst hfit hsm
        unfold runeOf at HNX
        have HFN : Hid (∀ W, Below wr.heap.size wr W → Calls Tryz.prog 112 #[.int .i32 (rr : Int)] W (Leaves (.bool (fitsB true rr)) W)) := Lib.hid (fun W hb => firsts_calls (rr : Int) W ((HE1.out.below hb).laid.2.2.1))
        have hfg : fitsB true rr = true → goesB (rr : Int) = true := goes_of_fits
        obtain ⟨bq, hbq⟩ : ∃ x, fitsB true rr = x := ⟨_, rfl⟩
        rw [hbq] at hst hfg
        simp only [hbq] at HFN
        have HCE : Hid (∀ W, Below wr.heap.size wr W → W.cell? ⟨B, 0, none⟩ = some (.slice a n c) ∧ W.cell? ⟨B, 1, none⟩ = some (.int .i64 (j : Int))) := Lib.hid (fun W hb => by
          obtain ⟨z0, z1⟩ := (HS1.out.keep hb).cells
          rw [HNL.out] at z0
          exact ⟨z0, z1⟩)
        clear hd hbq hq hs hk HR HS HG hx
        go_wp2_with fail
        with_reducible refine HC.out.mono ?_
        rintro e w1 ⟨rfl, k, rfl⟩
        go_upto_region 3 with (fail)
        obtain ⟨x0, hx0⟩ : ∃ W, (wr.drewN k).drew = W := ⟨_, rfl⟩
        have hbx0 : Below wr.heap.size wr x0 := by rw [← hx0]; exact ⟨rfl, rfl, rfl, Nat.le_refl _, fun _ _ => rfl⟩
        have HBx0 := Lib.hid hbx0
        refine wp_region_held_drew (S := fun W => W.cell? ⟨B, 0, none⟩ = some (.slice a n c) ∧ W.cell? ⟨B, 1, none⟩ = some (.int .i64 (j : Int))) (by kernel_rfl) (by rw [hx0]; exact HCE.out _ hbx0) (fun hHeld => ?_)
        rw [hx0] at hHeld ⊢
        clear hx0 hbx0
        refine wpAnyH_take (i := 0) (v := ?_) rfl (by kernel_rfl) (by kernel_rfl) (by kernel_rfl) (fun _ _ _ h => h) (Or.inl ⟨by rfl, ?_⟩) (by assumption) ?_
        rotate_left
        · intro W hS
          try dsimp only at hS
          go_simp
          try with_reducible rfl
        simp only [List.getElem_toArray, List.getElem_cons_zero, Act.put, List.setIfInBounds_toArray, List.set_cons_zero, List.set_cons_succ]
        refine wpAnyH_take (i := 1) (v := ?_) rfl (by kernel_rfl) (by kernel_rfl) (by kernel_rfl) (fun _ _ _ h => h) (Or.inl ⟨by rfl, ?_⟩) (by assumption) ?_
        rotate_left
        · intro W hS
          try dsimp only at hS
          go_simp
          try with_reducible rfl
        simp only [List.getElem_toArray, List.getElem_cons_succ, List.getElem_cons_zero, Act.put, List.setIfInBounds_toArray, List.set_cons_zero, List.set_cons_succ]
        refine wpAnyH_take (i := 2) (v := ?_) rfl (by kernel_rfl) (by kernel_rfl) (by kernel_rfl) (fun _ _ _ h => h) (Or.inl ⟨by rfl, ?_⟩) (by assumption) ?_
        rotate_left
        · intro W hS
          try dsimp only at hS
          go_simp
          try with_reducible rfl
        simp only [List.getElem_toArray, List.getElem_cons_succ, List.getElem_cons_zero, Act.put, List.setIfInBounds_toArray, List.set_cons_zero, List.set_cons_succ]
        refine wpAnyH_take (i := 3) (v := ?_) rfl (by kernel_rfl) (by kernel_rfl) (by kernel_rfl) (fun _ _ _ h => h) (Or.inl ⟨by rfl, ?_⟩) (by assumption) ?_
        rotate_left
        · intro W hS
          try dsimp only at hS
          go_simp
          try with_reducible rfl
        simp only [List.getElem_toArray, List.getElem_cons_succ, List.getElem_cons_zero, Act.put, List.setIfInBounds_toArray, List.set_cons_zero, List.set_cons_succ]
        refine wpAnyH_take (i := 4) (v := ?_) rfl (by kernel_rfl) (by kernel_rfl) (by kernel_rfl) (fun _ _ _ h => h) (Or.inl ⟨by rfl, ?_⟩) (by assumption) ?_
        rotate_left
        · intro W hS
          try dsimp only at hS
          go_simp
          try with_reducible rfl
        simp only [List.getElem_toArray, List.getElem_cons_succ, List.getElem_cons_zero, Act.put, List.setIfInBounds_toArray, List.set_cons_zero, List.set_cons_succ]
        refine wpAnyH_take (i := 5) (v := ?_) rfl (by kernel_rfl) (by kernel_rfl) (by kernel_rfl) (fun _ _ _ h => h) (Or.inl ⟨by rfl, ?_⟩) (by assumption) ?_
        rotate_left
        · intro W hS
          try dsimp only at hS
          go_simp
          try with_reducible rfl
        simp only [List.getElem_toArray, List.getElem_cons_succ, List.getElem_cons_zero, Act.put, List.setIfInBounds_toArray, List.set_cons_zero, List.set_cons_succ]
        refine wpAnyH_take (i := 6) (v := ?_) rfl (by kernel_rfl) (by kernel_rfl) (by kernel_rfl) (fun _ _ _ h => h) (Or.inl ⟨by rfl, ?_⟩) (by assumption) ?_
        rotate_left
        · intro W hS
          try dsimp only at hS
          go_simp
          try with_reducible rfl
        simp only [List.getElem_toArray, List.getElem_cons_succ, List.getElem_cons_zero, Act.put, List.setIfInBounds_toArray, List.set_cons_zero, List.set_cons_succ]
        refine wpAnyH_take (i := 7) (v := ?_) rfl (by kernel_rfl) (by kernel_rfl) (by kernel_rfl) (fun _ _ _ h => h) (Or.inl ⟨by rfl, ?_⟩) (by assumption) ?_
        rotate_left
        · intro W hS
          try dsimp only at hS
          go_simp
          try with_reducible rfl
        simp only [List.getElem_toArray, List.getElem_cons_succ, List.getElem_cons_zero, Act.put, List.setIfInBounds_toArray, List.set_cons_zero, List.set_cons_succ]
        refine wpAnyH_ready (rs := [8]) (by kernel_rfl) (by simp) ?_
        refine AllReadyH.cons rfl (fun K hK => ?_) AllReadyH.nil
        go_simp
        with_reducible refine (HNX.out _ HBx0.out).mono ?_
        rintro e x1 ⟨rfl, hb⟩
        have HBx1 := Lib.hid (below_then HBx0.out hb)
        clear hb
        refine hK.out _ _ (HCE.out _ HBx1.out) (fun hHeld => ?_)
        clear hK K
        try simp only [List.getElem_toArray, List.getElem_cons_succ, List.getElem_cons_zero, Act.put, List.setIfInBounds_toArray, List.set_cons_zero, List.set_cons_succ]
        refine wpAnyH_take (i := 9) (v := ?_) rfl (by kernel_rfl) (by kernel_rfl) (by kernel_rfl) (fun _ _ _ h => h) (Or.inl ⟨by rfl, ?_⟩) (by assumption) ?_
        rotate_left
        · intro W hS
          try dsimp only at hS
          go_simp
          try with_reducible rfl
        simp only [List.getElem_toArray, List.getElem_cons_succ, List.getElem_cons_zero, Act.put, List.setIfInBounds_toArray, List.set_cons_zero, List.set_cons_succ]
        refine wpAnyH_take (i := 10) (v := ?_) rfl (by kernel_rfl) (by kernel_rfl) (by kernel_rfl) (fun _ _ _ h => h) (Or.inl ⟨by rfl, ?_⟩) (by assumption) ?_
        rotate_left
        · intro W hS
          try dsimp only at hS
          go_simp
          try with_reducible rfl
        simp only [List.getElem_toArray, List.getElem_cons_succ, List.getElem_cons_zero, Act.put, List.setIfInBounds_toArray, List.set_cons_zero, List.set_cons_succ]
        refine wpAnyH_take (i := 11) (v := ?_) rfl (by kernel_rfl) (by kernel_rfl) (by kernel_rfl) (fun _ _ _ h => h) (Or.inl ⟨by rfl, ?_⟩) (by assumption) ?_
        rotate_left
        · intro W hS
          try dsimp only at hS
          go_simp
          try with_reducible rfl
        simp only [List.getElem_toArray, List.getElem_cons_succ, List.getElem_cons_zero, Act.put, List.setIfInBounds_toArray, List.set_cons_zero, List.set_cons_succ]
        refine wpAnyH_take (i := 12) (v := ?_) rfl (by kernel_rfl) (by kernel_rfl) (by kernel_rfl) (fun _ _ _ h => h) (Or.inl ⟨by rfl, ?_⟩) (by assumption) ?_
        rotate_left
        · intro W hS
          try dsimp only at hS
          go_simp
          try with_reducible rfl
        simp only [List.getElem_toArray, List.getElem_cons_succ, List.getElem_cons_zero, Act.put, List.setIfInBounds_toArray, List.set_cons_zero, List.set_cons_succ]
        refine wpAnyH_take (i := 13) (v := ?_) rfl (by kernel_rfl) (by kernel_rfl) (by kernel_rfl) (fun _ _ _ h => h) (Or.inl ⟨by rfl, ?_⟩) (by assumption) ?_
        rotate_left
        · intro W hS
          try dsimp only at hS
          go_simp
          try with_reducible rfl
        simp only [List.getElem_toArray, List.getElem_cons_succ, List.getElem_cons_zero, Act.put, List.setIfInBounds_toArray, List.set_cons_zero, List.set_cons_succ]
        refine wpAnyH_done (by kernel_rfl) ?_ _
        obtain ⟨z0, z1⟩ := HCE.out _ HBx1.out
        clear hHeld
        have HF2 := Lib.hid (HFN.out _ HBx1.out)
        cases bq with
        | false =>
          rw [if_neg Bool.false_ne_true] at hst
          have HST := Lib.hid hst
          clear hst hfit hfg
          go_wp2_with fail
          with_reducible refine HF2.out.mono ?_
          rintro e x2 ⟨rfl, hb2⟩
          have HBx2 := Lib.hid (below_then HBx1.out hb2)
          obtain ⟨z0, z1⟩ := HCE.out _ HBx2.out
          have HS2 := Lib.hid (HS1.out.keep HBx2.out)
          have HK2 : Hid (Keeps (One B) w x2) := Lib.hid (HK.out.trans (keeps_below HBx2.out Non) (fresh_non _ _))
          clear hb2
          by_cases hji : j = i
          · subst hji
            have hz : ((j : Int) == (j : Int)) = true := by simp
            have HF : Hid (ScOut w B a c l (fun x => .string (strB x)) Q (.panicked [{ v := wrongV 2 j, recovered := false }]) x2) := Lib.hid (by
              rw [HB.out, ← HST.out, Sx.then_ok, if_pos rfl]
              exact ⟨rfl, HK2.out⟩)
            go_wp2_with fail
            exact ⟨rfl, HF.out⟩
          · have hz : ((j : Int) == (i : Int)) = false := by simp; omega
            obtain ⟨bb, oo, rfl⟩ : ∃ b o, a = some ⟨b, o, none⟩ := by
              rcases HS1.out.row with h1 | ⟨b, o, h1, _⟩
              · rw [HNL.out] at h1; omega
              · exact ⟨b, o, h1⟩
            have hcap := HS1.out.cap
            rw [HNL.out] at hcap
            have hq0 : (0 : Int) ≤ (i : Int) := by omega
            have hq1 : (i : Int) ≤ (j : Int) := by omega
            have hq2 : (j : Int) ≤ (c : Int) := by omega
            have hcp : ¬ c = i := by omega
            have hcv : ∀ k, (convert 22 9 (.slice (some ⟨bb, oo + i, none⟩) (j - i) (c - i))).run Tryz.prog (x2.drewN k) = .ok (.string (strB (cut l i j))) (x2.drewN k) := fun k => (HS2.out.drawn k).text i j (c - i) (by omega) (by rw [HNL.out]; omega)
            have HF : Hid (∀ k, ScOut w B (some ⟨bb, oo, none⟩) c l (fun x => .string (strB x)) Q (.returned (.string (strB (cut l i j)))) (x2.drewN k)) := Lib.hid (fun k => by
              rw [HB.out, ← HST.out, Sx.then_ok, if_neg hji, HTL.out]
              exact ⟨rfl, HS2.out.drawn k, HK2.out.drewN k⟩)
            clear hji
            go_wp2_with fail
            go_quiet (fail)
            go_wp2_with fail
            go_ret
            exact HF.out _
        | true =>
          rw [if_pos rfl] at hst
          have HST := Lib.hid hst
          obtain ⟨hw1, hw2⟩ := hfit (hfg rfl)
          have hadd : IntKind.i64.wrap ((j : Int) + (wd : Int)) = ((j + wd : Nat) : Int) := IntWalk.i64_in _ (by omega)
          clear hst hfit hfg
          go_wp2_with fail
          with_reducible refine HF2.out.mono ?_
          rintro e x2 ⟨rfl, hb2⟩
          have HBx2 := Lib.hid (below_then HBx1.out hb2)
          obtain ⟨z0, z1⟩ := HCE.out _ HBx2.out
          have f1 := unfrozen_of_block (HS1.out.keep HBx2.out).blk 1
          have HSET : Hid (ScAt (x2.setCell ⟨B, 1, none⟩ (.int .i64 ((j + wd : Nat) : Int))) B a c l (j + wd) ((x :: u).drop wd) ∧ Keeps (One B) w (x2.setCell ⟨B, 1, none⟩ (.int .i64 ((j + wd : Nat) : Int)))) := Lib.hid (by
            have h := (HS1.out.keep HBx2.out).place (j := j + wd) (by rw [HNL.out]; omega) (u := (x :: u).drop wd) (by rw [HS1.out.left, List.drop_drop])
            exact ⟨h.1, (HK.out.trans (keeps_below HBx2.out Non) (fresh_non _ _)).trans h.2 (fresh_refl _ _)⟩)
          clear hb2
          go_wp2_with fail
          go_roundg (g' + 1)
          case measure => omega
          case rel => exact ⟨g', false, j + wd, (x :: u).drop wd, rfl, .inr ⟨rfl, rfl⟩, by rw [List.length_drop]; rw [List.length_cons] at hg ⊢; omega, by omega, .inr rfl, HST.out, HSET.out.1, HSET.out.2⟩
    · cases u with
      | nil =>
        have HC := Lib.hid (peek_end hs)
        have HF : Hid (∀ k, ScOut w B a c l (fun x => .string (strB x)) Q (.panicked [{ v := wrongV 6 j, recovered := false }]) (wr.drewN k)) := Lib.hid fun k => by
          rw [HB.out, ← HQ.out]
          cases g <;> exact ⟨rfl, HK.out.drewN k⟩
        clear hq hs hk HR HS HG
        go_wp2_with fail
        with_reducible refine HC.out.mono ?_
        rintro e w1 ⟨rfl, k, rfl⟩
        go_wp2_with fail
        exact ⟨rfl, HF.out _⟩
      | cons x u =>
        have HC := Lib.hid (peek_ok hs)
        obtain ⟨hlt, hx, hu⟩ := hs.head
        rw [HNL.out] at hlt
        obtain ⟨g', rfl⟩ : ∃ g', g = g' + 1 := ⟨g - 1, by have := hg; rw [List.length_cons] at this; omega⟩
        have HNX : Hid (∀ W, Below wr.heap.size wr W → Calls Tryz.prog 122 #[.slice a n c, .int .i64 (j : Int)] W (Leaves (runeOf (nx (fs (x :: u)) (x :: u).length 0)) W)) := Lib.hid (fun W hb => by
          have h := next_calls a n c (fs l) (j : Int) W (HE1.out.below hb).laid (by have := (HS1.out.keep hb).row8; rwa [HNL.out] at this) (by have := HS1.out.cap; rwa [HNL.out] at this) HS1.out.most
          unfold nextZ at h
          rw [if_neg (by omega), Int.toNat_natCast] at h
          rw [HS1.out.left, nx_drop, HNL.out]
          exact h)
        have hst := HQ.out
        rw [nmG, if_neg (List.cons_ne_nil _ _)] at hst
        have hfit : goesB (nx (fs (x :: u)) (x :: u).length 0).1 = true → j + (nx (fs (x :: u)) (x :: u).length 0).2 ≤ n ∧ 1 ≤ (nx (fs (x :: u)) (x :: u).length 0).2 := by
          rw [HS1.out.left, nx_drop, HNL.out]
          exact fun h => nx_fits hlt h
        have hsm : (nx (fs (x :: u)) (x :: u).length 0).1 < 2147483648 := by
          rw [HS1.out.left, nx_drop]
          exact nx_small _ _ _
        obtain ⟨⟨rr, wd⟩, hd⟩ : ∃ d, nx (fs (x :: u)) (x :: u).length 0 = d := ⟨_, rfl⟩
        simp only [hd] at HNX
        rw [hd] at hst hfit hsm
        dsimp only at hst hfit hsm
        unfold runeOf at HNX
        have HFN : Hid (∀ W, Below wr.heap.size wr W → Calls Tryz.prog 113 #[.int .i32 (rr : Int)] W (Leaves (.bool (fitsB false rr)) W)) := Lib.hid (fun W hb => further_calls (rr : Int) W ((HE1.out.below hb).laid.2.2.2) ((HE1.out.below hb).laid.2.2.1))
        have hfg : fitsB false rr = true → goesB (rr : Int) = true := goes_of_fits
        obtain ⟨bq, hbq⟩ : ∃ x, fitsB false rr = x := ⟨_, rfl⟩
        rw [hbq] at hst hfg
        simp only [hbq] at HFN
        have HCE : Hid (∀ W, Below wr.heap.size wr W → W.cell? ⟨B, 0, none⟩ = some (.slice a n c) ∧ W.cell? ⟨B, 1, none⟩ = some (.int .i64 (j : Int))) := Lib.hid (fun W hb => by
          obtain ⟨z0, z1⟩ := (HS1.out.keep hb).cells
          rw [HNL.out] at z0
          exact ⟨z0, z1⟩)
        clear hd hbq hq hs hk HR HS HG hx
        go_wp2_with fail
        with_reducible refine HC.out.mono ?_
        rintro e w1 ⟨rfl, k, rfl⟩
        go_upto_region 3 with (fail)
        obtain ⟨x0, hx0⟩ : ∃ W, (wr.drewN k).drew = W := ⟨_, rfl⟩
        have hbx0 : Below wr.heap.size wr x0 := by rw [← hx0]; exact ⟨rfl, rfl, rfl, Nat.le_refl _, fun _ _ => rfl⟩
        have HBx0 := Lib.hid hbx0
        refine wp_region_held_drew (S := fun W => W.cell? ⟨B, 0, none⟩ = some (.slice a n c) ∧ W.cell? ⟨B, 1, none⟩ = some (.int .i64 (j : Int))) (by kernel_rfl) (by rw [hx0]; exact HCE.out _ hbx0) (fun hHeld => ?_)
        rw [hx0] at hHeld ⊢
        clear hx0 hbx0
        refine wpAnyH_take (i := 0) (v := ?_) rfl (by kernel_rfl) (by kernel_rfl) (by kernel_rfl) (fun _ _ _ h => h) (Or.inl ⟨by rfl, ?_⟩) (by assumption) ?_
        rotate_left
        · intro W hS
          try dsimp only at hS
          go_simp
          try with_reducible rfl
        simp only [List.getElem_toArray, List.getElem_cons_zero, Act.put, List.setIfInBounds_toArray, List.set_cons_zero, List.set_cons_succ]
        refine wpAnyH_take (i := 1) (v := ?_) rfl (by kernel_rfl) (by kernel_rfl) (by kernel_rfl) (fun _ _ _ h => h) (Or.inl ⟨by rfl, ?_⟩) (by assumption) ?_
        rotate_left
        · intro W hS
          try dsimp only at hS
          go_simp
          try with_reducible rfl
        simp only [List.getElem_toArray, List.getElem_cons_succ, List.getElem_cons_zero, Act.put, List.setIfInBounds_toArray, List.set_cons_zero, List.set_cons_succ]
        refine wpAnyH_take (i := 2) (v := ?_) rfl (by kernel_rfl) (by kernel_rfl) (by kernel_rfl) (fun _ _ _ h => h) (Or.inl ⟨by rfl, ?_⟩) (by assumption) ?_
        rotate_left
        · intro W hS
          try dsimp only at hS
          go_simp
          try with_reducible rfl
        simp only [List.getElem_toArray, List.getElem_cons_succ, List.getElem_cons_zero, Act.put, List.setIfInBounds_toArray, List.set_cons_zero, List.set_cons_succ]
        refine wpAnyH_take (i := 3) (v := ?_) rfl (by kernel_rfl) (by kernel_rfl) (by kernel_rfl) (fun _ _ _ h => h) (Or.inl ⟨by rfl, ?_⟩) (by assumption) ?_
        rotate_left
        · intro W hS
          try dsimp only at hS
          go_simp
          try with_reducible rfl
        simp only [List.getElem_toArray, List.getElem_cons_succ, List.getElem_cons_zero, Act.put, List.setIfInBounds_toArray, List.set_cons_zero, List.set_cons_succ]
        refine wpAnyH_take (i := 4) (v := ?_) rfl (by kernel_rfl) (by kernel_rfl) (by kernel_rfl) (fun _ _ _ h => h) (Or.inl ⟨by rfl, ?_⟩) (by assumption) ?_
        rotate_left
        · intro W hS
          try dsimp only at hS
          go_simp
          try with_reducible rfl
        simp only [List.getElem_toArray, List.getElem_cons_succ, List.getElem_cons_zero, Act.put, List.setIfInBounds_toArray, List.set_cons_zero, List.set_cons_succ]
        refine wpAnyH_take (i := 5) (v := ?_) rfl (by kernel_rfl) (by kernel_rfl) (by kernel_rfl) (fun _ _ _ h => h) (Or.inl ⟨by rfl, ?_⟩) (by assumption) ?_
        rotate_left
        · intro W hS
          try dsimp only at hS
          go_simp
          try with_reducible rfl
        simp only [List.getElem_toArray, List.getElem_cons_succ, List.getElem_cons_zero, Act.put, List.setIfInBounds_toArray, List.set_cons_zero, List.set_cons_succ]
        refine wpAnyH_take (i := 6) (v := ?_) rfl (by kernel_rfl) (by kernel_rfl) (by kernel_rfl) (fun _ _ _ h => h) (Or.inl ⟨by rfl, ?_⟩) (by assumption) ?_
        rotate_left
        · intro W hS
          try dsimp only at hS
          go_simp
          try with_reducible rfl
        simp only [List.getElem_toArray, List.getElem_cons_succ, List.getElem_cons_zero, Act.put, List.setIfInBounds_toArray, List.set_cons_zero, List.set_cons_succ]
        refine wpAnyH_take (i := 7) (v := ?_) rfl (by kernel_rfl) (by kernel_rfl) (by kernel_rfl) (fun _ _ _ h => h) (Or.inl ⟨by rfl, ?_⟩) (by assumption) ?_
        rotate_left
        · intro W hS
          try dsimp only at hS
          go_simp
          try with_reducible rfl
        simp only [List.getElem_toArray, List.getElem_cons_succ, List.getElem_cons_zero, Act.put, List.setIfInBounds_toArray, List.set_cons_zero, List.set_cons_succ]
        refine wpAnyH_ready (rs := [8]) (by kernel_rfl) (by simp) ?_
        refine AllReadyH.cons rfl (fun K hK => ?_) AllReadyH.nil
        go_simp
        with_reducible refine (HNX.out _ HBx0.out).mono ?_
        rintro e x1 ⟨rfl, hb⟩
        have HBx1 := Lib.hid (below_then HBx0.out hb)
        clear hb
        refine hK.out _ _ (HCE.out _ HBx1.out) (fun hHeld => ?_)
        clear hK K
        try simp only [List.getElem_toArray, List.getElem_cons_succ, List.getElem_cons_zero, Act.put, List.setIfInBounds_toArray, List.set_cons_zero, List.set_cons_succ]
        refine wpAnyH_take (i := 9) (v := ?_) rfl (by kernel_rfl) (by kernel_rfl) (by kernel_rfl) (fun _ _ _ h => h) (Or.inl ⟨by rfl, ?_⟩) (by assumption) ?_
        rotate_left
        · intro W hS
          try dsimp only at hS
          go_simp
          try with_reducible rfl
        simp only [List.getElem_toArray, List.getElem_cons_succ, List.getElem_cons_zero, Act.put, List.setIfInBounds_toArray, List.set_cons_zero, List.set_cons_succ]
        refine wpAnyH_take (i := 10) (v := ?_) rfl (by kernel_rfl) (by kernel_rfl) (by kernel_rfl) (fun _ _ _ h => h) (Or.inl ⟨by rfl, ?_⟩) (by assumption) ?_
        rotate_left
        · intro W hS
          try dsimp only at hS
          go_simp
          try with_reducible rfl
        simp only [List.getElem_toArray, List.getElem_cons_succ, List.getElem_cons_zero, Act.put, List.setIfInBounds_toArray, List.set_cons_zero, List.set_cons_succ]
        refine wpAnyH_take (i := 11) (v := ?_) rfl (by kernel_rfl) (by kernel_rfl) (by kernel_rfl) (fun _ _ _ h => h) (Or.inl ⟨by rfl, ?_⟩) (by assumption) ?_
        rotate_left
        · intro W hS
          try dsimp only at hS
          go_simp
          try with_reducible rfl
        simp only [List.getElem_toArray, List.getElem_cons_succ, List.getElem_cons_zero, Act.put, List.setIfInBounds_toArray, List.set_cons_zero, List.set_cons_succ]
        refine wpAnyH_take (i := 12) (v := ?_) rfl (by kernel_rfl) (by kernel_rfl) (by kernel_rfl) (fun _ _ _ h => h) (Or.inl ⟨by rfl, ?_⟩) (by assumption) ?_
        rotate_left
        · intro W hS
          try dsimp only at hS
          go_simp
          try with_reducible rfl
        simp only [List.getElem_toArray, List.getElem_cons_succ, List.getElem_cons_zero, Act.put, List.setIfInBounds_toArray, List.set_cons_zero, List.set_cons_succ]
        refine wpAnyH_take (i := 13) (v := ?_) rfl (by kernel_rfl) (by kernel_rfl) (by kernel_rfl) (fun _ _ _ h => h) (Or.inl ⟨by rfl, ?_⟩) (by assumption) ?_
        rotate_left
        · intro W hS
          try dsimp only at hS
          go_simp
          try with_reducible rfl
        simp only [List.getElem_toArray, List.getElem_cons_succ, List.getElem_cons_zero, Act.put, List.setIfInBounds_toArray, List.set_cons_zero, List.set_cons_succ]
        refine wpAnyH_done (by kernel_rfl) ?_ _
        obtain ⟨z0, z1⟩ := HCE.out _ HBx1.out
        clear hHeld
        have HF2 := Lib.hid (HFN.out _ HBx1.out)
        cases bq with
        | false =>
          rw [if_neg Bool.false_ne_true] at hst
          have HST := Lib.hid hst
          clear hst hfit hfg
          go_wp2_with fail
          with_reducible refine HF2.out.mono ?_
          rintro e x2 ⟨rfl, hb2⟩
          have HBx2 := Lib.hid (below_then HBx1.out hb2)
          obtain ⟨z0, z1⟩ := HCE.out _ HBx2.out
          have HS2 := Lib.hid (HS1.out.keep HBx2.out)
          have HK2 : Hid (Keeps (One B) w x2) := Lib.hid (HK.out.trans (keeps_below HBx2.out Non) (fresh_non _ _))
          clear hb2
          by_cases hji : j = i
          · subst hji
            have hz : ((j : Int) == (j : Int)) = true := by simp
            have HF : Hid (ScOut w B a c l (fun x => .string (strB x)) Q (.panicked [{ v := wrongV 2 j, recovered := false }]) x2) := Lib.hid (by
              rw [HB.out, ← HST.out, Sx.then_ok, if_pos rfl]
              exact ⟨rfl, HK2.out⟩)
            go_wp2_with fail
            exact ⟨rfl, HF.out⟩
          · have hz : ((j : Int) == (i : Int)) = false := by simp; omega
            obtain ⟨bb, oo, rfl⟩ : ∃ b o, a = some ⟨b, o, none⟩ := by
              rcases HS1.out.row with h1 | ⟨b, o, h1, _⟩
              · rw [HNL.out] at h1; omega
              · exact ⟨b, o, h1⟩
            have hcap := HS1.out.cap
            rw [HNL.out] at hcap
            have hq0 : (0 : Int) ≤ (i : Int) := by omega
            have hq1 : (i : Int) ≤ (j : Int) := by omega
            have hq2 : (j : Int) ≤ (c : Int) := by omega
            have hcp : ¬ c = i := by omega
            have hcv : ∀ k, (convert 22 9 (.slice (some ⟨bb, oo + i, none⟩) (j - i) (c - i))).run Tryz.prog (x2.drewN k) = .ok (.string (strB (cut l i j))) (x2.drewN k) := fun k => (HS2.out.drawn k).text i j (c - i) (by omega) (by rw [HNL.out]; omega)
            have HF : Hid (∀ k, ScOut w B (some ⟨bb, oo, none⟩) c l (fun x => .string (strB x)) Q (.returned (.string (strB (cut l i j)))) (x2.drewN k)) := Lib.hid (fun k => by
              rw [HB.out, ← HST.out, Sx.then_ok, if_neg hji, HTL.out]
              exact ⟨rfl, HS2.out.drawn k, HK2.out.drewN k⟩)
            clear hji
            go_wp2_with fail
            go_quiet (fail)
            go_wp2_with fail
            go_ret
            exact HF.out _
        | true =>
          rw [if_pos rfl] at hst
          have HST := Lib.hid hst
          obtain ⟨hw1, hw2⟩ := hfit (hfg rfl)
          have hadd : IntKind.i64.wrap ((j : Int) + (wd : Int)) = ((j + wd : Nat) : Int) := IntWalk.i64_in _ (by omega)
          clear hst hfit hfg
          go_wp2_with fail
          with_reducible refine HF2.out.mono ?_
          rintro e x2 ⟨rfl, hb2⟩
          have HBx2 := Lib.hid (below_then HBx1.out hb2)
          obtain ⟨z0, z1⟩ := HCE.out _ HBx2.out
          have f1 := unfrozen_of_block (HS1.out.keep HBx2.out).blk 1
          have HSET : Hid (ScAt (x2.setCell ⟨B, 1, none⟩ (.int .i64 ((j + wd : Nat) : Int))) B a c l (j + wd) ((x :: u).drop wd) ∧ Keeps (One B) w (x2.setCell ⟨B, 1, none⟩ (.int .i64 ((j + wd : Nat) : Int)))) := Lib.hid (by
            have h := (HS1.out.keep HBx2.out).place (j := j + wd) (by rw [HNL.out]; omega) (u := (x :: u).drop wd) (by rw [HS1.out.left, List.drop_drop])
            exact ⟨h.1, (HK.out.trans (keeps_below HBx2.out Non) (fresh_non _ _)).trans h.2 (fresh_refl _ _)⟩)
          clear hb2
          go_wp2_with fail
          go_roundg (g' + 1)
          case measure => omega
          case rel => exact ⟨g', false, j + wd, (x :: u).drop wd, rfl, .inr ⟨rfl, rfl⟩, by rw [List.length_drop]; rw [List.length_cons] at hg ⊢; omega, by omega, .inr rfl, HST.out, HSET.out.1, HSET.out.2⟩

end Go.Proofs.YtfonflbpkbibbaaGreatDoor
