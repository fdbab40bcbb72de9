/-
  Whether a rule may be, for itself, told by the program (with a map of its own). Conditions: the slices lead to what they are said to; the texts are no longer than 2 to the 30; the tables and the library's bound are laid.
-/
import Derived.Test.YtojpjhfafbdpcaaGreatDoorKZ
import Derived.Maps.OwnOps
import Derived.Maps.Views
import Derived.Maps.Keyed
namespace Go.Proofs.YtojpjhfafbdpcaaGreatDoor
open Go.RowKit Go.Lib Go.Joins

theorem keyLaw : Maps.Keyed Tryz.prog 9 := Maps.string_keyed Tryz.underlying9
theorem zeroI (w : World) : (zeroValue 3).run Tryz.prog w = .ok (.int .i64 0) w := by kernel_rfl
theorem ownsMap_keep {H : Type} {w w' : World} {P : Program} {k : TypeId} {R : Value → Option (DataW H × List MemPlace)} {b n : Nat} {D : DataW H} (h : w.ownsMap P k R b n D) (hb : w'.heap[b]? = w.heap[b]?) : w'.ownsMap P k R b n D := by
  obtain ⟨es, clock, h1, h2⟩ := h
  exact ⟨es, clock, hb.trans h1, h2⟩
theorem ownsMap_lt {H : Type} {w : World} {P : Program} {k : TypeId} {R : Value → Option (DataW H × List MemPlace)} {b n : Nat} {D : DataW H} (h : w.ownsMap P k R b n D) : b < w.heap.size := by
  obtain ⟨es, clock, h1, _⟩ := h
  exact lt_of_block h1
/-- A map that holds 1 at each of these texts, and nothing else. -/
def Seen (D : DataW Unit) (ks : List (List UInt8)) : Prop := Maps.IsMap D ∧ ∀ x : List UInt8, D.atKey (.string x) (.lit (.int .i64 0)) = .lit (.int .i64 (if ks.contains x = true then 1 else 0))
theorem Seen.nil : Seen (.map []) [] := ⟨⟨_, rfl⟩, fun _ => rfl⟩
theorem Seen.snoc {D : DataW Unit} {ks : List (List UInt8)} {x : List UInt8} (h : Seen D ks) : Seen (D.put (.string x) (.lit (.int .i64 1))) (ks ++ [x]) := by
  refine ⟨h.1.put _ _, fun y => ?_⟩
  by_cases hy : y = x
  · subst hy
    rw [Maps.atKey_put_same h.1 (k := .string y) trivial, if_pos (by simp)]
  · have hne : (Lit.string y) ≠ Lit.string x := fun e => hy (Lit.string.inj e)
    have hc : (ks ++ [x]).contains y = ks.contains y := by
      rw [Bool.eq_iff_iff]
      simp [hy]
    rw [Maps.atKey_put_other hne, h.2 y, hc]

/-- A rule whose texts are no longer than 2 to the 30. -/
def RlFew (r : Rl) : Prop := (∀ x ∈ r.path, x.length ≤ 1073741823) ∧ (∀ x ∈ r.keys, x.length ≤ 1073741823)
def lenW (r : Rl) : Bool := decide (1 < r.path.length) || (decide (r.path.length = 1) && r.keys.isEmpty)
theorem ruleW_eq (r : Rl) : ruleW r = (freshGo [] r.keys && (r.path.all nameW && lenW r)) := by
  unfold ruleW lenW
  rw [Bool.and_assoc]
theorem fresh_step {ks : List (List UInt8)} {j : Nat} {x : List UInt8} (hx : ks[j]? = some x) : freshGo (ks.take j) (ks.drop j) = (!(ks.take j).contains x && keyW x && freshGo (ks.take (j + 1)) (ks.drop (j + 1))) := by
  obtain ⟨hlt, rfl⟩ := List.getElem?_eq_some_iff.1 hx
  rw [List.drop_eq_getElem_cons hlt, freshGo, List.take_succ_eq_append_getElem hlt]
theorem all_step {ps : List (List UInt8)} {j : Nat} {x : List UInt8} (hx : ps[j]? = some x) : (ps.drop j).all nameW = (nameW x && (ps.drop (j + 1)).all nameW) := by
  obtain ⟨hlt, rfl⟩ := List.getElem?_eq_some_iff.1 hx
  rw [List.drop_eq_getElem_cons hlt, List.all_cons]

set_option maxRecDepth 100000 in
set_option maxHeartbeats 8000000 in
theorem fair_calls {w : World} {S S' : Nat → Prop} {pv kv : Value} {r : Rl} (hp : StrIn w S pv r.path) (hk : StrIn w S' kv r.keys) (hf : RlFew r) (hE : KEnv w) :
    Calls Tryz.prog 34 #[.agg #[pv, kv]] w (Leaves (.bool (ruleW r)) w) := by
  have hmm := @run_makeMap Tryz.prog
  have HL : Hid (lenW r = (decide (1 < r.path.length) || (decide (r.path.length = 1) && decide (r.keys.length = 0)))) := Lib.hid (by
    unfold lenW
    congr 2
    cases r.keys <;> rfl)
  obtain ⟨FP, FK⟩ := hf
  rw [ruleW_eq]
  obtain ⟨B2, hB2⟩ : ∃ B2, lenW r = B2 := ⟨_, rfl⟩
  rw [hB2] at HL ⊢
  clear hB2
  obtain ⟨ps, ks⟩ := r
  dsimp only at hp hk FP FK HL ⊢
  obtain ⟨pa, pc, rfl, hlp, hmp, _⟩ := hp.form
  obtain ⟨ka, kc, rfl, hlk, hmk, _⟩ := hk.form
  obtain ⟨n, hn⟩ : ∃ n, ps.length = n := ⟨_, rfl⟩
  obtain ⟨m, hm⟩ : ∃ m, ks.length = m := ⟨_, rfl⟩
  rw [hn] at HL hlp hp ⊢
  rw [hm] at HL hlk hk ⊢
  have hn64 : n ≤ 9223372036854775807 := by unfold maxLen at hmp; omega
  have hm64 : m ≤ 9223372036854775807 := by unfold maxLen at hmk; omega
  have HMK : Hid (m ≤ maxLen) := Lib.hid (by omega)
  have HFP := Lib.hid FP
  have HFK := Lib.hid FK
  have HN := Lib.hid hn
  have HM := Lib.hid hm
  have HP := Lib.hid hp
  have HK := Lib.hid hk
  have HE := Lib.hid hE
  obtain ⟨Q, hQ⟩ : ∃ Q, (freshGo [] ks && (ps.all nameW && B2)) = Q := ⟨_, rfl⟩
  rw [hQ]
  have HQ : Hid (Q = (freshGo (ks.take 0) (ks.drop 0) && (ps.all nameW && B2))) := Lib.hid hQ.symm
  obtain ⟨W2, hW2⟩ : ∃ W2, (w.alloc (.cells #[.slice pa n pc, .slice ka m kc] 38)).alloc (.map #[] 0) = W2 := ⟨_, rfl⟩
  have hkb : W2.heap[w.heap.size]? = some (.cells #[.slice pa n pc, .slice ka m kc] 38 (0, 0)) := by
    rw [← hW2]
    exact (Below.heap_alloc _ _ _ (by simp)).trans (heap_alloc_new _ _)
  have hmb : W2.ownsMap Tryz.prog 9 (plainElem (H := Unit) Tryz.prog 3) (w.heap.size + 1) 0 (.map []) := by
    have := World.ownsMap_made (H := Unit) (w.alloc (.cells #[.slice pa n pc, .slice ka m kc] 38)) Tryz.prog 9 (plainElem Tryz.prog 3)
    rw [hW2] at this
    simpa using this
  have hb2 : Below w.heap.size w W2 := by rw [← hW2]; exact ((Below.refl _ _).alloc (Nat.le_refl _) _).alloc (by simp) _
  have hsz : w.heap.size + 1 < W2.heap.size := by rw [← hW2]; simp
  have c0 : W2.cell? ⟨w.heap.size, 0, none⟩ = some (.slice pa n pc) := (cell_of_block hkb 0).trans rfl
  have c1 : W2.cell? ⟨w.heap.size, 1, none⟩ = some (.slice ka m kc) := (cell_of_block hkb 1).trans rfl
  have HKB := Lib.hid hkb
  have HMB := Lib.hid hmb
  have HB2 := Lib.hid hb2
  clear hp hk hE FP FK hn hm hQ hlp hmp hlk hmk hkb hmb hb2
  go_enter Tryz.func34, Tryz.ntmps34
  go_wp2_with fail
  go_loopg [12] m (fun gk i wr => ∃ (j : Nat) (D : DataW Unit), i = .int .i64 (j : Int) ∧ gk + j = m ∧ wr.ownsMap Tryz.prog 9 (plainElem (H := Unit) Tryz.prog 3) (w.heap.size + 1) j D ∧ Seen D (ks.take j) ∧ Q = (freshGo (ks.take j) (ks.drop j) && (ps.all nameW && B2)) ∧ wr.heap[w.heap.size]? = some (.cells #[.slice pa n pc, .slice ka m kc] 38 (0, 0)) ∧ Below w.heap.size w wr)
  case atStart => exact ⟨0, .map [], rfl, rfl, HMB.out, Seen.nil, HQ.out, HKB.out, HB2.out⟩
  case round =>
    obtain ⟨j, D, rfl, hg, hmap, hseen, hq, hkb, hb⟩ := hrel
    have HG := Lib.hid hg
    have HQ2 := Lib.hid hq
    have HB := Lib.hid hb
    have HKB2 := Lib.hid hkb
    have HSEEN := Lib.hid hseen
    have hlt64 := ownsMap_lt hmap
    clear hg hq hb HQ c0 c1 hW2 hseen HMB HKB HB2 hsz hkb
    by_cases hlt : j < m
    · obtain ⟨g', rfl⟩ : ∃ g', gk = g' + 1 := ⟨gk - 1, by have := HG.out; omega⟩
      have hdd : decide ((j : Int) < (m : Int)) = true := by simp; omega
      have hji : (j : Int) < (m : Int) := by omega
      obtain ⟨x, hx⟩ : ∃ x, ks[j]? = some x := ⟨ks[j]'(by rw [HM.out]; exact hlt), List.getElem?_eq_getElem _⟩
      obtain ⟨b, o, rfl, c3⟩ := (HK.out.below HB.out).at hx
      have hxl : x.length ≤ 1073741823 := HFK.out x (List.mem_of_getElem? hx)
      have hst := fresh_step hx
      have HSN := Lib.hid (HSEEN.out.snoc (x := x))
      have htk : ks.take j ++ [x] = ks.take (j + 1) := by
        obtain ⟨h1, h2⟩ := List.getElem?_eq_some_iff.1 hx
        rw [List.take_succ_eq_append_getElem h1, h2]
      rw [htk] at HSN
      have hcn := HSEEN.out.2 x
      have HQ3 : Hid (Q = (!(ks.take j).contains x && keyW x && freshGo (ks.take (j + 1)) (ks.drop (j + 1)) && (ps.all nameW && B2))) := Lib.hid (by rw [HQ2.out, hst])
      have HKC := Lib.hid (fun (W : World) (h : Below w.heap.size w W) => iskey_calls x W hxl (HE.out.below h))
      obtain ⟨z, hz⟩ : ∃ z, strB x = z := ⟨_, rfl⟩
      rw [hz] at c3 HKC
      have hkey : keyOf Tryz.prog 9 (.string z) = some (.string x) := by
        rw [← hz]
        exact Go.WideMaps.keyOf_string_mk Tryz.underlying9 (by rw [strB_size]; unfold maxLen; omega)
      obtain ⟨kq, hkq⟩ : ∃ q, keyW x = q := ⟨_, rfl⟩
      obtain ⟨sq, hsq⟩ : ∃ q, (ks.take j).contains x = q := ⟨_, rfl⟩
      rw [hkq] at HKC HQ3
      rw [hsq] at hcn HQ3
      have HMX := HMK.out
      clear hx hst htk hxl hz hkq hsq HQ2
      cases sq with
      | true =>
        rw [if_pos rfl] at hcn
        have HF : Hid (Q = false) := Lib.hid (by rw [HQ3.out]; rfl)
        obtain ⟨c, hrun, hat, _⟩ := hmap.lookup_int keyLaw Tryz.underlying83 Tryz.underlying3 (zeroI _) hkey
        have hc1 : c = 1 := by
          rw [hcn] at hat
          injection hat with h1
          injection h1 with _ h1
          exact h1.symm
        subst hc1
        clear hat hcn HQ3
        have hval : plainElem (H := Unit) Tryz.prog 3 (.int .i64 2) = some (.lit (.int .i64 2), []) := plainElem_int Tryz.underlying3 (by decide)
        go_wp2_with (at_mapUpdate; refine wpList_mapUpdate_own _ rfl _ _ _ 83 rfl 9 3 keyLaw Tryz.underlying83 _ (w.heap.size + 1) j _ rfl hmap (by omega) _ _ _ rfl rfl hkey (.lit (.int .i64 2)) [] hval ?_)
        intro w1 hmap1 hgrow1
        obtain ⟨c2, hrun2, hat2, _⟩ := hmap1.lookup_int keyLaw Tryz.underlying83 Tryz.underlying3 (zeroI _) hkey
        have hc2 : c2 = 2 := by
          rw [Maps.atKey_put_same HSEEN.out.1 (k := .string x) trivial] at hat2
          injection hat2 with h1
          injection h1 with _ h1
          exact h1.symm
        subst hc2
        have HB1 : Hid (Below w.heap.size w w1) := Lib.hid (HB.out.grown hgrow1 HB.out.size (fun k e => by cases e; omega))
        clear hat2 hgrow1 hrun hmap hval
        go_wp2
        go_ret
        exact ⟨by rw [HF.out]; rfl, HB1.out⟩
      | false =>
        rw [if_neg (by decide)] at hcn
        obtain ⟨c, hrun, hat, _⟩ := hmap.lookup_int keyLaw Tryz.underlying83 Tryz.underlying3 (zeroI _) hkey
        have hc1 : c = 0 := by
          rw [hcn] at hat
          injection hat with h1
          injection h1 with _ h1
          exact h1.symm
        subst hc1
        clear hat hcn
        have hval : plainElem (H := Unit) Tryz.prog 3 (.int .i64 1) = some (.lit (.int .i64 1), []) := plainElem_int Tryz.underlying3 (by decide)
        go_wp2_with (at_mapUpdate; refine wpList_mapUpdate_own _ rfl _ _ _ 83 rfl 9 3 keyLaw Tryz.underlying83 _ (w.heap.size + 1) j _ rfl hmap (by omega) _ _ _ rfl rfl hkey (.lit (.int .i64 1)) [] hval ?_)
        intro w1 hmap1 hgrow1
        obtain ⟨c2, hrun2, hat2, _⟩ := hmap1.lookup_int keyLaw Tryz.underlying83 Tryz.underlying3 (zeroI _) hkey
        have hc2 : c2 = 1 := by
          rw [Maps.atKey_put_same HSEEN.out.1 (k := .string x) trivial] at hat2
          injection hat2 with h1
          injection h1 with _ h1
          exact h1.symm
        subst hc2
        have hb1 : Below w.heap.size w w1 := HB.out.grown hgrow1 HB.out.size (fun k e => by cases e; omega)
        have HB1 := Lib.hid hb1
        have HKB1 : Hid (w1.heap[w.heap.size]? = some (.cells #[.slice pa n pc, .slice (some ⟨b, o, none⟩) m kc] 38 (0, 0))) := Lib.hid ((hgrow1.block w.heap.size (by omega) (fun e => by injection e with e; omega)).trans HKB2.out)
        have HC := Lib.hid (HKC.out w1 hb1)
        have HMAP1 := Lib.hid hmap1
        have hm1 := ownsMap_lt hmap1
        clear hat2 hgrow1 hrun hmap hval hb1 HKC hmap1
        go_wp2_with fail
        with_reducible refine HC.out.mono ?_
        rintro e w2 ⟨rfl, hb2⟩
        have HB3 := Lib.hid (below_then HB1.out hb2)
        have HMAP2 := Lib.hid (ownsMap_keep HMAP1.out (hb2.block _ hm1))
        have HKB3 := Lib.hid (block_below hb2 HKB1.out)
        clear hb2 HC HMAP1
        cases kq with
        | true =>
          have HQ4 : Hid (Q = (freshGo (ks.take (j + 1)) (ks.drop (j + 1)) && (ps.all nameW && B2))) := Lib.hid (by rw [HQ3.out]; rfl)
          clear hrun2 hm1
          go_wp2
          go_roundg g'
          case measure => omega
          case rel => exact ⟨j + 1, _, by go_num, by have := HG.out; omega, HMAP2.out, HSN.out, HQ4.out, HKB3.out, HB3.out⟩
        | false =>
          have HF : Hid (Q = false) := Lib.hid (by rw [HQ3.out]; rfl)
          clear hrun2 hm1
          go_wp2
          go_ret
          exact ⟨by rw [HF.out]; rfl, HB3.out⟩
    · have hdd : decide ((j : Int) < (m : Int)) = false := by simp; omega
      have HQ3 : Hid (Q = ((ps.drop 0).all nameW && B2)) := Lib.hid (by
        rw [HQ2.out, List.drop_eq_nil_of_le (by have := HM.out; omega), freshGo, Bool.true_and, List.drop_zero])
      have c0 : wr.cell? ⟨w.heap.size, 0, none⟩ = some (.slice pa n pc) := (cell_of_block HKB2.out 0).trans rfl
      clear hmap HQ2 HG HSEEN
      obtain ⟨wx, hwx⟩ : ∃ wx, wx = wr := ⟨_, rfl⟩
      rw [← hwx] at HB HKB2 c0 hlt64 ⊢
      clear hwx wr
      go_wp2_with fail
      go_loopg [33] n (fun gk i wr => ∃ (k : Nat), i = .int .i64 (k : Int) ∧ gk + k = n ∧ Q = ((ps.drop k).all nameW && B2) ∧ Below wx.heap.size wx wr)
      case atStart => exact ⟨0, rfl, rfl, HQ3.out, Below.refl _ _⟩
      case round =>
        obtain ⟨k, rfl, hg, hq, hb⟩ := hrel
        have HG := Lib.hid hg
        have HQ4 := Lib.hid hq
        have HB4 := Lib.hid hb
        have HKB4 := Lib.hid (block_below hb HKB2.out)
        clear hg hq hb HQ3 c0 HKB2
        by_cases hlt : k < n
        · obtain ⟨g', rfl⟩ : ∃ g', gk = g' + 1 := ⟨gk - 1, by have := HG.out; omega⟩
          have hdd : decide ((k : Int) < (n : Int)) = true := by simp; omega
          have hji : (k : Int) < (n : Int) := by omega
          obtain ⟨x, hx⟩ : ∃ x, ps[k]? = some x := ⟨ps[k]'(by rw [HN.out]; exact hlt), List.getElem?_eq_getElem _⟩
          obtain ⟨b, o, rfl, c3⟩ := (HP.out.below (below_then HB.out HB4.out)).at hx
          have hst := all_step hx
          have HC := Lib.hid (name_calls x wr (by have := HFP.out x (List.mem_of_getElem? hx); omega) (HE.out.laid.below (below_then HB.out HB4.out)))
          obtain ⟨q, hq⟩ : ∃ q, nameW x = q := ⟨_, rfl⟩
          rw [hq] at HC hst
          have HQ5 : Hid (Q = (q && (ps.drop (k + 1)).all nameW && B2)) := Lib.hid (by rw [HQ4.out, hst])
          obtain ⟨z, hz⟩ : ∃ z, strB x = z := ⟨_, rfl⟩
          rw [hz] at HC c3
          clear hx hst hq hz HQ4
          go_wp2_with fail
          with_reducible refine HC.out.mono ?_
          rintro e w2 ⟨rfl, hb2⟩
          have HB5 := Lib.hid (below_then HB4.out hb2)
          clear hb2 HC
          cases q with
          | true =>
            have HQ6 : Hid (Q = ((ps.drop (k + 1)).all nameW && B2)) := Lib.hid (by rw [HQ5.out, Bool.true_and])
            go_wp2
            go_roundg g'
            case measure => omega
            case rel => exact ⟨k + 1, by go_num, by have := HG.out; omega, HQ6.out, HB5.out⟩
          | false =>
            have HF : Hid (Q = false) := Lib.hid (by rw [HQ5.out]; rfl)
            go_wp2
            go_ret
            exact ⟨by rw [HF.out]; rfl, below_then HB.out HB5.out⟩
        · have hdd : decide ((k : Int) < (n : Int)) = false := by simp; omega
          have HF : Hid (Q = (decide (1 < n) || (decide (n = 1) && decide (m = 0)))) := Lib.hid (by
            rw [HQ4.out, List.drop_eq_nil_of_le (by have := HN.out; omega), List.all_nil, Bool.true_and, HL.out])
          have c0 : wr.cell? ⟨w.heap.size, 0, none⟩ = some (.slice pa n pc) := (cell_of_block HKB4.out 0).trans rfl
          have c1 : wr.cell? ⟨w.heap.size, 1, none⟩ = some (.slice ka m kc) := (cell_of_block HKB4.out 1).trans rfl
          clear HQ4 HG
          by_cases h1 : 1 < n
          · have e1 : decide ((n : Int) > 1) = true := by simp; omega
            have e1n : decide (1 < n) = true := decide_eq_true h1
            have HF2 : Hid (Q = true) := Lib.hid (by rw [HF.out, e1n, Bool.true_or])
            go_wp2
            go_ret
            exact ⟨by rw [HF2.out]; rfl, below_then HB.out HB4.out⟩
          · have e1 : decide ((n : Int) > 1) = false := by simp; omega
            have e1n : decide (1 < n) = false := decide_eq_false h1
            by_cases h2 : n = 1
            · have e2 : ((n : Int) == 1) = true := by rw [beq_iff_eq]; omega
              have e2n : decide (n = 1) = true := decide_eq_true h2
              have HN1 := Lib.hid h2
              clear h2
              by_cases h3 : m = 0
              · have e3 : ((m : Int) == 0) = true := by rw [beq_iff_eq]; omega
                have HF2 : Hid (Q = true) := Lib.hid (by rw [HF.out, e1n, e2n, decide_eq_true h3]; rfl)
                have HM0 := Lib.hid h3
                clear h3
                go_wp2
                go_ret
                exact ⟨by rw [HF2.out]; rfl, below_then HB.out HB4.out⟩
              · have e3 : ((m : Int) == 0) = false := by rw [beq_eq_false_iff_ne]; omega
                have HF2 : Hid (Q = false) := Lib.hid (by rw [HF.out, e1n, e2n, decide_eq_false h3]; rfl)
                go_wp2
                go_ret
                exact ⟨by rw [HF2.out]; rfl, below_then HB.out HB4.out⟩
            · have e2 : ((n : Int) == 1) = false := by rw [beq_eq_false_iff_ne]; omega
              have HF2 : Hid (Q = false) := Lib.hid (by rw [HF.out, e1n, decide_eq_false h2]; rfl)
              go_wp2
              go_ret
              exact ⟨by rw [HF2.out]; rfl, below_then HB.out HB4.out⟩

end Go.Proofs.YtojpjhfafbdpcaaGreatDoor
