/-
 Whether a tree may be written. Conditions: the tree lies in memory, and has no more than 2 to the 20 nodes; its texts are no longer than 2 to the 30; the laid variables hold what their initialisers lay.
-/
import Derived.Test.YtocnedpclllbhaaGreatDoorWK
import Derived.Test.YtocnedpclllbhaaGreatDoorXDp
namespace Go.Proofs.YtocnedpclllbhaaGreatDoor
open Go.RowKit Go.Lib Go.Joins

mutual
/-- All texts of a tree are short. -/
def ShortN : Tr → Prop
  | .mk k n t ats ks => Shorts (.mk k n t ats ks) ∧ ShortL ks
def ShortL : List Tr → Prop
  | [] => True
  | t :: ts => ShortN t ∧ ShortL ts
end
theorem short_mk (k : Int) (n t : List UInt8) (ats : List (List UInt8 × List UInt8)) (ks : List Tr) : ShortN (.mk k n t ats ks) = (Shorts (.mk k n t ats ks) ∧ ShortL ks) := by rw [ShortN]
theorem shortL_app : ∀ a b : List Tr, ShortL (a ++ b) ↔ ShortL a ∧ ShortL b
  | [], b => ⟨fun h => ⟨trivial, h⟩, fun h => h.2⟩
  | t :: a, b => by
    rw [List.cons_append, ShortL, ShortL, shortL_app a b, and_assoc]
theorem fairL_one (t : Tr) : fairL [t] = fairT t := by rw [fairL, fairL, Bool.and_true]
set_option maxRecDepth 100000 in
set_option maxHeartbeats 4000000 in
theorem pfair_calls {w : World} {r : Nr} {t : Tr} (h : NodeIn w Any r t) (hm : t.count ≤ 1000000) (hsh : ShortN t) (hE : EnvAt w) : Calls Tryz.prog 9 #[nodeV r] w (Leaves (.bool (fairT t)) w) := by
  obtain ⟨Q, hQ⟩ : ∃ Q, fairT t = Q := ⟨_, rfl⟩
  rw [hQ]
  have HQ : Hid (fairL [t] = Q) := Lib.hid (by rw [fairL_one]; exact hQ)
  obtain ⟨T, hT⟩ : ∃ T, t.count = T := ⟨_, rfl⟩
  have HT : Hid (cntL [t] = T) := Lib.hid (by rw [cntL_one]; exact hT)
  have HM : Hid (T ≤ 1000000) := Lib.hid (by omega)
  have HSH : Hid (ShortL [t]) := Lib.hid ⟨hsh, trivial⟩
  obtain ⟨k, n, x, av, kv⟩ := r
  obtain ⟨sn, hsn⟩ : ∃ s, strB n = s := ⟨_, rfl⟩
  obtain ⟨st, hst⟩ : ∃ s, strB x = s := ⟨_, rfl⟩
  obtain ⟨w0, hw0⟩ : ∃ W, w.alloc (.cells #[.int .i64 k, .string sn, .string st, av, kv] 25) = W := ⟨_, rfl⟩
  have hb0 : Below w.heap.size w w0 := by rw [← hw0]; exact (Below.refl _ _).alloc (Nat.le_refl _) _
  have hbk : w0.heap[w.heap.size]? = some (.cells #[.int .i64 k, .string sn, .string st, av, kv] 25 (0, 0)) := by rw [← hw0]; exact heap_alloc_new w _
  have hnr : NrIn w0 w.heap.size 0 ⟨k, n, x, av, kv⟩ := ⟨(cell_of_block hbk 0).trans rfl, (cell_of_block hbk 1).trans (by rw [← hsn]; rfl), (cell_of_block hbk 2).trans (by rw [← hst]; rfl), (cell_of_block hbk 3).trans rfl, (cell_of_block hbk 4).trans rfl⟩
  have HPT : Hid (PtrsIn w0 Any [⟨w.heap.size, 0, none⟩] [t]) := Lib.hid ⟨⟨_, _, _, rfl, trivial, hnr, h.keep (keeps_below hb0 Non) (fun _ _ h => h) (fun _ h => h)⟩, trivial⟩
  have HE0 := Lib.hid (hE.below hb0)
  have HB0 := Lib.hid hb0
  have HW0 := Lib.hid hw0
  have HSZ : Hid (w0.heap.size = w.heap.size + 1) := Lib.hid (by rw [← hw0]; simp)
  unfold nodeV
  dsimp only
  rw [hsn, hst]
  clear h hm hT hbk hnr hsn hst hb0 hw0 hsh hE hQ
  go_enter Tryz.func9, Tryz.ntmps9
  go_wp2_with fail
  rw [HW0.out]
  have HP0 := Lib.hid (PRow.one (w := w0) (p := ⟨w.heap.size, 0, none⟩))
  have HBA : Hid (Below w0.heap.size w0 (w0.alloc (.cells #[.pointer (some ⟨w.heap.size, 0, none⟩)] 49))) := Lib.hid ((Below.refl _ _).alloc (Nat.le_refl _) _)
  go_loopg [3] T (fun g0 s4 wr => ∃ (ps : List Addr) (ts : List Tr), cntL ts = g0 ∧ g0 ≤ T ∧ fairL ts = Q ∧ ShortL ts ∧ PRow wr w0.heap.size s4 ps ∧ PtrsIn w0 Any ps ts ∧ Below w0.heap.size w0 wr)
  case atStart => exact ⟨_, _, HT.out, Nat.le_refl _, HQ.out, HSH.out, (by rw [← HSZ.out]; exact HP0.out), HPT.out, HBA.out⟩
  case round =>
    obtain ⟨ps, ts, hcg, hct, hfq, hshl, hp, hpt, hb⟩ := hrel
    have HP := Lib.hid hp
    have HB := Lib.hid hb
    have HPS := Lib.hid hpt
    have HCG := Lib.hid hcg
    have HCT := Lib.hid hct
    have HFQ := Lib.hid hfq
    have HSL := Lib.hid hshl
    clear hp hb hpt hcg hct hfq hshl
    by_cases hps : ps = []
    · subst hps
      have hts : ts = [] := List.length_eq_zero_iff.1 HPS.out.len.symm
      have HF : Hid (Q = true) := Lib.hid (by rw [← HFQ.out, hts, fairL])
      obtain ⟨a, cc, rfl⟩ := HP.out.form0
      clear hts
      go_wp2_with fail
      go_ret
      exact ⟨by rw [HF.out]; rfl, HB0.out.trans (HB.out.mono HB0.out.size)⟩
    · obtain ⟨ps', p, ts', t', e1, e2, hpt2, hp2⟩ := HPS.out.last hps
      subst e1
      subst e2
      obtain ⟨g, cc, hv, hcc, hcm, hgl, hgn, hcell0⟩ := HP.out.formN hps
      rw [List.length_append] at hv hcc
      have hcell := hcell0 ps'.length p (by simp)
      clear hcell0
      subst hv
      obtain ⟨l, hl⟩ : ∃ l, ps'.length = l := ⟨_, rfl⟩
      have HP2 : Hid (PRow wr w0.heap.size (.slice (some ⟨g, 0, none⟩) l cc) ps') := Lib.hid ⟨by
        have h1 := HP.out.row
        rw [List.length_append] at h1
        have h2 := ptr_drop h1
        rw [hl] at h2 ⊢
        exact h2, HP.out.new⟩
      rw [hl] at hcell hcc ⊢
      have hc1 := HCG.out
      rw [cntL_app, cntL_one] at hc1
      obtain ⟨b, o, r2, rfl, _, hnr, hnd⟩ := hp2
      have hnrw := hnr.keep (keeps_below HB.out Non) (fun h => h)
      have hndw : NodeIn wr Any r2 t' := hnd.keep (keeps_below HB.out Non) (fun _ _ h => h) (fun _ h => h)
      have hsl := HSL.out
      rw [shortL_app] at hsl
      have HFQ2 := HFQ.out
      obtain ⟨q0, q1, q2, q3, q4⟩ := t'
      rw [fair_step] at HFQ2
      have hsx : ShortN (.mk q0 q1 q2 q3 q4) := hsl.2.1
      rw [short_mk] at hsx
      have HSL2 : Hid (ShortL (ts' ++ q4)) := Lib.hid ((shortL_app _ _).2 ⟨hsl.1, hsx.2⟩)
      have HFIT := Lib.hid (pfits_calls hnrw hndw hsx.1 (HE0.out.below HB.out))
      obtain ⟨_, _, _, _, rows, hri, hni⟩ := hnd.kids
      obtain ⟨ka, kc, hkv, hkc, hkm, hkp⟩ := kids_form hri hni
      change r2.kv = .slice ka q4.length kc at hkv
      change q4.length ≤ kc at hkc
      change q4 = [] ∨ _ at hkp
      have hkl : q4.length ≤ cntL q4 := cntL_len _
      have hcl := cntL_len (ts' ++ [.mk q0 q1 q2 q3 q4])
      rw [HCG.out] at hcl
      have hpl : l + 1 = (ts' ++ [Tr.mk q0 q1 q2 q3 q4]).length := by
        have h1 := HPS.out.len
        rw [List.length_append, hl] at h1
        exact h1
      have hcnt2 : (Tr.mk q0 q1 q2 q3 q4).count = 1 + q3.length + cntL q4 := count_mk ..
      obtain ⟨fq, hfq⟩ : ∃ q, fitT q0 q1 q2 q3 q4 = q := ⟨_, rfl⟩
      change Hid (Calls _ _ _ _ (Leaves (.bool (fitT q0 q1 q2 q3 q4)) wr)) at HFIT
      rw [hfq] at HFIT HFQ2
      have HFQ3 := Lib.hid HFQ2
      obtain ⟨nk, hnk⟩ : ∃ nk, q4.length = nk := ⟨_, rfl⟩
      rw [hnk] at hkv hkl
      obtain ⟨b2, o2, hk1, hk2⟩ : ∃ b2 o2, (nk = 0 ∨ ka = some ⟨b2, o2, none⟩) ∧ PtrsIn w0 Any (kidPs b2 o2 nk) q4 := by
        rcases hkp with h0 | ⟨b2, o2, h1, h2⟩
        · exact ⟨0, 0, .inl (by rw [← hnk, h0]; rfl), by rw [h0] at hnk ⊢; rw [← hnk]; exact trivial⟩
        · exact ⟨b2, o2, .inr h1, by rw [← hnk]; exact h2⟩
      have HNR : Hid (NrIn w0 b o r2) := Lib.hid hnr
      have HKV := Lib.hid hkv
      have HK1 := Lib.hid hk1
      have HK2 := Lib.hid hk2
      have HPT2 := Lib.hid hpt2
      have HBD : Hid (nk ≤ 1000000 ∧ (l ≤ 1000000 ∧ ps'.length ≤ 1000000) ∧ cntL (ts' ++ q4) < gk ∧ cntL (ts' ++ q4) ≤ T) := Lib.hid (by
        have h1 := HCT.out
        have h2 := HM.out
        have h3 : cntL (ts' ++ q4) = cntL ts' + cntL q4 := cntL_app ..
        omega)
      have hgt : (0 : Int) < (l : Int) + 1 := by omega
      have hsub : IntKind.i64.wrap (l : Int) = (l : Int) := IntWalk.i64_in _ (by have := HBD.out; omega)
      have hl0 : (0 : Int) ≤ (l : Int) := by omega
      have hll : (l : Int) < (l : Int) + 1 := by omega
      have hlc : (l : Int) ≤ (cc : Int) := by omega
      clear hnr hnd hri hni hkc hkm hkp hkl hpl hcl hcnt2 hpt2 hk1 hk2 hc1 hcm hgl hgn hps hnk hkv hl hsl hsx hnrw hndw HFQ2 hfq
      go_wp2_with fail
      with_reducible refine HFIT.out.mono ?_
      rintro e wf ⟨rfl, hbf⟩
      have HBF := Lib.hid (below_then HB.out hbf)
      have HPF := Lib.hid (HP2.out.below hbf)
      clear hbf hcell
      cases fq with
      | false =>
        have HF : Hid (Q = false) := Lib.hid (by rw [← HFQ3.out]; rfl)
        go_wp2_with fail
        go_ret
        exact ⟨by rw [HF.out]; rfl, HB0.out.trans (HBF.out.mono HB0.out.size)⟩
      | true =>
        have HFQ4 : Hid (fairL (ts' ++ q4) = Q) := Lib.hid (by rw [← HFQ3.out]; rfl)
        obtain ⟨y0, y1, y2, y3, y4⟩ := HNR.out.keep (keeps_below HBF.out Non) (fun h => h)
        rw [HKV.out] at y4
        go_wp2_with fail
        go_loopg [3, 29] nk (fun g2 s4 s35 wz => ∃ i : Nat, i + g2 = nk ∧ s35 = .int .i64 (i : Int) ∧ PRow wz w0.heap.size s4 (ps' ++ kidPs b2 o2 i) ∧ Below w0.heap.size w0 wz)
        case atStart => exact ⟨0, by omega, rfl, by rw [kidPs, List.append_nil]; exact HPF.out, HBF.out⟩
        case round =>
          obtain ⟨i, hig, rfl, hq, hbz⟩ := hrel
          have HQ := Lib.hid hq
          have HBZ := Lib.hid hbz
          clear hq hbz
          cases gk with
          | zero =>
            obtain rfl : i = nk := by omega
            have hge : ¬ ((i : Int) < (i : Int)) := by omega
            go_wp2_with fail
            go_roundg (cntL (ts' ++ q4))
            case measure => exact HBD.out.2.2.1
            case rel => exact ⟨_, ts' ++ q4, rfl, HBD.out.2.2.2, HFQ4.out, HSL2.out, HQ.out, HPT2.out.app HK2.out, HBZ.out⟩
          | succ g2 =>
            have hlt : (i : Int) < (nk : Int) := by omega
            have hi0 : (0 : Int) ≤ (i : Int) := by omega
            have hadd : IntKind.i64.wrap ((i : Int) + 1) = ((i + 1 : Nat) : Int) := IntWalk.i64_in _ (by have := HBD.out; omega)
            obtain rfl : ka = some ⟨b2, o2, none⟩ := by
              rcases HK1.out with h1 | h1
              · omega
              · exact h1
            obtain ⟨_, _, _, _, y4⟩ := HNR.out.keep (keeps_below HBZ.out Non) (fun h => h)
            rw [HKV.out] at y4
            obtain ⟨x1, hx1⟩ : ∃ W, wr.alloc (.cells #[.pointer (some ⟨b2, o2 + i * 5, none⟩)] 49) = W := ⟨_, rfl⟩
            have hb1 : Below wr.heap.size wr x1 := by rw [← hx1]; exact (Below.refl _ _).alloc (Nat.le_refl _) _
            have hp1 : x1.heap[wr.heap.size]? = some (.cells #[.pointer (some ⟨b2, o2 + i * 5, none⟩)] 49 (0, 0)) := by rw [← hx1]; exact heap_alloc_new wr _
            have hkl : (kidPs b2 o2 i).length = i := kidPs_len _ _ _
            obtain ⟨v3, x2, hrun, hp3, hk3⟩ := (HQ.out.below hb1).append (Nat.le_trans HBZ.out.size hb1.size) (b := ⟨wr.heap.size, 0, none⟩) (c := 1) (qs := [⟨b2, o2 + i * 5, none⟩]) (fun j q hj => by
              match j, hj with
              | 0, hj =>
                rw [Addr.add_mid, cell_of_block hp1 0, ← Option.some.inj hj]
                rfl
              | j + 1, hj => simp at hj) (by rw [List.length_append, hkl]; have := HBD.out; show _ + 1 ≤ _; omega)
            have HRUN := Lib.hid hrun
            have HP3 : Hid (PRow x2 w0.heap.size v3 (ps' ++ kidPs b2 o2 (i + 1))) := Lib.hid (by rw [kidPs_snoc, ← List.append_assoc]; exact hp3)
            have HB3 := Lib.hid ((HBZ.out.trans (hb1.mono HBZ.out.size)).trans (hk3.toBelow (Nat.le_trans HBZ.out.size hb1.size) (fun k e => HQ.out.new k e)))
            clear hb1 hp1 hrun hp3 hk3 hkl
            go_wp2_with (at_builtin; (try rw [hx1]); refine wpList_step (fun K hK => step_append rfl (.tmp 32) (.tmp 39) _ _ rfl _ _ _ rfl rfl HRUN.out (hK _ _ ?_)))
            go_roundg g2
            case measure => omega
            case rel => exact ⟨i + 1, by omega, rfl, HP3.out, HB3.out⟩

end Go.Proofs.YtocnedpclllbhaaGreatDoor
