/-
  Are trees the same? Pure; and xtree's alike. Condition: the nodes lie in memory.
-/
import Derived.Test.YtfonflbpkbibbaaGreatDoorXRc
import Derived.Test.YtfonflbpkbibbaaGreatDoorXEq
import Derived.Test.YtfonflbpkbibbaaGreatDoorXTq
import Derived.Lib.QuietBelow
import Derived.BigQuiet
namespace Go.Proofs.YtfonflbpkbibbaaGreatDoor
open Go.RowKit Go.Lib Go.Joins

mutual
def Tr.eqB : Tr → Tr → Bool
  | .mk k n x a ks, .mk k2 n2 x2 a2 ks2 => decide (k = k2) && decide (n = n2) && decide (x = x2) && decide (a = a2) && eqL ks ks2
def eqL : List Tr → List Tr → Bool
  | [], [] => true
  | t :: ts, u :: us => t.eqB u && eqL ts us
  | [], _ :: _ => false
  | _ :: _, [] => false
end
/-- Are two nodes the same, but for their children? -/
def alikeB (t u : Tr) : Bool := decide (t.kind = u.kind) && decide (t.name = u.name) && decide (t.text = u.text) && decide (t.attrs = u.attrs) && decide (t.kids.length = u.kids.length)
theorem eqL_len : ∀ {l m : List Tr}, l.length ≠ m.length → eqL l m = false
  | [], [], h => absurd rfl h
  | t :: ts, u :: us, h => by
    rw [eqL, eqL_len (l := ts) (m := us) (fun e => h (by rw [List.length_cons, List.length_cons, e])), Bool.and_false]
  | [], _ :: _, _ => by rw [eqL]
  | _ :: _, [], _ => by rw [eqL]
theorem eqB_alike (t u : Tr) : t.eqB u = (alikeB t u && eqL t.kids u.kids) := by
  obtain ⟨k, n, x, a, ks⟩ := t
  obtain ⟨k2, n2, x2, a2, ks2⟩ := u
  rw [Tr.eqB]
  show _ = ((decide (k = k2) && decide (n = n2) && decide (x = x2) && decide (a = a2) && decide (ks.length = ks2.length)) && eqL ks ks2)
  by_cases h : ks.length = ks2.length
  · rw [decide_eq_true h, Bool.and_true]
  · rw [eqL_len h, Bool.and_false, Bool.and_false]
theorem eqL_app : ∀ {l m : List Tr} (l2 m2 : List Tr), l.length = m.length → eqL (l ++ l2) (m ++ m2) = (eqL l m && eqL l2 m2)
  | [], [], l2, m2, _ => by rw [List.nil_append, List.nil_append, eqL, Bool.true_and]
  | t :: ts, u :: us, l2, m2, h => by
    rw [List.cons_append, List.cons_append, eqL, eqL, eqL_app l2 m2 (by rw [List.length_cons, List.length_cons] at h; omega), Bool.and_assoc]
  | [], _ :: _, _, _, h => by cases h
  | _ :: _, [], _, _, h => by cases h
mutual
theorem eqB_refl : ∀ t : Tr, t.eqB t = true
  | .mk k n x a ks => by
    rw [Tr.eqB, eqL_refl ks]
    simp
theorem eqL_refl : ∀ l : List Tr, eqL l l = true
  | [] => by rw [eqL]
  | t :: l => by rw [eqL, eqB_refl t, eqL_refl l]; rfl
end
/-- One step of the walk with a stack. -/
theorem eqL_step {l m : List Tr} {t u : Tr} (h : l.length = m.length) : eqL (l ++ [t]) (m ++ [u]) = (alikeB t u && eqL (l ++ t.kids) (m ++ u.kids)) := by
  rw [eqL_app _ _ h, eqL_app _ _ h, eqL, eqL, Bool.and_true, eqB_alike]
  cases eqL l m <;> cases alikeB t u <;> simp
theorem alikeB_kids {t u : Tr} (h : alikeB t u = true) : t.kids.length = u.kids.length := by
  unfold alikeB at h
  rw [Bool.and_eq_true] at h
  exact of_decide_eq_true h.2
set_option maxRecDepth 100000 in
set_option maxHeartbeats 8000000 in
theorem alike_calls {w : World} {b1 o1 b2 o2 : Nat} {r1 r2 : Nr} {t u : Tr} (h1 : NrIn w b1 o1 r1) (h2 : NrIn w b2 o2 r2) (g1 : NodeIn w Any r1 t) (g2 : NodeIn w Any r2 u) : Calls Tryz.prog 47 #[.pointer (some ⟨b1, o1, none⟩), .pointer (some ⟨b2, o2, none⟩)] w (Leaves (.bool (alikeB t u)) w) := by
  obtain ⟨hk, hn, hx, ha, rows1, ⟨p1, c1, hv1, _⟩, hni1⟩ := g1.kids
  obtain ⟨hk2, hn2, hx2, ha2, rows2, ⟨p2, c2, hv2, _⟩, hni2⟩ := g2.kids
  have HEQ := Lib.hid (fun dq os => Calls.regrown_of (equalA_calls (att_below ha (below_regrown w dq os)) (att_below ha2 (below_regrown w dq os))))
  obtain ⟨a1, n1, d1, hav1⟩ := ha.slice
  obtain ⟨a2, n2, d2, hav2⟩ := ha2.slice
  obtain ⟨x0, x1, x2, x3, x4⟩ := h1
  obtain ⟨y0, y1, y2, y3, y4⟩ := h2
  rw [hni1.1] at hv1
  rw [hni2.1] at hv2
  have HQ : Hid (alikeB t u = (decide (r1.kind = r2.kind) && decide (r1.name = r2.name) && decide (r1.text = r2.text) && decide (t.attrs = u.attrs) && decide (t.kids.length = u.kids.length))) := Lib.hid (by
    unfold alikeB
    rw [hk, hn, hx, hk2, hn2, hx2])
  rw [HQ.out]
  obtain ⟨l1, hl1⟩ : ∃ z, t.kids.length = z := ⟨_, rfl⟩
  obtain ⟨l2, hl2⟩ : ∃ z, u.kids.length = z := ⟨_, rfl⟩
  obtain ⟨qa, hqa⟩ : ∃ z, decide (t.attrs = u.attrs) = z := ⟨_, rfl⟩
  rw [hl1] at hv1
  rw [hl2] at hv2
  rw [hqa] at HEQ
  rw [hl1, hl2, hqa]
  rw [hv1] at x4
  rw [hv2] at y4
  rw [hav1] at x3 HEQ
  rw [hav2] at y3 HEQ
  obtain ⟨k1, m1, z1, av1, kv1⟩ := r1
  obtain ⟨k2, m2, z2, av2, kv2⟩ := r2
  dsimp only at x0 x1 x2 y0 y1 y2 ⊢
  obtain ⟨s1, hs1⟩ : ∃ z, strB m1 = z := ⟨_, rfl⟩
  obtain ⟨s2, hs2⟩ : ∃ z, strB m2 = z := ⟨_, rfl⟩
  obtain ⟨u1, hu1⟩ : ∃ z, strB z1 = z := ⟨_, rfl⟩
  obtain ⟨u2, hu2⟩ : ∃ z, strB z2 = z := ⟨_, rfl⟩
  rw [hs1] at x1
  rw [hs2] at y1
  rw [hu1] at x2
  rw [hu2] at y2
  have hsd : decide (m1 = m2) = decide (s1 = s2) := by
    rw [← hs1, ← hs2]
    exact decide_eq_decide.2 ⟨fun h => by rw [h], fun h => strB_inj h⟩
  have hud : decide (z1 = z2) = decide (u1 = u2) := by
    rw [← hu1, ← hu2]
    exact decide_eq_decide.2 ⟨fun h => by rw [h], fun h => strB_inj h⟩
  rw [hsd, hud]
  clear hk hn hx ha hv1 hni1 hk2 hn2 hx2 ha2 hv2 hni2 hav1 hav2 hl1 hl2 hqa hs1 hs2 hu1 hu2 hsd hud HQ g1 g2
  have kseq : ∀ s : ByteArray, (s.toList == s.toList) = true := fun s => by rw [beq_iff_eq]
  have cE := fun dq os => HEQ.out dq os
  have cx0 := fun dq os => cell_regrown x0 dq os
  have cx1 := fun dq os => cell_regrown x1 dq os
  have cx2 := fun dq os => cell_regrown x2 dq os
  have cx3 := fun dq os => cell_regrown x3 dq os
  have cx4 := fun dq os => cell_regrown x4 dq os
  have cy0 := fun dq os => cell_regrown y0 dq os
  have cy1 := fun dq os => cell_regrown y1 dq os
  have cy2 := fun dq os => cell_regrown y2 dq os
  have cy3 := fun dq os => cell_regrown y3 dq os
  have cy4 := fun dq os => cell_regrown y4 dq os
  clear x0 x1 x2 x3 x4 y0 y1 y2 y3 y4
  by_cases hk : k1 = k2
  · subst hk
    rw [decide_eq_true rfl, Bool.true_and]
    by_cases hs : s1 = s2
    · subst hs
      rw [decide_eq_true rfl, Bool.true_and]
      by_cases hu : u1 = u2
      · subst hu
        rw [decide_eq_true rfl, Bool.true_and]
        cases qa with
        | true =>
          rw [Bool.true_and]
          by_cases hl : l1 = l2
          · subst hl
            rw [decide_eq_true rfl]
            go_enter Tryz.func47, Tryz.ntmps47
            go_upto_region 1 with (fail)
            refine wp_region_quiet_below (by kernel_rfl) (by kernel_rfl) ?_
            repeat (go_big_quiet_step (with_reducible exact cE _ _))
            refine wpQuiet_nil ?_
            intro _ hw'
            obtain ⟨⟨dq, osq⟩, hw''⟩ := hw'
            subst hw''
            go_wp2_with fail
            go_ret
            exact ⟨rfl, below_regrown w dq osq⟩
          · rw [decide_eq_false hl]
            have hli : ((l1 : Int) == (l2 : Int)) = false := by rw [beq_eq_false_iff_ne]; omega
            go_enter Tryz.func47, Tryz.ntmps47
            go_upto_region 1 with (fail)
            refine wp_region_quiet_below (by kernel_rfl) (by kernel_rfl) ?_
            repeat (go_big_quiet_step (with_reducible exact cE _ _))
            refine wpQuiet_nil ?_
            intro _ hw'
            obtain ⟨⟨dq, osq⟩, hw''⟩ := hw'
            subst hw''
            go_wp2_with fail
            go_ret
            exact ⟨rfl, below_regrown w dq osq⟩
        | false =>
          rw [Bool.false_and]
          go_enter Tryz.func47, Tryz.ntmps47
          go_upto_region 1 with (fail)
          refine wp_region_quiet_below (by kernel_rfl) (by kernel_rfl) ?_
          repeat (go_big_quiet_step (with_reducible exact cE _ _))
          refine wpQuiet_nil ?_
          intro _ hw'
          obtain ⟨⟨dq, osq⟩, hw''⟩ := hw'
          subst hw''
          go_wp2_with fail
          go_ret
          exact ⟨rfl, below_regrown w dq osq⟩
      · have hue : (u1.toList == u2.toList) = false := bytes_ne hu
        rw [decide_eq_false hu, Bool.false_and, Bool.false_and]
        go_enter Tryz.func47, Tryz.ntmps47
        go_upto_region 1 with (fail)
        refine wp_region_quiet_below (by kernel_rfl) (by kernel_rfl) ?_
        repeat (go_big_quiet_step (with_reducible exact cE _ _))
        refine wpQuiet_nil ?_
        intro _ hw'
        obtain ⟨⟨dq, osq⟩, hw''⟩ := hw'
        subst hw''
        go_wp2_with fail
        go_ret
        exact ⟨rfl, below_regrown w dq osq⟩
    · have hse : (s1.toList == s2.toList) = false := bytes_ne hs
      rw [decide_eq_false hs, Bool.false_and, Bool.false_and, Bool.false_and]
      go_enter Tryz.func47, Tryz.ntmps47
      go_upto_region 1 with (fail)
      refine wp_region_quiet_below (by kernel_rfl) (by kernel_rfl) ?_
      repeat (go_big_quiet_step (with_reducible exact cE _ _))
      refine wpQuiet_nil ?_
      intro _ hw'
      obtain ⟨⟨dq, osq⟩, hw''⟩ := hw'
      subst hw''
      go_wp2_with fail
      go_ret
      exact ⟨rfl, below_regrown w dq osq⟩
  · have hke : (k1 == k2) = false := beq_eq_false_iff_ne.2 hk
    rw [decide_eq_false hk, Bool.false_and, Bool.false_and, Bool.false_and, Bool.false_and]
    go_enter Tryz.func47, Tryz.ntmps47
    go_upto_region 1 with (fail)
    refine wp_region_quiet_below (by kernel_rfl) (by kernel_rfl) ?_
    repeat (go_big_quiet_step (with_reducible exact cE _ _))
    refine wpQuiet_nil ?_
    intro _ hw'
    obtain ⟨⟨dq, osq⟩, hw''⟩ := hw'
    subst hw''
    go_wp2_with fail
    go_ret
    exact ⟨rfl, below_regrown w dq osq⟩

end Go.Proofs.YtfonflbpkbibbaaGreatDoor
