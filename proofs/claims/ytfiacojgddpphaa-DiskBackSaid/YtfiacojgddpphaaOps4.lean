/-
  The program's Cut. Conditions: the disk lies in memory; numbers and names are small.
-/
import Derived.Test.YtfiacojgddpphaaOps3
namespace Go.Proofs.Ytfiacojgddpphaa
open Go.RowKit Go.Lib Go.Joins

set_option maxRecDepth 100000 in
set_option maxHeartbeats 4000000 in
theorem cut_calls (s : ByteArray) (n : Int) (w : World) {S : Nat → Prop} {B : Nat} {d : Dsk} (hd : Disk w S B d) (hs : Sml d) (hz : s.size ≤ 1099511627776) (to : ByteArray) :
    Calls Try.prog 37 #[.pointer (some ⟨B, 0, none⟩), .string s, .int .i64 n] w (Does w S B (.int .i64 (step d ⟨3, s, to, n, []⟩).1) (step d ⟨3, s, to, n, []⟩).2) := by
  obtain ⟨hi, _, F, T, cs, h⟩ := hd
  obtain ⟨V, hV⟩ := ptr_is (cfnd s cs)
  obtain ⟨W1, hW1⟩ : ∃ W1, w.alloc (.cells #[.int .i64 n] 3) = W1 := ⟨_, rfl⟩
  have hbel1 : Below w.heap.size w W1 := by rw [← hW1]; exact (Below.refl _ _).alloc (Nat.le_refl _) _
  have hx0 : W1.heap[w.heap.size]? = some (.cells #[.int .i64 n] 3 (0, 0)) := by rw [← hW1]; exact heap_alloc_new w _
  have hsz : W1.heap.size = w.heap.size + 1 := by rw [← hW1]; simp
  obtain ⟨W, hW⟩ : ∃ W, W1.alloc (.cells #[.pointer V] 65) = W := ⟨_, rfl⟩
  have hbel2 : Below W1.heap.size W1 W := by rw [← hW]; exact (Below.refl _ _).alloc (Nat.le_refl _) _
  have hy0 := block_below hbel2 hx0
  have hy1 : W.heap[w.heap.size + 1]? = some (.cells #[.pointer V] 65 (0, 0)) := by rw [← hW, ← hsz]; exact heap_alloc_new W1 _
  have hbel := below_then hbel1 hbel2
  have hal := h.below hbel
  have hfc := find_calls s W1 (h.below hbel1) hz
  have hcf := fnd_cs h s
  have HOP : ∀ W', Below W.heap.size W W' → Calls Try.prog 47 #[.pointer (some ⟨B, 0, none⟩), .agg #[.int .i64 (ref d ⟨3, s, to, n, []⟩), .func (.func 57) #[] #[.pointer (some ⟨w.heap.size + 1, 0, none⟩), .pointer (some ⟨w.heap.size, 0, none⟩)], .nilFunc]] W'
      (Does w S B (.int .i64 (step d ⟨3, s, to, n, []⟩).1) (step d ⟨3, s, to, n, []⟩).2) := fun W' hb => by
    have hal' := hal.below hb
    refine Calls.after (operate_does (o := ⟨3, s, to, n, []⟩) hal' hi hs (fun _ h => by cases h) 57 _ .nilFunc enters57 ?_ (.inl ⟨rfl, by simp⟩)) (keeps_below (below_then hbel hb) S)
    intro hr0 w1 h1 hk1
    cases hc : cfnd s cs with
    | none => rw [hc] at hcf; rw [ref_none (by simp) hcf] at hr0; cases hr0
    | some c =>
      rw [hc] at hV hcf
      have hVe : V = some ⟨c.fb, 0, none⟩ := (Value.pointer.inj hV).symm
      rw [hVe] at hy1
      obtain ⟨hm, hcn⟩ := cfnd_some hc
      have hn : 0 ≤ n ∧ n ≤ (c.f.data.length : Int) := by
        rw [ref_some (by simp) hcf] at hr0
        have hr1 : (if n < 0 ∨ (c.f.data.length : Int) < n then (80 : Int) else 0) = 0 := hr0
        by_cases hx : n < 0 ∨ (c.f.data.length : Int) < n
        · rw [if_pos hx] at hr1; cases hr1
        · omega
      obtain ⟨a, cap, hdv⟩ := dv_form (h1.row c hm)
      have hrow0 := h1.row c hm
      have hfl := h1.file c hm
      rw [hdv] at hfl hrow0
      have hfit : c.f.data.length ≤ cap ∧ cap ≤ maxLen ∧ (a = none → cap = 0) := by
        rcases hrow0.2 with ⟨e1, e2⟩ | ⟨g, cap', cur, e1, _, _, e2, e3, _⟩
        · simp only [Value.slice.injEq] at e1
          exact ⟨by omega, by rw [e1.2.2]; exact Nat.zero_le _, fun _ => e1.2.2⟩
        · simp only [Value.slice.injEq, true_and] at e1
          obtain ⟨rfl, rfl⟩ := e1
          exact ⟨e2, e3, fun e => by cases e⟩
      have hnn : ((n.toNat : Nat) : Int) = n := by omega
      refine (cut1_calls (w.heap.size + 1) w.heap.size c.fb a c.f.data.length cap n.toNat c.f.safe w1 (box_cell (box_keep hal' hk1 (block_below hb hy1))) (by rw [hnn]; exact box_cell (box_keep hal' hk1 (block_below hb hy0))) hfl (by omega) hfit.1 hfit.2.1 hfit.2.2).mono ?_
      rintro e w2 ⟨rfl, hsf⟩
      refine ⟨rfl, ⟨F, T, cs.map (chg s (cutB n.toNat) (.slice a n.toNat cap)), ?_⟩, hsf.2.mono (fun k _ e => by rw [e]; exact h1.sfb c hm)⟩
      have hrow := ownsRow_keep hrow0 hsf.2 (fun k (e : (Value.slice a c.f.data.length cap).ownBlock = some k) (e2 : k = c.fb) => other_elem hfl hrow0 (by decide) (by rw [e, e2]))
      have hrow2 := ownsRow_take hrow (n := n.toNat) (by omega)
      have hlen : (cutB n.toNat c.f).data.length = n.toNat := by simp only [cutB, List.length_take]; omega
      have := h1.file_changed hi.srt hc (hsf.2.mono (fun k _ e => .inl e)) (f' := cutB n.toNat) (fun _ => rfl) (dv' := .slice a n.toNat cap) hsf.1 (by rw [hlen]; exact hrow2) (fun k e => .inl (by rw [hdv]; cases a <;> exact e))
      exact this
  have e0 := box_cell hy0
  have e1 := box_cell hy1
  rw [hV] at hfc
  cases hc : cfnd s cs with
  | none =>
    rw [hc] at hfc hcf
    rw [ref_none (by simp) hcf] at HOP
    dsimp only [Option.isSome] at hfc
    simp only [Bool.false_eq_true, if_false] at hfc
    have HFC := Lib.hid hfc
    have HHOP := Lib.hid HOP
    clear hfc hV hal HOP hz hs hi h hx0 hy0 hy1 hbel hbel1 hbel2 hcf hc
    go_enter Try.func37, Try.ntmps37
    go_wp2_with fail
    refine HFC.out.mono ?_
    rintro e w' ⟨rfl, rfl⟩
    go_wp2
    go_quiet (fail)
    have HHOP3 := Lib.hid (HHOP.out (W.drewN nq) (below_draws _ _ _))
    go_wp2_with fail
    with_reducible refine HHOP3.out.mono ?_
    rintro e w2 ⟨rfl, hT⟩
    have HT := Lib.hid hT
    clear hT
    go_wp2
    go_ret
    exact ⟨rfl, HT.out⟩
  | some c =>
    rw [hc] at hfc hcf hV
    have hVe : V = some ⟨c.fb, 0, none⟩ := (Value.pointer.inj hV).symm
    subst hVe
    obtain ⟨hm, hcn⟩ := cfnd_some hc
    have hre : ref d ⟨3, s, to, n, []⟩ = if n < 0 ∨ (c.f.data.length : Int) < n then 80 else 0 := (ref_some (by simp) hcf).trans rfl
    rw [hre] at HOP
    dsimp only [Option.isSome] at hfc
    simp only [if_true] at hfc
    have HFC := Lib.hid hfc
    obtain ⟨a, cap, hdv⟩ := dv_form (h.row c hm)
    have hlen : c.f.data.length ≤ 1073741824 := Nat.le_trans (used_mem (by rw [← h.is]; exact List.mem_map.2 ⟨c, hm, rfl⟩)) hs.used
    have hcd : W.cell? ⟨c.fb, 0, none⟩ = some (.slice a c.f.data.length cap) := by rw [← hdv]; exact (cell_of_block (hal.file c hm) 0).trans rfl
    obtain ⟨len, hln⟩ : ∃ len, c.f.data.length = len := ⟨_, rfl⟩
    rw [hln] at HOP hlen hcd
    clear hfc hV hal hz hs hi h hx0 hy0 hy1 hbel hbel1 hbel2 hcf hc hln hre hdv hm hcn
    by_cases k1 : n < 0
    · rw [if_pos (.inl k1)] at HOP
      have HHOP := Lib.hid HOP
      have d1 : decide (n < 0) = true := by simpa using k1
      clear HOP
      go_enter Try.func37, Try.ntmps37
      go_wp2_with fail
      refine HFC.out.mono ?_
      rintro e w' ⟨rfl, rfl⟩
      go_wp2
      go_quiet (fail)
      have HHOP3 := Lib.hid (HHOP.out (W.drewN nq) (below_draws _ _ _))
      go_wp2_with fail
      with_reducible refine HHOP3.out.mono ?_
      rintro e w2 ⟨rfl, hT⟩
      have HT := Lib.hid hT
      clear hT
      go_wp2
      go_ret
      exact ⟨rfl, HT.out⟩
    · have d1 : decide (n < 0) = false := by simpa using k1
      by_cases k2 : (len : Int) < n
      · rw [if_pos (.inr k2)] at HOP
        have HHOP := Lib.hid HOP
        have d2 : decide ((len : Int) < n) = true := by simpa using k2
        clear HOP
        go_enter Try.func37, Try.ntmps37
        go_wp2_with fail
        refine HFC.out.mono ?_
        rintro e w' ⟨rfl, rfl⟩
        go_wp2
        go_quiet (fail)
        have HHOP3 := Lib.hid (HHOP.out (W.drewN nq) (below_draws _ _ _))
        go_wp2_with fail
        with_reducible refine HHOP3.out.mono ?_
        rintro e w2 ⟨rfl, hT⟩
        have HT := Lib.hid hT
        clear hT
        go_wp2
        go_ret
        exact ⟨rfl, HT.out⟩
      · rw [if_neg (by omega)] at HOP
        have HHOP := Lib.hid HOP
        have d2 : decide ((len : Int) < n) = false := by simpa using k2
        clear HOP
        go_enter Try.func37, Try.ntmps37
        go_wp2_with fail
        refine HFC.out.mono ?_
        rintro e w' ⟨rfl, rfl⟩
        go_wp2
        go_quiet (fail)
        have HHOP3 := Lib.hid (HHOP.out (W.drewN nq) (below_draws _ _ _))
        go_wp2_with fail
        with_reducible refine HHOP3.out.mono ?_
        rintro e w2 ⟨rfl, hT⟩
        have HT := Lib.hid hT
        clear hT
        go_wp2
        go_ret
        exact ⟨rfl, HT.out⟩

end Go.Proofs.Ytfiacojgddpphaa
