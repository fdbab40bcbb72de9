/-
  The program's Create. Conditions: the disk lies in memory; numbers and names are small.
-/
import Derived.Test.YtfiacojgddpphaaOps2
namespace Go.Proofs.Ytfiacojgddpphaa
open Go.RowKit Go.Lib Go.Joins

set_option maxRecDepth 100000 in
set_option maxHeartbeats 4000000 in
theorem create_calls (s : ByteArray) (w : World) {S : Nat → Prop} {B : Nat} {d : Dsk} (hd : Disk w S B d) (hs : Sml d) (hz : s.size ≤ 1099511627776) (to : ByteArray) (n : Int) :
    Calls Try.prog 26 #[.pointer (some ⟨B, 0, none⟩), .string s] w (Does w S B (.int .i64 (step d ⟨1, s, to, n, []⟩).1) (step d ⟨1, s, to, n, []⟩).2) := by
  obtain ⟨hi, _, F, T, cs, h⟩ := hd
  obtain ⟨W, hW⟩ : ∃ W, (w.alloc (.cells #[.pointer (some ⟨B, 0, none⟩)] 27)).alloc (.cells #[.string s] 9) = W := ⟨_, rfl⟩
  have hbel : Below w.heap.size w W := by rw [← hW]; exact ((Below.refl _ _).alloc (Nat.le_refl _) _).alloc (by simp) _
  have hx0 : W.heap[w.heap.size]? = some (.cells #[.pointer (some ⟨B, 0, none⟩)] 27 (0, 0)) := by rw [← hW]; exact alloc2_at0 _ _ _
  have hx1 : W.heap[w.heap.size + 1]? = some (.cells #[.string s] 9 (0, 0)) := by rw [← hW]; exact alloc2_at1 _ _ _
  have hal := h.below hbel
  obtain ⟨V, hV⟩ := ptr_is (cfnd s cs)
  have hcf := fnd_cs h s
  have hlen : cs.length = d.L.length := by rw [← h.is, List.length_map]
  have hmost := hi.most
  have HOP : ∀ W', Below W.heap.size W W' → Calls Try.prog 47 #[.pointer (some ⟨B, 0, none⟩), .agg #[.int .i64 (ref d ⟨1, s, to, n, []⟩), .func (.func 48) #[] #[.pointer (some ⟨w.heap.size, 0, none⟩), .pointer (some ⟨w.heap.size + 1, 0, none⟩)], .nilFunc]] W'
      (Does w S B (.int .i64 (step d ⟨1, s, to, n, []⟩).1) (step d ⟨1, s, to, n, []⟩).2) := fun W' hb => by
    have hal' := hal.below hb
    refine Calls.after (operate_does (o := ⟨1, s, to, n, []⟩) hal' hi hs (fun _ h => by cases h) 48 _ .nilFunc enters48 ?_ (.inl ⟨rfl, by simp⟩)) (keeps_below (below_then hbel hb) S)
    intro hr0 w1 h1 hk1
    have hnone : fnd s d.L = none := by
      unfold ref at hr0
      rw [if_pos rfl] at hr0
      by_cases k1 : nmd s = false
      · rw [if_pos k1] at hr0; cases hr0
      rw [if_neg k1] at hr0
      by_cases k2 : (fnd s d.L).isSome = true
      · rw [if_pos k2] at hr0; cases hr0
      · exact fnd_is.1 (by simpa using k2)
    refine (create1_calls w.heap.size (w.heap.size + 1) B F cs.length s (dat cs) w1 (box_cell (box_keep hal' hk1 (block_below hb hx0))) (box_cell (box_keep hal' hk1 (block_below hb hx1))) ((cell_of_block h1.blk 1).trans rfl) h1.map (by omega) hz).mono ?_
    rintro e w2 ⟨rfl, ho⟩
    exact ⟨rfl, ⟨F, T, h1.created (f := ⟨s, [], 0⟩) (dv := .slice none 0 0) hnone ho.2.2 ho.1 ho.2.1 (World.ownsRow_nil _ _ _ _) (Nat.le_refl _) (fun k e => by cases e)⟩, ho.2.2.mono (fun k _ e => by rw [e]; exact h1.sF)⟩
  have hnm := fun w => named_calls s w hz
  have c0 := box_cell hx0
  have c1 := box_cell hx1
  have g0 : ∀ W', Below W.heap.size W W' → W'.cell? ⟨w.heap.size, 0, none⟩ = some (.pointer (some ⟨B, 0, none⟩)) ∧ W'.cell? ⟨w.heap.size + 1, 0, none⟩ = some (.string s) ∧ W'.cell? ⟨B, 1, none⟩ = some (.map (some F)) ∧
      W'.ownsMap Try.prog 9 Rp F cs.length (dat cs) := fun W' hb =>
    ⟨box_cell (block_below hb hx0), box_cell (block_below hb hx1), (cell_of_block (hal.below hb).blk 1).trans rfl, (hal.below hb).map⟩
  have hlk : ∀ W', W'.ownsMap Try.prog 9 Rp F cs.length (dat cs) → (Instr.lookup 69 (.map (some F)) (.string s) false).run Try.prog W' = .ok (.pointer V) W' := fun W' ho => by
    rw [← hV]
    exact look_run ho (by unfold maxLen; omega)
  have G0 := Lib.hid g0
  have HLK := Lib.hid hlk
  have hre : ref d ⟨1, s, to, n, []⟩ = if nmd s = false then 44 else if (fnd s d.L).isSome then 43 else if 64 ≤ d.L.length then 40 else 0 := rfl
  rw [hre] at HOP
  cases hn : nmd s with
  | false =>
    rw [hn] at HOP hnm
    simp only [if_true] at HOP
    have HHOP := Lib.hid HOP
    have HNM := Lib.hid hnm
    clear HOP hz hs hi h hx0 hx1 hbel hnm hre hn hlk g0 hal hcf hmost hlen hV
    go_enter Try.func26, Try.ntmps26
    go_wp2_with fail
    with_reducible refine (HNM.out _).mono ?_
    rintro e w3 ⟨rfl, hb3⟩
    have HHOP3 := Lib.hid (HHOP.out w3 hb3)
    have k0 := (G0.out w3 hb3).1
    clear hb3
    go_wp2_with fail
    with_reducible refine HHOP3.out.mono ?_
    rintro e w2 ⟨rfl, hT⟩
    have HT := Lib.hid hT
    clear hT
    go_wp2
    go_ret
    exact ⟨rfl, HT.out⟩
  | true =>
    rw [hn] at HOP hnm
    simp only [Bool.true_eq_false, if_false] at HOP
    have HNM := Lib.hid hnm
    cases hc : cfnd s cs with
    | some c =>
      rw [hc] at hV hcf
      rw [hcf] at HOP
      simp only [Option.map_some, Option.isSome_some, if_true] at HOP
      have HHOP := Lib.hid HOP
      have hVe : V = some ⟨c.fb, 0, none⟩ := (Value.pointer.inj hV).symm
      subst hVe
      clear HOP hz hs hi h hx0 hx1 hbel hnm hre hn hlk g0 hal hcf hmost hlen hV hc
      go_enter Try.func26, Try.ntmps26
      go_wp2_with fail
      with_reducible refine (HNM.out _).mono ?_
      rintro e w3 ⟨rfl, hb3⟩
      obtain ⟨k0, k1, k2, k3⟩ := G0.out w3 hb3
      have hlook := fun n => HLK.out (w3.drewN n) k3
      have HB3 := Lib.hid hb3
      clear hb3 k3
      go_wp2
      go_quiet (fail)
      have HHOP3 := Lib.hid (HHOP.out (w3.drewN nq) (HB3.out.trans (below_draws _ _ _)))
      go_wp2_with fail
      with_reducible refine HHOP3.out.mono ?_
      rintro e w2 ⟨rfl, hT⟩
      have HT := Lib.hid hT
      clear hT
      go_wp2
      go_ret
      exact ⟨rfl, HT.out⟩
    | none =>
      rw [hc] at hV hcf
      rw [hcf, ← hlen] at HOP
      simp only [Option.map_none, Option.isSome_none, Bool.false_eq_true, if_false] at HOP
      have hVe : V = none := (Value.pointer.inj hV).symm
      subst hVe
      have hsd := size_dat cs
      obtain ⟨N, hN⟩ : ∃ N, cs.length = N := ⟨_, rfl⟩
      rw [hN] at HOP hsd
      simp only [hN] at G0 HLK
      clear hz hs hi h hx0 hx1 hbel hnm hre hn hlk g0 hal hcf hmost hlen hV hc hN
      by_cases h64 : 64 ≤ N
      · rw [if_pos h64] at HOP
        have HHOP := Lib.hid HOP
        have hd64 : decide ((64 : Int) ≤ (N : Int)) = true := by simp; omega
        have HSD := Lib.hid hsd
        clear HOP hsd
        go_enter Try.func26, Try.ntmps26
        go_wp2_with fail
        with_reducible refine (HNM.out _).mono ?_
        rintro e w3 ⟨rfl, hb3⟩
        obtain ⟨k0, k1, k2, k3⟩ := G0.out w3 hb3
        have hlook := fun n => HLK.out (w3.drewN n) k3
        have HB3 := Lib.hid hb3
        have HK3 := Lib.hid k3
        clear hb3 k3
        go_wp2
        go_quiet (fail)
        have HHOP3 := Lib.hid (HHOP.out (w3.drewN nq) (HB3.out.trans (below_draws _ _ _)))
        have k3 : (w3.drewN nq).ownsMap Try.prog 9 Rp F N (dat cs) := HK3.out
        go_wp2_with (first | (at_len; refine wpList_len_own _ rfl _ 69 rfl 9 65 Try.underlying69 Rp F N (dat cs) rfl k3 ?_; rw [HSD.out]) | fail)
        with_reducible refine HHOP3.out.mono ?_
        rintro e w2 ⟨rfl, hT⟩
        have HT := Lib.hid hT
        clear hT
        go_wp2
        go_ret
        exact ⟨rfl, HT.out⟩
      · rw [if_neg h64] at HOP
        have HHOP := Lib.hid HOP
        have hd64 : decide ((64 : Int) ≤ (N : Int)) = false := by simp; omega
        have HSD := Lib.hid hsd
        clear HOP hsd
        go_enter Try.func26, Try.ntmps26
        go_wp2_with fail
        with_reducible refine (HNM.out _).mono ?_
        rintro e w3 ⟨rfl, hb3⟩
        obtain ⟨k0, k1, k2, k3⟩ := G0.out w3 hb3
        have hlook := fun n => HLK.out (w3.drewN n) k3
        have HB3 := Lib.hid hb3
        have HK3 := Lib.hid k3
        clear hb3 k3
        go_wp2
        go_quiet (fail)
        have HHOP3 := Lib.hid (HHOP.out (w3.drewN nq) (HB3.out.trans (below_draws _ _ _)))
        have k3 : (w3.drewN nq).ownsMap Try.prog 9 Rp F N (dat cs) := HK3.out
        go_wp2_with (first | (at_len; refine wpList_len_own _ rfl _ 69 rfl 9 65 Try.underlying69 Rp F N (dat cs) rfl k3 ?_; rw [HSD.out]) | fail)
        with_reducible refine HHOP3.out.mono ?_
        rintro e w2 ⟨rfl, hT⟩
        have HT := Lib.hid hT
        clear hT
        go_wp2
        go_ret
        exact ⟨rfl, HT.out⟩

end Go.Proofs.Ytfiacojgddpphaa
