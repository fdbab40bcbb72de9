/-
  The program's takes. Conditions: the disk lies in memory; numbers and names are small.
-/
import Derived.Test.YtfiacojgddpphaaArm
namespace Go.Proofs.Ytfiacojgddpphaa
open Go.RowKit Go.Lib Go.Joins

/-- Whether a file can be loaded beside those that are there. -/
def takesB (d : Dsk) (f : FilI) : Bool := nmd f.name && !(fnd f.name d.L).isSome && decide (d.L.length < 64) && decide (0 ≤ f.safe) && decide (f.safe ≤ (f.data.length : Int)) && decide ((f.data.length : Int) ≤ d.room - (used d.L : Int))

set_option maxRecDepth 100000 in
set_option maxHeartbeats 4000000 in
theorem takes_calls (s : ByteArray) (a : Option Addr) (l : List Nat) (cap : Nat) (z : Int) (w : World) {S : Nat → Prop} {B : Nat} {d : Dsk} (hd : Disk w S B d) (hu : used d.L ≤ 1073741824) (hz : s.size ≤ 1099511627776) (_hl : l.length ≤ 1073741824) :
    Calls Try.prog 32 #[.pointer (some ⟨B, 0, none⟩), .agg #[.string s, .slice a l.length cap, .int .i64 z]] w (Leaves (.bool (takesB d ⟨s, l, z⟩)) w) := by
  obtain ⟨hi, _, F, T, cs, h⟩ := hd
  obtain ⟨len, hln⟩ : ∃ len, l.length = len := ⟨_, rfl⟩
  obtain ⟨W, hW⟩ : ∃ W, w.alloc (.cells #[.string s, .slice a len cap, .int .i64 z] 52) = W := ⟨_, rfl⟩
  have hbel : Below w.heap.size w W := by rw [← hW]; exact (Below.refl _ _).alloc (Nat.le_refl _) _
  have hx : W.heap[w.heap.size]? = some (.cells #[.string s, .slice a len cap, .int .i64 z] 52 (0, 0)) := by rw [← hW]; exact heap_alloc_new w _
  have hal := h.below hbel
  obtain ⟨V, hV⟩ := ptr_is (cfnd s cs)
  have hcf := fnd_cs h s
  have hcl : cs.length = d.L.length := by rw [← h.is, List.length_map]
  have hnm := fun w => named_calls s w hz
  have c0 : W.cell? ⟨w.heap.size, 0, none⟩ = some (.string s) := (cell_of_block hx 0).trans rfl
  have g0 : ∀ W', Below W.heap.size W W' → W'.cell? ⟨w.heap.size, 0, none⟩ = some (.string s) ∧ W'.cell? ⟨w.heap.size, 1, none⟩ = some (.slice a len cap) ∧ W'.cell? ⟨w.heap.size, 2, none⟩ = some (.int .i64 z) ∧ W'.cell? ⟨B, 1, none⟩ = some (.map (some F)) ∧
      W'.ownsMap Try.prog 9 Rp F cs.length (dat cs) := fun W' hb =>
    ⟨(cell_of_block (block_below hb hx) 0).trans rfl, (cell_of_block (block_below hb hx) 1).trans rfl, (cell_of_block (block_below hb hx) 2).trans rfl, (cell_of_block (hal.below hb).blk 1).trans rfl, (hal.below hb).map⟩
  have hlk : ∀ W', W'.ownsMap Try.prog 9 Rp F cs.length (dat cs) → (Instr.lookup 69 (.map (some F)) (.string s) false).run Try.prog W' = .ok (.pointer V) W' := fun W' ho => by
    rw [← hV]
    exact look_run ho (by unfold maxLen; omega)
  have HLF : ∀ W', Below W.heap.size W W' → Calls Try.prog 49 #[.pointer (some ⟨B, 0, none⟩)] W' (Leaves (.int .i64 (d.room - (used d.L : Int))) W') := fun W' hb => left_calls W' (hal.below hb) hi hu
  have G0 := Lib.hid g0
  have HLK := Lib.hid hlk
  obtain ⟨Q, hQ⟩ : ∃ Q, d.room - (used d.L : Int) = Q := ⟨_, rfl⟩
  rw [hQ] at HLF
  have HLFF := Lib.hid HLF
  have HBEL := Lib.hid hbel
  have hmost := hi.most
  unfold takesB
  dsimp only
  rw [hln, hQ, ← hcl]
  rw [← hcl] at hmost
  have hsd := size_dat cs
  obtain ⟨N, hN⟩ : ∃ N, cs.length = N := ⟨_, rfl⟩
  rw [hN] at hsd hmost ⊢
  simp only [hN] at G0 HLK
  rw [hcf]
  have HSD := Lib.hid hsd
  cases hn : nmd s with
  | false =>
    rw [hn] at hnm
    have HNM := Lib.hid hnm
    rw [show (false && !(Option.map Cel.f (cfnd s cs)).isSome && decide (N < 64) && decide (0 ≤ z) && decide (z ≤ (len : Int)) && decide ((len : Int) ≤ Q)) = false from rfl]
    clear hV hal hz hi h hx hbel hcf hcl hnm hlk g0 HLF hu hQ hln hsd hN
    go_enter Try.func32, Try.ntmps32
    go_wp2_with fail
    with_reducible refine (HNM.out _).mono ?_
    rintro e w3 ⟨rfl, hb3⟩
    obtain ⟨k0, k1, k2, kB, k3⟩ := G0.out w3 hb3
    have HB3 := Lib.hid (HBEL.out.trans (hb3.mono HBEL.out.size))
    clear hb3 k3
    go_wp2
    go_ret
    exact ⟨rfl, HB3.out⟩
  | true =>
    rw [hn] at hnm
    have HNM := Lib.hid hnm
    cases hc : cfnd s cs with
    | some c =>
      rw [hc] at hV
      have hVe : V = some ⟨c.fb, 0, none⟩ := (Value.pointer.inj hV).symm
      subst hVe
      rw [show (true && !(Option.map Cel.f (some c)).isSome && decide (N < 64) && decide (0 ≤ z) && decide (z ≤ (len : Int)) && decide ((len : Int) ≤ Q)) = false from rfl]
      clear hc hn hV hal hz hi h hx hbel hcf hcl hnm hlk g0 HLF hu hQ hln hsd hN
      go_enter Try.func32, Try.ntmps32
      go_wp2_with fail
      with_reducible refine (HNM.out _).mono ?_
      rintro e w3 ⟨rfl, hb3⟩
      obtain ⟨k0, k1, k2, kB, k3⟩ := G0.out w3 hb3
      have HB3 := Lib.hid (HBEL.out.trans (hb3.mono HBEL.out.size))
      have hlook := fun n => HLK.out (w3.drewN n) k3
      clear hb3 k3
      go_wp2
      go_quiet (fail)
      go_wp2
      go_ret
      exact ⟨rfl, HB3.out.trans (below_draws _ _ _)⟩
    | none =>
      rw [hc] at hV
      have hVe : V = none := (Value.pointer.inj hV).symm
      subst hVe
      rw [show (true && !(Option.map Cel.f (none : Option Cel)).isSome && decide (N < 64) && decide (0 ≤ z) && decide (z ≤ (len : Int)) && decide ((len : Int) ≤ Q)) = (decide (N < 64) && decide (0 ≤ z) && decide (z ≤ (len : Int)) && decide ((len : Int) ≤ Q)) by simp]
      clear hc hn hV hal hz hi h hx hbel hcf hcl hnm hlk g0 HLF hu hQ hln hsd hN
      by_cases h64 : 64 ≤ N
      · have hd64 : decide ((64 : Int) ≤ (N : Int)) = true := by simp; omega
        have HE : Hid ((decide (N < 64) && decide (0 ≤ z) && decide (z ≤ (len : Int)) && decide ((len : Int) ≤ Q)) = false) := Lib.hid (by rw [decide_eq_false (by omega : ¬ N < 64)]; simp)
        go_enter Try.func32, Try.ntmps32
        go_wp2_with fail
        with_reducible refine (HNM.out _).mono ?_
        rintro e w3 ⟨rfl, hb3⟩
        obtain ⟨k0, k1, k2, kB, k3⟩ := G0.out w3 hb3
        have HB3 := Lib.hid (HBEL.out.trans (hb3.mono HBEL.out.size))
        have hlook := fun n => HLK.out (w3.drewN n) k3
        have HK3 := Lib.hid k3
        have HB33 := Lib.hid hb3
        clear hb3 k3
        go_wp2
        go_quiet (fail)
        have k4 : (w3.drewN nq).ownsMap Try.prog 9 Rp F N (dat cs) := HK3.out
        go_wp2_with (first | (at_len; refine wpList_len_own _ rfl _ 69 rfl 9 65 Try.underlying69 Rp F N (dat cs) rfl k4 ?_; rw [HSD.out]) | fail)
        go_ret
        exact ⟨by rw [HE.out]; rfl, HB3.out.trans (below_draws _ _ _)⟩
      · have hd64 : decide ((64 : Int) ≤ (N : Int)) = false := by simp; omega
        have hN64 : decide (N < 64) = true := by simp; omega
        by_cases hz0 : z < 0
        · have dz : decide (z < 0) = true := by simpa using hz0
          have HE : Hid ((decide (N < 64) && decide (0 ≤ z) && decide (z ≤ (len : Int)) && decide ((len : Int) ≤ Q)) = false) := Lib.hid (by rw [decide_eq_false (by omega : ¬ 0 ≤ z)]; simp)
          go_enter Try.func32, Try.ntmps32
          go_wp2_with fail
          with_reducible refine (HNM.out _).mono ?_
          rintro e w3 ⟨rfl, hb3⟩
          obtain ⟨k0, k1, k2, kB, k3⟩ := G0.out w3 hb3
          have HB3 := Lib.hid (HBEL.out.trans (hb3.mono HBEL.out.size))
          have hlook := fun n => HLK.out (w3.drewN n) k3
          have HK3 := Lib.hid k3
          have HB33 := Lib.hid hb3
          clear hb3 k3
          go_wp2
          go_quiet (fail)
          have k4 : (w3.drewN nq).ownsMap Try.prog 9 Rp F N (dat cs) := HK3.out
          go_wp2_with (first | (at_len; refine wpList_len_own _ rfl _ 69 rfl 9 65 Try.underlying69 Rp F N (dat cs) rfl k4 ?_; rw [HSD.out]) | fail)
          go_ret
          exact ⟨by rw [HE.out]; rfl, HB3.out.trans (below_draws _ _ _)⟩
        · have dz : decide (z < 0) = false := by simpa using hz0
          have dz1 : decide (0 ≤ z) = true := by simp; omega
          by_cases hz1 : (len : Int) < z
          · have dl : decide ((len : Int) < z) = true := by simpa using hz1
            have HE : Hid ((decide (N < 64) && decide (0 ≤ z) && decide (z ≤ (len : Int)) && decide ((len : Int) ≤ Q)) = false) := Lib.hid (by rw [decide_eq_false (by omega : ¬ z ≤ (len : Int))]; simp)
            go_enter Try.func32, Try.ntmps32
            go_wp2_with fail
            with_reducible refine (HNM.out _).mono ?_
            rintro e w3 ⟨rfl, hb3⟩
            obtain ⟨k0, k1, k2, kB, k3⟩ := G0.out w3 hb3
            have HB3 := Lib.hid (HBEL.out.trans (hb3.mono HBEL.out.size))
            have hlook := fun n => HLK.out (w3.drewN n) k3
            have HK3 := Lib.hid k3
            have HB33 := Lib.hid hb3
            clear hb3 k3
            go_wp2
            go_quiet (fail)
            have k4 : (w3.drewN nq).ownsMap Try.prog 9 Rp F N (dat cs) := HK3.out
            go_wp2_with (first | (at_len; refine wpList_len_own _ rfl _ 69 rfl 9 65 Try.underlying69 Rp F N (dat cs) rfl k4 ?_; rw [HSD.out]) | fail)
            go_ret
            exact ⟨by rw [HE.out]; rfl, HB3.out.trans (below_draws _ _ _)⟩
          · have dl : decide ((len : Int) < z) = false := by simpa using hz1
            have HE : Hid ((decide (N < 64) && decide (0 ≤ z) && decide (z ≤ (len : Int)) && decide ((len : Int) ≤ Q)) = decide ((len : Int) ≤ Q)) := Lib.hid (by rw [hN64, dz1, decide_eq_true (by omega : z ≤ (len : Int))]; simp)
            clear hN64 dz1
            go_enter Try.func32, Try.ntmps32
            go_wp2_with fail
            with_reducible refine (HNM.out _).mono ?_
            rintro e w3 ⟨rfl, hb3⟩
            obtain ⟨k0, k1, k2, kB, k3⟩ := G0.out w3 hb3
            have HB3 := Lib.hid (HBEL.out.trans (hb3.mono HBEL.out.size))
            have hlook := fun n => HLK.out (w3.drewN n) k3
            have HK3 := Lib.hid k3
            have HB33 := Lib.hid hb3
            clear hb3 k3
            go_wp2
            go_quiet (fail)
            have k4 : (w3.drewN nq).ownsMap Try.prog 9 Rp F N (dat cs) := HK3.out
            go_wp2_with (first | (at_len; refine wpList_len_own _ rfl _ 69 rfl 9 65 Try.underlying69 Rp F N (dat cs) rfl k4 ?_; rw [HSD.out]) | fail)
            obtain ⟨j0, j1, j2, jB, j3⟩ := G0.out (w3.drewN nq) (HB33.out.trans (below_draws _ _ _))
            have cU := fun dq os => Calls.regrown_of (HLFF.out _ ((HB33.out.trans (below_draws _ _ _)).trans ((below_regrown (w3.drewN nq) dq os).mono HB33.out.size)))
            have c1 := fun dq os => cell_regrown j1 dq os
            clear j0 j1 j2 jB j3
            refine wp_region_quiet_below (by kernel_rfl) (by kernel_rfl) ?_
            repeat (quiet_step (exact cU _ _))
            refine wpQuiet_nil ?_
            intro _ hw'
            obtain ⟨⟨dq, osq⟩, hw''⟩ := hw'
            subst hw''
            go_wp2
            go_ret
            exact ⟨by rw [HE.out]; rfl, (HB3.out.trans (below_draws _ _ _)).trans ((below_regrown (w3.drewN nq) dq osq).mono HB3.out.size)⟩

end Go.Proofs.Ytfiacojgddpphaa
