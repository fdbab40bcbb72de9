/-
  The program's Append. Conditions: the disk lies in memory; numbers and names are small; the bytes are those of a slice that isn't the disk's.
-/
import Derived.Test.YtfiacojgddpphaaOps4
namespace Go.Proofs.Ytfiacojgddpphaa
open Go.RowKit Go.Lib Go.Joins

theorem add_file {w1 w2 : World} {S : Nat → Prop} {B : Nat} {d : Dsk} {F : Nat} {T : Option Nat} {cs : List Cel} (h1 : DiskAt w1 S B d F T cs) (hs : Srt d.L) {s : ByteArray} {c : Cel} (hc : cfnd s cs = some c) {l : List Nat} {m : Nat} (hm : l.length = m)
    (ha : AddF c.fb c.dv (c.f.safe : Int) (c.f.data.length + m) (cellsN c.f.data ++ cellsN l) w1 w2) : Half w1 S B { d with L := upd s (addB l) d.L } w2 ∧ Keeps (fun k => k = c.fb ∨ c.dv.ownBlock = some k) w1 w2 := by
  subst hm
  obtain ⟨dv', h2, h3, h4, h5⟩ := ha
  obtain ⟨hm, hcn⟩ := cfnd_some hc
  refine ⟨⟨⟨F, T, cs.map (chg s (addB l) dv'), ?_⟩, h5.mono (fun k _ e => by rcases e with e | e; rw [e]; exact h1.sfb c hm; exact h1.sdb c hm k e)⟩, h5⟩
  refine h1.file_changed hs hc h5 (f' := addB l) (fun _ => rfl) (dv' := dv') h2 ?_ h4
  rw [← cellsN_app] at h3
  show w2.ownsRow 0 5 1 dv' (c.f.data ++ l).length (cellsN (c.f.data ++ l))
  rw [List.length_append]
  exact h3

set_option maxRecDepth 100000 in
set_option maxHeartbeats 4000000 in
theorem append_calls (s : ByteArray) (a : Option Addr) (l : List Nat) (cap : Nat) (w : World) {S S0 : Nat → Prop} {B : Nat} {d : Dsk} (hd : Disk w S B d) (hs : Sml d) (hz : s.size ≤ 1099511627776) (hr : Row w S0 a l) (hS0 : ∀ k, S0 k → k < w.heap.size ∧ ¬ S k) (hac : a = none → cap = 0) (hlc : l.length ≤ cap) (hcm : cap ≤ maxLen) (hl : l.length ≤ 1073741824) (to : ByteArray) (n : Int) :
    Calls Try.prog 27 #[.pointer (some ⟨B, 0, none⟩), .string s, .slice a l.length cap] w (Does w S B (.int .i64 (step d ⟨2, s, to, n, l⟩).1) (step d ⟨2, s, to, n, l⟩).2) := by
  obtain ⟨hi, _, F, T, cs, h⟩ := hd
  obtain ⟨V, hV⟩ := ptr_is (cfnd s cs)
  obtain ⟨W1, hW1⟩ : ∃ W1, w.alloc (.cells #[.slice a l.length cap] 35) = W1 := ⟨_, rfl⟩
  have hbel1 : Below w.heap.size w W1 := by rw [← hW1]; exact (Below.refl _ _).alloc (Nat.le_refl _) _
  have hx0 : W1.heap[w.heap.size]? = some (.cells #[.slice a l.length cap] 35 (0, 0)) := by rw [← hW1]; exact heap_alloc_new w _
  have hsz : W1.heap.size = w.heap.size + 1 := by rw [← hW1]; simp
  obtain ⟨W, hW⟩ : ∃ W, W1.alloc (.cells #[.pointer V] 65) = W := ⟨_, rfl⟩
  have hbel2 : Below W1.heap.size W1 W := by rw [← hW]; exact (Below.refl _ _).alloc (Nat.le_refl _) _
  have hy0 := block_below hbel2 hx0
  have hy1 : W.heap[w.heap.size + 1]? = some (.cells #[.pointer V] 65 (0, 0)) := by rw [← hW, ← hsz]; exact heap_alloc_new W1 _
  have hbel := below_then hbel1 hbel2
  have hal := h.below hbel
  have hfc := find_calls s W1 (h.below hbel1) hz
  have hcf := fnd_cs h s
  have hb8 : ∀ c ∈ l, c < 256 := hr.1
  have HOP : ∀ W', Below W.heap.size W W' → Calls Try.prog 47 #[.pointer (some ⟨B, 0, none⟩), .agg #[.int .i64 (ref d ⟨2, s, to, n, l⟩), .func (.func 50) #[] #[.pointer (some ⟨w.heap.size + 1, 0, none⟩), .pointer (some ⟨w.heap.size, 0, none⟩)],
      .func (.func 51) #[] #[.pointer (some ⟨w.heap.size + 1, 0, none⟩), .pointer (some ⟨w.heap.size, 0, none⟩)]]] W'
      (Does w S B (.int .i64 (step d ⟨2, s, to, n, l⟩).1) (step d ⟨2, s, to, n, l⟩).2) := fun W' hb => by
    have hal' := hal.below hb
    have hk' : Keeps S w W' := keeps_below (below_then hbel hb) S
    have rowAt : ∀ w1, Keeps (One B) W' w1 → Row w1 S0 a l := fun w1 hk1 => Row.keep hr (hk'.trans (S' := One B) hk1 (fun k e => .inl (by rw [show k = B from e]; exact h.sB))) (fun k hk => (hS0 k hk).2)
    refine Calls.after (operate_does (o := ⟨2, s, to, n, l⟩) hal' hi hs hb8 50 _ (.func (.func 51) #[] #[.pointer (some ⟨w.heap.size + 1, 0, none⟩), .pointer (some ⟨w.heap.size, 0, none⟩)]) enters50 ?_
      (.inr ⟨51, _, fun k => ∃ c, cfnd s cs = some c ∧ (k = c.fb ∨ c.dv.ownBlock = some k), rfl, ?_, enters51, ?_⟩)) hk'
    · intro hr0 w1 h1 hk1
      cases hc : cfnd s cs with
      | none => rw [hc] at hcf; rw [ref_none (by simp) hcf] at hr0; cases hr0
      | some c =>
        rw [hc] at hV
        have hVe : V = some ⟨c.fb, 0, none⟩ := (Value.pointer.inj hV).symm
        rw [hVe] at hy1
        obtain ⟨hm, hcn⟩ := cfnd_some hc
        have hlen : c.f.data.length ≤ 1073741824 := Nat.le_trans (used_mem (by rw [← h.is]; exact List.mem_map.2 ⟨c, hm, rfl⟩)) hs.used
        refine (append1_calls (w.heap.size + 1) w.heap.size c.fb c.dv c.f.data.length l.length cap a (c.f.safe : Int) (cellsN c.f.data) l S0 w1 (box_keep hal' hk1 (block_below hb hy1)) (box_keep hal' hk1 (block_below hb hy0)) (h1.file c hm) (h1.row c hm) rfl (rowAt w1 hk1) hac (by omega)).mono ?_
        rintro e w2 ⟨rfl, ha⟩
        exact ⟨rfl, (add_file h1 hi.srt hc rfl ha).1⟩
    · rintro k ⟨c, hc, hk⟩
      obtain ⟨hm, _⟩ := cfnd_some hc
      rcases hk with rfl | hk
      · exact ⟨lt_of_block (hal'.file c hm), elem_ne (hal'.file c hm) hal'.blk (by decide)⟩
      · exact ⟨((hal'.row c hm).lt k hk).2, fun e => other_elem hal'.blk (hal'.row c hm) (by decide) (by rw [hk, e])⟩
    · intro hr0 p w1 h1 hk1
      cases hc : cfnd s cs with
      | none => rw [hc] at hcf; rw [ref_none (by simp) hcf] at hr0; cases hr0
      | some c =>
        rw [hc] at hV
        have hVe : V = some ⟨c.fb, 0, none⟩ := (Value.pointer.inj hV).symm
        rw [hVe] at hy1
        obtain ⟨hm, hcn⟩ := cfnd_some hc
        have hlen : c.f.data.length ≤ 1073741824 := Nat.le_trans (used_mem (by rw [← h.is]; exact List.mem_map.2 ⟨c, hm, rfl⟩)) hs.used
        refine (append2_calls p (w.heap.size + 1) w.heap.size c.fb c.dv c.f.data.length cap a (c.f.safe : Int) (cellsN c.f.data) l S0 w1 (box_keep hal' hk1 (block_below hb hy1)) (box_keep hal' hk1 (block_below hb hy0)) (h1.file c hm) (h1.row c hm) (rowAt w1 hk1) hac hlc hcm (by omega)).mono ?_
        rintro e w2 ⟨rfl, ha⟩
        have hh := add_file h1 hi.srt hc (l := l.take (wth p l.length)) (by rw [List.length_take]; have := wth_le p l.length; omega) ha
        exact ⟨rfl, hh.1, hh.2.mono (fun k _ hk => ⟨c, rfl, hk⟩)⟩
  have e0 := box_cell hy0
  have e1 := box_cell hy1
  rw [hV] at hfc
  have HLF : ∀ W', Below W.heap.size W W' → Calls Try.prog 49 #[.pointer (some ⟨B, 0, none⟩)] W' (Leaves (.int .i64 (d.room - (used d.L : Int))) W') := fun W' hb => left_calls W' (hal.below hb) hi hs.used
  obtain ⟨len, hln⟩ : ∃ len, l.length = len := ⟨_, rfl⟩
  rw [hln] at hW1 e0 hl ⊢
  cases hc : cfnd s cs with
  | none =>
    rw [hc] at hfc hcf
    rw [ref_none (by simp) hcf] at HOP
    dsimp only [Option.isSome] at hfc
    simp only [Bool.false_eq_true, if_false] at hfc
    have HFC := Lib.hid hfc
    have HHOP := Lib.hid HOP
    clear hfc hV hal HOP hz hs hi h hx0 hy0 hy1 hbel hbel1 hbel2 hcf hc HLF hr hS0 hac hlc hcm hb8 hln
    go_enter Try.func27, Try.ntmps27
    go_wp2_with fail
    refine HFC.out.mono ?_
    rintro e w' ⟨rfl, rfl⟩
    go_wp2
    go_quiet (fail)
    have HHOP3 := Lib.hid (HHOP.out (W.drewN nq) (below_draws _ _ _))
    go_wp2_with fail
    with_reducible refine HHOP3.out.mono ?_
    rintro e w2 ⟨rfl, hT⟩
    have HT := Lib.hid hT
    clear hT
    go_wp2
    go_ret
    exact ⟨rfl, HT.out⟩
  | some c =>
    rw [hc] at hfc hcf hV
    have hre : ref d ⟨2, s, to, n, l⟩ = if d.room - (used d.L : Int) < (l.length : Int) then 40 else 0 := (ref_some (by simp) hcf).trans rfl
    rw [hre, hln] at HOP
    dsimp only [Option.isSome] at hfc
    simp only [if_true] at hfc
    have HFC := Lib.hid hfc
    obtain ⟨Q, hQ⟩ : ∃ Q, d.room - (used d.L : Int) = Q := ⟨_, rfl⟩
    rw [hQ] at HOP HLF
    have HLFF := Lib.hid HLF
    have cU := fun dq os => Calls.regrown_of (HLFF.out _ (below_regrown W dq os))
    have c0 := fun dq os => cell_regrown e0 dq os
    clear hfc hV hal hz hs hi h hx0 hy0 hy1 hbel hbel1 hbel2 hcf hc hre HLF HLFF hr hS0 hac hlc hcm hb8 hln hQ e0
    by_cases k1 : Q < (len : Int)
    · rw [if_pos k1] at HOP
      have HHOP := Lib.hid HOP
      have d1 : decide (Q < (len : Int)) = true := by simpa using k1
      clear HOP
      go_enter Try.func27, Try.ntmps27
      go_wp2_with fail
      refine HFC.out.mono ?_
      rintro e w' ⟨rfl, rfl⟩
      go_wp2
      refine wp_region_quiet_below (by kernel_rfl) (by kernel_rfl) ?_
      repeat (any_goals (first | go_big_quiet_step (exact cU _ _) | quiet_step (exact cU _ _)))
      refine wpQuiet_nil ?_
      intro _ hw'
      obtain ⟨⟨dq, osq⟩, hw''⟩ := hw'
      subst hw''
      have HHOP3 := Lib.hid (HHOP.out _ (below_regrown W dq osq))
      go_wp2_with fail
      with_reducible refine HHOP3.out.mono ?_
      rintro e w2 ⟨rfl, hT⟩
      have HT := Lib.hid hT
      clear hT
      go_wp2
      go_ret
      exact ⟨rfl, HT.out⟩
    · rw [if_neg k1] at HOP
      have HHOP := Lib.hid HOP
      have d1 : decide (Q < (len : Int)) = false := by simpa using k1
      clear HOP
      go_enter Try.func27, Try.ntmps27
      go_wp2_with fail
      refine HFC.out.mono ?_
      rintro e w' ⟨rfl, rfl⟩
      go_wp2
      refine wp_region_quiet_below (by kernel_rfl) (by kernel_rfl) ?_
      repeat (any_goals (first | go_big_quiet_step (exact cU _ _) | quiet_step (exact cU _ _)))
      refine wpQuiet_nil ?_
      intro _ hw'
      obtain ⟨⟨dq, osq⟩, hw''⟩ := hw'
      subst hw''
      have HHOP3 := Lib.hid (HHOP.out _ (below_regrown W dq osq))
      go_wp2_with fail
      with_reducible refine HHOP3.out.mono ?_
      rintro e w2 ⟨rfl, hT⟩
      have HT := Lib.hid hT
      clear hT
      go_wp2
      go_ret
      exact ⟨rfl, HT.out⟩

end Go.Proofs.Ytfiacojgddpphaa
