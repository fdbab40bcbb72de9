/-
  The program's Delete, Rename and Create. Conditions: the disk lies in memory; numbers and names are small.
-/
import Derived.Test.YtfiacojgddpphaaOps
namespace Go.Proofs.Ytfiacojgddpphaa
open Go.RowKit Go.Lib Go.Joins

theorem alloc2_at0 (w : World) (o1 o2 : Obj) : ((w.alloc o1).alloc o2).heap[w.heap.size]? = some o1 := (Below.heap_alloc _ _ _ (by simp)).trans (heap_alloc_new w o1)
theorem alloc2_at1 (w : World) (o1 o2 : Obj) : ((w.alloc o1).alloc o2).heap[w.heap.size + 1]? = some o2 := by
  have := heap_alloc_new (w.alloc o1) o2
  simpa using this

theorem DiskAt.below {w w' : World} {S : Nat → Prop} {B : Nat} {d : Dsk} {F : Nat} {T : Option Nat} {cs : List Cel} (h : DiskAt w S B d F T cs) (hb : Below w.heap.size w w') : DiskAt w' S B d F T cs := h.keep (keeps_below hb Non) (fun _ _ h => h)

theorem ref_find {d : Dsk} {cs : List Cel} {s : ByteArray} (hf : fnd s d.L = (cfnd s cs).map Cel.f) {o : Opn} (hn : o.name = s) (hk : o.kind ≠ 1) (h0 : ∀ f, refF d o f = 0) : ref d o = if (cfnd s cs).isSome then 0 else 42 := by
  subst hn
  cases hc : cfnd o.name cs with
  | none => rw [hc] at hf; exact ref_none hk hf
  | some c => rw [hc] at hf; exact (ref_some hk hf).trans (h0 _)

set_option maxRecDepth 100000 in
set_option maxHeartbeats 4000000 in
theorem delete_calls (s : ByteArray) (w : World) {S : Nat → Prop} {B : Nat} {d : Dsk} (hd : Disk w S B d) (hs : Sml d) (hz : s.size ≤ 1099511627776) (to : ByteArray) (n : Int) :
    Calls Try.prog 38 #[.pointer (some ⟨B, 0, none⟩), .string s] w (Does w S B (.int .i64 (step d ⟨6, s, to, n, []⟩).1) (step d ⟨6, s, to, n, []⟩).2) := by
  obtain ⟨hi, _, F, T, cs, h⟩ := hd
  obtain ⟨W, hW⟩ : ∃ W, (w.alloc (.cells #[.pointer (some ⟨B, 0, none⟩)] 27)).alloc (.cells #[.string s] 9) = W := ⟨_, rfl⟩
  have hbel : Below w.heap.size w W := by rw [← hW]; exact ((Below.refl _ _).alloc (Nat.le_refl _) _).alloc (by simp) _
  have hx0 : W.heap[w.heap.size]? = some (.cells #[.pointer (some ⟨B, 0, none⟩)] 27 (0, 0)) := by rw [← hW]; exact alloc2_at0 _ _ _
  have hx1 : W.heap[w.heap.size + 1]? = some (.cells #[.string s] 9 (0, 0)) := by rw [← hW]; exact alloc2_at1 _ _ _
  have hal := h.below hbel
  have hfc := find_calls s W hal hz
  obtain ⟨V, hV⟩ := ptr_is (cfnd s cs)
  have hrr := ref_find (fnd_cs h s) (o := ⟨6, s, to, n, []⟩) rfl (by simp) (fun _ => rfl)
  obtain ⟨R, hR⟩ : ∃ R, (if (cfnd s cs).isSome then (0 : Int) else 42) = R := ⟨_, rfl⟩
  rw [hR] at hrr
  have HOP := operate_does (o := ⟨6, s, to, n, []⟩) hal hi hs (fun _ h => by cases h) 58 #[.pointer (some ⟨w.heap.size, 0, none⟩), .pointer (some ⟨w.heap.size + 1, 0, none⟩)] .nilFunc enters58 (by
    intro hr0 w1 h1 hk1
    refine (delete1_calls w.heap.size (w.heap.size + 1) B F cs.length s (dat cs) w1 (box_cell (box_keep hal hk1 hx0)) (box_cell (box_keep hal hk1 hx1)) ((cell_of_block h1.blk 1).trans rfl) h1.map hz).mono ?_
    rintro e w2 ⟨rfl, ho⟩
    exact ⟨rfl, ⟨F, T, h1.dropped ho⟩, ho.2.mono (fun k _ e => by rw [e]; exact h1.sF)⟩) (.inl ⟨rfl, by simp⟩)
  rw [hrr] at HOP
  rw [hV, hR] at hfc
  have HFC := Lib.hid hfc
  have HHOP := Lib.hid HOP
  have HB := Lib.hid (keeps_below hbel S)
  have c0 := box_cell hx0
  have c1 := box_cell hx1
  clear hfc hV hR hrr hal HOP hz hs hi h hx0 hx1 hbel
  go_enter Try.func38, Try.ntmps38
  go_wp2_with fail
  refine HFC.out.mono ?_
  rintro e w' ⟨rfl, rfl⟩
  go_wp2_with fail
  refine (Calls.after HHOP.out HB.out).mono ?_
  rintro e w2 ⟨rfl, hT⟩
  have HT := Lib.hid hT
  clear hT
  go_wp2
  go_ret
  exact ⟨rfl, HT.out⟩

theorem alloc3_at0 (w : World) (o1 o2 o3 : Obj) : (((w.alloc o1).alloc o2).alloc o3).heap[w.heap.size]? = some o1 := (Below.heap_alloc _ _ _ (by simp; omega)).trans (alloc2_at0 w o1 o2)
theorem alloc3_at1 (w : World) (o1 o2 o3 : Obj) : (((w.alloc o1).alloc o2).alloc o3).heap[w.heap.size + 1]? = some o2 := (Below.heap_alloc _ _ _ (by simp)).trans (alloc2_at1 w o1 o2)
theorem alloc3_at2 (w : World) (o1 o2 o3 : Obj) : (((w.alloc o1).alloc o2).alloc o3).heap[w.heap.size + 1 + 1]? = some o3 := by
  have := heap_alloc_new ((w.alloc o1).alloc o2) o3
  simpa using this
theorem block_below {w w' : World} (h : Below w.heap.size w w') {b : Nat} {o : Obj} (hb : w.heap[b]? = some o) : w'.heap[b]? = some o := (h.block b (lt_of_block hb)).trans hb

set_option maxRecDepth 100000 in
set_option maxHeartbeats 4000000 in
theorem rename_calls (s t : ByteArray) (w : World) {S : Nat → Prop} {B : Nat} {d : Dsk} (hd : Disk w S B d) (hs : Sml d) (hz : s.size ≤ 1099511627776) (hzt : t.size ≤ 1099511627776) (n : Int) :
    Calls Try.prog 30 #[.pointer (some ⟨B, 0, none⟩), .string s, .string t] w (Does w S B (.int .i64 (step d ⟨5, s, t, n, []⟩).1) (step d ⟨5, s, t, n, []⟩).2) := by
  obtain ⟨hi, _, F, T, cs, h⟩ := hd
  obtain ⟨V, hV⟩ := ptr_is (cfnd s cs)
  obtain ⟨W1, hW1⟩ : ∃ W1, ((w.alloc (.cells #[.pointer (some ⟨B, 0, none⟩)] 27)).alloc (.cells #[.string s] 9)).alloc (.cells #[.string t] 9) = W1 := ⟨_, rfl⟩
  have hbel1 : Below w.heap.size w W1 := by rw [← hW1]; exact (((Below.refl _ _).alloc (Nat.le_refl _) _).alloc (by simp) _).alloc (by simp; omega) _
  have hx0 : W1.heap[w.heap.size]? = some (.cells #[.pointer (some ⟨B, 0, none⟩)] 27 (0, 0)) := by rw [← hW1]; exact alloc3_at0 _ _ _ _
  have hx1 : W1.heap[w.heap.size + 1]? = some (.cells #[.string s] 9 (0, 0)) := by rw [← hW1]; exact alloc3_at1 _ _ _ _
  have hx2 : W1.heap[w.heap.size + 1 + 1]? = some (.cells #[.string t] 9 (0, 0)) := by rw [← hW1]; exact alloc3_at2 _ _ _ _
  have hsz : W1.heap.size = w.heap.size + 1 + 1 + 1 := by rw [← hW1]; simp
  obtain ⟨W, hW⟩ : ∃ W, W1.alloc (.cells #[.pointer V] 65) = W := ⟨_, rfl⟩
  have hbel2 : Below W1.heap.size W1 W := by rw [← hW]; exact (Below.refl _ _).alloc (Nat.le_refl _) _
  have hy0 := block_below hbel2 hx0
  have hy1 := block_below hbel2 hx1
  have hy2 := block_below hbel2 hx2
  have hy3 : W.heap[w.heap.size + 1 + 1 + 1]? = some (.cells #[.pointer V] 65 (0, 0)) := by rw [← hW, ← hsz]; exact heap_alloc_new W1 _
  have hbel := below_then hbel1 hbel2
  have hal := h.below hbel
  have hfc := find_calls s W1 (h.below hbel1) hz
  have hcf := fnd_cs h s
  have HOP : ∀ W', Below W.heap.size W W' → Calls Try.prog 47 #[.pointer (some ⟨B, 0, none⟩), .agg #[.int .i64 (ref d ⟨5, s, t, n, []⟩), .func (.func 55) #[] #[.pointer (some ⟨w.heap.size, 0, none⟩), .pointer (some ⟨w.heap.size + 1, 0, none⟩), .pointer (some ⟨w.heap.size + 1 + 1 + 1, 0, none⟩), .pointer (some ⟨w.heap.size + 1 + 1, 0, none⟩)], .nilFunc]] W'
      (Does w S B (.int .i64 (step d ⟨5, s, t, n, []⟩).1) (step d ⟨5, s, t, n, []⟩).2) := fun W' hb => by
    have hal' := hal.below hb
    refine Calls.after (operate_does (o := ⟨5, s, t, n, []⟩) hal' hi hs (fun _ h => by cases h) 55 _ .nilFunc enters55 ?_ (.inl ⟨rfl, by simp⟩)) (keeps_below (below_then hbel hb) S)
    intro hr0 w1 h1 hk1
    cases hc : cfnd s cs with
    | none => rw [hc] at hcf; rw [ref_none (by simp) hcf] at hr0; cases hr0
    | some c =>
      rw [hc] at hV
      have hVe : V = some ⟨c.fb, 0, none⟩ := (Value.pointer.inj hV).symm
      rw [hVe] at hy3
      refine (rename1_calls w.heap.size (w.heap.size + 1) (w.heap.size + 1 + 1 + 1) (w.heap.size + 1 + 1) B F cs.length c.fb s t (dat cs) w1 (box_cell (box_keep hal' hk1 (block_below hb hy0))) (box_cell (box_keep hal' hk1 (block_below hb hy1)))
        (box_cell (box_keep hal' hk1 (block_below hb hy3))) (box_cell (box_keep hal' hk1 (block_below hb hy2))) ((cell_of_block h1.blk 1).trans rfl) h1.map ?_ hz hzt).mono ?_
      · have := hi.most
        rw [← h.is, List.length_map] at this
        omega
      · rintro e w2 ⟨rfl, ho⟩
        exact ⟨rfl, ⟨F, T, h1.renamed hi.srt hc ho⟩, ho.2.mono (fun k _ e => by rw [e]; exact h1.sF)⟩
  have hnm := fun w => named_calls t w hzt
  have HNM := Lib.hid hnm
  have c0 := box_cell hx0
  have c1 := box_cell hx1
  have e0 := box_cell hy0
  have e2 := box_cell hy2
  have g0 : ∀ W', Below W.heap.size W W' → W'.cell? ⟨w.heap.size, 0, none⟩ = some (.pointer (some ⟨B, 0, none⟩)) := fun W' hb => box_cell (block_below hb hy0)
  have G0 := Lib.hid g0
  rw [hV] at hfc
  cases hc : cfnd s cs with
  | none =>
    rw [hc] at hfc hcf
    rw [ref_none (by simp) hcf] at HOP
    dsimp only [Option.isSome] at hfc
    simp only [Bool.false_eq_true, if_false] at hfc
    have HFC := Lib.hid hfc
    have HHOP := Lib.hid (HOP W (Below.refl _ _))
    clear hfc hV hal HOP hz hs hi h hx0 hx1 hx2 hy0 hy1 hy2 hy3 hbel hbel1 hbel2 hnm HNM hcf hc hzt g0 G0
    go_enter Try.func30, Try.ntmps30
    go_wp2_with fail
    refine HFC.out.mono ?_
    rintro e w' ⟨rfl, rfl⟩
    go_wp2_with fail
    with_reducible refine HHOP.out.mono ?_
    rintro e w2 ⟨rfl, hT⟩
    have HT := Lib.hid hT
    clear hT
    go_wp2
    go_ret
    exact ⟨rfl, HT.out⟩
  | some c =>
    rw [hc] at hfc hcf
    have hre : ref d ⟨5, s, t, n, []⟩ = if nmd t = false then 44 else 0 := (ref_some (by simp) hcf).trans rfl
    rw [hre] at HOP
    dsimp only [Option.isSome] at hfc
    simp only [if_true] at hfc
    have HFC := Lib.hid hfc
    cases hnt : nmd t with
    | true =>
      rw [hnt] at HOP hnm
      simp only [Bool.true_eq_false, if_false] at HOP
      have HHOP := Lib.hid HOP
      have HNM := Lib.hid hnm
      clear hfc hV hal HOP hz hs hi h hx0 hx1 hx2 hy0 hy1 hy2 hy3 hbel hbel1 hbel2 hnm hcf hc hzt hre hnt g0
      go_enter Try.func30, Try.ntmps30
      go_wp2_with fail
      refine HFC.out.mono ?_
      rintro e w' ⟨rfl, rfl⟩
      go_wp2_with fail
      refine (HNM.out _).mono ?_
      rintro e w3 ⟨rfl, hb3⟩
      have HHOP3 := Lib.hid (HHOP.out w3 hb3)
      have k0 := G0.out w3 hb3
      clear hb3
      go_wp2_with fail
      with_reducible refine HHOP3.out.mono ?_
      rintro e w2 ⟨rfl, hT⟩
      have HT := Lib.hid hT
      clear hT
      go_wp2
      go_ret
      exact ⟨rfl, HT.out⟩
    | false =>
      rw [hnt] at HOP hnm
      simp only [if_true] at HOP
      have HHOP := Lib.hid HOP
      have HNM := Lib.hid hnm
      clear hfc hV hal HOP hz hs hi h hx0 hx1 hx2 hy0 hy1 hy2 hy3 hbel hbel1 hbel2 hnm hcf hc hzt hre hnt g0
      go_enter Try.func30, Try.ntmps30
      go_wp2_with fail
      refine HFC.out.mono ?_
      rintro e w' ⟨rfl, rfl⟩
      go_wp2_with fail
      refine (HNM.out _).mono ?_
      rintro e w3 ⟨rfl, hb3⟩
      have HHOP3 := Lib.hid (HHOP.out w3 hb3)
      have k0 := G0.out w3 hb3
      clear hb3
      go_wp2_with fail
      with_reducible refine HHOP3.out.mono ?_
      rintro e w2 ⟨rfl, hT⟩
      have HT := Lib.hid hT
      clear hT
      go_wp2
      go_ret
      exact ⟨rfl, HT.out⟩

end Go.Proofs.Ytfiacojgddpphaa
