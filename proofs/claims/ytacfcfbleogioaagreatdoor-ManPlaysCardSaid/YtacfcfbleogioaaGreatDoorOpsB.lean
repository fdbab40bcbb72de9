/-
  The program's Delete, Rename and Create. Conditions: the disk lies in memory; numbers and names are small.
  The program's Create. Conditions: the disk lies in memory; numbers and names are small.
  The program's Cut. Conditions: the disk lies in memory; numbers and names are small.
  The program's Append. Conditions: the disk lies in memory; numbers and names are small; the bytes are those of a slice that isn't the disk's.
-/
import Derived.Test.YtacfcfbleogioaaGreatDoorFilesA
namespace Go.Proofs.YtacfcfbleogioaaGreatDoor
open Go.RowKit Go.Lib Go.Joins

theorem alloc2_at0 (w : World) (o1 o2 : Obj) : ((w.alloc o1).alloc o2).heap[w.heap.size]? = some o1 := (Below.heap_alloc _ _ _ (by simp)).trans (heap_alloc_new w o1)
theorem alloc2_at1 (w : World) (o1 o2 : Obj) : ((w.alloc o1).alloc o2).heap[w.heap.size + 1]? = some o2 := by
  have := heap_alloc_new (w.alloc o1) o2
  simpa using this

theorem DiskAt.below {w w' : World} {S : Nat → Prop} {B : Nat} {d : Dsk} {F : Nat} {T : Option Nat} {cs : List Cel} (h : DiskAt w S B d F T cs) (hb : Below w.heap.size w w') : DiskAt w' S B d F T cs := h.keep (keeps_below hb Non) (fun _ _ h => h)

theorem ref_find {d : Dsk} {cs : List Cel} {s : ByteArray} (hf : fnd s d.L = (cfnd s cs).map Cel.f) {o : Opn} (hn : o.name = s) (hk : o.kind ≠ 1) (h0 : ∀ f, refF d o f = 0) : ref d o = if (cfnd s cs).isSome then 0 else 42 := by
  subst hn
  cases hc : cfnd o.name cs with
  | none => rw [hc] at hf; exact ref_none hk hf
  | some c => rw [hc] at hf; exact (ref_some hk hf).trans (h0 _)

set_option maxRecDepth 100000 in
set_option maxHeartbeats 4000000 in
theorem delete_calls (s : ByteArray) (w : World) {S : Nat → Prop} {B : Nat} {d : Dsk} (hd : Disk w S B d) (hs : Sml d) (hz : s.size ≤ 1099511627776) (tw : ByteArray) (n : Int) :
    Calls Tryz.prog 55 #[.pointer (some ⟨B, 0, none⟩), .string s] w (Does w S B (.int .i64 (step d ⟨6, s, tw, n, []⟩).1) (step d ⟨6, s, tw, n, []⟩).2) := by
  obtain ⟨hi, _, F, T, cs, h⟩ := hd
  obtain ⟨W, hW⟩ : ∃ W, (w.alloc (.cells #[.pointer (some ⟨B, 0, none⟩)] 29)).alloc (.cells #[.string s] 9) = W := ⟨_, rfl⟩
  have hbel : Below w.heap.size w W := by rw [← hW]; exact ((Below.refl _ _).alloc (Nat.le_refl _) _).alloc (by simp) _
  have hx0 : W.heap[w.heap.size]? = some (.cells #[.pointer (some ⟨B, 0, none⟩)] 29 (0, 0)) := by rw [← hW]; exact alloc2_at0 _ _ _
  have hx1 : W.heap[w.heap.size + 1]? = some (.cells #[.string s] 9 (0, 0)) := by rw [← hW]; exact alloc2_at1 _ _ _
  have hal := h.below hbel
  have hfc := find_calls s W hal hz
  obtain ⟨V, hV⟩ := ptr_is (cfnd s cs)
  have hrr := ref_find (fnd_cs h s) (o := ⟨6, s, tw, n, []⟩) rfl (by simp) (fun _ => rfl)
  obtain ⟨R, hR⟩ : ∃ R, (if (cfnd s cs).isSome then (0 : Int) else 42) = R := ⟨_, rfl⟩
  rw [hR] at hrr
  have HOP := operate_does (o := ⟨6, s, tw, n, []⟩) hal hi hs (fun _ h => by cases h) 99 #[.pointer (some ⟨w.heap.size, 0, none⟩), .pointer (some ⟨w.heap.size + 1, 0, none⟩)] .nilFunc enters58 (by
    intro hr0 w1 h1 hk1
    refine (delete1_calls w.heap.size (w.heap.size + 1) B F cs.length s (dat cs) w1 (box_cell (box_keep hal hk1 hx0)) (box_cell (box_keep hal hk1 hx1)) ((cell_of_block h1.blk 1).trans rfl) h1.map hz).mono ?_
    rintro e w2 ⟨rfl, ho⟩
    exact ⟨rfl, ⟨F, T, h1.dropped ho⟩, ho.2.mono (fun k _ e => by rw [e]; exact h1.sF)⟩) (.inl ⟨rfl, by simp⟩)
  rw [hrr] at HOP
  rw [hV, hR] at hfc
  have HFC := Lib.hid hfc
  have HHOP := Lib.hid HOP
  have HB := Lib.hid (keeps_below hbel S)
  have c0 := box_cell hx0
  have c1 := box_cell hx1
  clear hfc hV hR hrr hal HOP hz hs hi h hx0 hx1 hbel
  go_enter Tryz.func55, Tryz.ntmps55
  go_wp2_with fail
  refine HFC.out.mono ?_
  rintro e w' ⟨rfl, rfl⟩
  go_wp2_with fail
  refine (Calls.after HHOP.out HB.out).mono ?_
  rintro e w2 ⟨rfl, hT⟩
  have HT := Lib.hid hT
  clear hT
  go_wp2
  go_ret
  exact ⟨rfl, HT.out⟩

theorem alloc3_at0 (w : World) (o1 o2 o3 : Obj) : (((w.alloc o1).alloc o2).alloc o3).heap[w.heap.size]? = some o1 := (Below.heap_alloc _ _ _ (by simp; omega)).trans (alloc2_at0 w o1 o2)
theorem alloc3_at1 (w : World) (o1 o2 o3 : Obj) : (((w.alloc o1).alloc o2).alloc o3).heap[w.heap.size + 1]? = some o2 := (Below.heap_alloc _ _ _ (by simp)).trans (alloc2_at1 w o1 o2)
theorem alloc3_at2 (w : World) (o1 o2 o3 : Obj) : (((w.alloc o1).alloc o2).alloc o3).heap[w.heap.size + 1 + 1]? = some o3 := by
  have := heap_alloc_new ((w.alloc o1).alloc o2) o3
  simpa using this
theorem block_below {w w' : World} (h : Below w.heap.size w w') {b : Nat} {o : Obj} (hb : w.heap[b]? = some o) : w'.heap[b]? = some o := (h.block b (lt_of_block hb)).trans hb

set_option maxRecDepth 100000 in
set_option maxHeartbeats 4000000 in
theorem rename_calls (s t : ByteArray) (w : World) {S : Nat → Prop} {B : Nat} {d : Dsk} (hd : Disk w S B d) (hs : Sml d) (hz : s.size ≤ 1099511627776) (hzt : t.size ≤ 1099511627776) (n : Int) :
    Calls Tryz.prog 63 #[.pointer (some ⟨B, 0, none⟩), .string s, .string t] w (Does w S B (.int .i64 (step d ⟨5, s, t, n, []⟩).1) (step d ⟨5, s, t, n, []⟩).2) := by
  obtain ⟨hi, _, F, T, cs, h⟩ := hd
  obtain ⟨V, hV⟩ := ptr_is (cfnd s cs)
  obtain ⟨W1, hW1⟩ : ∃ W1, ((w.alloc (.cells #[.pointer (some ⟨B, 0, none⟩)] 29)).alloc (.cells #[.string s] 9)).alloc (.cells #[.string t] 9) = W1 := ⟨_, rfl⟩
  have hbel1 : Below w.heap.size w W1 := by rw [← hW1]; exact (((Below.refl _ _).alloc (Nat.le_refl _) _).alloc (by simp) _).alloc (by simp; omega) _
  have hx0 : W1.heap[w.heap.size]? = some (.cells #[.pointer (some ⟨B, 0, none⟩)] 29 (0, 0)) := by rw [← hW1]; exact alloc3_at0 _ _ _ _
  have hx1 : W1.heap[w.heap.size + 1]? = some (.cells #[.string s] 9 (0, 0)) := by rw [← hW1]; exact alloc3_at1 _ _ _ _
  have hx2 : W1.heap[w.heap.size + 1 + 1]? = some (.cells #[.string t] 9 (0, 0)) := by rw [← hW1]; exact alloc3_at2 _ _ _ _
  have hsz : W1.heap.size = w.heap.size + 1 + 1 + 1 := by rw [← hW1]; simp
  obtain ⟨W, hW⟩ : ∃ W, W1.alloc (.cells #[.pointer V] 71) = W := ⟨_, rfl⟩
  have hbel2 : Below W1.heap.size W1 W := by rw [← hW]; exact (Below.refl _ _).alloc (Nat.le_refl _) _
  have hy0 := block_below hbel2 hx0
  have hy1 := block_below hbel2 hx1
  have hy2 := block_below hbel2 hx2
  have hy3 : W.heap[w.heap.size + 1 + 1 + 1]? = some (.cells #[.pointer V] 71 (0, 0)) := by rw [← hW, ← hsz]; exact heap_alloc_new W1 _
  have hbel := below_then hbel1 hbel2
  have hal := h.below hbel
  have hfc := find_calls s W1 (h.below hbel1) hz
  have hcf := fnd_cs h s
  have HOP : ∀ W', Below W.heap.size W W' → Calls Tryz.prog 98 #[.pointer (some ⟨B, 0, none⟩), .agg #[.int .i64 (ref d ⟨5, s, t, n, []⟩), .func (.func 104) #[] #[.pointer (some ⟨w.heap.size, 0, none⟩), .pointer (some ⟨w.heap.size + 1, 0, none⟩), .pointer (some ⟨w.heap.size + 1 + 1 + 1, 0, none⟩), .pointer (some ⟨w.heap.size + 1 + 1, 0, none⟩)], .nilFunc]] W'
      (Does w S B (.int .i64 (step d ⟨5, s, t, n, []⟩).1) (step d ⟨5, s, t, n, []⟩).2) := fun W' hb => by
    have hal' := hal.below hb
    refine Calls.after (operate_does (o := ⟨5, s, t, n, []⟩) hal' hi hs (fun _ h => by cases h) 104 _ .nilFunc enters55 ?_ (.inl ⟨rfl, by simp⟩)) (keeps_below (below_then hbel hb) S)
    intro hr0 w1 h1 hk1
    cases hc : cfnd s cs with
    | none => rw [hc] at hcf; rw [ref_none (by simp) hcf] at hr0; cases hr0
    | some c =>
      rw [hc] at hV
      have hVe : V = some ⟨c.fb, 0, none⟩ := (Value.pointer.inj hV).symm
      rw [hVe] at hy3
      refine (rename1_calls w.heap.size (w.heap.size + 1) (w.heap.size + 1 + 1 + 1) (w.heap.size + 1 + 1) B F cs.length c.fb s t (dat cs) w1 (box_cell (box_keep hal' hk1 (block_below hb hy0))) (box_cell (box_keep hal' hk1 (block_below hb hy1)))
        (box_cell (box_keep hal' hk1 (block_below hb hy3))) (box_cell (box_keep hal' hk1 (block_below hb hy2))) ((cell_of_block h1.blk 1).trans rfl) h1.map ?_ hz hzt).mono ?_
      · have := hi.most
        rw [← h.is, List.length_map] at this
        omega
      · rintro e w2 ⟨rfl, ho⟩
        exact ⟨rfl, ⟨F, T, h1.renamed hi.srt hc ho⟩, ho.2.mono (fun k _ e => by rw [e]; exact h1.sF)⟩
  have hnm := fun w => named_calls t w hzt
  have HNM := Lib.hid hnm
  have c0 := box_cell hx0
  have c1 := box_cell hx1
  have e0 := box_cell hy0
  have e2 := box_cell hy2
  have g0 : ∀ W', Below W.heap.size W W' → W'.cell? ⟨w.heap.size, 0, none⟩ = some (.pointer (some ⟨B, 0, none⟩)) := fun W' hb => box_cell (block_below hb hy0)
  have G0 := Lib.hid g0
  rw [hV] at hfc
  cases hc : cfnd s cs with
  | none =>
    rw [hc] at hfc hcf
    rw [ref_none (by simp) hcf] at HOP
    dsimp only [Option.isSome] at hfc
    simp only [Bool.false_eq_true, if_false] at hfc
    have HFC := Lib.hid hfc
    have HHOP := Lib.hid (HOP W (Below.refl _ _))
    clear hfc hV hal HOP hz hs hi h hx0 hx1 hx2 hy0 hy1 hy2 hy3 hbel hbel1 hbel2 hnm HNM hcf hc hzt g0 G0
    go_enter Tryz.func63, Tryz.ntmps63
    go_wp2_with fail
    refine HFC.out.mono ?_
    rintro e w' ⟨rfl, rfl⟩
    go_wp2_with fail
    with_reducible refine HHOP.out.mono ?_
    rintro e w2 ⟨rfl, hT⟩
    have HT := Lib.hid hT
    clear hT
    go_wp2
    go_ret
    exact ⟨rfl, HT.out⟩
  | some c =>
    rw [hc] at hfc hcf
    have hre : ref d ⟨5, s, t, n, []⟩ = if nmd t = false then 44 else 0 := (ref_some (by simp) hcf).trans rfl
    rw [hre] at HOP
    dsimp only [Option.isSome] at hfc
    simp only [if_true] at hfc
    have HFC := Lib.hid hfc
    cases hnt : nmd t with
    | true =>
      rw [hnt] at HOP hnm
      simp only [Bool.true_eq_false, if_false] at HOP
      have HHOP := Lib.hid HOP
      have HNM := Lib.hid hnm
      clear hfc hV hal HOP hz hs hi h hx0 hx1 hx2 hy0 hy1 hy2 hy3 hbel hbel1 hbel2 hnm hcf hc hzt hre hnt g0
      go_enter Tryz.func63, Tryz.ntmps63
      go_wp2_with fail
      refine HFC.out.mono ?_
      rintro e w' ⟨rfl, rfl⟩
      go_wp2_with fail
      refine (HNM.out _).mono ?_
      rintro e w3 ⟨rfl, hb3⟩
      have HHOP3 := Lib.hid (HHOP.out w3 hb3)
      have k0 := G0.out w3 hb3
      clear hb3
      go_wp2_with fail
      with_reducible refine HHOP3.out.mono ?_
      rintro e w2 ⟨rfl, hT⟩
      have HT := Lib.hid hT
      clear hT
      go_wp2
      go_ret
      exact ⟨rfl, HT.out⟩
    | false =>
      rw [hnt] at HOP hnm
      simp only [if_true] at HOP
      have HHOP := Lib.hid HOP
      have HNM := Lib.hid hnm
      clear hfc hV hal HOP hz hs hi h hx0 hx1 hx2 hy0 hy1 hy2 hy3 hbel hbel1 hbel2 hnm hcf hc hzt hre hnt g0
      go_enter Tryz.func63, Tryz.ntmps63
      go_wp2_with fail
      refine HFC.out.mono ?_
      rintro e w' ⟨rfl, rfl⟩
      go_wp2_with fail
      refine (HNM.out _).mono ?_
      rintro e w3 ⟨rfl, hb3⟩
      have HHOP3 := Lib.hid (HHOP.out w3 hb3)
      have k0 := G0.out w3 hb3
      clear hb3
      go_wp2_with fail
      with_reducible refine HHOP3.out.mono ?_
      rintro e w2 ⟨rfl, hT⟩
      have HT := Lib.hid hT
      clear hT
      go_wp2
      go_ret
      exact ⟨rfl, HT.out⟩

end Go.Proofs.YtacfcfbleogioaaGreatDoor
namespace Go.Proofs.YtacfcfbleogioaaGreatDoor
open Go.RowKit Go.Lib Go.Joins

set_option maxRecDepth 100000 in
set_option maxHeartbeats 4000000 in
theorem create_calls (s : ByteArray) (w : World) {S : Nat → Prop} {B : Nat} {d : Dsk} (hd : Disk w S B d) (hs : Sml d) (hz : s.size ≤ 1099511627776) (tw : ByteArray) (n : Int) :
    Calls Tryz.prog 57 #[.pointer (some ⟨B, 0, none⟩), .string s] w (Does w S B (.int .i64 (step d ⟨1, s, tw, n, []⟩).1) (step d ⟨1, s, tw, n, []⟩).2) := by
  obtain ⟨hi, _, F, T, cs, h⟩ := hd
  obtain ⟨W, hW⟩ : ∃ W, (w.alloc (.cells #[.pointer (some ⟨B, 0, none⟩)] 29)).alloc (.cells #[.string s] 9) = W := ⟨_, rfl⟩
  have hbel : Below w.heap.size w W := by rw [← hW]; exact ((Below.refl _ _).alloc (Nat.le_refl _) _).alloc (by simp) _
  have hx0 : W.heap[w.heap.size]? = some (.cells #[.pointer (some ⟨B, 0, none⟩)] 29 (0, 0)) := by rw [← hW]; exact alloc2_at0 _ _ _
  have hx1 : W.heap[w.heap.size + 1]? = some (.cells #[.string s] 9 (0, 0)) := by rw [← hW]; exact alloc2_at1 _ _ _
  have hal := h.below hbel
  obtain ⟨V, hV⟩ := ptr_is (cfnd s cs)
  have hcf := fnd_cs h s
  have hlen : cs.length = d.L.length := by rw [← h.is, List.length_map]
  have hmost := hi.most
  have HOP : ∀ W', Below W.heap.size W W' → Calls Tryz.prog 98 #[.pointer (some ⟨B, 0, none⟩), .agg #[.int .i64 (ref d ⟨1, s, tw, n, []⟩), .func (.func 100) #[] #[.pointer (some ⟨w.heap.size, 0, none⟩), .pointer (some ⟨w.heap.size + 1, 0, none⟩)], .nilFunc]] W'
      (Does w S B (.int .i64 (step d ⟨1, s, tw, n, []⟩).1) (step d ⟨1, s, tw, n, []⟩).2) := fun W' hb => by
    have hal' := hal.below hb
    refine Calls.after (operate_does (o := ⟨1, s, tw, n, []⟩) hal' hi hs (fun _ h => by cases h) 100 _ .nilFunc enters48 ?_ (.inl ⟨rfl, by simp⟩)) (keeps_below (below_then hbel hb) S)
    intro hr0 w1 h1 hk1
    have hnone : fnd s d.L = none := by
      unfold ref at hr0
      rw [if_pos rfl] at hr0
      by_cases k1 : nmd s = false
      · rw [if_pos k1] at hr0; cases hr0
      rw [if_neg k1] at hr0
      by_cases k2 : (fnd s d.L).isSome = true
      · rw [if_pos k2] at hr0; cases hr0
      · exact fnd_is.1 (by simpa using k2)
    refine (create1_calls w.heap.size (w.heap.size + 1) B F cs.length s (dat cs) w1 (box_cell (box_keep hal' hk1 (block_below hb hx0))) (box_cell (box_keep hal' hk1 (block_below hb hx1))) ((cell_of_block h1.blk 1).trans rfl) h1.map (by omega) hz).mono ?_
    rintro e w2 ⟨rfl, ho⟩
    exact ⟨rfl, ⟨F, T, h1.created (f := ⟨s, [], 0⟩) (dv := .slice none 0 0) hnone ho.2.2 ho.1 ho.2.1 (World.ownsRow_nil _ _ _ _) (Nat.le_refl _) (fun k e => by cases e)⟩, ho.2.2.mono (fun k _ e => by rw [e]; exact h1.sF)⟩
  have hnm := fun w => named_calls s w hz
  have c0 := box_cell hx0
  have c1 := box_cell hx1
  have g0 : ∀ W', Below W.heap.size W W' → W'.cell? ⟨w.heap.size, 0, none⟩ = some (.pointer (some ⟨B, 0, none⟩)) ∧ W'.cell? ⟨w.heap.size + 1, 0, none⟩ = some (.string s) ∧ W'.cell? ⟨B, 1, none⟩ = some (.map (some F)) ∧
      W'.ownsMap Tryz.prog 9 Rp F cs.length (dat cs) := fun W' hb =>
    ⟨box_cell (block_below hb hx0), box_cell (block_below hb hx1), (cell_of_block (hal.below hb).blk 1).trans rfl, (hal.below hb).map⟩
  have hlk : ∀ W', W'.ownsMap Tryz.prog 9 Rp F cs.length (dat cs) → (Instr.lookup 75 (.map (some F)) (.string s) false).run Tryz.prog W' = .ok (.pointer V) W' := fun W' ho => by
    rw [← hV]
    exact look_run ho (by unfold maxLen; omega)
  have G0 := Lib.hid g0
  have HLK := Lib.hid hlk
  have hre : ref d ⟨1, s, tw, n, []⟩ = if nmd s = false then 44 else if (fnd s d.L).isSome then 43 else if 64 ≤ d.L.length then 40 else 0 := rfl
  rw [hre] at HOP
  cases hn : nmd s with
  | false =>
    rw [hn] at HOP hnm
    simp only [if_true] at HOP
    have HHOP := Lib.hid HOP
    have HNM := Lib.hid hnm
    clear HOP hz hs hi h hx0 hx1 hbel hnm hre hn hlk g0 hal hcf hmost hlen hV
    go_enter Tryz.func57, Tryz.ntmps57
    go_wp2_with fail
    with_reducible refine (HNM.out _).mono ?_
    rintro e w3 ⟨rfl, hb3⟩
    have HHOP3 := Lib.hid (HHOP.out w3 hb3)
    have k0 := (G0.out w3 hb3).1
    clear hb3
    go_wp2_with fail
    with_reducible refine HHOP3.out.mono ?_
    rintro e w2 ⟨rfl, hT⟩
    have HT := Lib.hid hT
    clear hT
    go_wp2
    go_ret
    exact ⟨rfl, HT.out⟩
  | true =>
    rw [hn] at HOP hnm
    simp only [Bool.true_eq_false, if_false] at HOP
    have HNM := Lib.hid hnm
    cases hc : cfnd s cs with
    | some c =>
      rw [hc] at hV hcf
      rw [hcf] at HOP
      simp only [Option.map_some, Option.isSome_some, if_true] at HOP
      have HHOP := Lib.hid HOP
      have hVe : V = some ⟨c.fb, 0, none⟩ := (Value.pointer.inj hV).symm
      subst hVe
      clear HOP hz hs hi h hx0 hx1 hbel hnm hre hn hlk g0 hal hcf hmost hlen hV hc
      go_enter Tryz.func57, Tryz.ntmps57
      go_wp2_with fail
      with_reducible refine (HNM.out _).mono ?_
      rintro e w3 ⟨rfl, hb3⟩
      obtain ⟨k0, k1, k2, k3⟩ := G0.out w3 hb3
      have hlook := fun n => HLK.out (w3.drewN n) k3
      have HB3 := Lib.hid hb3
      clear hb3 k3
      go_wp2
      go_quiet (fail)
      have HHOP3 := Lib.hid (HHOP.out (w3.drewN nq) (HB3.out.trans (below_draws _ _ _)))
      go_wp2_with fail
      with_reducible refine HHOP3.out.mono ?_
      rintro e w2 ⟨rfl, hT⟩
      have HT := Lib.hid hT
      clear hT
      go_wp2
      go_ret
      exact ⟨rfl, HT.out⟩
    | none =>
      rw [hc] at hV hcf
      rw [hcf, ← hlen] at HOP
      simp only [Option.map_none, Option.isSome_none, Bool.false_eq_true, if_false] at HOP
      have hVe : V = none := (Value.pointer.inj hV).symm
      subst hVe
      have hsd := size_dat cs
      obtain ⟨N, hN⟩ : ∃ N, cs.length = N := ⟨_, rfl⟩
      rw [hN] at HOP hsd
      simp only [hN] at G0 HLK
      clear hz hs hi h hx0 hx1 hbel hnm hre hn hlk g0 hal hcf hmost hlen hV hc hN
      by_cases h64 : 64 ≤ N
      · rw [if_pos h64] at HOP
        have HHOP := Lib.hid HOP
        have hd64 : decide ((64 : Int) ≤ (N : Int)) = true := by simp; omega
        have HSD := Lib.hid hsd
        clear HOP hsd
        go_enter Tryz.func57, Tryz.ntmps57
        go_wp2_with fail
        with_reducible refine (HNM.out _).mono ?_
        rintro e w3 ⟨rfl, hb3⟩
        obtain ⟨k0, k1, k2, k3⟩ := G0.out w3 hb3
        have hlook := fun n => HLK.out (w3.drewN n) k3
        have HB3 := Lib.hid hb3
        have HK3 := Lib.hid k3
        clear hb3 k3
        go_wp2
        go_quiet (fail)
        have HHOP3 := Lib.hid (HHOP.out (w3.drewN nq) (HB3.out.trans (below_draws _ _ _)))
        have k3 : (w3.drewN nq).ownsMap Tryz.prog 9 Rp F N (dat cs) := HK3.out
        go_wp2_with (first | (at_len; refine wpList_len_own _ rfl _ 75 rfl 9 71 Tryz.underlying75 Rp F N (dat cs) rfl k3 ?_; rw [HSD.out]) | fail)
        with_reducible refine HHOP3.out.mono ?_
        rintro e w2 ⟨rfl, hT⟩
        have HT := Lib.hid hT
        clear hT
        go_wp2
        go_ret
        exact ⟨rfl, HT.out⟩
      · rw [if_neg h64] at HOP
        have HHOP := Lib.hid HOP
        have hd64 : decide ((64 : Int) ≤ (N : Int)) = false := by simp; omega
        have HSD := Lib.hid hsd
        clear HOP hsd
        go_enter Tryz.func57, Tryz.ntmps57
        go_wp2_with fail
        with_reducible refine (HNM.out _).mono ?_
        rintro e w3 ⟨rfl, hb3⟩
        obtain ⟨k0, k1, k2, k3⟩ := G0.out w3 hb3
        have hlook := fun n => HLK.out (w3.drewN n) k3
        have HB3 := Lib.hid hb3
        have HK3 := Lib.hid k3
        clear hb3 k3
        go_wp2
        go_quiet (fail)
        have HHOP3 := Lib.hid (HHOP.out (w3.drewN nq) (HB3.out.trans (below_draws _ _ _)))
        have k3 : (w3.drewN nq).ownsMap Tryz.prog 9 Rp F N (dat cs) := HK3.out
        go_wp2_with (first | (at_len; refine wpList_len_own _ rfl _ 75 rfl 9 71 Tryz.underlying75 Rp F N (dat cs) rfl k3 ?_; rw [HSD.out]) | fail)
        with_reducible refine HHOP3.out.mono ?_
        rintro e w2 ⟨rfl, hT⟩
        have HT := Lib.hid hT
        clear hT
        go_wp2
        go_ret
        exact ⟨rfl, HT.out⟩

end Go.Proofs.YtacfcfbleogioaaGreatDoor
namespace Go.Proofs.YtacfcfbleogioaaGreatDoor
open Go.RowKit Go.Lib Go.Joins

end Go.Proofs.YtacfcfbleogioaaGreatDoor
namespace Go.Proofs.YtacfcfbleogioaaGreatDoor
open Go.RowKit Go.Lib Go.Joins

theorem add_file {w1 w2 : World} {S : Nat → Prop} {B : Nat} {d : Dsk} {F : Nat} {T : Option Nat} {cs : List Cel} (h1 : DiskAt w1 S B d F T cs) (hs : Srt d.L) {s : ByteArray} {c : Cel} (hc : cfnd s cs = some c) {l : List Nat} {m : Nat} (hm : l.length = m)
    (ha : AddF c.fb c.dv (c.f.safe : Int) (c.f.data.length + m) (cellsN c.f.data ++ cellsN l) w1 w2) : Half w1 S B { d with L := upd s (addB l) d.L } w2 ∧ Keeps (fun k => k = c.fb ∨ c.dv.ownBlock = some k) w1 w2 := by
  subst hm
  obtain ⟨dv', h2, h3, h4, h5⟩ := ha
  obtain ⟨hm, hcn⟩ := cfnd_some hc
  refine ⟨⟨⟨F, T, cs.map (chg s (addB l) dv'), ?_⟩, h5.mono (fun k _ e => by rcases e with e | e; rw [e]; exact h1.sfb c hm; exact h1.sdb c hm k e)⟩, h5⟩
  refine h1.file_changed hs hc h5 (f' := addB l) (fun _ => rfl) (dv' := dv') h2 ?_ h4
  rw [← cellsN_app] at h3
  show w2.ownsRow 0 5 1 dv' (c.f.data ++ l).length (cellsN (c.f.data ++ l))
  rw [List.length_append]
  exact h3

set_option maxRecDepth 100000 in
set_option maxHeartbeats 4000000 in
theorem append_calls (s : ByteArray) (a : Option Addr) (l : List Nat) (cap : Nat) (w : World) {S S0 : Nat → Prop} {B : Nat} {d : Dsk} (hd : Disk w S B d) (hs : Sml d) (hz : s.size ≤ 1099511627776) (hr : Row w S0 a l) (hS0 : ∀ k, S0 k → k < w.heap.size ∧ ¬ S k) (hac : a = none → cap = 0) (hlc : l.length ≤ cap) (hcm : cap ≤ maxLen) (hl : l.length ≤ 1073741824) (tw : ByteArray) (n : Int) :
    Calls Tryz.prog 59 #[.pointer (some ⟨B, 0, none⟩), .string s, .slice a l.length cap] w (Does w S B (.int .i64 (step d ⟨2, s, tw, n, l⟩).1) (step d ⟨2, s, tw, n, l⟩).2) := by
  obtain ⟨hi, _, F, T, cs, h⟩ := hd
  obtain ⟨V, hV⟩ := ptr_is (cfnd s cs)
  obtain ⟨W1, hW1⟩ : ∃ W1, w.alloc (.cells #[.slice a l.length cap] 61) = W1 := ⟨_, rfl⟩
  have hbel1 : Below w.heap.size w W1 := by rw [← hW1]; exact (Below.refl _ _).alloc (Nat.le_refl _) _
  have hx0 : W1.heap[w.heap.size]? = some (.cells #[.slice a l.length cap] 61 (0, 0)) := by rw [← hW1]; exact heap_alloc_new w _
  have hsz : W1.heap.size = w.heap.size + 1 := by rw [← hW1]; simp
  obtain ⟨W, hW⟩ : ∃ W, W1.alloc (.cells #[.pointer V] 71) = W := ⟨_, rfl⟩
  have hbel2 : Below W1.heap.size W1 W := by rw [← hW]; exact (Below.refl _ _).alloc (Nat.le_refl _) _
  have hy0 := block_below hbel2 hx0
  have hy1 : W.heap[w.heap.size + 1]? = some (.cells #[.pointer V] 71 (0, 0)) := by rw [← hW, ← hsz]; exact heap_alloc_new W1 _
  have hbel := below_then hbel1 hbel2
  have hal := h.below hbel
  have hfc := find_calls s W1 (h.below hbel1) hz
  have hcf := fnd_cs h s
  have hb8 : ∀ c ∈ l, c < 256 := hr.1
  have HOP : ∀ W', Below W.heap.size W W' → Calls Tryz.prog 98 #[.pointer (some ⟨B, 0, none⟩), .agg #[.int .i64 (ref d ⟨2, s, tw, n, l⟩), .func (.func 101) #[] #[.pointer (some ⟨w.heap.size + 1, 0, none⟩), .pointer (some ⟨w.heap.size, 0, none⟩)],
      .func (.func 102) #[] #[.pointer (some ⟨w.heap.size + 1, 0, none⟩), .pointer (some ⟨w.heap.size, 0, none⟩)]]] W'
      (Does w S B (.int .i64 (step d ⟨2, s, tw, n, l⟩).1) (step d ⟨2, s, tw, n, l⟩).2) := fun W' hb => by
    have hal' := hal.below hb
    have hk' : Keeps S w W' := keeps_below (below_then hbel hb) S
    have rowAt : ∀ w1, Keeps (One B) W' w1 → Row w1 S0 a l := fun w1 hk1 => Row.keep hr (hk'.trans (S' := One B) hk1 (fun k e => .inl (by rw [show k = B from e]; exact h.sB))) (fun k hk => (hS0 k hk).2)
    refine Calls.after (operate_does (o := ⟨2, s, tw, n, l⟩) hal' hi hs hb8 101 _ (.func (.func 102) #[] #[.pointer (some ⟨w.heap.size + 1, 0, none⟩), .pointer (some ⟨w.heap.size, 0, none⟩)]) enters50 ?_
      (.inr ⟨102, _, fun k => ∃ c, cfnd s cs = some c ∧ (k = c.fb ∨ c.dv.ownBlock = some k), rfl, ?_, enters51, ?_⟩)) hk'
    · intro hr0 w1 h1 hk1
      cases hc : cfnd s cs with
      | none => rw [hc] at hcf; rw [ref_none (by simp) hcf] at hr0; cases hr0
      | some c =>
        rw [hc] at hV
        have hVe : V = some ⟨c.fb, 0, none⟩ := (Value.pointer.inj hV).symm
        rw [hVe] at hy1
        obtain ⟨hm, hcn⟩ := cfnd_some hc
        have hlen : c.f.data.length ≤ 1073741824 := Nat.le_trans (used_mem (by rw [← h.is]; exact List.mem_map.2 ⟨c, hm, rfl⟩)) hs.used
        refine (append1_calls (w.heap.size + 1) w.heap.size c.fb c.dv c.f.data.length l.length cap a (c.f.safe : Int) (cellsN c.f.data) l S0 w1 (box_keep hal' hk1 (block_below hb hy1)) (box_keep hal' hk1 (block_below hb hy0)) (h1.file c hm) (h1.row c hm) rfl (rowAt w1 hk1) hac (by omega)).mono ?_
        rintro e w2 ⟨rfl, ha⟩
        exact ⟨rfl, (add_file h1 hi.srt hc rfl ha).1⟩
    · rintro k ⟨c, hc, hk⟩
      obtain ⟨hm, _⟩ := cfnd_some hc
      rcases hk with rfl | hk
      · exact ⟨lt_of_block (hal'.file c hm), elem_ne (hal'.file c hm) hal'.blk (by decide)⟩
      · exact ⟨((hal'.row c hm).lt k hk).2, fun e => other_elem hal'.blk (hal'.row c hm) (by decide) (by rw [hk, e])⟩
    · intro hr0 p w1 h1 hk1
      cases hc : cfnd s cs with
      | none => rw [hc] at hcf; rw [ref_none (by simp) hcf] at hr0; cases hr0
      | some c =>
        rw [hc] at hV
        have hVe : V = some ⟨c.fb, 0, none⟩ := (Value.pointer.inj hV).symm
        rw [hVe] at hy1
        obtain ⟨hm, hcn⟩ := cfnd_some hc
        have hlen : c.f.data.length ≤ 1073741824 := Nat.le_trans (used_mem (by rw [← h.is]; exact List.mem_map.2 ⟨c, hm, rfl⟩)) hs.used
        refine (append2_calls p (w.heap.size + 1) w.heap.size c.fb c.dv c.f.data.length cap a (c.f.safe : Int) (cellsN c.f.data) l S0 w1 (box_keep hal' hk1 (block_below hb hy1)) (box_keep hal' hk1 (block_below hb hy0)) (h1.file c hm) (h1.row c hm) (rowAt w1 hk1) hac hlc hcm (by omega)).mono ?_
        rintro e w2 ⟨rfl, ha⟩
        have hh := add_file h1 hi.srt hc (l := l.take (wth p l.length)) (by rw [List.length_take]; have := wth_le p l.length; omega) ha
        exact ⟨rfl, hh.1, hh.2.mono (fun k _ hk => ⟨c, rfl, hk⟩)⟩
  have e0 := box_cell hy0
  have e1 := box_cell hy1
  rw [hV] at hfc
  have HLF : ∀ W', Below W.heap.size W W' → Calls Tryz.prog 82 #[.pointer (some ⟨B, 0, none⟩)] W' (Leaves (.int .i64 (d.room - (used d.L : Int))) W') := fun W' hb => left_calls W' (hal.below hb) hi hs.used
  obtain ⟨len, hln⟩ : ∃ len, l.length = len := ⟨_, rfl⟩
  rw [hln] at hW1 e0 hl ⊢
  cases hc : cfnd s cs with
  | none =>
    rw [hc] at hfc hcf
    rw [ref_none (by simp) hcf] at HOP
    dsimp only [Option.isSome] at hfc
    simp only [Bool.false_eq_true, if_false] at hfc
    have HFC := Lib.hid hfc
    have HHOP := Lib.hid HOP
    clear hfc hV hal HOP hz hs hi h hx0 hy0 hy1 hbel hbel1 hbel2 hcf hc HLF hr hS0 hac hlc hcm hb8 hln
    go_enter Tryz.func59, Tryz.ntmps59
    go_wp2_with fail
    refine HFC.out.mono ?_
    rintro e w' ⟨rfl, rfl⟩
    go_wp2
    go_quiet (fail)
    have HHOP3 := Lib.hid (HHOP.out (W.drewN nq) (below_draws _ _ _))
    go_wp2_with fail
    with_reducible refine HHOP3.out.mono ?_
    rintro e w2 ⟨rfl, hT⟩
    have HT := Lib.hid hT
    clear hT
    go_wp2
    go_ret
    exact ⟨rfl, HT.out⟩
  | some c =>
    rw [hc] at hfc hcf hV
    have hre : ref d ⟨2, s, tw, n, l⟩ = if d.room - (used d.L : Int) < (l.length : Int) then 40 else 0 := (ref_some (by simp) hcf).trans rfl
    rw [hre, hln] at HOP
    dsimp only [Option.isSome] at hfc
    simp only [if_true] at hfc
    have HFC := Lib.hid hfc
    obtain ⟨Q, hQ⟩ : ∃ Q, d.room - (used d.L : Int) = Q := ⟨_, rfl⟩
    rw [hQ] at HOP HLF
    have HLFF := Lib.hid HLF
    have cU := fun dq os => Calls.regrown_of (HLFF.out _ (below_regrown W dq os))
    have c0 := fun dq os => cell_regrown e0 dq os
    clear hfc hV hal hz hs hi h hx0 hy0 hy1 hbel hbel1 hbel2 hcf hc hre HLF HLFF hr hS0 hac hlc hcm hb8 hln hQ e0
    by_cases k1 : Q < (len : Int)
    · rw [if_pos k1] at HOP
      have HHOP := Lib.hid HOP
      have d1 : decide (Q < (len : Int)) = true := by simpa using k1
      clear HOP
      go_enter Tryz.func59, Tryz.ntmps59
      go_wp2_with fail
      refine HFC.out.mono ?_
      rintro e w' ⟨rfl, rfl⟩
      go_wp2
      refine wp_region_quiet_below (by kernel_rfl) (by kernel_rfl) ?_
      repeat (any_goals (first | go_big_quiet_step (exact cU _ _) | quiet_step (exact cU _ _)))
      refine wpQuiet_nil ?_
      intro _ hw'
      obtain ⟨⟨dq, osq⟩, hw''⟩ := hw'
      subst hw''
      have HHOP3 := Lib.hid (HHOP.out _ (below_regrown W dq osq))
      go_wp2_with fail
      with_reducible refine HHOP3.out.mono ?_
      rintro e w2 ⟨rfl, hT⟩
      have HT := Lib.hid hT
      clear hT
      go_wp2
      go_ret
      exact ⟨rfl, HT.out⟩
    · rw [if_neg k1] at HOP
      have HHOP := Lib.hid HOP
      have d1 : decide (Q < (len : Int)) = false := by simpa using k1
      clear HOP
      go_enter Tryz.func59, Tryz.ntmps59
      go_wp2_with fail
      refine HFC.out.mono ?_
      rintro e w' ⟨rfl, rfl⟩
      go_wp2
      refine wp_region_quiet_below (by kernel_rfl) (by kernel_rfl) ?_
      repeat (any_goals (first | go_big_quiet_step (exact cU _ _) | quiet_step (exact cU _ _)))
      refine wpQuiet_nil ?_
      intro _ hw'
      obtain ⟨⟨dq, osq⟩, hw''⟩ := hw'
      subst hw''
      have HHOP3 := Lib.hid (HHOP.out _ (below_regrown W dq osq))
      go_wp2_with fail
      with_reducible refine HHOP3.out.mono ?_
      rintro e w2 ⟨rfl, hT⟩
      have HT := Lib.hid hT
      clear hT
      go_wp2
      go_ret
      exact ⟨rfl, HT.out⟩

end Go.Proofs.YtacfcfbleogioaaGreatDoor
