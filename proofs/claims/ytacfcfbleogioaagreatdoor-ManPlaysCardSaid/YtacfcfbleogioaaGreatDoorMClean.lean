/-
  Orphans and Clean of the program. Conditions: the disk lies in blocks of the law's own, few bytes and operations; the slices lead to numbers; the library's table of powers of ten and its two errors are laid.
-/
import Derived.Test.YtacfcfbleogioaaGreatDoorMOrph
import Derived.Test.YtacfcfbleogioaaGreatDoorMClos
import Derived.Deep.RegionHeld
namespace Go.Proofs.YtacfcfbleogioaaGreatDoor
open Go.RowKit Go.Lib Go.Joins

theorem name_size {d : Dsk} (hi : Inv d) : ∀ s ∈ d.L.map Fil.name, s.size ≤ 1099511627000 := fun s hs => by
  obtain ⟨f, hf, rfl⟩ := List.mem_map.1 hs
  have h1 := hi.name f hf
  unfold nmd at h1
  simp only [Bool.and_eq_true, decide_eq_true_eq] at h1
  have := h1.2
  omega

/-- The names that no manifest needs. -/
def OrphOut (d : Dsk) (m : Mfs) (w : World) (e : Ending) (w' : World) : Prop :=
  ∃ a c S', e = .returned (.slice a (orphM d m).length c) ∧ VRow w' S' a ((orphM d m).map Value.string) ∧ (∀ k, S' k → w.heap.size ≤ k) ∧ Below w.heap.size w w'

set_option maxRecDepth 100000 in
set_option maxHeartbeats 4000000 in
theorem orphans_calls {S Sm : Nat → Prop} {B : Nat} {d : Dsk} (g l : Int) (a : Option Addr) (segs : List Int) (n c : Nat) (w : World) (hd : Disk w S B d) (hr : IRow w Sm a segs) (hn : segs.length = n) (hm : n ≤ 1099511627776) (ht : Tab w) (he : Errs w) :
    Calls Tryz.prog 15 #[.pointer (some ⟨B, 0, none⟩), .agg #[.int .i64 g, .int .i64 l, .slice a n c]] w (OrphOut d ⟨g, l, segs⟩ w) := by
  obtain ⟨W1, hW1⟩ : ∃ W1, w.alloc (.cells #[.int .i64 g, .int .i64 l, .slice a n c] 25) = W1 := ⟨_, rfl⟩
  have hb1 : Below w.heap.size w W1 := by rw [← hW1]; exact (Below.refl _ _).alloc (Nat.le_refl _) _
  have hk1 : W1.heap[w.heap.size]? = some (.cells #[.int .i64 g, .int .i64 l, .slice a n c] 25 (0, 0)) := by rw [← hW1]; exact heap_alloc_new _ _
  have HNAMES : Hid (Calls Tryz.prog 41 #[.pointer (some ⟨B, 0, none⟩)] W1 (NamesOut (d.L.map Fil.name) W1)) := Lib.hid (by
    obtain ⟨hi, _, F, T, cs, hdd⟩ := hd.below hb1
    exact names_calls W1 hdd hi)
  have hmost : d.L.length ≤ 64 := hd.1.most
  have HSZ := Lib.hid (name_size hd.1)
  have HP := Lib.hid (cl_need g l a segs n c hk1 (hr.below hb1) hn hm (ht.below hb1) (he.below hb1))
  have HW1 := Lib.hid hW1
  have HB1 := Lib.hid hb1
  unfold OrphOut orphM
  obtain ⟨NS, hNS⟩ : ∃ NS, d.L.map Fil.name = NS := ⟨_, rfl⟩
  have hnsl : NS.length ≤ 64 := by rw [← hNS, List.length_map]; exact hmost
  rw [hNS] at HNAMES HSZ ⊢
  clear hd hr hn ht he hb1 hk1 hW1 hNS hmost
  go_enter Tryz.func15, Tryz.ntmps15
  go_wp2_with fail
  rw [HW1.out]
  with_reducible refine HNAMES.out.mono ?_
  rintro e w2 ⟨v2, rfl, hown2, hb2⟩
  have HDF := Lib.hid (dfunc_calls (wb := W1) v2 NS _ _ NS.length hown2 rfl (fun k e => (hown2.lt k e).1) HP.out hb2 HSZ.out (by omega))
  have HLOW : Hid (∀ k, v2.ownBlock = some k → w.heap.size ≤ k) := Lib.hid (fun k e => Nat.le_trans HB1.out.size (hown2.lt k e).1)
  clear hown2 hb2 HNAMES
  go_wp2_with fail
  with_reducible refine HDF.out.mono ?_
  rintro e w3 ⟨a3, c3, rfl, hvr3, hb3⟩
  have HV := Lib.hid hvr3
  have HB3 := Lib.hid (below_then HB1.out hb3)
  clear hvr3 hb3 HDF
  go_wp2
  go_ret
  exact ⟨a3, c3, _, rfl, HV.out, HLOW.out, HB3.out⟩

/-- Function values behind those that there are: what else is left. -/
theorem OwnF.more {w0 w : World} {v : Value} {l : List Value} (h : OwnF w0 w v l) (x : Value) (hf : x.oneCell' = true) (hs : l.length ≤ 100000) :
    ∃ v' w', (∀ ty, (Builtin.append_ #[99, 99] ty #[v, .slice (some ⟨w.heap.size, 0, none⟩) 1 1]).run Tryz.prog (w.alloc (.cells #[x] 138)) = .ok v' w') ∧ OwnF w0 w' v' (l ++ [x]) ∧ Keeps (fun k => v.ownBlock = some k) w w' ∧ ∀ k, v'.ownBlock = some k → v.ownBlock = some k ∨ w.heap.size ≤ k := by
  obtain ⟨v', w', h1, h2, h3, h4⟩ := append_any (w := w.alloc (.cells #[x] 138)) Tryz.underlying99 infoF rfl (by decide) (h.row.alloc _) (b := ⟨w.heap.size, 0, none⟩) (m := 1) (c := 1) (news := [x]) rfl (new_cells w [x] _)
    (fun u hu => by rw [List.mem_singleton.1 hu]; exact hf) (by unfold maxLen; omega) (by omega)
  have hk : Keeps (fun k => v.ownBlock = some k) w w' := ((Keeps.refl _ w).alloc _).grown h3 (fun k e => .inl e)
  have hlow : ∀ k, v'.ownBlock = some k → v.ownBlock = some k ∨ w.heap.size ≤ k := fun k e => by
    rcases h4 k e with h5 | h5
    · exact .inl h5
    · exact .inr (by simp at h5; omega)
  refine ⟨v', w', h1, ⟨by rw [List.length_append]; exact h2, fun k e => ?_, h.bel.trans (hk.toBelow h.bel.size (fun k e => h.new k e))⟩, hk, hlow⟩
  rcases hlow k e with h5 | h5
  · exact h.new k h5
  · exact Nat.le_trans h.bel.size h5

theorem opsN_none : ∀ NS : List ByteArray, opsN (NS.map delO) = 0
  | [] => rfl
  | s :: NS => by rw [List.map_cons, opsN_cons, opsN_none NS]; rfl
/-- The closures of Clean: each bears its name's box. -/
structure ClF (w0 wr : World) (bd : Nat) (NS : List ByteArray) (i : Nat) (v : Value) (fs : List Value) : Prop where
  own : OwnF w0 wr v fs
  len : fs.length = i
  at_ : ∀ (j : Nat) (f : Value), fs[j]? = some f → ∃ bn s, NS[j]? = some s ∧ f = .func (.func 70) #[] #[.pointer (some ⟨bd, 0, none⟩), .pointer (some ⟨bn, 0, none⟩)] ∧ wr.heap[bn]? = some (.cells #[.string s] 9 (0, 0)) ∧ w0.heap.size ≤ bn ∧ v.ownBlock ≠ some bn
theorem ClF.below {w0 wr w' : World} {bd : Nat} {NS : List ByteArray} {i : Nat} {v : Value} {fs : List Value} (h : ClF w0 wr bd NS i v fs) (hb : Below wr.heap.size wr w') : ClF w0 w' bd NS i v fs :=
  ⟨h.own.below hb, h.len, fun j f hj => by
    obtain ⟨bn, s, h1, h2, h3, h4⟩ := h.at_ j f hj
    exact ⟨bn, s, h1, h2, block_below hb h3, h4⟩⟩
theorem ClF.more {w0 wr : World} {bd : Nat} {NS : List ByteArray} {i : Nat} {v : Value} {fs : List Value} (h : ClF w0 wr bd NS i v fs) {s : ByteArray} (hs : NS[i]? = some s) (hi : i ≤ 1000) {bn : Nat} (hb : wr.heap[bn]? = some (.cells #[.string s] 9 (0, 0))) (hn : w0.heap.size ≤ bn) (ho : v.ownBlock ≠ some bn) :
    ∃ v' w', (∀ ty, (Builtin.append_ #[99, 99] ty #[v, .slice (some ⟨wr.heap.size, 0, none⟩) 1 1]).run Tryz.prog (wr.alloc (.cells #[.func (.func 70) #[] #[.pointer (some ⟨bd, 0, none⟩), .pointer (some ⟨bn, 0, none⟩)]] 138)) = .ok v' w') ∧
      ClF w0 w' bd NS (i + 1) v' (fs ++ [.func (.func 70) #[] #[.pointer (some ⟨bd, 0, none⟩), .pointer (some ⟨bn, 0, none⟩)]]) ∧ Below w0.heap.size wr w' := by
  obtain ⟨v', w', h1, h2, h3, h4⟩ := h.own.more (.func (.func 70) #[] #[.pointer (some ⟨bd, 0, none⟩), .pointer (some ⟨bn, 0, none⟩)]) rfl (by rw [h.len]; omega)
  refine ⟨v', w', h1, ⟨h2, by rw [List.length_append, h.len]; rfl, fun j f hj => ?_⟩, h3.toBelow h.own.bel.size (fun k e => h.own.new k e)⟩
  have hap : ∀ b, b < wr.heap.size → v.ownBlock ≠ some b → v'.ownBlock ≠ some b := fun b hlt hne e => by
    rcases h4 b e with h5 | h5
    · exact hne h5
    · omega
  by_cases hji : j < i
  · rw [List.getElem?_append_left (by rw [h.len]; exact hji)] at hj
    obtain ⟨b, t, g1, g2, g3, g4, g5⟩ := h.at_ j f hj
    exact ⟨b, t, g1, g2, block_keep g3 h3 g5, g4, hap b (lt_of_block g3) g5⟩
  · have hlt := (List.getElem?_eq_some_iff.1 hj).1
    rw [List.length_append, h.len, List.length_singleton] at hlt
    obtain rfl : j = i := by omega
    rw [List.getElem?_append_right (by rw [h.len]; exact Nat.le_refl _), h.len, Nat.sub_self] at hj
    obtain rfl : (.func (.func 70) #[] #[.pointer (some ⟨bd, 0, none⟩), .pointer (some ⟨bn, 0, none⟩)] : Value) = f := by simpa using hj
    exact ⟨bn, s, hs, rfl, block_keep hb h3 ho, hn, hap bn (lt_of_block hb) ho⟩

set_option maxRecDepth 100000 in
set_option maxHeartbeats 16000000 in
theorem mclean_calls {w0 w : World} {S Sm : Nat → Prop} {B : Nat} {d : Dsk} {M K : Nat} (g l : Int) (a : Option Addr) (segs : List Int) (n c : Nat) (h : Live w0 w S B d) (ht : Tab w0) (he : Errs w0) (hr : IRow w Sm a segs) (hn : segs.length = n) (hm : n ≤ 1099511627776)
    (hfew : Few d M K) (hM : M ≤ 1073741824) (hK : K + 64 ≤ 1073741000) :
    Calls Tryz.prog 25 #[.pointer (some ⟨B, 0, none⟩), .agg #[.int .i64 g, .int .i64 l, .slice a n c]] w (MSt w0 w S B (cleanM d ⟨g, l, segs⟩).1 g (cleanM d ⟨g, l, segs⟩).2) := by
  obtain ⟨W2, hW2⟩ : ∃ W2, (w.alloc (.cells #[.pointer (some ⟨B, 0, none⟩)] 29)).alloc (.cells #[.int .i64 g, .int .i64 l, .slice a n c] 25) = W2 := ⟨_, rfl⟩
  have hb2 : Below w.heap.size w W2 := by rw [← hW2]; exact ((Below.refl _ _).alloc (Nat.le_refl _) _).alloc (by simp) _
  have hbd : W2.heap[w.heap.size]? = some (.cells #[.pointer (some ⟨B, 0, none⟩)] 29 (0, 0)) := by
    rw [← hW2]
    exact block_below ((Below.refl _ _).alloc (Nat.le_refl _) _) (heap_alloc_new w _)
  have hs1 : (w.alloc (.cells #[.pointer (some ⟨B, 0, none⟩)] 29)).heap.size = w.heap.size + 1 := by simp
  have hbm : W2.heap[w.heap.size + 1]? = some (.cells #[.int .i64 g, .int .i64 l, .slice a n c] 25 (0, 0)) := by
    rw [← hW2, ← hs1]
    exact heap_alloc_new _ _
  have HOR := Lib.hid (orphans_calls g l a segs n c W2 (h.disk.below hb2) (hr.below hb2) hn hm ((ht.below h.bel).below hb2) ((he.below h.bel).below hb2))
  have m0 : W2.cell? ⟨w.heap.size, 0, none⟩ = some (.pointer (some ⟨B, 0, none⟩)) := (cell_of_block hbd 0).trans rfl
  have m1 : W2.cell? ⟨w.heap.size + 1, 0, none⟩ = some (.int .i64 g) := (cell_of_block hbm 0).trans rfl
  have m2 : W2.cell? ⟨w.heap.size + 1, 1, none⟩ = some (.int .i64 l) := (cell_of_block hbm 1).trans rfl
  have m3 : W2.cell? ⟨w.heap.size + 1, 2, none⟩ = some (.slice a n c) := (cell_of_block hbm 2).trans rfl
  obtain ⟨mm, hmm⟩ : ∃ m : Mfs, ⟨g, l, segs⟩ = m := ⟨_, rfl⟩
  rw [hmm] at HOR ⊢
  have HZ : Hid (∀ s ∈ orphM d mm, s.size ≤ 1099511627000) := Lib.hid (fun s hs => name_size h.disk.1 s (List.mem_filter.1 hs).1)
  have hlen : (orphM d mm).length ≤ 64 := Nat.le_trans (List.length_filter_le _ _) (by rw [List.length_map]; exact h.disk.1.most)
  obtain ⟨q, hq⟩ : ∃ q, cleanM d mm = q := ⟨_, rfl⟩
  have HQ0 : Hid (runB d ((orphM d mm).map delO) = q) := Lib.hid hq
  rw [hq]
  obtain ⟨ec, d9⟩ := q
  dsimp only
  unfold OrphOut at HOR
  obtain ⟨NS, hNS⟩ : ∃ NS, orphM d mm = NS := ⟨_, rfl⟩
  rw [hNS] at HOR HZ hlen HQ0
  obtain ⟨nn, hnn⟩ : ∃ nn, NS.length = nn := ⟨_, rfl⟩
  rw [hnn] at HOR hlen
  have HNN := Lib.hid hnn
  have HW2 := Lib.hid hW2
  have HB2 := Lib.hid hb2
  have HBD := Lib.hid hbd
  have HBM := Lib.hid hbm
  have HL := Lib.hid h
  have HFEW := Lib.hid hfew
  obtain ⟨PST, hP⟩ : ∃ P, MSt w0 w S B ec g d9 = P := ⟨_, rfl⟩
  have HQ : Hid (True) := Lib.hid trivial
  have HPO : Hid (∀ c d', True → ∀ e W, c = ec → d' = d9 → MSt w0 w S B c g d' e W → PST e W) := Lib.hid (fun c d' _ e W h1 h2 hm => by subst h1 h2; rw [← hP]; exact hm)
  rw [hP]
  clear hW2 hb2 hbd hbm hs1 h ht he hr hn hfew hmm hq hNS hnn hP
  go_enter Tryz.func25, Tryz.ntmps25
  go_wp2_with fail
  rw [HW2.out]
  with_reducible refine HOR.out.mono ?_
  rintro e w3 ⟨a3, c3, S3, rfl, hvr3, _, hb3⟩
  have HV3 := Lib.hid hvr3
  have HB3 := Lib.hid hb3
  have HCL0 : Hid (ClF w3 w3 w.heap.size NS 0 (.slice none 0 0) []) := Lib.hid ⟨OwnF.nil w3, rfl, fun j f hj => by simp at hj⟩
  clear hvr3 hb3 HOR m0 m1 m2 m3
  go_wp2_with fail
  go_loopg [5, 12] nn (fun gk v idx wr => ∃ (i : Nat) (fs : List Value), idx = .int .i64 (i : Int) ∧ gk + i = nn ∧ ClF w3 wr w.heap.size NS i v fs)
  case atStart => exact ⟨0, [], rfl, rfl, HCL0.out⟩
  case round =>
    obtain ⟨i, fs, rfl, hg, hcl⟩ := hrel
    have HG := Lib.hid hg
    have HCL := Lib.hid hcl
    clear hg hcl HCL0
    by_cases hlt : i < nn
    · obtain ⟨g', rfl⟩ : ∃ g', gk = g' + 1 := ⟨gk - 1, by have := HG.out; omega⟩
      have hdd : decide ((i : Int) < (nn : Int)) = true := by simp; omega
      obtain ⟨s, hs⟩ : ∃ s, NS[i]? = some s := ⟨NS[i]'(by rw [HNN.out]; exact hlt), List.getElem?_eq_getElem _⟩
      obtain ⟨ab, ao, rfl, hcx⟩ := vrow_at (HV3.out.below HCL.out.own.bel) (i := i) (x := .string s) (by rw [List.getElem?_map, hs]; rfl)
      obtain ⟨W4, hW4⟩ : ∃ W, wr.alloc (.cells #[.string s] 9) = W := ⟨_, rfl⟩
      have hb4 : Below wr.heap.size wr W4 := by rw [← hW4]; exact (Below.refl _ _).alloc (Nat.le_refl _) _
      have hk4 : W4.heap[wr.heap.size]? = some (.cells #[.string s] 9 (0, 0)) := by rw [← hW4]; exact heap_alloc_new _ _
      obtain ⟨v', w', hrun, hcl', _⟩ := (HCL.out.below hb4).more hs (by omega) hk4 HCL.out.own.bel.size (fun e => by have := HCL.out.own.lt _ e; omega)
      have HRUN := Lib.hid hrun
      have HCL2 := Lib.hid hcl'
      clear hs hb4 hk4 hrun hcl'
      go_wp2_with (first | (at_builtin; refine wpList_step (fun K hK => step_app HRUN.out (.tmp 16) (.tmp 18) rfl rfl rfl rfl (hK _ _ ?_))) | fail)
      go_roundg g'
      case measure => omega
      case rel => exact ⟨i + 1, _, by go_num, by have := HG.out; omega, HCL2.out⟩
    · have hdd : decide ((i : Int) < (nn : Int)) = false := by simp; omega
      obtain rfl : i = nn := by have := HG.out; omega
      obtain ⟨av, cv, hv, hvr, _⟩ := HCL.out.own.form
      rw [HCL.out.len] at hv
      subst hv
      have HBR : Hid (Below w.heap.size w wr) := Lib.hid (below_then HB2.out (below_then HB3.out HCL.out.own.bel))
      have HLR := Lib.hid (HL.out.quiet HBR.out)
      have hoff : Off S wr (fun k => w.heap.size ≤ k ∧ k < wr.heap.size) := fun k hk => ⟨hk.2, fun e => by have := HL.out.disk.2.1 k e; have := hk.1; omega⟩
      have h23 := HB2.out.size
      have h33 := HB3.out.size
      have hbdr := block_below (below_then HB3.out HCL.out.own.bel) HBD.out
      have hbmr := block_below (below_then HB3.out HCL.out.own.bel) HBM.out
      have HMR : Hid (wr.cell? ⟨w.heap.size + 1, 0, none⟩ = some (.int .i64 g)) := Lib.hid ((cell_of_block hbmr 0).trans rfl)
      have HSC : Hid (∀ X, Keeps S wr X → X.cell? ⟨w.heap.size + 1, 0, none⟩ = some (.int .i64 g)) := Lib.hid (fun X hk => (World.cell?_of_block (a := ⟨w.heap.size + 1, 0, none⟩) (hk.block _ (lt_of_block hbmr) (fun e => by have h9 : w.heap.size + 1 < w.heap.size := HL.out.disk.2.1 _ e; omega))).trans HMR.out)
      have hown := HCL.out.own
      have hall : ∀ (j : Nat) (f : Value) (o : Opn), fs[j]? = some f → (NS.map delO)[j]? = some o → OpAt w0 (fun k => w.heap.size ≤ k ∧ k < wr.heap.size) B wr f o := fun j f o hf ho => by
        obtain ⟨bn, s, g1, rfl, g3, g4, _⟩ := HCL.out.at_ j f hf
        rw [List.getElem?_map, g1] at ho
        obtain rfl : delO s = o := by simpa using ho
        exact cl_clean (Nat.le_trans (HZ.out s (List.mem_of_getElem? g1)) (by decide)) ⟨Nat.le_refl _, lt_of_block hbdr⟩ ⟨by omega, lt_of_block g3⟩ ((cell_of_block hbdr 0).trans rfl) ((cell_of_block g3 0).trans rfl)
      have hopsN : opsN (NS.map delO) = 0 := opsN_none NS
      have HDO : Hid (∀ X, Below wr.heap.size wr X → Calls Tryz.prog 64 #[.slice av i cv] X (Does wr S B (.int .i64 ec) d9)) := Lib.hid (fun X hbx => by
        have hx := Calls.after (mdo_calls av fs (NS.map delO) i cv (HLR.out.quiet hbx) (hoff.below hbx) ((hvr.mono (fun k e => ⟨by have := hown.new k e; omega, hown.lt k e⟩)).below hbx) HCL.out.len (by rw [List.length_map, HNN.out]) (fun j f o hf ho => (hall j f o hf ho).later (fun k hk => hbx.block k hk.2)) HFEW.out (fun o ho => by
          obtain ⟨s, _, rfl⟩ := List.mem_map.1 ho
          exact fun c hc => by cases hc) (by rw [hopsN]; omega) (by omega)) (keeps_below hbx S)
        rw [HQ0.out] at hx
        exact hx)
      have HFL := Lib.hid (fun X => fail_calls ec g X)
      clear hvr hoff hbdr hbmr hown hall hopsN HCL
      go_wp2_with fail
      obtain ⟨x0, hx0⟩ : ∃ W, wr.drew = W := ⟨_, rfl⟩
      have hbx0 : Below wr.heap.size wr x0 := by rw [← hx0]; exact below_drewN wr 1
      have HBx0 := Lib.hid hbx0
      refine wp_region_held_drew (S := fun W => W.cell? ⟨w.heap.size + 1, 0, none⟩ = some (.int .i64 g)) (by kernel_rfl) (by rw [hx0]; exact HSC.out _ (keeps_below hbx0 S)) (fun hHeld => ?_)
      rw [hx0] at hHeld ⊢
      clear hx0 hbx0
      refine wpAnyH_take (i := 0) (v := ?_) rfl (by kernel_rfl) (by kernel_rfl) (by kernel_rfl) (fun _ _ _ h => h) (Or.inl ⟨by rfl, ?_⟩) (by assumption) ?_
      rotate_left
      · intro W hS
        try dsimp only at hS
        go_simp
        try with_reducible rfl
      simp only [List.getElem_toArray, List.getElem_cons_zero, Act.put, List.setIfInBounds_toArray, List.set_cons_zero, List.set_cons_succ]
      refine wpAnyH_take (i := 2) (v := ?_) rfl (by kernel_rfl) (by kernel_rfl) (by kernel_rfl) (fun _ _ _ h => h) (Or.inl ⟨by rfl, ?_⟩) (by assumption) ?_
      rotate_left
      · intro W hS
        try dsimp only at hS
        go_simp
        try with_reducible rfl
      simp only [List.getElem_toArray, List.getElem_cons_succ, List.getElem_cons_zero, Act.put, List.setIfInBounds_toArray, List.set_cons_zero, List.set_cons_succ]
      refine wpAnyH_take (i := 3) (v := ?_) rfl (by kernel_rfl) (by kernel_rfl) (by kernel_rfl) (fun _ _ _ h => h) (Or.inl ⟨by rfl, ?_⟩) (by assumption) ?_
      rotate_left
      · intro W hS
        try dsimp only at hS
        go_simp
        try with_reducible rfl
      simp only [List.getElem_toArray, List.getElem_cons_succ, List.getElem_cons_zero, Act.put, List.setIfInBounds_toArray, List.set_cons_zero, List.set_cons_succ]
      refine wpAnyH_ready (rs := [1]) (by kernel_rfl) (by simp) ?_
      refine AllReadyH.cons rfl (fun K hK => ?_) AllReadyH.nil
      go_simp
      with_reducible refine (HDO.out _ HBx0.out).mono ?_
      rintro e x1 ⟨rfl, ht8⟩
      obtain ⟨S8, hl8, hf8, hk8⟩ := HLR.out.turns ht8
      have HK8 := Lib.hid hk8
      have HL8 := Lib.hid hl8
      have HF8 := Lib.hid hf8
      clear ht8 hl8 hf8 hk8
      refine hK.out _ _ (HSC.out _ HK8.out) (fun hHeld => ?_)
      clear hK K
      try simp only [List.getElem_toArray, List.getElem_cons_succ, List.getElem_cons_zero, Act.put, List.setIfInBounds_toArray, List.set_cons_zero, List.set_cons_succ]
      refine wpAnyH_ready (rs := [4]) (by kernel_rfl) (by simp) ?_
      refine AllReadyH.cons rfl (fun K hK => ?_) AllReadyH.nil
      go_simp
      with_reducible refine (HFL.out x1).mono ?_
      rintro e x2 ⟨ev, rfl, herr, hb9⟩
      have HKA : Hid (Keeps S w x1) := Lib.hid ((keeps_below HBR.out S).trans HK8.out (fun k e => .inl e))
      have HF : Hid (PST (.returned ev) x2) := Lib.hid (HPO.out ec d9 HQ.out _ _ rfl rfl ⟨ev, rfl, herr.low HKA.out.size, S8, HL8.out.quiet hb9, fun k e => by
        rcases HF8.out k e with e | e
        · exact .inl e
        · exact .inr (Nat.le_trans HBR.out.size e), HKA.out.trans (keeps_below hb9 Non) (fresh_non _ _), _, herr, HL8.out.disk.2.1⟩)
      have HB9 := Lib.hid hb9
      clear herr hb9
      refine hK.out _ _ (HSC.out _ (HK8.out.trans (keeps_below HB9.out Non) (fresh_non _ _))) (fun hHeld => ?_)
      clear hK K
      try simp only [List.getElem_toArray, List.getElem_cons_succ, List.getElem_cons_zero, Act.put, List.setIfInBounds_toArray, List.set_cons_zero, List.set_cons_succ]
      refine wpAnyH_take (i := 5) (v := ?_) rfl (by kernel_rfl) (by kernel_rfl) (by kernel_rfl) (fun _ _ _ h => h) (Or.inl ⟨by rfl, ?_⟩) (by assumption) ?_
      rotate_left
      · intro W hS
        try dsimp only at hS
        go_simp
        try with_reducible rfl
      simp only [List.getElem_toArray, List.getElem_cons_succ, List.getElem_cons_zero, Act.put, List.setIfInBounds_toArray, List.set_cons_zero, List.set_cons_succ]
      refine wpAnyH_done (by kernel_rfl) ?_ _
      go_wp2
      exact HF.out

end Go.Proofs.YtacfcfbleogioaaGreatDoor
