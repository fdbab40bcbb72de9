/-
  The law's steps: rows of Do in memory, and act. Conditions: the disk lies in blocks of its own beside the step's; names and rows are small.
-/
import Derived.Test.YtfiacojgddpphaaLawP
namespace Go.Proofs.Ytfiacojgddpphaa
open Go.RowKit Go.Lib Go.Joins

/-- A step. -/
structure DoI where
  kind : Int
  name : ByteArray
  to : ByteArray
  n : Int
  b : List Nat
  tails : List Int
  list : List Tro
/-- Where its rows lie. -/
structure DoC where
  ab : Option Addr
  cb : Nat
  at_ : Option Addr
  ct : Nat
  al : Option Addr
  cl : Nat
abbrev doA (x : DoI) (c : DoC) : Array Value := #[.int .i64 x.kind, .string x.name, .string x.to, .int .i64 x.n, .slice c.ab x.b.length c.cb, .slice c.at_ x.tails.length c.ct, .slice c.al x.list.length c.cl]
structure DoV (w : World) (S : Nat → Prop) (x : DoI) (c : DoC) : Prop where
  row : Row w S c.ab x.b
  nb : c.ab = none → c.cb = 0
  lb : x.b.length ≤ c.cb
  mb : c.cb ≤ maxLen
  tails : RowI w S c.at_ x.tails
  lt : x.tails.length ≤ c.ct
  list : RowT w S c.al x.list
  wf : ∀ t ∈ x.list, (Lit.int .i64 t.at_).wf = true
theorem DoV.keep {w w' : World} {S O : Nat → Prop} {x : DoI} {c : DoC} (h : DoV w S x c) (hb : Keeps O w w') (hO : ∀ k, S k → ¬ O k) : DoV w' S x c :=
  ⟨h.row.keep hb hO, h.nb, h.lb, h.mb, h.tails.keep hb hO, h.lt, h.list.keep hb hO, h.wf⟩
theorem DoV.below {w w' : World} {S : Nat → Prop} {x : DoI} {c : DoC} (h : DoV w S x c) (hb : Below w.heap.size w w') : DoV w' S x c := h.keep (keeps_below hb Non) (fun _ _ h => h)

/-- Whether a step is small enough. -/
structure DoS (x : DoI) : Prop where
  b : x.b.length ≤ 2000
  name : x.name.size ≤ 1000
  to : x.to.size ≤ 1000
  tails : x.tails.length ≤ 200
  list : x.list.length ≤ 200

def opn (x : DoI) : Opn := ⟨x.kind.toNat, x.name, x.to, x.n, x.b⟩
/-- What a step makes of a disk. -/
def actS (d : Dsk) (x : DoI) : Int × Dsk :=
  if 1 ≤ x.kind ∧ x.kind ≤ 6 then step d (opn x) else if x.kind = 7 then (0, crash x.tails d) else if x.kind = 8 then (0, arm x.list d) else (0, d)

theorem step_b {d : Dsk} {k : Nat} (hk : k ≠ 2) (s t : ByteArray) (n : Int) (b : List Nat) : step d ⟨k, s, t, n, b⟩ = step d ⟨k, s, t, n, []⟩ := by
  unfold step ref refF whole part
  simp only [hk, if_false]

set_option maxRecDepth 100000 in
set_option maxHeartbeats 8000000 in
theorem act_calls (x : DoI) (c : DoC) {w0 w : World} {S O : Nat → Prop} {B : Nat} {d : Dsk} (h : Live w0 w S B d) (hs : Sml d) (hv : DoV w O x c) (hO : Off S w O) (hx : DoS x) :
    Calls Try.prog 13 #[.pointer (some ⟨B, 0, none⟩), .agg (doA x c)] w (Does w S B (.int .i64 (actS d x).1) (actS d x).2) := by
  obtain ⟨W, hW⟩ : ∃ W, w.alloc (.cells (doA x c) 39) = W := ⟨_, rfl⟩
  have hbel : Below w.heap.size w W := by rw [← hW]; exact (Below.refl _ _).alloc (Nat.le_refl _) _
  have hk : Keeps S w W := keeps_below hbel S
  have hb : W.heap[w.heap.size]? = some (.cells (doA x c) 39 (0, 0)) := by rw [← hW]; exact heap_alloc_new w _
  have c0 : W.cell? ⟨w.heap.size, 0, none⟩ = some (.int .i64 x.kind) := (cell_of_block hb 0).trans rfl
  have c1 : W.cell? ⟨w.heap.size, 1, none⟩ = some (.string x.name) := (cell_of_block hb 1).trans rfl
  have c2 : W.cell? ⟨w.heap.size, 2, none⟩ = some (.string x.to) := (cell_of_block hb 2).trans rfl
  have c3 : W.cell? ⟨w.heap.size, 3, none⟩ = some (.int .i64 x.n) := (cell_of_block hb 3).trans rfl
  have c4 : W.cell? ⟨w.heap.size, 4, none⟩ = some (.slice c.ab x.b.length c.cb) := (cell_of_block hb 4).trans rfl
  have c5 : W.cell? ⟨w.heap.size, 5, none⟩ = some (.slice c.at_ x.tails.length c.ct) := (cell_of_block hb 5).trans rfl
  have c6 : W.cell? ⟨w.heap.size, 6, none⟩ = some (.slice c.al x.list.length c.cl) := (cell_of_block hb 6).trans rfl
  have HK := Lib.hid hk
  have HL := Lib.hid (h.quiet hbel)
  have HS := Lib.hid hs
  have HV := Lib.hid (hv.below hbel)
  have HO := Lib.hid (hO.below hbel)
  have HX := Lib.hid hx
  clear hb hbel hk h hs hv hO hx
  obtain ⟨k, s, t, n, b, ts, tl⟩ := x
  obtain ⟨ab, cb, at_, ct, al, cl⟩ := c
  dsimp only [doA] at hW c0 c1 c2 c3 c4 c5 c6 ⊢
  by_cases k1 : k = 1
  · subst k1
    have ha : actS d ⟨1, s, t, n, b, ts, tl⟩ = step d ⟨1, s, t, n, b⟩ := by unfold actS; rw [if_pos ⟨show (1 : Int) ≤ 1 by decide, show (1 : Int) ≤ 6 by decide⟩]; rfl
    rw [ha, step_b (by decide)]
    have hc := create_calls s W HL.out.disk HS.out (by have := HX.out.name; dsimp only at this; omega) t n
    have HC := Lib.hid hc
    clear ha hc
    go_enter Try.func13, Try.ntmps13
    go_wp2_with fail
    with_reducible refine HC.out.mono ?_
    rintro e w' ⟨rfl, ht⟩
    go_wp2
    go_ret
    exact Does.after HK.out ⟨rfl, ht⟩
  by_cases k2 : k = 2
  · subst k2
    have ha : actS d ⟨2, s, t, n, b, ts, tl⟩ = step d ⟨2, s, t, n, b⟩ := by unfold actS; rw [if_pos ⟨show (1 : Int) ≤ 2 by decide, show (2 : Int) ≤ 6 by decide⟩]; rfl
    rw [ha]
    have hc := append_calls s ab b cb W HL.out.disk HS.out (by have := HX.out.name; dsimp only at this; omega) HV.out.row HO.out HV.out.nb HV.out.lb HV.out.mb (by have := HX.out.b; dsimp only at this; omega) t n
    have HC := Lib.hid hc
    clear ha hc
    go_enter Try.func13, Try.ntmps13
    go_wp2_with fail
    with_reducible refine HC.out.mono ?_
    rintro e w' ⟨rfl, ht⟩
    go_wp2
    go_ret
    exact Does.after HK.out ⟨rfl, ht⟩
  by_cases k3 : k = 3
  · subst k3
    have ha : actS d ⟨3, s, t, n, b, ts, tl⟩ = step d ⟨3, s, t, n, b⟩ := by unfold actS; rw [if_pos ⟨show (1 : Int) ≤ 3 by decide, show (3 : Int) ≤ 6 by decide⟩]; rfl
    rw [ha, step_b (by decide)]
    have hc := cut_calls s n W HL.out.disk HS.out (by have := HX.out.name; dsimp only at this; omega) t
    have HC := Lib.hid hc
    clear ha hc
    go_enter Try.func13, Try.ntmps13
    go_wp2_with fail
    with_reducible refine HC.out.mono ?_
    rintro e w' ⟨rfl, ht⟩
    go_wp2
    go_ret
    exact Does.after HK.out ⟨rfl, ht⟩
  by_cases k4 : k = 4
  · subst k4
    have ha : actS d ⟨4, s, t, n, b, ts, tl⟩ = step d ⟨4, s, t, n, b⟩ := by unfold actS; rw [if_pos ⟨show (1 : Int) ≤ 4 by decide, show (4 : Int) ≤ 6 by decide⟩]; rfl
    rw [ha, step_b (by decide)]
    have hc := sync_calls s W HL.out.disk HS.out (by have := HX.out.name; dsimp only at this; omega) t n
    have HC := Lib.hid hc
    clear ha hc
    go_enter Try.func13, Try.ntmps13
    go_wp2_with fail
    with_reducible refine HC.out.mono ?_
    rintro e w' ⟨rfl, ht⟩
    go_wp2
    go_ret
    exact Does.after HK.out ⟨rfl, ht⟩
  by_cases k5 : k = 5
  · subst k5
    have ha : actS d ⟨5, s, t, n, b, ts, tl⟩ = step d ⟨5, s, t, n, b⟩ := by unfold actS; rw [if_pos ⟨show (1 : Int) ≤ 5 by decide, show (5 : Int) ≤ 6 by decide⟩]; rfl
    rw [ha, step_b (by decide)]
    have hc := rename_calls s t W HL.out.disk HS.out (by have := HX.out.name; dsimp only at this; omega) (by have := HX.out.to; dsimp only at this; omega) n
    have HC := Lib.hid hc
    clear ha hc
    go_enter Try.func13, Try.ntmps13
    go_wp2_with fail
    with_reducible refine HC.out.mono ?_
    rintro e w' ⟨rfl, ht⟩
    go_wp2
    go_ret
    exact Does.after HK.out ⟨rfl, ht⟩
  by_cases k6 : k = 6
  · subst k6
    have ha : actS d ⟨6, s, t, n, b, ts, tl⟩ = step d ⟨6, s, t, n, b⟩ := by unfold actS; rw [if_pos ⟨show (1 : Int) ≤ 6 by decide, show (6 : Int) ≤ 6 by decide⟩]; rfl
    rw [ha, step_b (by decide)]
    have hc := delete_calls s W HL.out.disk HS.out (by have := HX.out.name; dsimp only at this; omega) t n
    have HC := Lib.hid hc
    clear ha hc
    go_enter Try.func13, Try.ntmps13
    go_wp2_with fail
    with_reducible refine HC.out.mono ?_
    rintro e w' ⟨rfl, ht⟩
    go_wp2
    go_ret
    exact Does.after HK.out ⟨rfl, ht⟩
  by_cases k7 : k = 7
  · subst k7
    have ha : actS d ⟨7, s, t, n, b, ts, tl⟩ = (0, crash ts d) := rfl
    rw [ha]
    have hc := crash_calls at_ ts ct _ W HL.out.disk HS.out.used HV.out.tails rfl HO.out.not HV.out.lt (by have := HX.out.tails; dsimp only at this; omega)
    have HC := Lib.hid hc
    clear ha hc
    go_enter Try.func13, Try.ntmps13
    go_wp2_with fail
    with_reducible refine HC.out.mono ?_
    rintro e w' ⟨rfl, ht⟩
    go_wp2
    go_ret
    exact Does.after HK.out ⟨rfl, ht⟩
  by_cases k8 : k = 8
  · subst k8
    have ha : actS d ⟨8, s, t, n, b, ts, tl⟩ = (0, arm tl d) := rfl
    rw [ha]
    have hc := arm_calls al tl cl _ W HL.out.disk HV.out.list rfl (fun k hk => ⟨(HO.out k hk).2, (HO.out k hk).1⟩) (by have := HX.out.list; dsimp only at this; omega) HV.out.wf
    have HC := Lib.hid hc
    clear ha hc
    go_enter Try.func13, Try.ntmps13
    go_wp2_with fail
    with_reducible refine HC.out.mono ?_
    rintro e w' ⟨rfl, ht⟩
    go_wp2
    go_ret
    exact Does.after HK.out ⟨rfl, ht⟩
  have ha : actS d ⟨k, s, t, n, b, ts, tl⟩ = (0, d) := by
    unfold actS
    rw [if_neg (by dsimp only; omega), if_neg k7, if_neg k8]
  rw [ha]
  have HT : Hid (Turns W S B d W) := Lib.hid ⟨S, HL.out.disk, fresh_refl _ _, Keeps.refl _ _⟩
  clear ha
  have d1 : (k == 1) = false := by simpa using k1
  have f1 : decide (k = 1) = false := by simpa using k1
  have d2 : (k == 2) = false := by simpa using k2
  have f2 : decide (k = 2) = false := by simpa using k2
  have d3 : (k == 3) = false := by simpa using k3
  have f3 : decide (k = 3) = false := by simpa using k3
  have d4 : (k == 4) = false := by simpa using k4
  have f4 : decide (k = 4) = false := by simpa using k4
  have d5 : (k == 5) = false := by simpa using k5
  have f5 : decide (k = 5) = false := by simpa using k5
  have d6 : (k == 6) = false := by simpa using k6
  have f6 : decide (k = 6) = false := by simpa using k6
  have d7 : (k == 7) = false := by simpa using k7
  have f7 : decide (k = 7) = false := by simpa using k7
  have d8 : (k == 8) = false := by simpa using k8
  have f8 : decide (k = 8) = false := by simpa using k8
  clear k1 k2 k3 k4 k5 k6 k7 k8
  go_enter Try.func13, Try.ntmps13
  go_wp2
  go_ret
  exact Does.after HK.out ⟨rfl, HT.out⟩

end Go.Proofs.Ytfiacojgddpphaa
