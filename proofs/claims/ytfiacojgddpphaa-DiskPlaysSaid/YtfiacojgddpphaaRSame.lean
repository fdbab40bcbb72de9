/-
  The law's steps of the reference's disk: same. Conditions: the disk lies in memory beside the step's; names and rows are small.
-/
import Derived.Test.YtfiacojgddpphaaRDo
import Derived.Test.YtfiacojgddpphaaRCrashB
import Derived.Test.YtfiacojgddpphaaDo
namespace Go.Proofs.Ytfiacojgddpphaa
open Go.RowKit Go.Lib Go.Joins

theorem RDoes.after {w w1 : World} {S : Nat → Prop} {B : Nat} {v : Value} {d' : Dsk} (hk : Keeps S w w1) {e : Ending} {w' : World} (h : RDoes w1 S B v d' e w') : RDoes w S B v d' e w' := ⟨h.1, h.2.after hk⟩

set_option maxRecDepth 100000 in
set_option maxHeartbeats 8000000 in
theorem rsame_calls (x : DoI) (c : DoC) {w : World} {S O : Nat → Prop} {B : Nat} {d : Dsk} (h : RefD w S B d) (hs : Sml d) (hv : DoV w O x c) (hO : ∀ k, O k → ¬ S k) (hx : DoS x) (htl : d.tr.length ≤ 1048576) :
    Calls Try.prog 14 #[.pointer (some ⟨B, 0, none⟩), .agg (doA x c)] w (RDoes w S B (.int .i64 (actS d x).1) (actS d x).2) := by
  obtain ⟨W, hW⟩ : ∃ W, w.alloc (.cells (doA x c) 39) = W := ⟨_, rfl⟩
  have hbel : Below w.heap.size w W := by rw [← hW]; exact (Below.refl _ _).alloc (Nat.le_refl _) _
  have hk : Keeps S w W := keeps_below hbel S
  have hb : W.heap[w.heap.size]? = some (.cells (doA x c) 39 (0, 0)) := by rw [← hW]; exact heap_alloc_new w _
  have c0 : W.cell? ⟨w.heap.size, 0, none⟩ = some (.int .i64 x.kind) := (cell_of_block hb 0).trans rfl
  have c1 : W.cell? ⟨w.heap.size, 1, none⟩ = some (.string x.name) := (cell_of_block hb 1).trans rfl
  have c2 : W.cell? ⟨w.heap.size, 2, none⟩ = some (.string x.to) := (cell_of_block hb 2).trans rfl
  have c3 : W.cell? ⟨w.heap.size, 3, none⟩ = some (.int .i64 x.n) := (cell_of_block hb 3).trans rfl
  have c4 : W.cell? ⟨w.heap.size, 4, none⟩ = some (.slice c.ab x.b.length c.cb) := (cell_of_block hb 4).trans rfl
  have c5 : W.cell? ⟨w.heap.size, 5, none⟩ = some (.slice c.at_ x.tails.length c.ct) := (cell_of_block hb 5).trans rfl
  have c6 : W.cell? ⟨w.heap.size, 6, none⟩ = some (.slice c.al x.list.length c.cl) := (cell_of_block hb 6).trans rfl
  have HK := Lib.hid hk
  have HL := Lib.hid (h.below hbel)
  have HSW := Lib.hid h.2.1
  have HS := Lib.hid hs
  have HV := Lib.hid (hv.below hbel)
  have HO := Lib.hid hO
  have HX := Lib.hid hx
  have HTL := Lib.hid htl
  clear hb hbel hk h hs hv hO hx htl
  obtain ⟨k, s, t, n, b, ts, tl⟩ := x
  obtain ⟨ab, cb, at_, ct, al, cl⟩ := c
  dsimp only [doA] at hW c0 c1 c2 c3 c4 c5 c6 ⊢
  have HDH : Hid (DoHyp W S O B d s t ab b b.length cb) := Lib.hid ⟨HL.out, HS.out, by have := HX.out.name; dsimp only at this; omega, by have := HX.out.to; dsimp only at this; omega, HV.out.row, HO.out, HV.out.nb, rfl, HV.out.lb, HV.out.mb, by have := HX.out.b; dsimp only at this; omega, HTL.out⟩
  by_cases k1 : k = 1
  · subst k1
    have ha : actS d ⟨1, s, t, n, b, ts, tl⟩ = step d ⟨1, s, t, n, b⟩ := by unfold actS; rw [if_pos ⟨show (1 : Int) ≤ 1 by decide, show (1 : Int) ≤ 6 by decide⟩]; rfl
    rw [ha]
    have hc : Calls Try.prog 40 #[.pointer (some ⟨B, 0, none⟩), .int .i64 1, .string s, .string t, .int .i64 n, .slice ab b.length cb] W (RDoes W S B (.int .i64 (step d ⟨1, s, t, n, b⟩).1) (step d ⟨1, s, t, n, b⟩).2) := rdo_calls s t n ab b b.length cb W (k := 1) (by decide) HDH.out
    have HC := Lib.hid hc
    clear ha hc
    go_enter Try.func14, Try.ntmps14
    go_wp2_with fail
    with_reducible refine HC.out.mono ?_
    rintro e w' ⟨rfl, ht⟩
    go_wp2
    go_ret
    exact RDoes.after HK.out ⟨rfl, ht⟩
  by_cases k2 : k = 2
  · subst k2
    have ha : actS d ⟨2, s, t, n, b, ts, tl⟩ = step d ⟨2, s, t, n, b⟩ := by unfold actS; rw [if_pos ⟨show (1 : Int) ≤ 2 by decide, show (2 : Int) ≤ 6 by decide⟩]; rfl
    rw [ha]
    have hc : Calls Try.prog 40 #[.pointer (some ⟨B, 0, none⟩), .int .i64 2, .string s, .string t, .int .i64 n, .slice ab b.length cb] W (RDoes W S B (.int .i64 (step d ⟨2, s, t, n, b⟩).1) (step d ⟨2, s, t, n, b⟩).2) := rdo_calls s t n ab b b.length cb W (k := 2) (by decide) HDH.out
    have HC := Lib.hid hc
    clear ha hc
    go_enter Try.func14, Try.ntmps14
    go_wp2_with fail
    with_reducible refine HC.out.mono ?_
    rintro e w' ⟨rfl, ht⟩
    go_wp2
    go_ret
    exact RDoes.after HK.out ⟨rfl, ht⟩
  by_cases k3 : k = 3
  · subst k3
    have ha : actS d ⟨3, s, t, n, b, ts, tl⟩ = step d ⟨3, s, t, n, b⟩ := by unfold actS; rw [if_pos ⟨show (1 : Int) ≤ 3 by decide, show (3 : Int) ≤ 6 by decide⟩]; rfl
    rw [ha]
    have hc : Calls Try.prog 40 #[.pointer (some ⟨B, 0, none⟩), .int .i64 3, .string s, .string t, .int .i64 n, .slice ab b.length cb] W (RDoes W S B (.int .i64 (step d ⟨3, s, t, n, b⟩).1) (step d ⟨3, s, t, n, b⟩).2) := rdo_calls s t n ab b b.length cb W (k := 3) (by decide) HDH.out
    have HC := Lib.hid hc
    clear ha hc
    go_enter Try.func14, Try.ntmps14
    go_wp2_with fail
    with_reducible refine HC.out.mono ?_
    rintro e w' ⟨rfl, ht⟩
    go_wp2
    go_ret
    exact RDoes.after HK.out ⟨rfl, ht⟩
  by_cases k4 : k = 4
  · subst k4
    have ha : actS d ⟨4, s, t, n, b, ts, tl⟩ = step d ⟨4, s, t, n, b⟩ := by unfold actS; rw [if_pos ⟨show (1 : Int) ≤ 4 by decide, show (4 : Int) ≤ 6 by decide⟩]; rfl
    rw [ha]
    have hc : Calls Try.prog 40 #[.pointer (some ⟨B, 0, none⟩), .int .i64 4, .string s, .string t, .int .i64 n, .slice ab b.length cb] W (RDoes W S B (.int .i64 (step d ⟨4, s, t, n, b⟩).1) (step d ⟨4, s, t, n, b⟩).2) := rdo_calls s t n ab b b.length cb W (k := 4) (by decide) HDH.out
    have HC := Lib.hid hc
    clear ha hc
    go_enter Try.func14, Try.ntmps14
    go_wp2_with fail
    with_reducible refine HC.out.mono ?_
    rintro e w' ⟨rfl, ht⟩
    go_wp2
    go_ret
    exact RDoes.after HK.out ⟨rfl, ht⟩
  by_cases k5 : k = 5
  · subst k5
    have ha : actS d ⟨5, s, t, n, b, ts, tl⟩ = step d ⟨5, s, t, n, b⟩ := by unfold actS; rw [if_pos ⟨show (1 : Int) ≤ 5 by decide, show (5 : Int) ≤ 6 by decide⟩]; rfl
    rw [ha]
    have hc : Calls Try.prog 40 #[.pointer (some ⟨B, 0, none⟩), .int .i64 5, .string s, .string t, .int .i64 n, .slice ab b.length cb] W (RDoes W S B (.int .i64 (step d ⟨5, s, t, n, b⟩).1) (step d ⟨5, s, t, n, b⟩).2) := rdo_calls s t n ab b b.length cb W (k := 5) (by decide) HDH.out
    have HC := Lib.hid hc
    clear ha hc
    go_enter Try.func14, Try.ntmps14
    go_wp2_with fail
    with_reducible refine HC.out.mono ?_
    rintro e w' ⟨rfl, ht⟩
    go_wp2
    go_ret
    exact RDoes.after HK.out ⟨rfl, ht⟩
  by_cases k6 : k = 6
  · subst k6
    have ha : actS d ⟨6, s, t, n, b, ts, tl⟩ = step d ⟨6, s, t, n, b⟩ := by unfold actS; rw [if_pos ⟨show (1 : Int) ≤ 6 by decide, show (6 : Int) ≤ 6 by decide⟩]; rfl
    rw [ha]
    have hc : Calls Try.prog 40 #[.pointer (some ⟨B, 0, none⟩), .int .i64 6, .string s, .string t, .int .i64 n, .slice ab b.length cb] W (RDoes W S B (.int .i64 (step d ⟨6, s, t, n, b⟩).1) (step d ⟨6, s, t, n, b⟩).2) := rdo_calls s t n ab b b.length cb W (k := 6) (by decide) HDH.out
    have HC := Lib.hid hc
    clear ha hc
    go_enter Try.func14, Try.ntmps14
    go_wp2_with fail
    with_reducible refine HC.out.mono ?_
    rintro e w' ⟨rfl, ht⟩
    go_wp2
    go_ret
    exact RDoes.after HK.out ⟨rfl, ht⟩
  by_cases k7 : k = 7
  · subst k7
    have ha : actS d ⟨7, s, t, n, b, ts, tl⟩ = (0, crash ts d) := rfl
    rw [ha]
    have hc := rcrash_calls at_ ts ct ts.length W HL.out HS.out.used HV.out.tails rfl HO.out HV.out.lt (by have := HX.out.tails; dsimp only at this; omega)
    have HC := Lib.hid hc
    clear ha hc
    go_enter Try.func14, Try.ntmps14
    go_wp2_with fail
    with_reducible refine HC.out.mono ?_
    rintro e w' ⟨rfl, ht⟩
    have HT := Lib.hid ht
    obtain ⟨S', _, _, hk'⟩ := ht
    have c0' : w'.cell? ⟨w.heap.size, 0, none⟩ = some (.int .i64 7) := (World.cell?_of_block (a := ⟨w.heap.size, 0, none⟩) (hk'.block _ (lt_of_cell c0) (fun e => Nat.lt_irrefl _ (HSW.out _ e)))).trans c0
    clear hk'
    go_wp2
    go_ret
    exact RDoes.after HK.out ⟨rfl, HT.out⟩
  by_cases k8 : k = 8
  · subst k8
    have ha : actS d ⟨8, s, t, n, b, ts, tl⟩ = (0, arm tl d) := rfl
    rw [ha]
    have hc := rarm_calls al tl cl W HL.out HV.out.list (by have := HX.out.list; dsimp only at this; omega)
    have HC := Lib.hid hc
    clear ha hc
    go_enter Try.func14, Try.ntmps14
    go_wp2_with fail
    with_reducible refine HC.out.mono ?_
    rintro e w' ⟨rfl, ht⟩
    go_wp2
    go_ret
    exact RDoes.after HK.out ⟨rfl, ht⟩
  have ha : actS d ⟨k, s, t, n, b, ts, tl⟩ = (0, d) := by
    unfold actS
    rw [if_neg (by dsimp only; omega), if_neg k7, if_neg k8]
  rw [ha]
  have HT : Hid (RTurns W S B d W) := Lib.hid ⟨S, HL.out, fresh_refl _ _, Keeps.refl _ _⟩
  clear ha
  have d7 : (k == 7) = false := by simpa using k7
  have f7 : decide (k = 7) = false := by simpa using k7
  have d8 : (k == 8) = false := by simpa using k8
  have f8 : decide (k = 8) = false := by simpa using k8
  by_cases hk1 : 1 ≤ k
  · have g1 : decide (1 ≤ k) = true := by simpa using hk1
    have g6 : decide (k ≤ 6) = false := by simp; omega
    clear k1 k2 k3 k4 k5 k6 k7 k8
    go_enter Try.func14, Try.ntmps14
    go_wp2
    go_ret
    exact RDoes.after HK.out ⟨rfl, HT.out⟩
  · have g1 : decide (1 ≤ k) = false := by simpa using hk1
    clear k1 k2 k3 k4 k5 k6 k7 k8
    go_enter Try.func14, Try.ntmps14
    go_wp2
    go_ret
    exact RDoes.after HK.out ⟨rfl, HT.out⟩

end Go.Proofs.Ytfiacojgddpphaa
