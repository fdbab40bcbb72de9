/-
  Operations as closures in a slice, and do: one behind the other, up to the first that fails. Conditions: the disk lies in blocks of the call's own, the closures' variables beside it; the disk is small.
-/
import Derived.Test.YtacfcfbleogioaaGreatDoorMRowA
import Derived.Test.YtacfcfbleogioaaGreatDoorMPureA
import Derived.Test.YtacfcfbleogioaaGreatDoorLiveB
namespace Go.Proofs.YtacfcfbleogioaaGreatDoor
open Go.RowKit Go.Lib Go.Joins

theorem infoF : (Tryz.prog.info? 138).map (fun i => (i.zero, i.size, i.bytes)) = some (some .nilFunc, 1, 8) := by kernel_rfl

/-- A slice leads to these values. -/
def VRow (w : World) (S : Nat → Prop) (a : Option Addr) (xs : List Value) : Prop := xs = [] ∨ ∃ b o, a = some ⟨b, o, none⟩ ∧ S b ∧ ∀ (i : Nat) (x : Value), xs[i]? = some x → w.cell? ⟨b, o + i, none⟩ = some x
theorem VRow.keep {w w' : World} {S O : Nat → Prop} {a : Option Addr} {xs : List Value} (h : VRow w S a xs) (hb : Keeps O w w') (hO : ∀ k, S k → ¬ O k) : VRow w' S a xs := by
  rcases h with h0 | ⟨b, o, ha, hS, hc⟩
  · exact .inl h0
  · exact .inr ⟨b, o, ha, hS, fun i c hi => (World.cell?_of_block (a := ⟨b, o + i, none⟩) (hb.block b (lt_of_cell (hc i c hi)) (hO b hS))).trans (hc i c hi)⟩
theorem VRow.below {w w' : World} {S : Nat → Prop} {a : Option Addr} {xs : List Value} (h : VRow w S a xs) (hb : Below w.heap.size w w') : VRow w' S a xs := h.keep (keeps_below hb Non) (fun _ _ h => h)
theorem VRow.mono {w : World} {S S' : Nat → Prop} {a : Option Addr} {xs : List Value} (h : VRow w S a xs) (hS : ∀ k, S k → S' k) : VRow w S' a xs := by
  rcases h with h0 | ⟨b, o, ha, hs, hc⟩
  · exact .inl h0
  · exact .inr ⟨b, o, ha, hS b hs, hc⟩
theorem vrow_at {w : World} {S : Nat → Prop} {a : Option Addr} {xs : List Value} (h : VRow w S a xs) {i : Nat} {x : Value} (hi : xs[i]? = some x) : ∃ b o, a = some ⟨b, o, none⟩ ∧ w.cell? ⟨b, o + i, none⟩ = some x := by
  rcases h with h0 | ⟨b, o, ha, hs, hc⟩
  · rw [h0] at hi; simp at hi
  · exact ⟨b, o, ha, hc i x hi⟩
/-- Function values of the call's own. -/
structure OwnF (w0 w : World) (v : Value) (l : List Value) : Prop where
  row : w.ownsRow 0 138 1 v l.length l
  new : ∀ k, v.ownBlock = some k → w0.heap.size ≤ k
  bel : Below w0.heap.size w0 w
theorem OwnF.nil (w : World) : OwnF w w (.slice none 0 0) [] := ⟨World.ownsRow_nil _ _ _ _, (fun k e => by cases e), Below.refl _ _⟩
theorem OwnF.below {w0 w w' : World} {v : Value} {l : List Value} (h : OwnF w0 w v l) (hb : Below w.heap.size w w') : OwnF w0 w' v l :=
  ⟨ownsRow_keep h.row (keeps_below hb Non) (fun _ _ h => h), h.new, below_then h.bel hb⟩
theorem OwnF.from {w00 w0 w : World} {v : Value} {l : List Value} (h : OwnF w0 w v l) (hb : Below w00.heap.size w00 w0) : OwnF w00 w v l :=
  ⟨h.row, fun k e => Nat.le_trans hb.size (h.new k e), below_then hb h.bel⟩
theorem OwnF.lt {w0 w : World} {v : Value} {l : List Value} (h : OwnF w0 w v l) : ∀ k, v.ownBlock = some k → k < w.heap.size := fun k e => (h.row.lt k e).2
theorem OwnF.form {w0 w : World} {v : Value} {l : List Value} (h : OwnF w0 w v l) : ∃ a c, v = .slice a l.length c ∧ VRow w (fun k => v.ownBlock = some k) a l ∧ l.length ≤ c ∧ c ≤ maxLen := by
  rcases h.row.2 with ⟨h1, h0⟩ | ⟨g, cap, cur, h1, hg, hgb, hcap, hcm, hcur, htk⟩
  · exact ⟨none, 0, by rw [h1, h0], .inl (List.length_eq_zero_iff.1 h0), by omega, Nat.zero_le _⟩
  · refine ⟨_, cap, h1, .inr ⟨g, 0, rfl, by rw [h1]; rfl, fun i x hx => ?_⟩, hcap, hcm⟩
    have := h.row.cells (g := g) (by rw [h1]; rfl) i x hx
    rwa [Addr.add_mid] at this
theorem new_cells (w : World) (l : List Value) (t : TypeId) : ∀ (j : Nat) (x : Value), l[j]? = some x → (w.alloc (.cells l.toArray t)).cell? ((⟨w.heap.size, 0, none⟩ : Addr).add j) = some x := by
  intro j x hj
  rw [Addr.add_mid, Nat.zero_add, World.cell?_alloc_mark w l.toArray t (0, 0) j, List.getElem?_toArray, hj]
/-- Function values, laid out in a literal, behind those that there are. -/
theorem OwnF.append {w0 w : World} {v : Value} {l : List Value} (h : OwnF w0 w v l) (x : List Value) {m : Nat} (hx : x.length = m) (hf : ∀ u ∈ x, u.oneCell' = true) (hs : l.length + m ≤ 1000000) :
    ∃ v' w', (∀ ty, (Builtin.append_ #[99, 99] ty #[v, .slice (some ⟨w.heap.size, 0, none⟩) m m]).run Tryz.prog (w.alloc (.cells x.toArray 138)) = .ok v' w') ∧ OwnF w0 w' v' (l ++ x) := by
  obtain ⟨v', w', h1, h2, h3, h4⟩ := append_any (w := w.alloc (.cells x.toArray 138)) Tryz.underlying99 infoF rfl (by decide) (h.row.alloc _) (b := ⟨w.heap.size, 0, none⟩) (m := m) (c := m) (news := x) (by rw [hx, Nat.mul_one]) (new_cells w x _)
    hf (by unfold maxLen; omega) (by omega)
  have hk : Keeps (fun k => v.ownBlock = some k) w w' := ((Keeps.refl _ w).alloc _).grown h3 (fun k e => .inl e)
  refine ⟨v', w', h1, ⟨by rw [List.length_append, hx]; exact h2, fun k e => ?_, h.bel.trans (hk.toBelow h.bel.size (fun k e => h.new k e))⟩⟩
  rcases h4 k e with h5 | h5
  · exact h.new k h5
  · have := h.bel.size; simp at h5; omega

/-- The variables of the closures are as they were. -/
def SameOn (O : Nat → Prop) (w W : World) : Prop := ∀ k, O k → W.heap[k]? = w.heap[k]?
theorem SameOn.refl (O : Nat → Prop) (w : World) : SameOn O w w := fun _ _ => rfl
theorem SameOn.keep {O S : Nat → Prop} {w W W' : World} (h : SameOn O w W) (hO : Off S W O) (hk : Keeps S W W') : SameOn O w W' := fun k hk2 => (hk.block k (hO k hk2).1 (hO k hk2).2).trans (h k hk2)
theorem SameOn.cell {O : Nat → Prop} {w W : World} (h : SameOn O w W) {b o : Nat} (hb : O b) {v : Value} (hc : w.cell? ⟨b, o, none⟩ = some v) : W.cell? ⟨b, o, none⟩ = some v := (World.cell?_of_block (a := ⟨b, o, none⟩) (h b hb)).trans hc
/-- A closure does an operation of the disk. -/
def OpAt (w0 : World) (O : Nat → Prop) (B : Nat) (wb : World) (v : Value) (o : Opn) : Prop :=
  ∃ g lb, v = .func (.func g) #[] lb ∧ (∀ args w, (callFunc g args).run Tryz.prog w = .ok (.enter g args) w) ∧
    ∀ (W : World) (S : Nat → Prop) (d : Dsk), Live w0 W S B d → Off S W O → SameOn O wb W → Sml d → Calls Tryz.prog g lb W (Does W S B (.int .i64 (step d o).1) (step d o).2)
theorem OpAt.one {w0 : World} {O : Nat → Prop} {B : Nat} {wb : World} {v : Value} {o : Opn} (h : OpAt w0 O B wb v o) : v.oneCell' = true := by
  obtain ⟨g, lb, rfl, _⟩ := h
  rfl
/-- How many bytes operations bring. -/
def opsN (os : List Opn) : Nat := (os.map (fun o => o.b.length)).sum
theorem opsN_cons (o : Opn) (os : List Opn) : opsN (o :: os) = o.b.length + opsN os := by unfold opsN; rw [List.map_cons, List.sum_cons]

set_option maxRecDepth 100000 in
set_option maxHeartbeats 8000000 in
theorem mdo_calls {w0 w : World} {S O : Nat → Prop} {B : Nat} {d : Dsk} {M K : Nat} (a : Option Addr) (fs : List Value) (os : List Opn) (n c : Nat) (h : Live w0 w S B d) (hO : Off S w O) (hrow : VRow w O a fs) (hn : fs.length = n) (hno : os.length = n) (hfs : ∀ (i : Nat) (f : Value) (o : Opn), fs[i]? = some f → os[i]? = some o → OpAt w0 O B w f o)
    (hfew : Few d M K) (hb : ∀ o ∈ os, ∀ c ∈ o.b, c < 256) (hM : M + opsN os ≤ 1073741824) (hK : K + n ≤ 1073741000) :
    Calls Tryz.prog 64 #[.slice a n c] w (Does w S B (.int .i64 (runB d os).1) (runB d os).2) := by
  obtain ⟨q, hq⟩ : ∃ q, runB d os = q := ⟨_, rfl⟩
  rw [hq]
  obtain ⟨e0, d0⟩ := q
  dsimp only
  have HL := Lib.hid h
  have HO := Lib.hid hO
  have HR := Lib.hid hrow
  have HN := Lib.hid hn
  have HNO := Lib.hid hno
  have HFS := Lib.hid hfs
  have HFEW := Lib.hid hfew
  have HB := Lib.hid hb
  have HQ := Lib.hid hq
  have HM := Lib.hid hM
  have HK := Lib.hid hK
  have hn2 : n ≤ 1073741000 := by omega
  clear h hO hrow hn hno hfs hfew hb hq hM hK
  go_enter Tryz.func64, Tryz.ntmps64
  go_wp2
  go_loopg [8] n (fun gk idx wr => ∃ (i : Nat) (d1 : Dsk) (S1 : Nat → Prop) (M1 : Nat), idx = .int .i64 (i : Int) ∧ gk + i = n ∧ Live w0 wr S1 B d1 ∧ Fresh S w.heap.size S1 ∧ Keeps S w wr ∧ Off S1 wr O ∧ SameOn O w wr ∧ Few d1 M1 (K + i) ∧ M1 + opsN (os.drop i) ≤ M + opsN os ∧ runB d1 (os.drop i) = (e0, d0))
  case atStart => exact ⟨0, d, S, M, rfl, rfl, HL.out, (fun k e => .inl e), Keeps.refl _ _, HO.out, SameOn.refl _ _, HFEW.out, Nat.le_refl _, HQ.out⟩
  case round =>
    obtain ⟨i, d1, S1, M1, rfl, hg, hl, hf, hk, ho, hsm, hfw, hm, hr⟩ := hrel
    have HG := Lib.hid hg
    have H1 : Hid (Live w0 wr S1 B d1 ∧ Fresh S w.heap.size S1 ∧ Keeps S w wr ∧ Off S1 wr O ∧ SameOn O w wr ∧ Few d1 M1 (K + i) ∧ M1 + opsN (os.drop i) ≤ M + opsN os ∧ runB d1 (os.drop i) = (e0, d0)) := Lib.hid ⟨hl, hf, hk, ho, hsm, hfw, hm, hr⟩
    clear hg hl hf hk ho hsm hfw hm hr HL HO HFEW HQ
    by_cases hlt : i < n
    · obtain ⟨g', rfl⟩ : ∃ g', gk = g' + 1 := ⟨gk - 1, by have := HG.out; omega⟩
      have hdd : decide ((i : Int) < (n : Int)) = true := by simp; omega
      obtain ⟨f, hfi⟩ : ∃ f, fs[i]? = some f := ⟨fs[i]'(by rw [HN.out]; exact hlt), List.getElem?_eq_getElem _⟩
      obtain ⟨o, hoi⟩ : ∃ o, os[i]? = some o := ⟨os[i]'(by rw [HNO.out]; exact hlt), List.getElem?_eq_getElem _⟩
      obtain ⟨ab, ao, rfl, hcx0⟩ := vrow_at HR.out hfi
      have hcx : wr.cell? ⟨ab, ao + i, none⟩ = some f := by
        rcases HR.out with h0 | ⟨b', o', ha, hs, _⟩
        · rw [h0] at hfi; simp at hfi
        · obtain ⟨rfl, rfl⟩ : ab = b' ∧ ao = o' := by simpa using ha
          exact H1.out.2.2.2.2.1.cell hs hcx0
      obtain ⟨g, lb, rfl, eg, hcl⟩ := HFS.out i f o hfi hoi
      obtain ⟨hl, hf, hk, ho, hsm, hfw, hm, hr⟩ := H1.out
      obtain ⟨hlt2, hoe⟩ := List.getElem?_eq_some_iff.1 hoi
      have hdrop : os.drop i = o :: os.drop (i + 1) := by rw [List.drop_eq_getElem_cons hlt2, hoe]
      rw [hdrop] at hm hr
      rw [opsN_cons] at hm
      have hK2 := HK.out
      have hM2 := HM.out
      have HC := Lib.hid (hcl wr S1 d1 hl ho hsm ⟨Nat.le_trans hfw.used (by omega), hfw.ops0, by have := hfw.ops1; omega⟩)
      have HF1 : Hid (Few (step d1 o).2 (M1 + o.b.length) (K + (i + 1))) := Lib.hid (hfw.step o (HB.out o (List.mem_of_getElem? hoi)) (Nat.le_refl _))
      have HM1 : Hid (M1 + o.b.length + opsN (os.drop (i + 1)) ≤ M + opsN os) := Lib.hid (by omega)
      have HTW := Lib.hid (fun W d' (hT : Turns wr S1 B d' W) => hl.turns hT)
      have HST : Hid (Fresh S w.heap.size S1 ∧ Keeps S w wr ∧ Off S1 wr O ∧ SameOn O w wr) := Lib.hid ⟨hf, hk, ho, hsm⟩
      rw [runB] at hr
      obtain ⟨q1, hq1⟩ : ∃ q1, step d1 o = q1 := ⟨_, rfl⟩
      rw [hq1] at HC HF1 hr
      obtain ⟨e1, d2⟩ := q1
      dsimp only at HC HF1 hr
      clear hfi hoi hcx0 hcl hl hf hk ho hsm hfw hm hlt2 hoe hdrop hK2 hM2 hq1 H1
      by_cases he1 : e1 = 0
      · subst he1
        rw [if_pos rfl] at hr
        have HRR := Lib.hid hr
        clear hr
        go_wp2_with fail
        with_reducible refine HC.out.mono ?_
        rintro e w2 ⟨rfl, ht⟩
        obtain ⟨S2, hl2, hf2, hk2⟩ := HTW.out _ _ ht
        obtain ⟨hf, hk, ho, hsm⟩ := HST.out
        have HNX : Hid (Live w0 w2 S2 B d2 ∧ Fresh S w.heap.size S2 ∧ Keeps S w w2 ∧ Off S2 w2 O ∧ SameOn O w w2) := Lib.hid ⟨hl2, fresh_trans hf hf2 hk.size, hk.trans hk2 hf, ho.turn hf2 hk2, hsm.keep ho hk2⟩
        clear ht hl2 hf2 hk2 hf hk ho hsm HC HTW HST
        go_wp2
        go_roundg g'
        case measure => omega
        case rel => exact ⟨i + 1, d2, S2, _, by go_num, by have := HG.out; omega, HNX.out.1, HNX.out.2.1, HNX.out.2.2.1, HNX.out.2.2.2.1, HNX.out.2.2.2.2, HF1.out, HM1.out, HRR.out⟩
      · rw [if_neg he1] at hr
        obtain ⟨rfl, rfl⟩ : e1 = e0 ∧ d2 = d0 := by simpa using hr
        have hne : (e1 != 0) = true := by simpa using he1
        clear hr he1
        go_wp2_with fail
        with_reducible refine HC.out.mono ?_
        rintro e w2 ⟨rfl, ht⟩
        obtain ⟨S2, hd2, hf2, hk2⟩ := ht
        obtain ⟨hf, hk, ho, hsm⟩ := HST.out
        have HT : Hid (Turns w S B d2 w2) := Lib.hid ⟨S2, hd2, fresh_trans hf hf2 hk.size, hk.trans hk2 hf⟩
        clear hd2 hf2 hk2 hf hk ho hsm HC HTW HST
        go_wp2
        go_ret
        exact ⟨rfl, HT.out⟩
    · have hdd : decide ((i : Int) < (n : Int)) = false := by simp; omega
      obtain ⟨hl, hf, hk, ho, hsm, hfw, hm, hr⟩ := H1.out
      rw [List.drop_eq_nil_of_le (by rw [HNO.out]; omega), runB] at hr
      obtain ⟨rfl, rfl⟩ : 0 = e0 ∧ d1 = d0 := by simpa using hr
      have HT : Hid (Turns w S B d1 wr) := Lib.hid ⟨S1, hl.disk, hf, hk⟩
      clear hl hf hk ho hsm hfw hm hr H1
      go_wp2
      go_ret
      exact ⟨rfl, HT.out⟩

end Go.Proofs.YtacfcfbleogioaaGreatDoor
