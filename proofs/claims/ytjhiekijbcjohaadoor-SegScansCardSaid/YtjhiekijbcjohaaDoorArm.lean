/-
  The program's Arm. Conditions: the disk lies in memory; the troubles lie in memory that isn't the disk's; there are no more than 2 to the 20.
-/
import Derived.Test.YtjhiekijbcjohaaDoorCrash
namespace Go.Proofs.YtjhiekijbcjohaaDoor
open Go.RowKit Go.Lib Go.Joins

/-- A slice leads to these troubles. -/
def RowT (w : World) (S : Nat → Prop) (a : Option Addr) (l : List Tro) : Prop :=
  l = [] ∨ ∃ b o, a = some ⟨b, o, none⟩ ∧ S b ∧ ∀ (i : Nat) (t : Tro), l[i]? = some t → w.cell? ⟨b, o + i * 3, none⟩ = some (.int .i64 t.at_) ∧ w.cell? ⟨b, o + i * 3 + 1, none⟩ = some (.int .i64 t.kind) ∧ w.cell? ⟨b, o + i * 3 + 2, none⟩ = some (.int .i64 t.part)
theorem RowT.keep {w w' : World} {S O a l} (h : RowT w S a l) (hb : Keeps O w w') (hO : ∀ k, S k → ¬ O k) : RowT w' S a l := by
  rcases h with h0 | ⟨b, o, ha, hS, hc⟩
  · exact Or.inl h0
  · refine Or.inr ⟨b, o, ha, hS, fun i t hi => ?_⟩
    obtain ⟨h1, h2, h3⟩ := hc i t hi
    have hk := hb.block b (lt_of_cell h1) (hO b hS)
    exact ⟨(World.cell?_of_block (a := ⟨b, _, none⟩) hk).trans h1, (World.cell?_of_block (a := ⟨b, _, none⟩) hk).trans h2, (World.cell?_of_block (a := ⟨b, _, none⟩) hk).trans h3⟩

/-- The map holds just the first trouble of each number. -/
def TroI (D : DataW Nat) (l : List Tro) : Prop := ∀ i : Int, match tro l i with
  | none => Maps.has D (.int .i64 i) = false
  | some x => Maps.has D (.int .i64 i) = true ∧ ∀ z, D.atKey (.int .i64 i) z = troD x

theorem tro_snoc (l : List Tro) (t : Tro) (i : Int) : tro (l ++ [t]) i = match tro l i with | some x => some x | none => if hits i t then some t else none := by
  unfold tro
  rw [List.find?_append]
  cases List.find? (hits i) l with
  | some x => rfl
  | none =>
    show List.find? (hits i) [t] = _
    rw [List.find?_cons, List.find?_nil]
    cases hits i t <;> rfl

theorem tld_zero {k : Int} : tld k = 0 ↔ ¬ (1 ≤ k ∧ k ≤ 3) := by
  unfold tld
  by_cases h1 : k = 1
  · subst h1; simp
  by_cases h2 : k = 2
  · subst h2; simp
  by_cases h3 : k = 3
  · subst h3; simp
  · rw [if_neg h1, if_neg h2, if_neg h3]; simp; omega

theorem TroI.nil : TroI (.map []) [] := fun _i => rfl
theorem TroI.skip {D : DataW Nat} {l : List Tro} {t : Tro} (h : TroI D l) (hs : Maps.has D (.int .i64 t.at_) = true ∨ tld t.kind = 0) : TroI D (l ++ [t]) := by
  intro i
  have hi := h i
  rw [tro_snoc]
  cases ht : tro l i with
  | some x => rw [ht] at hi; exact hi
  | none =>
    rw [ht] at hi
    have : hits i t = false := by
      unfold hits
      rcases hs with hs | hs
      · by_cases e : t.at_ = i
        · rw [e] at hs
          rw [hs] at hi
          cases hi
        · simp [e]
      · have := tld_zero.1 hs
        cases h1 : decide (t.at_ = i) <;> simp
        omega
    rw [this]
    exact hi
theorem TroI.put {D : DataW Nat} {l : List Tro} {t : Tro} (h : TroI D l) (hD : Maps.IsMap D) (hn : Maps.has D (.int .i64 t.at_) = false) (hk : tld t.kind ≠ 0) : TroI (D.put (.int .i64 t.at_) (troD t)) (l ++ [t]) := by
  intro i
  have hi := h i
  have hv : 1 ≤ t.kind ∧ t.kind ≤ 3 := by
    by_cases e : 1 ≤ t.kind ∧ t.kind ≤ 3
    · exact e
    · exact absurd (tld_zero.2 e) hk
  rw [tro_snoc]
  by_cases e : t.at_ = i
  · subst e
    cases ht : tro l t.at_ with
    | some x => rw [ht] at hi; rw [hn] at hi; cases hi.1
    | none =>
      have : hits t.at_ t = true := by unfold hits; simp [hv]
      rw [this]
      have hkl : WideAt.IsKeyLit (Lit.int .i64 t.at_) := trivial
      exact ⟨Maps.has_put_same hD hkl _, fun z => Maps.atKey_put_same hD hkl _ z⟩
  · have hne : (Lit.int .i64 i) ≠ (Lit.int .i64 t.at_) := fun e2 => e (by injection e2 with _ e3; exact e3.symm)
    have hh : hits i t = false := by unfold hits; simp [e]
    rw [hh, Maps.has_put_other hne]
    cases ht : tro l i with
    | some x =>
      rw [ht] at hi
      exact ⟨hi.1, fun z => by rw [Maps.atKey_put_other hne]; exact hi.2 z⟩
    | none => rw [ht] at hi; exact hi

/-- The map of troubles is another one. -/
theorem DiskAt.tro_changed {w w1 : World} {S : Nat → Prop} {B : Nat} {d : Dsk} {F T : Nat} {cs : List Cel} (h : DiskAt w S B d F (some T) cs) (hk : Keeps (One T) w w1) {tr' : List Tro} (ht : TroAt w1 (some T) tr') : DiskAt w1 S B { d with tr := tr' } F (some T) cs where
  blk := block_keep h.blk hk (fun e => h.tro.ne h.blk (by rw [show B = T from e]))
  map := ownsMap_keep h.map hk (fun e => h.mapT (by rw [show F = T from e]))
  tro := ht
  file := fun c hc => block_keep (h.file c hc) hk (fun e => h.tro.ne (h.file c hc) (by rw [show c.fb = T from e]))
  row := fun c hc => ownsRow_keep (h.row c hc) hk (fun k e hkT => by
    have hrc := h.row c hc
    rcases hrc.2 with ⟨h5, _⟩ | ⟨g, cap, cur, h5, _, hg, _⟩
    · rw [h5] at e; cases e
    · rw [h5] at e
      obtain rfl : g = k := Option.some.inj e
      exact h.tro.ne hg (by rw [show g = T from hkT]))
  is := h.is
  fbs := h.fbs
  dbs := h.dbs
  mapT := h.mapT
  sB := h.sB
  sF := h.sF
  sT := h.sT
  sfb := h.sfb
  sdb := h.sdb

/-- A new map of troubles. -/
theorem DiskAt.armed {w w1 : World} {S : Nat → Prop} {B : Nat} {d : Dsk} {F : Nat} {T0 : Option Nat} {cs : List Cel} (h : DiskAt w S B d F T0 cs) {T : Nat} {ops : Int} (hm : Mid w B d.room F (some T) ops d.down w1) (hT : w.heap.size ≤ T) (ht : TroAt w1 (some T) []) :
    DiskAt w1 (fun k => S k ∨ k = T) B { d with tr := [], ops := ops } F (some T) cs where
  blk := hm.1
  map := ownsMap_keep h.map hm.2 (map_ne h.map h.blk)
  tro := ht
  file := fun c hc => block_keep (h.file c hc) hm.2 (elem_ne (h.file c hc) h.blk (by decide))
  row := fun c hc => ownsRow_keep (h.row c hc) hm.2 (fun k e hk => other_elem h.blk (h.row c hc) (by decide) (by rw [e, hk]))
  is := h.is
  fbs := h.fbs
  dbs := h.dbs
  mapT := fun e => by have := h.map.lt; have := Option.some.inj e; omega
  sB := .inl h.sB
  sF := .inl h.sF
  sT := fun k e => .inr (Option.some.inj e).symm
  sfb := fun c hc => .inl (h.sfb c hc)
  sdb := fun c hc k e => .inl (h.sdb c hc k e)

theorem keyOf_wf {i : Int} (h : (Lit.int .i64 i).wf = true) : keyOf Tryd.prog 3 (.int .i64 i) = some (.int .i64 i) := Maps.keyOf_int_mk Tryd.underlying3 h
theorem Rt_mk (t : Tro) : Rt (troV t) = some (troD t, []) := rfl

/-- The look-up, whatever the number. -/
theorem look_any {T n : Nat} {D : DataW Nat} {l : List Tro} (ht : TroI D l) {i : Int} (hw : (Lit.int .i64 i).wf = true) :
    ∃ z : Tro, ∀ w : World, w.ownsMap Tryd.prog 3 Rt T n D → (Instr.lookup 45 (.map (some T)) (.int .i64 i) true).run Tryd.prog w = .ok (.tuple #[troV z, .bool (Maps.has D (.int .i64 i))]) w := by
  have hi := ht i
  cases hx : tro l i with
  | none =>
    rw [hx] at hi
    refine ⟨⟨0, 0, 0⟩, fun w h => ?_⟩
    obtain ⟨v, ps, hrun, hv⟩ := h.look_ok keyed3 Tryd.underlying45 (z := .agg #[.int .i64 0, .int .i64 0, .int .i64 0]) (Tryd.zeroValue98 w) Rt_zero (keyOf_wf hw)
    have hz : D.atKey (.int .i64 i) (troD ⟨0, 0, 0⟩) = troD ⟨0, 0, 0⟩ := by
      obtain ⟨es, clock, _, F, _, rfl⟩ := h
      exact Maps.atKey_of_not_has hi _
    rw [hz] at hv
    rw [Rt_inv hv] at hrun
    exact hrun
  | some x =>
    rw [hx] at hi
    refine ⟨x, fun w h => ?_⟩
    obtain ⟨v, ps, hrun, hv⟩ := h.look_ok keyed3 Tryd.underlying45 (z := .agg #[.int .i64 0, .int .i64 0, .int .i64 0]) (Tryd.zeroValue98 w) Rt_zero (keyOf_wf hw)
    rw [hi.2] at hv
    rw [Rt_inv hv] at hrun
    exact hrun

def ArmOut (w : World) (S : Nat → Prop) (B : Nat) (d' : Dsk) (e : Ending) (w' : World) : Prop := e = .returned (.tuple #[]) ∧ Turns w S B d' w'

end Go.Proofs.YtjhiekijbcjohaaDoor
