/-
  Every operation of the program's disk, out of its own contract: what it answers, and the disk behind it. Conditions: the disk lies in memory; numbers are no more than 2 to the 30.
-/
import Derived.Test.YtjhiekijbcjohaaGreatDoorOpers
namespace Go.Proofs.YtjhiekijbcjohaaGreatDoor
open Go.RowKit Go.Lib Go.Joins

/-- Numbers are small. -/
structure Sml (d : Dsk) : Prop where
  used : used d.L ≤ 1073741824
  ops0 : 0 ≤ d.ops
  ops1 : d.ops ≤ 1073741823

theorem map_ne {w : World} {F n B : Nat} {D : DataW Nat} {k : Nat} {R : Value → Option (DataW Nat × List MemPlace)} {cs : Array Value} {t : TypeId} {fr : Nat × Nat} (h : w.ownsMap Tryz.prog k R F n D) (hB : w.heap[B]? = some (.cells cs t fr)) : F ≠ B := by
  rintro rfl
  obtain ⟨es, clock, hb, _⟩ := h
  rw [hb] at hB
  cases hB
theorem elem_ne {w : World} {a b : Nat} {cs cs' : Array Value} {t t' : TypeId} {fr fr' : Nat × Nat} (ha : w.heap[a]? = some (.cells cs t fr)) (hb : w.heap[b]? = some (.cells cs' t' fr')) (h : t ≠ t') : a ≠ b := by
  rintro rfl
  rw [ha] at hb
  simp only [Option.some.injEq, Obj.cells.injEq] at hb
  exact h hb.2.1
theorem TroAt.ne {w : World} {T : Option Nat} {l : List Tro} {B : Nat} {cs : Array Value} {t : TypeId} {fr : Nat × Nat} (h : TroAt w T l) (hB : w.heap[B]? = some (.cells cs t fr)) : T ≠ some B := by
  rintro rfl
  obtain ⟨n, D, h1, _⟩ := h
  exact map_ne h1 hB rfl

/-- The disk's own block has been written. -/
theorem DiskAt.mid {w w1 : World} {S : Nat → Prop} {B : Nat} {d : Dsk} {F : Nat} {T : Option Nat} {cs : List Cel} (h : DiskAt w S B d F T cs) {ops : Int} {down : Bool} (hm : Mid w B d.room F T ops down w1) :
    DiskAt w1 S B { d with ops := ops, down := down } F T cs where
  blk := hm.1
  map := ownsMap_keep h.map hm.2 (map_ne h.map h.blk)
  tro := h.tro.keep hm.2 (fun k e hk => h.tro.ne h.blk (by rw [e, hk]))
  file := fun c hc => block_keep (h.file c hc) hm.2 (elem_ne (h.file c hc) h.blk (by decide))
  row := fun c hc => ownsRow_keep (h.row c hc) hm.2 (fun k e hk => other_elem h.blk (h.row c hc) (by decide) (by rw [e, hk]))
  is := h.is
  fbs := h.fbs
  dbs := h.dbs
  mapT := h.mapT
  sB := h.sB
  sF := h.sF
  sT := h.sT
  sfb := h.sfb
  sdb := h.sdb

theorem Mid.keeps {w w1 : World} {B F : Nat} {room ops : Int} {T : Option Nat} {down : Bool} (h : Mid w B room F T ops down w1) {S : Nat → Prop} (hB : S B) : Keeps S w w1 := h.2.mono (fun k _ hk => by rw [hk]; exact hB)

theorem keyed3 : Maps.Keyed Tryz.prog 3 := Maps.int_keyed Tryz.underlying3
theorem keyOf_int {i : Int} (h0 : 0 ≤ i) (h1 : i ≤ 1073741824) : keyOf Tryz.prog 3 (.int .i64 i) = some (.int .i64 i) := Maps.keyOf_int_mk Tryz.underlying3 (by simp [Lit.wf, IntKind.min, IntKind.max, IntKind.signed, IntKind.bits]; omega)

theorem Rt_inv {v : Value} {t : Tro} {ps : List MemPlace} (h : Rt v = some (troD t, ps)) : v = troV t := by
  cases v <;> simp only [Rt, reduceCtorEq] at h
  rename_i cs
  obtain ⟨l⟩ := cs
  unfold RtL at h
  split at h
  · rename_i a k p hl
    unfold troD at h
    simp only [Option.some.injEq, Prod.mk.injEq, DataW.agg.injEq, List.cons.injEq, DataW.lit.injEq, Lit.int.injEq, true_and, and_true] at h
    obtain ⟨⟨rfl, rfl, rfl⟩, _⟩ := h
    have hl : l = _ := hl
    rw [hl]
    rfl
  · cases h
theorem Rt_zero : Rt (.agg #[.int .i64 0, .int .i64 0, .int .i64 0]) = some (troD ⟨0, 0, 0⟩, []) := rfl

/-- The map of troubles tells of a number what the list says. -/
theorem look_tro {w : World} {T : Option Nat} {l : List Tro} (h : TroAt w T l) {i : Int} (h0 : 0 ≤ i) (h1 : i ≤ 1073741824) : LookT w T i (match tro l i with | none => ⟨0, 0, 0⟩ | some t => t) (tro l i).isSome := by
  intro w' hk
  have hk' := h.keep hk (fun k e hne => hne e)
  clear hk h
  cases T with
  | none =>
    have h2 : tro l i = none := hk' i
    rw [h2]
    have := Maps.look_nil (P := Tryz.prog) (w := w') (t := 79) (e := 101) true keyed3 Tryz.underlying79 (z := .agg #[.int .i64 0, .int .i64 0, .int .i64 0]) (Tryz.zeroValue101 w') (keyOf_int h0 h1)
    exact this
  | some t =>
    obtain ⟨n, D, ho, _, hat⟩ := hk'
    obtain ⟨v, ps, hrun, hv⟩ := ho.look_ok keyed3 Tryz.underlying79 (z := .agg #[.int .i64 0, .int .i64 0, .int .i64 0]) (Tryz.zeroValue101 w') Rt_zero (keyOf_int h0 h1)
    have hi := hat i
    cases ht : tro l i with
    | none =>
      rw [ht] at hi
      have hz : D.atKey (.int .i64 i) (troD ⟨0, 0, 0⟩) = troD ⟨0, 0, 0⟩ := by
        obtain ⟨es, clock, _, F, _, rfl⟩ := ho
        exact Maps.atKey_of_not_has hi _
      rw [hz] at hv
      rw [Rt_inv hv, hi] at hrun
      exact hrun
    | some x =>
      rw [ht] at hi
      rw [hi.2] at hv
      rw [Rt_inv hv, hi.1] at hrun
      exact hrun

end Go.Proofs.YtjhiekijbcjohaaGreatDoor
