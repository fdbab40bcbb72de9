/-
  The program's operate: what every operation goes through. Conditions: the disk lies in memory; what the operation does is told by a contract.
  Every operation of the program's disk, out of its own contract: what it answers, and the disk behind it. Conditions: the disk lies in memory; numbers are no more than 2 to the 30.
  The program's disk in memory behind one change: a file's bytes, a new file, a file that is gone, a file's new name. No condition.
  The program's Sync, Delete, Rename, Create, Cut: each answers what the document says, and leaves the disk that it says. Conditions: the disk lies in memory; numbers and names are small.
-/
import Derived.Test.YtacfcfbleogioaaGreatDoorActsA
namespace Go.Proofs.YtacfcfbleogioaaGreatDoor
open Go.RowKit Go.Lib Go.Joins

/-- The disk's five cells. -/
def Five (w : World) (B : Nat) (room : Int) (F : Nat) (T : Option Nat) (ops : Int) (down : Bool) : Prop := w.heap[B]? = some (.cells #[.int .i64 room, .map (some F), .map T, .int .i64 ops, .bool down] 78 (0, 0))

/-- What an operation is told: it has its number; new blocks lie beside. -/
def Mid (w : World) (B : Nat) (room : Int) (F : Nat) (T : Option Nat) (ops : Int) (down : Bool) (w1 : World) : Prop := Five w1 B room F T ops down ∧ Keeps (One B) w w1

theorem Five.c0 {w : World} {B F : Nat} {room ops : Int} {T : Option Nat} {down : Bool} (h : Five w B room F T ops down) : w.cell? ⟨B, 0, none⟩ = some (.int .i64 room) := (cell_of_block h 0).trans rfl
theorem Five.c1 {w : World} {B F : Nat} {room ops : Int} {T : Option Nat} {down : Bool} (h : Five w B room F T ops down) : w.cell? ⟨B, 1, none⟩ = some (.map (some F)) := (cell_of_block h 1).trans rfl
theorem Five.c2 {w : World} {B F : Nat} {room ops : Int} {T : Option Nat} {down : Bool} (h : Five w B room F T ops down) : w.cell? ⟨B, 2, none⟩ = some (.map T) := (cell_of_block h 2).trans rfl
theorem Five.c3 {w : World} {B F : Nat} {room ops : Int} {T : Option Nat} {down : Bool} (h : Five w B room F T ops down) : w.cell? ⟨B, 3, none⟩ = some (.int .i64 ops) := (cell_of_block h 3).trans rfl
theorem Five.c4 {w : World} {B F : Nat} {room ops : Int} {T : Option Nat} {down : Bool} (h : Five w B room F T ops down) : w.cell? ⟨B, 4, none⟩ = some (.bool down) := (cell_of_block h 4).trans rfl
theorem Five.fr {w : World} {B F : Nat} {room ops : Int} {T : Option Nat} {down : Bool} (h : Five w B room F T ops down) (i : Nat) : w.frozen? ⟨B, i, none⟩ = false := unfrozen_of_block h i
theorem Five.ops {w : World} {B F : Nat} {room ops : Int} {T : Option Nat} {down : Bool} (h : Five w B room F T ops down) (x : Int) : Five (w.setCell ⟨B, 3, none⟩ (.int .i64 x)) B room F T x down := block_setCell (i := 3) h (.int .i64 x)
theorem Five.down {w : World} {B F : Nat} {room ops : Int} {T : Option Nat} {down : Bool} (h : Five w B room F T ops down) (x : Bool) : Five (w.setCell ⟨B, 4, none⟩ (.bool x)) B room F T ops x := block_setCell (i := 4) h (.bool x)
theorem Five.alloc {w : World} {B F : Nat} {room ops : Int} {T : Option Nat} {down : Bool} (h : Five w B room F T ops down) (o : Obj) : Five (w.alloc o) B room F T ops down := (Below.heap_alloc w o B (lt_of_block h)).trans h

set_option maxRecDepth 100000 in
set_option maxHeartbeats 2000000 in
theorem operate_down (B F : Nat) (T : Option Nat) (room ops r : Int) (v1 v2 : Value) (w : World) (h : Five w B room F T ops true) :
    Calls Tryz.prog 98 #[.pointer (some ⟨B, 0, none⟩), .agg #[.int .i64 r, v1, v2]] w (Leaves (.int .i64 45) w) := by
  have hlt := lt_of_block h
  have c4 := h.c4
  clear h
  go_enter Tryz.func98, Tryz.ntmps98
  go_wp2
  go_ret
  exact ⟨rfl, (Below.refl _ _).alloc (Nat.le_refl _) _⟩

/-- It was refused. -/
def Refd (B F : Nat) (T : Option Nat) (room ops r : Int) (w : World) (e : Ending) (w' : World) : Prop := e = .returned (.int .i64 r) ∧ Mid w B room F T ops false w'

set_option maxRecDepth 100000 in
set_option maxHeartbeats 2000000 in
theorem operate_refused (B F : Nat) (T : Option Nat) (room ops r : Int) (v1 v2 : Value) (w : World) (h : Five w B room F T ops false) (h0 : 0 ≤ ops) (ho : ops ≤ 1073741824) (hr : (r != 0) = true) :
    Calls Tryz.prog 98 #[.pointer (some ⟨B, 0, none⟩), .agg #[.int .i64 r, v1, v2]] w (Refd B F T room (ops + 1) r w) := by
  have hlt := lt_of_block h
  have c3 := h.c3
  have c4 := h.c4
  have f3 := h.fr 3
  have HF := Lib.hid h
  clear h
  go_enter Tryz.func98, Tryz.ntmps98
  go_wp2
  go_ret
  exact ⟨rfl, (HF.out.ops _).alloc _, ((Keeps.refl (One B) w).setCell (p := ⟨B, 3, none⟩) (.inl rfl) _).alloc _⟩

/-- What the map of troubles tells of a number. -/
def LookT (w : World) (T : Option Nat) (i : Int) (t : Tro) (b : Bool) : Prop := ∀ w', Keeps (fun k => T ≠ some k) w w' → (Instr.lookup 76 (.map T) (.int .i64 i) true).run Tryz.prog w' = .ok (.tuple #[troV t, .bool b]) w'

/-- What was to be done was done. -/
def WholeOut (B F : Nat) (T : Option Nat) (room ops : Int) (R : World → World → Prop) (w : World) (e : Ending) (w' : World) : Prop := e = .returned (.int .i64 0) ∧ ∃ w1, Mid w B room F T ops false w1 ∧ R w1 w'

set_option maxRecDepth 100000 in
set_option maxHeartbeats 4000000 in
/-- No trouble befalls: what is to be done is done. -/
theorem operate_whole (B F : Nat) (T : Option Nat) (room ops : Int) (g : Nat) (caps : Array Value) (v2 : Value) (z : Tro) (w : World) (h : Five w B room F T ops false) (h0 : 0 ≤ ops) (ho : ops ≤ 1073741824) (hT : T ≠ some B)
    (hl : LookT w T (ops + 1) z false) (R : World → World → Prop) (eg : ∀ args w, (callFunc g args).run Tryz.prog w = .ok (.enter g args) w)
    (hg : ∀ w1, Mid w B room F T (ops + 1) false w1 → Calls Tryz.prog g caps w1 (Ran (R w1))) :
    Calls Tryz.prog 98 #[.pointer (some ⟨B, 0, none⟩), .agg #[.int .i64 0, .func (.func g) #[] caps, v2]] w (WholeOut B F T room (ops + 1) R w) := by
  have hlt := lt_of_block h
  have c2 := h.c2
  have c3 := h.c3
  have c4 := h.c4
  have f3 := h.fr 3
  have HF := Lib.hid h
  obtain ⟨W, hW⟩ : ∃ W, ((w.setCell ⟨B, 3, none⟩ (.int .i64 (ops + 1))).alloc (.cells #[.int .i64 0, .func (.func g) #[] caps, v2] 137)).drew = W := ⟨_, rfl⟩
  have hm : Mid w B room F T (ops + 1) false W := by
    rw [← hW]
    exact ⟨((h.ops (ops + 1)).alloc _), (((Keeps.refl (One B) w).setCell (p := ⟨B, 3, none⟩) (.inl rfl) _).alloc _).drew⟩
  have hlook := hl W (hm.2.mono (fun k _ e => by cases e; exact hT))
  have hlook2 := hl (W.alloc (.cells #[.int .i64 0, .int .i64 0, .int .i64 0] 95)) ((hm.2.alloc _).mono (fun k _ e => by cases e; exact hT))
  unfold troV at hlook hlook2
  have hltW := lt_of_block hm.1
  have d2 := hm.1.c2
  have d3 := hm.1.c3
  have d4 := hm.1.c4
  have g4 := hm.1.fr 4
  have HM := Lib.hid hm
  have hbx : W.heap[w.heap.size]? = some (.cells #[.int .i64 0, .func (.func g) #[] caps, v2] 137 (0, 0)) := by
    rw [← hW]
    have h1 : (w.setCell ⟨B, 3, none⟩ (.int .i64 (ops + 1))).heap.size = w.heap.size := by simp [World.setCell]
    exact h1 ▸ heap_alloc_new (w.setCell ⟨B, 3, none⟩ (.int .i64 (ops + 1))) _
  have hb0 : W.cell? ⟨w.heap.size, 0, none⟩ = some (.int .i64 0) := (cell_of_block hbx 0).trans rfl
  have hb1 : W.cell? ⟨w.heap.size, 1, none⟩ = some (.func (.func g) #[] caps) := (cell_of_block hbx 1).trans rfl
  have hb2 : W.cell? ⟨w.heap.size, 2, none⟩ = some (v2) := (cell_of_block hbx 2).trans rfl
  have hsz := lt_of_block hbx
  have HG := Lib.hid hg
  clear h hg hl hm hbx
  go_enter Tryz.func98, Tryz.ntmps98
  go_wp2
  go_region
  all_goals (go_wp2_with fail)
  all_goals
    refine (HG.out _ ⟨HM.out.1.alloc _, HM.out.2.alloc _⟩).mono ?_
    rintro e w2 ⟨rfl, hR⟩
    have HR := Lib.hid hR
    clear hR
    go_wp2
    go_ret
    exact ⟨rfl, _, ⟨HM.out.1.alloc _, HM.out.2.alloc _⟩, HR.out⟩

theorem neq_nil (w : World) : (binOp .neq 113 .nilFunc .nilFunc).run Tryz.prog w = .ok (.bool false) w := by kernel_rfl
theorem neq_func (g : Fn) (caps : Array Value) (w : World) : (binOp .neq 113 (.func g #[] caps) .nilFunc).run Tryz.prog w = .ok (.bool true) w := by kernel_rfl

/-- A trouble befell, and nothing was done. -/
def HitOut (B F : Nat) (T : Option Nat) (room ops : Int) (t : Tro) (w : World) (e : Ending) (w' : World) : Prop := e = .returned (.int .i64 (tld t.kind)) ∧ Mid w B room F T ops (decide (t.kind = 3)) w'

set_option maxRecDepth 100000 in
set_option maxHeartbeats 4000000 in
theorem operate_hit (B F : Nat) (T : Option Nat) (room ops : Int) (g : Nat) (caps : Array Value) (z : Tro) (w : World) (h : Five w B room F T ops false) (h0 : 0 ≤ ops) (ho : ops ≤ 1073741824) (hT : T ≠ some B)
    (hl : LookT w T (ops + 1) z true) :
    Calls Tryz.prog 98 #[.pointer (some ⟨B, 0, none⟩), .agg #[.int .i64 0, .func (.func g) #[] caps, .nilFunc]] w (HitOut B F T room (ops + 1) z w) := by
  have hq := neq_nil
  obtain ⟨K, hK⟩ : ∃ K, tld z.kind = K := ⟨_, rfl⟩
  have HT := fun w => told_calls z.kind w
  simp only [hK] at HT
  have HHT := Lib.hid HT
  have hlt := lt_of_block h
  have c2 := h.c2
  have c3 := h.c3
  have c4 := h.c4
  have f3 := h.fr 3
  have HF := Lib.hid h
  obtain ⟨W, hW⟩ : ∃ W, ((w.setCell ⟨B, 3, none⟩ (.int .i64 (ops + 1))).alloc (.cells #[.int .i64 0, .func (.func g) #[] caps, .nilFunc] 137)).drew = W := ⟨_, rfl⟩
  have hm : Mid w B room F T (ops + 1) false W := by
    rw [← hW]
    exact ⟨((h.ops (ops + 1)).alloc _), (((Keeps.refl (One B) w).setCell (p := ⟨B, 3, none⟩) (.inl rfl) _).alloc _).drew⟩
  have hlook := hl W (hm.2.mono (fun k _ e => by cases e; exact hT))
  have hlook2 := hl (W.alloc (.cells #[.int .i64 0, .int .i64 0, .int .i64 0] 95)) ((hm.2.alloc _).mono (fun k _ e => by cases e; exact hT))
  unfold troV at hlook hlook2
  have hltW := lt_of_block hm.1
  have d2 := hm.1.c2
  have d3 := hm.1.c3
  have d4 := hm.1.c4
  have g4 := hm.1.fr 4
  have HM := Lib.hid hm
  have hbx : W.heap[w.heap.size]? = some (.cells #[.int .i64 0, .func (.func g) #[] caps, .nilFunc] 137 (0, 0)) := by
    rw [← hW]
    have h1 : (w.setCell ⟨B, 3, none⟩ (.int .i64 (ops + 1))).heap.size = w.heap.size := by simp [World.setCell]
    exact h1 ▸ heap_alloc_new (w.setCell ⟨B, 3, none⟩ (.int .i64 (ops + 1))) _
  have hb0 : W.cell? ⟨w.heap.size, 0, none⟩ = some (.int .i64 0) := (cell_of_block hbx 0).trans rfl
  have hb1 : W.cell? ⟨w.heap.size, 1, none⟩ = some (.func (.func g) #[] caps) := (cell_of_block hbx 1).trans rfl
  have hb2 : W.cell? ⟨w.heap.size, 2, none⟩ = some (.nilFunc) := (cell_of_block hbx 2).trans rfl
  have hsz := lt_of_block hbx
  have hkd : (z.kind == 3) = decide (z.kind = 3) := rfl
  obtain ⟨D, hD⟩ : ∃ D, decide (z.kind = 3) = D := ⟨_, rfl⟩
  have HD := Lib.hid hD
  rw [hD] at hkd
  unfold HitOut
  rw [hK, hD]
  clear h hl hm hbx HT hK hD
  go_enter Tryz.func98, Tryz.ntmps98
  go_wp2
  go_region
  all_goals (go_wp2_with fail)
  all_goals
    refine (HHT.out _).mono ?_
    rintro e w2 ⟨rfl, rfl⟩
    go_wp2
    go_ret
    exact ⟨rfl, (HM.out.1.down _).alloc _, (HM.out.2.setCell (p := ⟨B, 4, none⟩) (.inl rfl) _).alloc _⟩

/-- A trouble befell, and a part was done. -/
def PartOut (B F : Nat) (T : Option Nat) (room ops : Int) (R : World → World → Prop) (S : Nat → Prop) (t : Tro) (w : World) (e : Ending) (w' : World) : Prop :=
  e = .returned (.int .i64 (tld t.kind)) ∧ ∃ w1 w2, Mid w B room F T ops false w1 ∧ R w1 w2 ∧ Keeps S w1 w2 ∧ w' = w2.setCell ⟨B, 4, none⟩ (.bool (decide (t.kind = 3)))

set_option maxRecDepth 100000 in
set_option maxHeartbeats 4000000 in
theorem operate_part (B F : Nat) (T : Option Nat) (room ops : Int) (g g2 : Nat) (caps caps2 : Array Value) (z : Tro) (w : World) (h : Five w B room F T ops false) (h0 : 0 ≤ ops) (ho : ops ≤ 1073741824) (hT : T ≠ some B)
    (hl : LookT w T (ops + 1) z true) (R : World → World → Prop) (S : Nat → Prop) (hS : ∀ k, S k → k < w.heap.size ∧ k ≠ B) (eg : ∀ args w, (callFunc g2 args).run Tryz.prog w = .ok (.enter g2 args) w)
    (hg : ∀ w1, Mid w B room F T (ops + 1) false w1 → Calls Tryz.prog g2 (#[.int .i64 z.part] ++ caps2) w1 (Ran (fun w2 => R w1 w2 ∧ Keeps S w1 w2))) :
    Calls Tryz.prog 98 #[.pointer (some ⟨B, 0, none⟩), .agg #[.int .i64 0, .func (.func g) #[] caps, .func (.func g2) #[] caps2]] w (PartOut B F T room (ops + 1) R S z w) := by
  have hq := neq_func (.func g2) caps2
  obtain ⟨K, hK⟩ : ∃ K, tld z.kind = K := ⟨_, rfl⟩
  have HT := fun w => told_calls z.kind w
  simp only [hK] at HT
  have HHT := Lib.hid HT
  have hlt := lt_of_block h
  have c2 := h.c2
  have c3 := h.c3
  have c4 := h.c4
  have f3 := h.fr 3
  have HF := Lib.hid h
  obtain ⟨W, hW⟩ : ∃ W, ((w.setCell ⟨B, 3, none⟩ (.int .i64 (ops + 1))).alloc (.cells #[.int .i64 0, .func (.func g) #[] caps, .func (.func g2) #[] caps2] 137)).drew = W := ⟨_, rfl⟩
  have hm : Mid w B room F T (ops + 1) false W := by
    rw [← hW]
    exact ⟨((h.ops (ops + 1)).alloc _), (((Keeps.refl (One B) w).setCell (p := ⟨B, 3, none⟩) (.inl rfl) _).alloc _).drew⟩
  have hlook := hl W (hm.2.mono (fun k _ e => by cases e; exact hT))
  have hlook2 := hl (W.alloc (.cells #[.int .i64 0, .int .i64 0, .int .i64 0] 95)) ((hm.2.alloc _).mono (fun k _ e => by cases e; exact hT))
  unfold troV at hlook hlook2
  have hltW := lt_of_block hm.1
  have d2 := hm.1.c2
  have d3 := hm.1.c3
  have d4 := hm.1.c4
  have g4 := hm.1.fr 4
  have HM := Lib.hid hm
  have hbx : W.heap[w.heap.size]? = some (.cells #[.int .i64 0, .func (.func g) #[] caps, .func (.func g2) #[] caps2] 137 (0, 0)) := by
    rw [← hW]
    have h1 : (w.setCell ⟨B, 3, none⟩ (.int .i64 (ops + 1))).heap.size = w.heap.size := by simp [World.setCell]
    exact h1 ▸ heap_alloc_new (w.setCell ⟨B, 3, none⟩ (.int .i64 (ops + 1))) _
  have hb0 : W.cell? ⟨w.heap.size, 0, none⟩ = some (.int .i64 0) := (cell_of_block hbx 0).trans rfl
  have hb1 : W.cell? ⟨w.heap.size, 1, none⟩ = some (.func (.func g) #[] caps) := (cell_of_block hbx 1).trans rfl
  have hb2 : W.cell? ⟨w.heap.size, 2, none⟩ = some (.func (.func g2) #[] caps2) := (cell_of_block hbx 2).trans rfl
  have hsz := lt_of_block hbx
  have hkd : (z.kind == 3) = decide (z.kind = 3) := rfl
  obtain ⟨D, hD⟩ : ∃ D, decide (z.kind = 3) = D := ⟨_, rfl⟩
  have HD := Lib.hid hD
  rw [hD] at hkd
  unfold PartOut
  rw [hK, hD]
  have HG := Lib.hid hg
  have HS := Lib.hid hS
  clear hg hS h hl hm hbx HT hK hD
  go_enter Tryz.func98, Tryz.ntmps98
  go_wp2
  go_region
  all_goals (go_wp2_with fail)
  all_goals
    refine (HG.out _ ⟨HM.out.1.alloc _, HM.out.2.alloc _⟩).mono ?_
    rintro e w2 ⟨rfl, hR, hk⟩
    have h5 : Five w2 B room F T (ops + 1) false := block_keep (HM.out.1.alloc _) hk (fun e => (HS.out B e).2 rfl)
    have hbt := block_keep (heap_alloc_new W (.cells #[.int .i64 z.at_, .int .i64 z.kind, .int .i64 z.part] 95)) hk (fun e => by have := (HS.out _ e).1; omega)
    have e1 : w2.cell? ⟨W.heap.size, 1, none⟩ = some (.int .i64 z.kind) := (cell_of_block hbt 1).trans rfl
    have e4 := h5.c4
    have k4 := h5.fr 4
    have HR := Lib.hid hR
    have HK := Lib.hid hk
    clear hR hk hbt h5
    go_wp2_with fail
    refine (HHT.out _).mono ?_
    rintro e w3 ⟨rfl, rfl⟩
    go_wp2
    go_ret
    exact ⟨rfl, _, w2, ⟨HM.out.1.alloc _, HM.out.2.alloc _⟩, HR.out, HK.out, rfl⟩

end Go.Proofs.YtacfcfbleogioaaGreatDoor

namespace Go.Proofs.YtacfcfbleogioaaGreatDoor
open Go.RowKit Go.Lib Go.Joins

/-- Numbers are small. -/
structure Sml (d : Dsk) : Prop where
  used : used d.L ≤ 1073741824
  ops0 : 0 ≤ d.ops
  ops1 : d.ops ≤ 1073741823

theorem map_ne {w : World} {F n B : Nat} {D : DataW Nat} {k : Nat} {R : Value → Option (DataW Nat × List MemPlace)} {cs : Array Value} {t : TypeId} {fr : Nat × Nat} (h : w.ownsMap Tryz.prog k R F n D) (hB : w.heap[B]? = some (.cells cs t fr)) : F ≠ B := by
  rintro rfl
  obtain ⟨es, clock, hb, _⟩ := h
  rw [hb] at hB
  cases hB
theorem elem_ne {w : World} {a b : Nat} {cs cs' : Array Value} {t t' : TypeId} {fr fr' : Nat × Nat} (ha : w.heap[a]? = some (.cells cs t fr)) (hb : w.heap[b]? = some (.cells cs' t' fr')) (h : t ≠ t') : a ≠ b := by
  rintro rfl
  rw [ha] at hb
  simp only [Option.some.injEq, Obj.cells.injEq] at hb
  exact h hb.2.1
theorem TroAt.ne {w : World} {T : Option Nat} {l : List Tro} {B : Nat} {cs : Array Value} {t : TypeId} {fr : Nat × Nat} (h : TroAt w T l) (hB : w.heap[B]? = some (.cells cs t fr)) : T ≠ some B := by
  rintro rfl
  obtain ⟨n, D, h1, _⟩ := h
  exact map_ne h1 hB rfl

/-- The disk's own block has been written. -/
theorem DiskAt.mid {w w1 : World} {S : Nat → Prop} {B : Nat} {d : Dsk} {F : Nat} {T : Option Nat} {cs : List Cel} (h : DiskAt w S B d F T cs) {ops : Int} {down : Bool} (hm : Mid w B d.room F T ops down w1) :
    DiskAt w1 S B { d with ops := ops, down := down } F T cs where
  blk := hm.1
  map := ownsMap_keep h.map hm.2 (map_ne h.map h.blk)
  tro := h.tro.keep hm.2 (fun k e hk => h.tro.ne h.blk (by rw [e, hk]))
  file := fun c hc => block_keep (h.file c hc) hm.2 (elem_ne (h.file c hc) h.blk (by decide))
  row := fun c hc => ownsRow_keep (h.row c hc) hm.2 (fun k e hk => other_elem h.blk (h.row c hc) (by decide) (by rw [e, hk]))
  is := h.is
  fbs := h.fbs
  dbs := h.dbs
  mapT := h.mapT
  sB := h.sB
  sF := h.sF
  sT := h.sT
  sfb := h.sfb
  sdb := h.sdb

theorem Mid.keeps {w w1 : World} {B F : Nat} {room ops : Int} {T : Option Nat} {down : Bool} (h : Mid w B room F T ops down w1) {S : Nat → Prop} (hB : S B) : Keeps S w w1 := h.2.mono (fun k _ hk => by rw [hk]; exact hB)

theorem keyed3 : Maps.Keyed Tryz.prog 3 := Maps.int_keyed Tryz.underlying3
theorem keyOf_int {i : Int} (h0 : 0 ≤ i) (h1 : i ≤ 1073741824) : keyOf Tryz.prog 3 (.int .i64 i) = some (.int .i64 i) := Maps.keyOf_int_mk Tryz.underlying3 (by simp [Lit.wf, IntKind.min, IntKind.max, IntKind.signed, IntKind.bits]; omega)

theorem Rt_inv {v : Value} {t : Tro} {ps : List MemPlace} (h : Rt v = some (troD t, ps)) : v = troV t := by
  cases v <;> simp only [Rt, reduceCtorEq] at h
  rename_i cs
  obtain ⟨l⟩ := cs
  unfold RtL at h
  split at h
  · rename_i a k p hl
    unfold troD at h
    simp only [Option.some.injEq, Prod.mk.injEq, DataW.agg.injEq, List.cons.injEq, DataW.lit.injEq, Lit.int.injEq, true_and, and_true] at h
    obtain ⟨⟨rfl, rfl, rfl⟩, _⟩ := h
    have hl : l = _ := hl
    rw [hl]
    rfl
  · cases h
theorem Rt_zero : Rt (.agg #[.int .i64 0, .int .i64 0, .int .i64 0]) = some (troD ⟨0, 0, 0⟩, []) := rfl

/-- The map of troubles tells of a number what the list says. -/
theorem look_tro {w : World} {T : Option Nat} {l : List Tro} (h : TroAt w T l) {i : Int} (h0 : 0 ≤ i) (h1 : i ≤ 1073741824) : LookT w T i (match tro l i with | none => ⟨0, 0, 0⟩ | some t => t) (tro l i).isSome := by
  intro w' hk
  have hk' := h.keep hk (fun k e hne => hne e)
  clear hk h
  cases T with
  | none =>
    have h2 : tro l i = none := hk' i
    rw [h2]
    have := Maps.look_nil (P := Tryz.prog) (w := w') (t := 76) (e := 95) true keyed3 Tryz.underlying76 (z := .agg #[.int .i64 0, .int .i64 0, .int .i64 0]) (Tryz.zeroValue95 w') (keyOf_int h0 h1)
    exact this
  | some t =>
    obtain ⟨n, D, ho, _, hat⟩ := hk'
    obtain ⟨v, ps, hrun, hv⟩ := ho.look_ok keyed3 Tryz.underlying76 (z := .agg #[.int .i64 0, .int .i64 0, .int .i64 0]) (Tryz.zeroValue95 w') Rt_zero (keyOf_int h0 h1)
    have hi := hat i
    cases ht : tro l i with
    | none =>
      rw [ht] at hi
      have hz : D.atKey (.int .i64 i) (troD ⟨0, 0, 0⟩) = troD ⟨0, 0, 0⟩ := by
        obtain ⟨es, clock, _, F, _, rfl⟩ := ho
        exact Maps.atKey_of_not_has hi _
      rw [hz] at hv
      rw [Rt_inv hv, hi] at hrun
      exact hrun
    | some x =>
      rw [ht] at hi
      rw [hi.2] at hv
      rw [Rt_inv hv, hi.1] at hrun
      exact hrun

end Go.Proofs.YtacfcfbleogioaaGreatDoor

namespace Go.Proofs.YtacfcfbleogioaaGreatDoor
open Go.RowKit Go.Lib Go.Joins

/-- These blocks, or new ones. -/
def Wide (S : Nat → Prop) (w : World) : Nat → Prop := fun k => S k ∨ w.heap.size ≤ k
theorem nodup_inj {cs : List Cel} (h : (cs.map Cel.fb).Nodup) : ∀ x ∈ cs, ∀ y ∈ cs, x.fb = y.fb → x = y := by
  induction cs with
  | nil => intro x hx; cases hx
  | cons a L ih =>
    rw [List.map_cons, List.nodup_cons] at h
    intro x hx y hy e
    rcases List.mem_cons.1 hx with rfl | hx'
    · rcases List.mem_cons.1 hy with rfl | hy'
      · rfl
      · exact absurd (List.mem_map.2 ⟨y, hy', e.symm⟩) h.1
    · rcases List.mem_cons.1 hy with rfl | hy'
      · exact absurd (List.mem_map.2 ⟨x, hx', e⟩) h.1
      · exact ih h.2 x hx' y hy' e

theorem srt_inj {L : List Cel} (h : Srt (L.map Cel.f)) : ∀ x ∈ L, ∀ y ∈ L, x.f.name = y.f.name → x = y := by
  induction L with
  | nil => intro x hx; cases hx
  | cons a L ih =>
    obtain ⟨h1, h2⟩ := List.pairwise_cons.1 h
    intro x hx y hy e
    rcases List.mem_cons.1 hx with rfl | hx'
    · rcases List.mem_cons.1 hy with rfl | hy'
      · rfl
      · exact absurd e (nlt_ne (h1 _ (List.mem_map.2 ⟨y, hy', rfl⟩)))
    · rcases List.mem_cons.1 hy with rfl | hy'
      · exact absurd e.symm (nlt_ne (h1 _ (List.mem_map.2 ⟨x, hx', rfl⟩)))
      · exact ih h2 x hx' y hy' e

theorem ownsMap_exact {w : World} {F n : Nat} {cs : List Cel} (h : w.ownsMap Tryz.prog 9 Rp F n (dat cs)) : w.ownsMap Tryz.prog 9 Rp F cs.length (dat cs) := by
  obtain ⟨es, clock, h1, h2, h3, h4⟩ := h
  refine ⟨es, clock, h1, h2, ?_, h4⟩
  have e := size_dat cs
  rw [h4] at e
  have e1 : Maps.size (DataW.map ((es.toList.map (WideElems.rg Tryz.prog 9 Rp)).foldr DataW.insert [])) = es.size := by simp [Maps.size, Go.length_sorted]
  omega

/-- A file changed, in its cell. -/
def chg (n : ByteArray) (h : Fil → Fil) (dv : Value) (c : Cel) : Cel := if c.f.name = n then ⟨h c.f, c.fb, dv⟩ else c
theorem chg_f (n : ByteArray) (h : Fil → Fil) (dv : Value) (cs : List Cel) : (cs.map (chg n h dv)).map Cel.f = upd n h (cs.map Cel.f) := by
  unfold upd
  rw [List.map_map, List.map_map]
  refine List.map_congr_left (fun c _ => ?_)
  show (chg n h dv c).f = if c.f.name = n then h c.f else c.f
  unfold chg
  split <;> rfl
theorem chg_fb (n : ByteArray) (h : Fil → Fil) (dv : Value) (c : Cel) : (chg n h dv c).fb = c.fb := by unfold chg; split <;> rfl
theorem chg_dat (n : ByteArray) (h : Fil → Fil) (dv : Value) (hn : ∀ f, (h f).name = f.name) (cs : List Cel) : dat (cs.map (chg n h dv)) = dat cs := by
  unfold dat
  rw [List.map_map]
  congr 1
  refine List.map_congr_left (fun c _ => ?_)
  show ent (chg n h dv c) = ent c
  unfold ent
  rw [chg_fb]
  unfold chg
  split
  · simp only [hn]
  · rfl

theorem DiskAt.file_changed {w w2 : World} {S : Nat → Prop} {B : Nat} {d : Dsk} {F : Nat} {T : Option Nat} {cs : List Cel} (h : DiskAt w S B d F T cs) (hs : Srt d.L) {n : ByteArray} {c : Cel} (hc : cfnd n cs = some c)
    (hk : Keeps (fun k => k = c.fb ∨ c.dv.ownBlock = some k) w w2) {f' : Fil → Fil} (hn : ∀ f, (f' f).name = f.name) {dv' : Value}
    (h1 : w2.heap[c.fb]? = some (.cells #[dv', .int .i64 ((f' c.f).safe : Int)] 74 (0, 0))) (h2 : w2.ownsRow 0 5 1 dv' (f' c.f).data.length (cellsN (f' c.f).data))
    (h3 : ∀ k, dv'.ownBlock = some k → c.dv.ownBlock = some k ∨ w.heap.size ≤ k) :
    DiskAt w2 (Wide S w) B { d with L := upd n f' d.L } F T (cs.map (chg n f' dv')) := by
  obtain ⟨hm, hcn⟩ := cfnd_some hc
  have hfc := h.file c hm
  have hrc := h.row c hm
  have one : ∀ x ∈ cs, x.f.name = n → x = c := fun x hx e => srt_inj (by rw [h.is]; exact hs) x hx c hm (by rw [e, hcn])
  have two : ∀ x ∈ cs, x.f.name ≠ n → x.fb ≠ c.fb := fun x hx e hb => e (by rw [nodup_inj h.fbs x hx c hm hb, hcn])
  have nB : ¬ (B = c.fb ∨ c.dv.ownBlock = some B) := by
    rintro (e | e)
    · exact elem_ne h.blk hfc (by decide) e
    · exact other_elem h.blk hrc (by decide) e
  have nF : ¬ (F = c.fb ∨ c.dv.ownBlock = some F) := by
    rintro (e | e)
    · exact map_ne h.map hfc e
    · rcases hrc.2 with ⟨h5, _⟩ | ⟨g, cap, cur, h5, _, hg, _⟩
      · rw [h5] at e; cases e
      · rw [h5] at e
        obtain rfl : g = F := Option.some.inj e
        exact map_ne h.map hg rfl
  have nT : ∀ k, T = some k → ¬ (k = c.fb ∨ c.dv.ownBlock = some k) := by
    rintro k rfl (e | e)
    · exact h.tro.ne hfc (by rw [e])
    · rcases hrc.2 with ⟨h5, _⟩ | ⟨g, cap, cur, h5, _, hg, _⟩
      · rw [h5] at e; cases e
      · rw [h5] at e
        obtain rfl : g = k := Option.some.inj e
        exact h.tro.ne hg rfl
  have nx : ∀ x ∈ cs, x.f.name ≠ n → ¬ (x.fb = c.fb ∨ c.dv.ownBlock = some x.fb) := by
    rintro x hx e (e1 | e1)
    · exact two x hx e e1
    · exact other_elem (h.file x hx) hrc (by decide) e1
  have nd : ∀ x ∈ cs, x.f.name ≠ n → ∀ k, x.dv.ownBlock = some k → ¬ (k = c.fb ∨ c.dv.ownBlock = some k) := by
    rintro x hx e k hk (rfl | e1)
    · exact other_elem hfc (h.row x hx) (by decide) hk
    · exact h.dbs x hx c hm (two x hx e) k hk e1
  refine { blk := block_keep h.blk hk nB, map := ?_, tro := h.tro.keep hk nT, file := ?_, row := ?_, is := by rw [chg_f, h.is], fbs := ?_, dbs := ?_, mapT := h.mapT, sB := .inl h.sB, sF := .inl h.sF, sT := fun k e => .inl (h.sT k e), sfb := ?_, sdb := ?_ }
  · rw [List.length_map, chg_dat n f' dv' hn]
    exact ownsMap_keep h.map hk nF
  · intro y hy
    obtain ⟨x, hx, rfl⟩ := List.mem_map.1 hy
    by_cases e : x.f.name = n
    · obtain rfl := one x hx e
      unfold chg
      rw [if_pos e]
      exact h1
    · unfold chg
      rw [if_neg e]
      exact block_keep (h.file x hx) hk (nx x hx e)
  · intro y hy
    obtain ⟨x, hx, rfl⟩ := List.mem_map.1 hy
    by_cases e : x.f.name = n
    · obtain rfl := one x hx e
      unfold chg
      rw [if_pos e]
      exact h2
    · unfold chg
      rw [if_neg e]
      exact ownsRow_keep (h.row x hx) hk (nd x hx e)
  · rw [List.map_map]
    have : Cel.fb ∘ chg n f' dv' = Cel.fb := funext (fun c => chg_fb n f' dv' c)
    rw [this]
    exact h.fbs
  · intro y hy y' hy' hne k hq hq'
    obtain ⟨x, hx, rfl⟩ := List.mem_map.1 hy
    obtain ⟨x', hx', rfl⟩ := List.mem_map.1 hy'
    rw [chg_fb, chg_fb] at hne
    by_cases e : x.f.name = n
    · by_cases e' : x'.f.name = n
      · exact hne (by rw [one x hx e, one x' hx' e'])
      · obtain rfl := one x hx e
        unfold chg at hq hq'
        rw [if_pos e] at hq
        rw [if_neg e'] at hq'
        rcases h3 k hq with h4 | h4
        · exact nd x' hx' e' k hq' (.inr h4)
        · have := ((h.row x' hx').lt k hq').2
          omega
    · by_cases e' : x'.f.name = n
      · obtain rfl := one x' hx' e'
        unfold chg at hq hq'
        rw [if_neg e] at hq
        rw [if_pos e'] at hq'
        rcases h3 k hq' with h4 | h4
        · exact nd x hx e k hq (.inr h4)
        · have := ((h.row x hx).lt k hq).2
          omega
      · unfold chg at hq hq'
        rw [if_neg e] at hq
        rw [if_neg e'] at hq'
        exact h.dbs x hx x' hx' hne k hq hq'
  · intro y hy
    obtain ⟨x, hx, rfl⟩ := List.mem_map.1 hy
    rw [chg_fb]
    exact .inl (h.sfb x hx)
  · intro y hy k hq
    obtain ⟨x, hx, rfl⟩ := List.mem_map.1 hy
    by_cases e : x.f.name = n
    · obtain rfl := one x hx e
      unfold chg at hq
      rw [if_pos e] at hq
      rcases h3 k hq with h4 | h4
      · exact .inl (h.sdb x hx k h4)
      · exact .inr h4
    · unfold chg at hq
      rw [if_neg e] at hq
      exact .inl (h.sdb x hx k hq)

/-- The map of files holds other cells, all of which lie in memory. -/
theorem DiskAt.map_changed {w w2 : World} {S : Nat → Prop} {B : Nat} {d : Dsk} {F : Nat} {T : Option Nat} {cs cs' : List Cel} {n : Nat} {L' : List Fil} (h : DiskAt w S B d F T cs) (hk : Keeps (One F) w w2) (hm : w2.ownsMap Tryz.prog 9 Rp F n (dat cs')) (hL : cs'.map Cel.f = L')
    (hf : ∀ c ∈ cs', w2.heap[c.fb]? = some (.cells #[c.dv, .int .i64 (c.f.safe : Int)] 74 (0, 0))) (hr : ∀ c ∈ cs', w2.ownsRow 0 5 1 c.dv c.f.data.length (cellsN c.f.data)) (hfb : (cs'.map Cel.fb).Nodup)
    (hdb : ∀ c ∈ cs', ∀ c' ∈ cs', c.fb ≠ c'.fb → ∀ k, c.dv.ownBlock = some k → c'.dv.ownBlock ≠ some k) (hS : ∀ c ∈ cs', Wide S w c.fb ∧ ∀ k, c.dv.ownBlock = some k → Wide S w k) :
    DiskAt w2 (Wide S w) B { d with L := L' } F T cs' where
  blk := block_keep h.blk hk (fun e => map_ne h.map h.blk e.symm)
  map := ownsMap_exact hm
  tro := h.tro.keep hk (fun k e hkF => h.mapT (by rw [e, hkF]))
  file := hf
  row := hr
  is := hL
  fbs := hfb
  dbs := hdb
  mapT := h.mapT
  sB := .inl h.sB
  sF := .inl h.sF
  sT := fun k e => .inl (h.sT k e)
  sfb := fun c hc => (hS c hc).1
  sdb := fun c hc => (hS c hc).2

/-- A cell of the disk lies as it lay while the map of files is written. -/
theorem DiskAt.keepF {w w2 : World} {S : Nat → Prop} {B : Nat} {d : Dsk} {F : Nat} {T : Option Nat} {cs : List Cel} (h : DiskAt w S B d F T cs) (hk : Keeps (One F) w w2) {c : Cel} (hc : c ∈ cs) :
    w2.heap[c.fb]? = some (.cells #[c.dv, .int .i64 (c.f.safe : Int)] 74 (0, 0)) ∧ w2.ownsRow 0 5 1 c.dv c.f.data.length (cellsN c.f.data) := by
  refine ⟨block_keep (h.file c hc) hk (fun e => map_ne h.map (h.file c hc) e.symm), ownsRow_keep (h.row c hc) hk (fun k e hkF => ?_)⟩
  have hrc := h.row c hc
  rcases hrc.2 with ⟨h5, _⟩ | ⟨g, cap, cur, h5, _, hg, _⟩
  · rw [h5] at e; cases e
  · rw [h5] at e
    obtain rfl : g = k := Option.some.inj e
    exact map_ne h.map hg hkF.symm

theorem filter_f (n : ByteArray) (cs : List Cel) : (cs.filter (fun c => !decide (c.f.name = n))).map Cel.f = dro n (cs.map Cel.f) := by
  unfold dro
  rw [List.filter_map]
  rfl
theorem nodup_filter {cs : List Cel} (p : Cel → Bool) (h : (cs.map Cel.fb).Nodup) : ((cs.filter p).map Cel.fb).Nodup := h.sublist ((List.filter_sublist (l := cs) (p := p)).map Cel.fb)
theorem nodup_cins {c : Cel} {cs : List Cel} (h : (cs.map Cel.fb).Nodup) (hc : ∀ x ∈ cs, x.fb ≠ c.fb) : ((cins c cs).map Cel.fb).Nodup := by
  have hp := (perm_cins c cs).map Cel.fb
  rw [hp.nodup_iff, List.map_cons, List.nodup_cons]
  exact ⟨fun hm => by obtain ⟨x, hx, e⟩ := List.mem_map.1 hm; exact hc x hx e, h⟩

/-- A file is gone. -/
theorem DiskAt.dropped {w w2 : World} {S : Nat → Prop} {B : Nat} {d : Dsk} {F : Nat} {T : Option Nat} {cs : List Cel} (h : DiskAt w S B d F T cs) {n : Nat} {s : ByteArray} (ho : OnlyF F n ((dat cs).del (lit s)) w w2) :
    ∃ cs', DiskAt w2 (Wide S w) B { d with L := dro s d.L } F T cs' := by
  obtain ⟨hm, hk⟩ := ho
  rw [del_dat] at hm
  refine ⟨_, h.map_changed hk hm (by rw [filter_f, h.is]) (fun c hc => (h.keepF hk (List.mem_filter.1 hc).1).1) (fun c hc => (h.keepF hk (List.mem_filter.1 hc).1).2) (nodup_filter _ h.fbs)
    (fun c hc c' hc' => h.dbs c (List.mem_filter.1 hc).1 c' (List.mem_filter.1 hc').1) (fun c hc => ⟨.inl (h.sfb c (List.mem_filter.1 hc).1), fun k e => .inl (h.sdb c (List.mem_filter.1 hc).1 k e)⟩)⟩

/-- A file has another name. -/
theorem DiskAt.renamed {w w2 : World} {S : Nat → Prop} {B : Nat} {d : Dsk} {F : Nat} {T : Option Nat} {cs : List Cel} (h : DiskAt w S B d F T cs) (_hs : Srt d.L) {n : Nat} {s t : ByteArray} {c : Cel} (hc : cfnd s cs = some c)
    (ho : OnlyF F n (((dat cs).del (lit s)).put (lit t) (.lit (.int .u64 (c.fb : Int)))) w w2) :
    ∃ cs', DiskAt w2 (Wide S w) B { d with L := ren s t d.L } F T cs' := by
  obtain ⟨hm, hk⟩ := ho
  obtain ⟨hmc, hcn⟩ := cfnd_some hc
  have hput := put_dat ⟨{ c.f with name := t }, c.fb, c.dv⟩ (cs.filter (fun c => !decide (c.f.name = s)))
  simp only at hput
  rw [del_dat, hput] at hm
  have hin : ∀ x ∈ (cs.filter (fun c => !decide (c.f.name = s))).filter (fun g => !decide (g.f.name = t)), x ∈ cs ∧ x.f.name ≠ s := fun x hx => by
    have h1 := List.mem_filter.1 (List.mem_filter.1 hx).1
    exact ⟨h1.1, by simpa using h1.2⟩
  have hne : ∀ x ∈ (cs.filter (fun c => !decide (c.f.name = s))).filter (fun g => !decide (g.f.name = t)), x.fb ≠ c.fb := fun x hx e => (hin x hx).2 (by rw [nodup_inj h.fbs x (hin x hx).1 c hmc e, hcn])
  have hall : ∀ x ∈ cins ⟨{ c.f with name := t }, c.fb, c.dv⟩ ((cs.filter (fun c => !decide (c.f.name = s))).filter (fun g => !decide (g.f.name = t))), ∃ y ∈ cs, x.fb = y.fb ∧ x.dv = y.dv ∧ x.f.data = y.f.data ∧ x.f.safe = y.f.safe := fun x hx => by
    rcases mem_cins.1 hx with rfl | hx
    · exact ⟨c, hmc, rfl, rfl, rfl, rfl⟩
    · exact ⟨x, (hin x hx).1, rfl, rfl, rfl, rfl⟩
  refine ⟨_, h.map_changed hk hm ?_ ?_ ?_ (nodup_cins (nodup_filter _ (nodup_filter _ h.fbs)) hne) ?_ ?_⟩
  · rw [cins_is, filter_f, filter_f, h.is]
    unfold ren
    rw [← h.is, cfnd_is, hc]
    rfl
  · intro x hx
    obtain ⟨y, hy, e1, e2, e3, e4⟩ := hall x hx
    rw [e1, e2, e4]
    exact (h.keepF hk hy).1
  · intro x hx
    obtain ⟨y, hy, e1, e2, e3, e4⟩ := hall x hx
    rw [e2, e3]
    exact (h.keepF hk hy).2
  · intro x hx x' hx' hn k
    obtain ⟨y, hy, e1, e2, _⟩ := hall x hx
    obtain ⟨y', hy', e1', e2', _⟩ := hall x' hx'
    rw [e1, e1'] at hn
    rw [e2, e2']
    exact h.dbs y hy y' hy' hn k
  · intro x hx
    obtain ⟨y, hy, e1, e2, _⟩ := hall x hx
    rw [e1, e2]
    exact ⟨.inl (h.sfb y hy), fun k e => .inl (h.sdb y hy k e)⟩

/-- A new file, of these bytes. -/
theorem DiskAt.created {w w2 : World} {S : Nat → Prop} {B : Nat} {d : Dsk} {F : Nat} {T : Option Nat} {cs : List Cel} (h : DiskAt w S B d F T cs) {n fb : Nat} {f : Fil} {dv : Value} (hf : fnd f.name d.L = none) (hk : Keeps (One F) w w2)
    (hm : w2.ownsMap Tryz.prog 9 Rp F n ((dat cs).put (lit f.name) (.lit (.int .u64 (fb : Int))))) (hb : w2.heap[fb]? = some (.cells #[dv, .int .i64 (f.safe : Int)] 74 (0, 0))) (hr : w2.ownsRow 0 5 1 dv f.data.length (cellsN f.data))
    (hnew : w.heap.size ≤ fb) (hnew2 : ∀ k, dv.ownBlock = some k → w.heap.size ≤ k) :
    ∃ cs', DiskAt w2 (Wide S w) B { d with L := ins f d.L } F T cs' := by
  have hput := put_dat ⟨f, fb, dv⟩ cs
  simp only at hput
  have hall : cs.filter (fun g => !decide (g.f.name = f.name)) = cs := List.filter_eq_self.2 (fun x hx => by
    have := fnd_none hf x.f (by rw [← h.is]; exact List.mem_map.2 ⟨x, hx, rfl⟩)
    simp [this])
  rw [hall] at hput
  rw [hput] at hm
  have hlt : ∀ x ∈ cs, x.fb < w.heap.size := fun x hx => lt_of_block (h.file x hx)
  have hld : ∀ x ∈ cs, ∀ k, x.dv.ownBlock = some k → k < w.heap.size := fun x hx k e => ((h.row x hx).lt k e).2
  refine ⟨_, h.map_changed hk hm (by rw [cins_is, h.is]) ?_ ?_ (nodup_cins h.fbs (fun x hx e => by have := hlt x hx; simp only at e; omega)) ?_ ?_⟩
  · intro x hx
    rcases mem_cins.1 hx with rfl | hx
    · exact hb
    · exact (h.keepF hk hx).1
  · intro x hx
    rcases mem_cins.1 hx with rfl | hx
    · exact hr
    · exact (h.keepF hk hx).2
  · intro x hx x' hx' hn k e e'
    rcases mem_cins.1 hx with rfl | hx
    · rcases mem_cins.1 hx' with rfl | hx'
      · exact hn rfl
      · have := hld x' hx' k e'
        have := hnew2 k e
        omega
    · rcases mem_cins.1 hx' with rfl | hx'
      · have := hld x hx k e
        have := hnew2 k e'
        omega
      · exact h.dbs x hx x' hx' hn k e e'
  · intro x hx
    rcases mem_cins.1 hx with rfl | hx
    · exact ⟨.inr hnew, fun k e => .inr (hnew2 k e)⟩
    · exact ⟨.inl (h.sfb x hx), fun k e => .inl (h.sdb x hx k e)⟩

end Go.Proofs.YtacfcfbleogioaaGreatDoor

namespace Go.Proofs.YtacfcfbleogioaaGreatDoor
open Go.RowKit Go.Lib Go.Joins

/-- What a closure leaves. -/
def Half (w : World) (S : Nat → Prop) (B : Nat) (d' : Dsk) (w2 : World) : Prop := (∃ F T cs, DiskAt w2 (Wide S w) B d' F T cs) ∧ Keeps S w w2

theorem turns_of {w w1 w2 : World} {S : Nat → Prop} {B : Nat} {d' : Dsk} (hk : Keeps S w w1) (h : Half w1 S B d' w2) (hi : Inv d') : Turns w S B d' w2 := by
  obtain ⟨⟨F, T, cs, hd⟩, hk2⟩ := h
  refine ⟨_, ⟨hi, fun k e => e.2, F, T, cs, hd.tight⟩, fun k hw => ?_, hk.trans hk2 (fresh_refl _ _)⟩
  rcases hw.1 with h1 | h1
  · exact .inl h1
  · exact .inr (Nat.le_trans hk.size h1)
theorem turns_same {w w1 : World} {S : Nat → Prop} {B : Nat} {d' : Dsk} {F : Nat} {T : Option Nat} {cs : List Cel} (hk : Keeps S w w1) (h : DiskAt w1 S B d' F T cs) (hi : Inv d') : Turns w S B d' w1 :=
  ⟨_, ⟨hi, fun _k e => e.2, F, T, cs, h.tight⟩, fun _ e => .inl e.1, hk⟩

theorem operate_does {o : Opn} {w : World} {S : Nat → Prop} {B : Nat} {d : Dsk} {F : Nat} {T : Option Nat} {cs : List Cel} (h : DiskAt w S B d F T cs) (hi : Inv d) (hs : Sml d) (hb : ∀ c ∈ o.b, c < 256) (g : Nat) (caps : Array Value) (v2 : Value)
    (eg : ∀ args w, (callFunc g args).run Tryz.prog w = .ok (.enter g args) w)
    (hw : ref d o = 0 → ∀ w1, DiskAt w1 S B ⟨d.room, d.L, d.tr, d.ops + 1, false⟩ F T cs → Keeps (One B) w w1 → Calls Tryz.prog g caps w1 (Ran (Half w1 S B ⟨d.room, whole o d.L, d.tr, d.ops + 1, false⟩)))
    (hp : (v2 = .nilFunc ∧ o.kind ≠ 2) ∨ ∃ g2 caps2 S0, v2 = .func (.func g2) #[] caps2 ∧ (∀ k, S0 k → k < w.heap.size ∧ k ≠ B) ∧ (∀ args w, (callFunc g2 args).run Tryz.prog w = .ok (.enter g2 args) w) ∧
      (ref d o = 0 → ∀ p w1, DiskAt w1 S B ⟨d.room, d.L, d.tr, d.ops + 1, false⟩ F T cs → Keeps (One B) w w1 → Calls Tryz.prog g2 (#[.int .i64 p] ++ caps2) w1 (Ran (fun w2 => Half w1 S B ⟨d.room, part o p d.L, d.tr, d.ops + 1, false⟩ w2 ∧ Keeps S0 w1 w2)))) :
    Calls Tryz.prog 98 #[.pointer (some ⟨B, 0, none⟩), .agg #[.int .i64 (ref d o), .func (.func g) #[] caps, v2]] w (Does w S B (.int .i64 (step d o).1) (step d o).2) := by
  have hinv := inv_step (o := o) hi hb
  have h5 : Five w B d.room F T d.ops d.down := h.blk
  have hops0 := hs.ops0
  have hops1 := hs.ops1
  have hT : T ≠ some B := h.tro.ne h.blk
  unfold step at hinv ⊢
  cases hdn : d.down with
  | true =>
    rw [hdn] at h5
    rw [hdn, if_pos rfl] at hinv
    rw [if_pos rfl]
    refine (operate_down B F T d.room d.ops (ref d o) _ v2 w h5).mono ?_
    rintro e w' ⟨rfl, hbl⟩
    exact ⟨rfl, turns_same (keeps_below hbl S) (h.keep (keeps_below hbl Non) (fun _ _ h => h)) hinv⟩
  | false =>
    rw [hdn] at h5
    rw [hdn, if_neg (by decide)] at hinv
    rw [if_neg (by decide)]
    by_cases hr : ref d o = 0
    · rw [if_neg (by simpa using hr)] at hinv ⊢
      have hlk := look_tro h.tro (i := d.ops + 1) (by omega) (by omega)
      have hmid : ∀ {w1}, Mid w B d.room F T (d.ops + 1) false w1 → DiskAt w1 S B ⟨d.room, d.L, d.tr, d.ops + 1, false⟩ F T cs := fun hm => h.mid hm
      rw [hr]
      cases ht : tro d.tr (d.ops + 1) with
      | none =>
        rw [ht] at hlk hinv
        dsimp only [Option.isSome] at hlk hinv ⊢
        refine (operate_whole B F T d.room d.ops g caps v2 _ w h5 hops0 (by omega) hT hlk _ eg (fun w1 hm => hw hr w1 (hmid hm) hm.2)).mono ?_
        rintro e w' ⟨rfl, w1, hm, hh⟩
        exact ⟨rfl, turns_of (hm.keeps h.sB) hh hinv⟩
      | some t =>
        rw [ht] at hlk hinv
        dsimp only [Option.isSome] at hlk hinv ⊢
        rcases hp with ⟨rfl, hk2⟩ | ⟨g2, caps2, S0, rfl, hS0, eg2, hp⟩
        · have e1 : part o t.part d.L = d.L := by unfold part; rw [if_neg hk2]
          rw [e1] at hinv ⊢
          refine (operate_hit B F T d.room d.ops g caps t w h5 hops0 (by omega) hT hlk).mono ?_
          rintro e w' ⟨rfl, hm⟩
          exact ⟨rfl, turns_same (hm.keeps h.sB) (h.mid hm) hinv⟩
        · refine (operate_part B F T d.room d.ops g g2 caps caps2 t w h5 hops0 (by omega) hT hlk _ S0 hS0 eg2 (fun w1 hm => hp hr t.part w1 (hmid hm) hm.2)).mono ?_
          rintro e w' ⟨rfl, w1, w2, hm, ⟨⟨F', T', cs', hd⟩, hk3⟩, hk4, rfl⟩
          have hm2 : Mid w2 B d.room F' T' (d.ops + 1) (decide (t.kind = 3)) (w2.setCell ⟨B, 4, none⟩ (.bool (decide (t.kind = 3)))) :=
            ⟨Five.down hd.blk _, (Keeps.refl (One B) w2).setCell (p := ⟨B, 4, none⟩) (.inl rfl) _⟩
          have hd2 := hd.mid hm2
          refine ⟨rfl, turns_of (w1 := w1) (hm.keeps h.sB) ⟨⟨F', T', cs', hd2⟩, hk3.trans (hm2.keeps h.sB) (fresh_refl _ _)⟩ hinv⟩
    · rw [if_pos (by simpa using hr)] at hinv ⊢
      refine (operate_refused B F T d.room d.ops (ref d o) _ v2 w h5 hops0 (by omega) (by simpa using hr)).mono ?_
      rintro e w' ⟨rfl, hm⟩
      exact ⟨rfl, turns_same (hm.keeps h.sB) (h.mid hm) hinv⟩

theorem Calls.after {f : FuncId} {args : Array Value} {w w1 : World} {S : Nat → Prop} {B : Nat} {v : Value} {d' : Dsk} (h : Calls Tryz.prog f args w1 (Does w1 S B v d')) (hk : Keeps S w w1) : Calls Tryz.prog f args w1 (Does w S B v d') :=
  h.mono fun _ _ ⟨he, S', h1, h2, h3⟩ => ⟨he, S', h1, fun k hs => by rcases h2 k hs with h4 | h4; exact .inl h4; exact .inr (Nat.le_trans hk.size h4), hk.trans h3 (fresh_refl _ _)⟩

theorem Does.after {w w1 : World} {S : Nat → Prop} {B : Nat} {v : Value} {d' : Dsk} (hk : Keeps S w w1) {e : Ending} {w' : World} (h : Does w1 S B v d' e w') : Does w S B v d' e w' := by
  obtain ⟨rfl, S', h1, h2, h3⟩ := h
  exact ⟨rfl, S', h1, fun k hs => by rcases h2 k hs with h4 | h4; exact .inl h4; exact .inr (Nat.le_trans hk.size h4), hk.trans h3 (fresh_refl _ _)⟩

theorem enters48 : ∀ args w, (callFunc 100 args).run Tryz.prog w = .ok (.enter 100 args) w := enters_of Tryz.func100 (by kernel_rfl) rfl
theorem enters50 : ∀ args w, (callFunc 101 args).run Tryz.prog w = .ok (.enter 101 args) w := enters_of Tryz.func101 (by kernel_rfl) rfl
theorem enters51 : ∀ args w, (callFunc 102 args).run Tryz.prog w = .ok (.enter 102 args) w := enters_of Tryz.func102 (by kernel_rfl) rfl
theorem enters53 : ∀ args w, (callFunc 103 args).run Tryz.prog w = .ok (.enter 103 args) w := enters_of Tryz.func103 (by kernel_rfl) rfl
theorem enters55 : ∀ args w, (callFunc 104 args).run Tryz.prog w = .ok (.enter 104 args) w := enters_of Tryz.func104 (by kernel_rfl) rfl
theorem enters58 : ∀ args w, (callFunc 99 args).run Tryz.prog w = .ok (.enter 99 args) w := enters_of Tryz.func99 (by kernel_rfl) rfl

theorem fnd_cs {w : World} {S : Nat → Prop} {B : Nat} {d : Dsk} {F : Nat} {T : Option Nat} {cs : List Cel} (h : DiskAt w S B d F T cs) (n : ByteArray) : fnd n d.L = (cfnd n cs).map Cel.f := by rw [← h.is]; exact cfnd_is n cs

/-- What find tells of a name that is there, or not. -/
theorem ref_none {d : Dsk} {o : Opn} (hk : o.kind ≠ 1) (hf : fnd o.name d.L = none) : ref d o = 42 := by
  unfold ref
  rw [if_neg hk, hf]
theorem ref_some {d : Dsk} {o : Opn} (hk : o.kind ≠ 1) {f : Fil} (hf : fnd o.name d.L = some f) : ref d o = refF d o f := by
  unfold ref
  rw [if_neg hk, hf]

theorem box_keep {w w1 : World} {S : Nat → Prop} {B : Nat} {d : Dsk} {F : Nat} {T : Option Nat} {cs : List Cel} (h : DiskAt w S B d F T cs) (hk : Keeps (One B) w w1) {x : Nat} {v : Value} {t : TypeId} (hx : w.heap[x]? = some (.cells #[v] t (0, 0))) : w1.heap[x]? = some (.cells #[v] t (0, 0)) :=
  block_keep hx hk (fun e => by
    have hxB : x = B := e
    subst hxB
    rw [h.blk] at hx
    simp at hx)
theorem box_cell {w : World} {x : Nat} {v : Value} {t : TypeId} (hx : w.heap[x]? = some (.cells #[v] t (0, 0))) : w.cell? ⟨x, 0, none⟩ = some v := (cell_of_block hx 0).trans rfl

theorem ptr_is (o : Option Cel) : ∃ p, ptr o = .pointer p := by cases o <;> exact ⟨_, rfl⟩

set_option maxRecDepth 100000 in
set_option maxHeartbeats 4000000 in
theorem sync_calls (s : ByteArray) (w : World) {S : Nat → Prop} {B : Nat} {d : Dsk} (hd : Disk w S B d) (hs : Sml d) (hz : s.size ≤ 1099511627776) (tw : ByteArray) (n : Int) :
    Calls Tryz.prog 61 #[.pointer (some ⟨B, 0, none⟩), .string s] w (Does w S B (.int .i64 (step d ⟨4, s, tw, n, []⟩).1) (step d ⟨4, s, tw, n, []⟩).2) := by
  obtain ⟨hi, _, F, T, cs, h⟩ := hd
  have hfc := find_calls s w h hz
  have HFC := Lib.hid hfc
  obtain ⟨V, hV⟩ := ptr_is (cfnd s cs)
  have hf := fnd_cs h s
  obtain ⟨R, hR⟩ : ∃ R, (if (cfnd s cs).isSome then (0 : Int) else 42) = R := ⟨_, rfl⟩
  have hrr : ref d ⟨4, s, tw, n, []⟩ = R := by
    rw [← hR]
    cases hc : cfnd s cs with
    | none => rw [hc] at hf; exact ref_none (by simp) hf
    | some c => rw [hc] at hf; exact ref_some (by simp) hf
  have hal := h.keep (keeps_below ((Below.refl _ w).alloc (Nat.le_refl _) (.cells #[.pointer V] 71)) Non) (fun _ _ h => h)
  have hbox : (w.alloc (.cells #[.pointer V] 71)).heap[w.heap.size]? = some (.cells #[.pointer V] 71 (0, 0)) := heap_alloc_new w _
  have HOP := operate_does (o := ⟨4, s, tw, n, []⟩) hal hi hs (fun _ h => by cases h) 103 #[.pointer (some ⟨w.heap.size, 0, none⟩)] .nilFunc enters53 (by
    intro hr0 w1 h1 hk1
    have hb1 := box_keep hal hk1 hbox
    rw [hrr, ← hR] at hr0
    cases hc : cfnd s cs with
    | none => rw [hc] at hr0; simp at hr0
    | some c =>
      rw [hc] at hV
      obtain ⟨hm, hcn⟩ := cfnd_some hc
      obtain ⟨a, cap, hdv⟩ := dv_form (h1.row c hm)
      have hfl := h1.file c hm
      rw [hdv] at hfl
      have hlen : c.f.data.length ≤ 1073741824 := Nat.le_trans (used_mem (by rw [← h.is]; exact List.mem_map.2 ⟨c, hm, rfl⟩)) hs.used
      refine (sync1_calls w.heap.size c.fb a c.f.data.length cap (c.f.safe : Int) w1 (by rw [box_cell hb1, ← hV]; rfl) hfl hlen).mono ?_
      rintro e w2 ⟨rfl, hsf⟩
      refine ⟨rfl, ⟨F, T, cs.map (chg s synB c.dv), ?_⟩, hsf.2.mono (fun k _ e => by rw [e]; exact h1.sfb c hm)⟩
      have hrow := ownsRow_keep (h1.row c hm) hsf.2 (fun k (e : c.dv.ownBlock = some k) (e2 : k = c.fb) => other_elem hfl (h1.row c hm) (by decide) (by rw [e, e2]))
      have := h1.file_changed hi.srt hc (hsf.2.mono (fun k _ e => .inl e)) (f' := synB) (fun _ => rfl) (dv' := c.dv) (by rw [hdv]; exact hsf.1) hrow (fun k e => .inl e)
      exact this) (.inl ⟨rfl, by simp⟩)
  rw [hrr] at HOP
  have HHOP := Lib.hid HOP
  rw [hV, hR] at HFC
  clear hfc hV hf hR hrr hal hbox HOP hz hs hi h
  go_enter Tryz.func61, Tryz.ntmps61
  go_wp2_with fail
  refine HFC.out.mono ?_
  rintro e w' ⟨rfl, rfl⟩
  go_wp2_with fail
  refine (Calls.after HHOP.out (keeps_below ((Below.refl _ w).alloc (Nat.le_refl _) _) S)).mono ?_
  rintro e w2 ⟨rfl, hT⟩
  have HT := Lib.hid hT
  clear hT
  go_wp2
  go_ret
  exact ⟨rfl, HT.out⟩

end Go.Proofs.YtacfcfbleogioaaGreatDoor
