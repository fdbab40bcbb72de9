/-
  The program's operate: what every operation goes through. Conditions: the disk lies in memory; what the operation does is told by a contract.
-/
import Derived.Test.YtjhiekijbcjohaaGreatDoorAppend
namespace Go.Proofs.YtjhiekijbcjohaaGreatDoor
open Go.RowKit Go.Lib Go.Joins

/-- The disk's five cells. -/
def Five (w : World) (B : Nat) (room : Int) (F : Nat) (T : Option Nat) (ops : Int) (down : Bool) : Prop := w.heap[B]? = some (.cells #[.int .i64 room, .map (some F), .map T, .int .i64 ops, .bool down] 81 (0, 0))

/-- What an operation is told: it has its number; new blocks lie beside. -/
def Mid (w : World) (B : Nat) (room : Int) (F : Nat) (T : Option Nat) (ops : Int) (down : Bool) (w1 : World) : Prop := Five w1 B room F T ops down ∧ Keeps (One B) w w1

theorem Five.c0 {w : World} {B F : Nat} {room ops : Int} {T : Option Nat} {down : Bool} (h : Five w B room F T ops down) : w.cell? ⟨B, 0, none⟩ = some (.int .i64 room) := (cell_of_block h 0).trans rfl
theorem Five.c1 {w : World} {B F : Nat} {room ops : Int} {T : Option Nat} {down : Bool} (h : Five w B room F T ops down) : w.cell? ⟨B, 1, none⟩ = some (.map (some F)) := (cell_of_block h 1).trans rfl
theorem Five.c2 {w : World} {B F : Nat} {room ops : Int} {T : Option Nat} {down : Bool} (h : Five w B room F T ops down) : w.cell? ⟨B, 2, none⟩ = some (.map T) := (cell_of_block h 2).trans rfl
theorem Five.c3 {w : World} {B F : Nat} {room ops : Int} {T : Option Nat} {down : Bool} (h : Five w B room F T ops down) : w.cell? ⟨B, 3, none⟩ = some (.int .i64 ops) := (cell_of_block h 3).trans rfl
theorem Five.c4 {w : World} {B F : Nat} {room ops : Int} {T : Option Nat} {down : Bool} (h : Five w B room F T ops down) : w.cell? ⟨B, 4, none⟩ = some (.bool down) := (cell_of_block h 4).trans rfl
theorem Five.fr {w : World} {B F : Nat} {room ops : Int} {T : Option Nat} {down : Bool} (h : Five w B room F T ops down) (i : Nat) : w.frozen? ⟨B, i, none⟩ = false := unfrozen_of_block h i
theorem Five.ops {w : World} {B F : Nat} {room ops : Int} {T : Option Nat} {down : Bool} (h : Five w B room F T ops down) (x : Int) : Five (w.setCell ⟨B, 3, none⟩ (.int .i64 x)) B room F T x down := block_setCell (i := 3) h (.int .i64 x)
theorem Five.down {w : World} {B F : Nat} {room ops : Int} {T : Option Nat} {down : Bool} (h : Five w B room F T ops down) (x : Bool) : Five (w.setCell ⟨B, 4, none⟩ (.bool x)) B room F T ops x := block_setCell (i := 4) h (.bool x)
theorem Five.alloc {w : World} {B F : Nat} {room ops : Int} {T : Option Nat} {down : Bool} (h : Five w B room F T ops down) (o : Obj) : Five (w.alloc o) B room F T ops down := (Below.heap_alloc w o B (lt_of_block h)).trans h

set_option maxRecDepth 100000 in
set_option maxHeartbeats 2000000 in
theorem operate_down (B F : Nat) (T : Option Nat) (room ops r : Int) (v1 v2 : Value) (w : World) (h : Five w B room F T ops true) :
    Calls Tryz.prog 74 #[.pointer (some ⟨B, 0, none⟩), .agg #[.int .i64 r, v1, v2]] w (Leaves (.int .i64 45) w) := by
  have hlt := lt_of_block h
  have c4 := h.c4
  clear h
  go_enter Tryz.func74, Tryz.ntmps74
  go_wp2
  go_ret
  exact ⟨rfl, (Below.refl _ _).alloc (Nat.le_refl _) _⟩

/-- It was refused. -/
def Refd (B F : Nat) (T : Option Nat) (room ops r : Int) (w : World) (e : Ending) (w' : World) : Prop := e = .returned (.int .i64 r) ∧ Mid w B room F T ops false w'

set_option maxRecDepth 100000 in
set_option maxHeartbeats 2000000 in
theorem operate_refused (B F : Nat) (T : Option Nat) (room ops r : Int) (v1 v2 : Value) (w : World) (h : Five w B room F T ops false) (h0 : 0 ≤ ops) (ho : ops ≤ 1073741824) (hr : (r != 0) = true) :
    Calls Tryz.prog 74 #[.pointer (some ⟨B, 0, none⟩), .agg #[.int .i64 r, v1, v2]] w (Refd B F T room (ops + 1) r w) := by
  have hlt := lt_of_block h
  have c3 := h.c3
  have c4 := h.c4
  have f3 := h.fr 3
  have HF := Lib.hid h
  clear h
  go_enter Tryz.func74, Tryz.ntmps74
  go_wp2
  go_ret
  exact ⟨rfl, (HF.out.ops _).alloc _, ((Keeps.refl (One B) w).setCell (p := ⟨B, 3, none⟩) (.inl rfl) _).alloc _⟩

/-- What the map of troubles tells of a number. -/
def LookT (w : World) (T : Option Nat) (i : Int) (t : Tro) (b : Bool) : Prop := ∀ w', Keeps (fun k => T ≠ some k) w w' → (Instr.lookup 79 (.map T) (.int .i64 i) true).run Tryz.prog w' = .ok (.tuple #[troV t, .bool b]) w'

/-- What was to be done was done. -/
def WholeOut (B F : Nat) (T : Option Nat) (room ops : Int) (R : World → World → Prop) (w : World) (e : Ending) (w' : World) : Prop := e = .returned (.int .i64 0) ∧ ∃ w1, Mid w B room F T ops false w1 ∧ R w1 w'

set_option maxRecDepth 100000 in
set_option maxHeartbeats 4000000 in
/-- No trouble befalls: what is to be done is done. -/
theorem operate_whole (B F : Nat) (T : Option Nat) (room ops : Int) (g : Nat) (caps : Array Value) (v2 : Value) (z : Tro) (w : World) (h : Five w B room F T ops false) (h0 : 0 ≤ ops) (ho : ops ≤ 1073741824) (hT : T ≠ some B)
    (hl : LookT w T (ops + 1) z false) (R : World → World → Prop) (eg : ∀ args w, (callFunc g args).run Tryz.prog w = .ok (.enter g args) w)
    (hg : ∀ w1, Mid w B room F T (ops + 1) false w1 → Calls Tryz.prog g caps w1 (Ran (R w1))) :
    Calls Tryz.prog 74 #[.pointer (some ⟨B, 0, none⟩), .agg #[.int .i64 0, .func (.func g) #[] caps, v2]] w (WholeOut B F T room (ops + 1) R w) := by
  have hlt := lt_of_block h
  have c2 := h.c2
  have c3 := h.c3
  have c4 := h.c4
  have f3 := h.fr 3
  have HF := Lib.hid h
  obtain ⟨W, hW⟩ : ∃ W, ((w.setCell ⟨B, 3, none⟩ (.int .i64 (ops + 1))).alloc (.cells #[.int .i64 0, .func (.func g) #[] caps, v2] 124)).drew = W := ⟨_, rfl⟩
  have hm : Mid w B room F T (ops + 1) false W := by
    rw [← hW]
    exact ⟨((h.ops (ops + 1)).alloc _), (((Keeps.refl (One B) w).setCell (p := ⟨B, 3, none⟩) (.inl rfl) _).alloc _).drew⟩
  have hlook := hl W (hm.2.mono (fun k _ e => by cases e; exact hT))
  have hlook2 := hl (W.alloc (.cells #[.int .i64 0, .int .i64 0, .int .i64 0] 101)) ((hm.2.alloc _).mono (fun k _ e => by cases e; exact hT))
  unfold troV at hlook hlook2
  have hltW := lt_of_block hm.1
  have d2 := hm.1.c2
  have d3 := hm.1.c3
  have d4 := hm.1.c4
  have g4 := hm.1.fr 4
  have HM := Lib.hid hm
  have hbx : W.heap[w.heap.size]? = some (.cells #[.int .i64 0, .func (.func g) #[] caps, v2] 124 (0, 0)) := by
    rw [← hW]
    have h1 : (w.setCell ⟨B, 3, none⟩ (.int .i64 (ops + 1))).heap.size = w.heap.size := by simp [World.setCell]
    exact h1 ▸ heap_alloc_new (w.setCell ⟨B, 3, none⟩ (.int .i64 (ops + 1))) _
  have hb0 : W.cell? ⟨w.heap.size, 0, none⟩ = some (.int .i64 0) := (cell_of_block hbx 0).trans rfl
  have hb1 : W.cell? ⟨w.heap.size, 1, none⟩ = some (.func (.func g) #[] caps) := (cell_of_block hbx 1).trans rfl
  have hb2 : W.cell? ⟨w.heap.size, 2, none⟩ = some (v2) := (cell_of_block hbx 2).trans rfl
  have hsz := lt_of_block hbx
  have HG := Lib.hid hg
  clear h hg hl hm hbx
  go_enter Tryz.func74, Tryz.ntmps74
  go_wp2
  go_region
  all_goals (go_wp2_with fail)
  all_goals
    refine (HG.out _ ⟨HM.out.1.alloc _, HM.out.2.alloc _⟩).mono ?_
    rintro e w2 ⟨rfl, hR⟩
    have HR := Lib.hid hR
    clear hR
    go_wp2
    go_ret
    exact ⟨rfl, _, ⟨HM.out.1.alloc _, HM.out.2.alloc _⟩, HR.out⟩

theorem neq_nil (w : World) : (binOp .neq 105 .nilFunc .nilFunc).run Tryz.prog w = .ok (.bool false) w := by kernel_rfl
theorem neq_func (g : Fn) (caps : Array Value) (w : World) : (binOp .neq 105 (.func g #[] caps) .nilFunc).run Tryz.prog w = .ok (.bool true) w := by kernel_rfl

/-- A trouble befell, and nothing was done. -/
def HitOut (B F : Nat) (T : Option Nat) (room ops : Int) (t : Tro) (w : World) (e : Ending) (w' : World) : Prop := e = .returned (.int .i64 (tld t.kind)) ∧ Mid w B room F T ops (decide (t.kind = 3)) w'

set_option maxRecDepth 100000 in
set_option maxHeartbeats 4000000 in
theorem operate_hit (B F : Nat) (T : Option Nat) (room ops : Int) (g : Nat) (caps : Array Value) (z : Tro) (w : World) (h : Five w B room F T ops false) (h0 : 0 ≤ ops) (ho : ops ≤ 1073741824) (hT : T ≠ some B)
    (hl : LookT w T (ops + 1) z true) :
    Calls Tryz.prog 74 #[.pointer (some ⟨B, 0, none⟩), .agg #[.int .i64 0, .func (.func g) #[] caps, .nilFunc]] w (HitOut B F T room (ops + 1) z w) := by
  have hq := neq_nil
  obtain ⟨K, hK⟩ : ∃ K, tld z.kind = K := ⟨_, rfl⟩
  have HT := fun w => told_calls z.kind w
  simp only [hK] at HT
  have HHT := Lib.hid HT
  have hlt := lt_of_block h
  have c2 := h.c2
  have c3 := h.c3
  have c4 := h.c4
  have f3 := h.fr 3
  have HF := Lib.hid h
  obtain ⟨W, hW⟩ : ∃ W, ((w.setCell ⟨B, 3, none⟩ (.int .i64 (ops + 1))).alloc (.cells #[.int .i64 0, .func (.func g) #[] caps, .nilFunc] 124)).drew = W := ⟨_, rfl⟩
  have hm : Mid w B room F T (ops + 1) false W := by
    rw [← hW]
    exact ⟨((h.ops (ops + 1)).alloc _), (((Keeps.refl (One B) w).setCell (p := ⟨B, 3, none⟩) (.inl rfl) _).alloc _).drew⟩
  have hlook := hl W (hm.2.mono (fun k _ e => by cases e; exact hT))
  have hlook2 := hl (W.alloc (.cells #[.int .i64 0, .int .i64 0, .int .i64 0] 101)) ((hm.2.alloc _).mono (fun k _ e => by cases e; exact hT))
  unfold troV at hlook hlook2
  have hltW := lt_of_block hm.1
  have d2 := hm.1.c2
  have d3 := hm.1.c3
  have d4 := hm.1.c4
  have g4 := hm.1.fr 4
  have HM := Lib.hid hm
  have hbx : W.heap[w.heap.size]? = some (.cells #[.int .i64 0, .func (.func g) #[] caps, .nilFunc] 124 (0, 0)) := by
    rw [← hW]
    have h1 : (w.setCell ⟨B, 3, none⟩ (.int .i64 (ops + 1))).heap.size = w.heap.size := by simp [World.setCell]
    exact h1 ▸ heap_alloc_new (w.setCell ⟨B, 3, none⟩ (.int .i64 (ops + 1))) _
  have hb0 : W.cell? ⟨w.heap.size, 0, none⟩ = some (.int .i64 0) := (cell_of_block hbx 0).trans rfl
  have hb1 : W.cell? ⟨w.heap.size, 1, none⟩ = some (.func (.func g) #[] caps) := (cell_of_block hbx 1).trans rfl
  have hb2 : W.cell? ⟨w.heap.size, 2, none⟩ = some (.nilFunc) := (cell_of_block hbx 2).trans rfl
  have hsz := lt_of_block hbx
  have hkd : (z.kind == 3) = decide (z.kind = 3) := rfl
  obtain ⟨D, hD⟩ : ∃ D, decide (z.kind = 3) = D := ⟨_, rfl⟩
  have HD := Lib.hid hD
  rw [hD] at hkd
  unfold HitOut
  rw [hK, hD]
  clear h hl hm hbx HT hK hD
  go_enter Tryz.func74, Tryz.ntmps74
  go_wp2
  go_region
  all_goals (go_wp2_with fail)
  all_goals
    refine (HHT.out _).mono ?_
    rintro e w2 ⟨rfl, rfl⟩
    go_wp2
    go_ret
    exact ⟨rfl, (HM.out.1.down _).alloc _, (HM.out.2.setCell (p := ⟨B, 4, none⟩) (.inl rfl) _).alloc _⟩

/-- A trouble befell, and a part was done. -/
def PartOut (B F : Nat) (T : Option Nat) (room ops : Int) (R : World → World → Prop) (S : Nat → Prop) (t : Tro) (w : World) (e : Ending) (w' : World) : Prop :=
  e = .returned (.int .i64 (tld t.kind)) ∧ ∃ w1 w2, Mid w B room F T ops false w1 ∧ R w1 w2 ∧ Keeps S w1 w2 ∧ w' = w2.setCell ⟨B, 4, none⟩ (.bool (decide (t.kind = 3)))

set_option maxRecDepth 100000 in
set_option maxHeartbeats 4000000 in
theorem operate_part (B F : Nat) (T : Option Nat) (room ops : Int) (g g2 : Nat) (caps caps2 : Array Value) (z : Tro) (w : World) (h : Five w B room F T ops false) (h0 : 0 ≤ ops) (ho : ops ≤ 1073741824) (hT : T ≠ some B)
    (hl : LookT w T (ops + 1) z true) (R : World → World → Prop) (S : Nat → Prop) (hS : ∀ k, S k → k < w.heap.size ∧ k ≠ B) (eg : ∀ args w, (callFunc g2 args).run Tryz.prog w = .ok (.enter g2 args) w)
    (hg : ∀ w1, Mid w B room F T (ops + 1) false w1 → Calls Tryz.prog g2 (#[.int .i64 z.part] ++ caps2) w1 (Ran (fun w2 => R w1 w2 ∧ Keeps S w1 w2))) :
    Calls Tryz.prog 74 #[.pointer (some ⟨B, 0, none⟩), .agg #[.int .i64 0, .func (.func g) #[] caps, .func (.func g2) #[] caps2]] w (PartOut B F T room (ops + 1) R S z w) := by
  have hq := neq_func (.func g2) caps2
  obtain ⟨K, hK⟩ : ∃ K, tld z.kind = K := ⟨_, rfl⟩
  have HT := fun w => told_calls z.kind w
  simp only [hK] at HT
  have HHT := Lib.hid HT
  have hlt := lt_of_block h
  have c2 := h.c2
  have c3 := h.c3
  have c4 := h.c4
  have f3 := h.fr 3
  have HF := Lib.hid h
  obtain ⟨W, hW⟩ : ∃ W, ((w.setCell ⟨B, 3, none⟩ (.int .i64 (ops + 1))).alloc (.cells #[.int .i64 0, .func (.func g) #[] caps, .func (.func g2) #[] caps2] 124)).drew = W := ⟨_, rfl⟩
  have hm : Mid w B room F T (ops + 1) false W := by
    rw [← hW]
    exact ⟨((h.ops (ops + 1)).alloc _), (((Keeps.refl (One B) w).setCell (p := ⟨B, 3, none⟩) (.inl rfl) _).alloc _).drew⟩
  have hlook := hl W (hm.2.mono (fun k _ e => by cases e; exact hT))
  have hlook2 := hl (W.alloc (.cells #[.int .i64 0, .int .i64 0, .int .i64 0] 101)) ((hm.2.alloc _).mono (fun k _ e => by cases e; exact hT))
  unfold troV at hlook hlook2
  have hltW := lt_of_block hm.1
  have d2 := hm.1.c2
  have d3 := hm.1.c3
  have d4 := hm.1.c4
  have g4 := hm.1.fr 4
  have HM := Lib.hid hm
  have hbx : W.heap[w.heap.size]? = some (.cells #[.int .i64 0, .func (.func g) #[] caps, .func (.func g2) #[] caps2] 124 (0, 0)) := by
    rw [← hW]
    have h1 : (w.setCell ⟨B, 3, none⟩ (.int .i64 (ops + 1))).heap.size = w.heap.size := by simp [World.setCell]
    exact h1 ▸ heap_alloc_new (w.setCell ⟨B, 3, none⟩ (.int .i64 (ops + 1))) _
  have hb0 : W.cell? ⟨w.heap.size, 0, none⟩ = some (.int .i64 0) := (cell_of_block hbx 0).trans rfl
  have hb1 : W.cell? ⟨w.heap.size, 1, none⟩ = some (.func (.func g) #[] caps) := (cell_of_block hbx 1).trans rfl
  have hb2 : W.cell? ⟨w.heap.size, 2, none⟩ = some (.func (.func g2) #[] caps2) := (cell_of_block hbx 2).trans rfl
  have hsz := lt_of_block hbx
  have hkd : (z.kind == 3) = decide (z.kind = 3) := rfl
  obtain ⟨D, hD⟩ : ∃ D, decide (z.kind = 3) = D := ⟨_, rfl⟩
  have HD := Lib.hid hD
  rw [hD] at hkd
  unfold PartOut
  rw [hK, hD]
  have HG := Lib.hid hg
  have HS := Lib.hid hS
  clear hg hS h hl hm hbx HT hK hD
  go_enter Tryz.func74, Tryz.ntmps74
  go_wp2
  go_region
  all_goals (go_wp2_with fail)
  all_goals
    refine (HG.out _ ⟨HM.out.1.alloc _, HM.out.2.alloc _⟩).mono ?_
    rintro e w2 ⟨rfl, hR, hk⟩
    have h5 : Five w2 B room F T (ops + 1) false := block_keep (HM.out.1.alloc _) hk (fun e => (HS.out B e).2 rfl)
    have hbt := block_keep (heap_alloc_new W (.cells #[.int .i64 z.at_, .int .i64 z.kind, .int .i64 z.part] 101)) hk (fun e => by have := (HS.out _ e).1; omega)
    have e1 : w2.cell? ⟨W.heap.size, 1, none⟩ = some (.int .i64 z.kind) := (cell_of_block hbt 1).trans rfl
    have e4 := h5.c4
    have k4 := h5.fr 4
    have HR := Lib.hid hR
    have HK := Lib.hid hk
    clear hR hk hbt h5
    go_wp2_with fail
    refine (HHT.out _).mono ?_
    rintro e w3 ⟨rfl, rfl⟩
    go_wp2
    go_ret
    exact ⟨rfl, _, w2, ⟨HM.out.1.alloc _, HM.out.2.alloc _⟩, HR.out, HK.out, rfl⟩

end Go.Proofs.YtjhiekijbcjohaaGreatDoor
