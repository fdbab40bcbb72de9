/-
  The program's Arm. Conditions: the disk lies in memory; the troubles lie in memory that isn't the disk's; there are no more than 2 to the 20.
-/
import Derived.Test.YtacfcfbleogioaaGreatDoorCrash
namespace Go.Proofs.YtacfcfbleogioaaGreatDoor
open Go.RowKit Go.Lib Go.Joins

/-- A slice leads to these troubles. -/
def RowT (w : World) (S : Nat → Prop) (a : Option Addr) (l : List Tro) : Prop :=
  l = [] ∨ ∃ b o, a = some ⟨b, o, none⟩ ∧ S b ∧ ∀ (i : Nat) (t : Tro), l[i]? = some t → w.cell? ⟨b, o + i * 3, none⟩ = some (.int .i64 t.at_) ∧ w.cell? ⟨b, o + i * 3 + 1, none⟩ = some (.int .i64 t.kind) ∧ w.cell? ⟨b, o + i * 3 + 2, none⟩ = some (.int .i64 t.part)
theorem RowT.keep {w w' : World} {S O a l} (h : RowT w S a l) (hb : Keeps O w w') (hO : ∀ k, S k → ¬ O k) : RowT w' S a l := by
  rcases h with h0 | ⟨b, o, ha, hS, hc⟩
  · exact Or.inl h0
  · refine Or.inr ⟨b, o, ha, hS, fun i t hi => ?_⟩
    obtain ⟨h1, h2, h3⟩ := hc i t hi
    have hk := hb.block b (lt_of_cell h1) (hO b hS)
    exact ⟨(World.cell?_of_block (a := ⟨b, _, none⟩) hk).trans h1, (World.cell?_of_block (a := ⟨b, _, none⟩) hk).trans h2, (World.cell?_of_block (a := ⟨b, _, none⟩) hk).trans h3⟩

/-- The map holds just the first trouble of each number. -/
def TroI (D : DataW Nat) (l : List Tro) : Prop := ∀ i : Int, match tro l i with
  | none => Maps.has D (.int .i64 i) = false
  | some x => Maps.has D (.int .i64 i) = true ∧ ∀ z, D.atKey (.int .i64 i) z = troD x

theorem tro_snoc (l : List Tro) (t : Tro) (i : Int) : tro (l ++ [t]) i = match tro l i with | some x => some x | none => if hits i t then some t else none := by
  unfold tro
  rw [List.find?_append]
  cases List.find? (hits i) l with
  | some x => rfl
  | none =>
    show List.find? (hits i) [t] = _
    rw [List.find?_cons, List.find?_nil]
    cases hits i t <;> rfl

theorem tld_zero {k : Int} : tld k = 0 ↔ ¬ (1 ≤ k ∧ k ≤ 3) := by
  unfold tld
  by_cases h1 : k = 1
  · subst h1; simp
  by_cases h2 : k = 2
  · subst h2; simp
  by_cases h3 : k = 3
  · subst h3; simp
  · rw [if_neg h1, if_neg h2, if_neg h3]; simp; omega

theorem TroI.nil : TroI (.map []) [] := fun _i => rfl
theorem TroI.skip {D : DataW Nat} {l : List Tro} {t : Tro} (h : TroI D l) (hs : Maps.has D (.int .i64 t.at_) = true ∨ tld t.kind = 0) : TroI D (l ++ [t]) := by
  intro i
  have hi := h i
  rw [tro_snoc]
  cases ht : tro l i with
  | some x => rw [ht] at hi; exact hi
  | none =>
    rw [ht] at hi
    have : hits i t = false := by
      unfold hits
      rcases hs with hs | hs
      · by_cases e : t.at_ = i
        · rw [e] at hs
          rw [hs] at hi
          cases hi
        · simp [e]
      · have := tld_zero.1 hs
        cases h1 : decide (t.at_ = i) <;> simp
        omega
    rw [this]
    exact hi
theorem TroI.put {D : DataW Nat} {l : List Tro} {t : Tro} (h : TroI D l) (hD : Maps.IsMap D) (hn : Maps.has D (.int .i64 t.at_) = false) (hk : tld t.kind ≠ 0) : TroI (D.put (.int .i64 t.at_) (troD t)) (l ++ [t]) := by
  intro i
  have hi := h i
  have hv : 1 ≤ t.kind ∧ t.kind ≤ 3 := by
    by_cases e : 1 ≤ t.kind ∧ t.kind ≤ 3
    · exact e
    · exact absurd (tld_zero.2 e) hk
  rw [tro_snoc]
  by_cases e : t.at_ = i
  · subst e
    cases ht : tro l t.at_ with
    | some x => rw [ht] at hi; rw [hn] at hi; cases hi.1
    | none =>
      have : hits t.at_ t = true := by unfold hits; simp [hv]
      rw [this]
      have hkl : WideAt.IsKeyLit (Lit.int .i64 t.at_) := trivial
      exact ⟨Maps.has_put_same hD hkl _, fun z => Maps.atKey_put_same hD hkl _ z⟩
  · have hne : (Lit.int .i64 i) ≠ (Lit.int .i64 t.at_) := fun e2 => e (by injection e2 with _ e3; exact e3.symm)
    have hh : hits i t = false := by unfold hits; simp [e]
    rw [hh, Maps.has_put_other hne]
    cases ht : tro l i with
    | some x =>
      rw [ht] at hi
      exact ⟨hi.1, fun z => by rw [Maps.atKey_put_other hne]; exact hi.2 z⟩
    | none => rw [ht] at hi; exact hi

/-- The map of troubles is another one. -/
theorem DiskAt.tro_changed {w w1 : World} {S : Nat → Prop} {B : Nat} {d : Dsk} {F T : Nat} {cs : List Cel} (h : DiskAt w S B d F (some T) cs) (hk : Keeps (One T) w w1) {tr' : List Tro} (ht : TroAt w1 (some T) tr') : DiskAt w1 S B { d with tr := tr' } F (some T) cs where
  blk := block_keep h.blk hk (fun e => h.tro.ne h.blk (by rw [show B = T from e]))
  map := ownsMap_keep h.map hk (fun e => h.mapT (by rw [show F = T from e]))
  tro := ht
  file := fun c hc => block_keep (h.file c hc) hk (fun e => h.tro.ne (h.file c hc) (by rw [show c.fb = T from e]))
  row := fun c hc => ownsRow_keep (h.row c hc) hk (fun k e hkT => by
    have hrc := h.row c hc
    rcases hrc.2 with ⟨h5, _⟩ | ⟨g, cap, cur, h5, _, hg, _⟩
    · rw [h5] at e; cases e
    · rw [h5] at e
      obtain rfl : g = k := Option.some.inj e
      exact h.tro.ne hg (by rw [show g = T from hkT]))
  is := h.is
  fbs := h.fbs
  dbs := h.dbs
  mapT := h.mapT
  sB := h.sB
  sF := h.sF
  sT := h.sT
  sfb := h.sfb
  sdb := h.sdb

/-- A new map of troubles. -/
theorem DiskAt.armed {w w1 : World} {S : Nat → Prop} {B : Nat} {d : Dsk} {F : Nat} {T0 : Option Nat} {cs : List Cel} (h : DiskAt w S B d F T0 cs) {T : Nat} {ops : Int} (hm : Mid w B d.room F (some T) ops d.down w1) (hT : w.heap.size ≤ T) (ht : TroAt w1 (some T) []) :
    DiskAt w1 (fun k => S k ∨ k = T) B { d with tr := [], ops := ops } F (some T) cs where
  blk := hm.1
  map := ownsMap_keep h.map hm.2 (map_ne h.map h.blk)
  tro := ht
  file := fun c hc => block_keep (h.file c hc) hm.2 (elem_ne (h.file c hc) h.blk (by decide))
  row := fun c hc => ownsRow_keep (h.row c hc) hm.2 (fun k e hk => other_elem h.blk (h.row c hc) (by decide) (by rw [e, hk]))
  is := h.is
  fbs := h.fbs
  dbs := h.dbs
  mapT := fun e => by have := h.map.lt; have := Option.some.inj e; omega
  sB := .inl h.sB
  sF := .inl h.sF
  sT := fun k e => .inr (Option.some.inj e).symm
  sfb := fun c hc => .inl (h.sfb c hc)
  sdb := fun c hc k e => .inl (h.sdb c hc k e)

theorem keyOf_wf {i : Int} (h : (Lit.int .i64 i).wf = true) : keyOf Tryz.prog 3 (.int .i64 i) = some (.int .i64 i) := Maps.keyOf_int_mk Tryz.underlying3 h
theorem Rt_mk (t : Tro) : Rt (troV t) = some (troD t, []) := rfl

/-- The look-up, whatever the number. -/
theorem look_any {T n : Nat} {D : DataW Nat} {l : List Tro} (ht : TroI D l) {i : Int} (hw : (Lit.int .i64 i).wf = true) :
    ∃ z : Tro, ∀ w : World, w.ownsMap Tryz.prog 3 Rt T n D → (Instr.lookup 76 (.map (some T)) (.int .i64 i) true).run Tryz.prog w = .ok (.tuple #[troV z, .bool (Maps.has D (.int .i64 i))]) w := by
  have hi := ht i
  cases hx : tro l i with
  | none =>
    rw [hx] at hi
    refine ⟨⟨0, 0, 0⟩, fun w h => ?_⟩
    obtain ⟨v, ps, hrun, hv⟩ := h.look_ok keyed3 Tryz.underlying76 (z := .agg #[.int .i64 0, .int .i64 0, .int .i64 0]) (Tryz.zeroValue95 w) Rt_zero (keyOf_wf hw)
    have hz : D.atKey (.int .i64 i) (troD ⟨0, 0, 0⟩) = troD ⟨0, 0, 0⟩ := by
      obtain ⟨es, clock, _, F, _, rfl⟩ := h
      exact Maps.atKey_of_not_has hi _
    rw [hz] at hv
    rw [Rt_inv hv] at hrun
    exact hrun
  | some x =>
    rw [hx] at hi
    refine ⟨x, fun w h => ?_⟩
    obtain ⟨v, ps, hrun, hv⟩ := h.look_ok keyed3 Tryz.underlying76 (z := .agg #[.int .i64 0, .int .i64 0, .int .i64 0]) (Tryz.zeroValue95 w) Rt_zero (keyOf_wf hw)
    rw [hi.2] at hv
    rw [Rt_inv hv] at hrun
    exact hrun

def ArmOut (w : World) (S : Nat → Prop) (B : Nat) (d' : Dsk) (e : Ending) (w' : World) : Prop := e = .returned (.tuple #[]) ∧ Turns w S B d' w'

set_option maxRecDepth 100000 in
set_option maxHeartbeats 4000000 in
theorem arm_calls (a0 : Option Addr) (l : List Tro) (cap0 n : Nat) (w : World) {S S0 : Nat → Prop} {B : Nat} {d : Dsk} (hd : Disk w S B d) (hr : RowT w S0 a0 l) (hn : l.length = n) (hS0 : ∀ k, S0 k → ¬ S k ∧ k < w.heap.size) (hcm : n ≤ 1048576) (hwf : ∀ t ∈ l, (Lit.int .i64 t.at_).wf = true) :
    Calls Tryz.prog 17 #[.pointer (some ⟨B, 0, none⟩), .slice a0 n cap0] w (ArmOut w S B (arm l d)) := by
  obtain ⟨hi, hSlt, F, T0, cs, h⟩ := hd
  have hmm := @run_makeMap Tryz.prog
  have h5 : Five w B d.room F T0 d.ops d.down := h.blk
  have hlt := lt_of_block h5
  have c2 := h5.c2
  have c3 := h5.c3
  have k2 := h5.fr 2
  have k3 := h5.fr 3
  obtain ⟨T, hT⟩ : ∃ T, w.heap.size = T := ⟨_, rfl⟩
  obtain ⟨W0, hW0⟩ : ∃ W0, ((w.setCell ⟨B, 3, none⟩ (.int .i64 0)).setCell ⟨B, 2, none⟩ (.map (some T))).alloc (.map #[] 0) = W0 := ⟨_, rfl⟩
  have hsz0 : (w.setCell ⟨B, 3, none⟩ (.int .i64 0)).heap.size = w.heap.size := by simp [World.setCell]
  have hsz1 : ((w.setCell ⟨B, 3, none⟩ (.int .i64 0)).setCell ⟨B, 2, none⟩ (.map (some T))).heap.size = T := by rw [← hT]; simp [World.setCell]
  have hmid : Mid w B d.room F (some T) 0 d.down W0 := by
    rw [← hW0]
    have hb := block_setCell (i := 2) (block_setCell (i := 3) h.blk (.int .i64 0)) (.map (some T))
    exact ⟨(Below.heap_alloc _ _ B (lt_of_block hb)).trans hb, (((Keeps.refl (One B) w).setCell (p := ⟨B, 3, none⟩) (.inl rfl) _).setCell (p := ⟨B, 2, none⟩) (.inl rfl) _).alloc _⟩
  have hown0 : W0.ownsMap Tryz.prog 3 Rt T 0 (.map []) := by
    rw [← hW0]
    have := World.ownsMap_made ((w.setCell ⟨B, 3, none⟩ (.int .i64 0)).setCell ⟨B, 2, none⟩ (.map (some T))) Tryz.prog 3 Rt
    rw [hsz1] at this
    exact this
  have hD0 := h.armed hmid (by omega) ⟨0, .map [], hown0, by omega, TroI.nil⟩
  have HD0 := Lib.hid hD0
  have HOWN0 := Lib.hid hown0
  have HMID := Lib.hid hmid
  have HSB := Lib.hid h.sB
  have HI := Lib.hid hi
  have HR := Lib.hid (hr.keep hmid.2 (fun k hk e => (hS0 k hk).1 (by rw [show k = B from e]; exact h.sB)))
  have HN := Lib.hid hn
  have HWF := Lib.hid hwf
  have HS0 := Lib.hid hS0
  have HTT := Lib.hid hT
  have hTl : T < W0.heap.size := hown0.lt
  rw [hT] at hlt
  clear hsz0 hsz1 hmid hown0 hD0 h5 h hi hr hn hwf hS0 hSlt
  go_enter Tryz.func17, Tryz.ntmps17
  go_wp2
  go_loopg [5, 6, 7, 17] n (fun g _ _ _ idx wr => ∃ (i : Nat) (D : DataW Nat), idx = .int .i64 (i : Int) ∧ g + i = n ∧ wr.ownsMap Tryz.prog 3 Rt T i D ∧ TroI D (l.take i) ∧ Keeps (One T) W0 wr)
  case atStart => exact ⟨0, _, rfl, rfl, HOWN0.out, TroI.nil, Keeps.refl _ _⟩
  case round =>
    obtain ⟨i, D, rfl, hg, hown, htro, hK⟩ := hrel
    have HG := Lib.hid hg
    have HOWN := Lib.hid hown
    have HTRO := Lib.hid htro
    have HK := Lib.hid hK
    have hszr := hK.size
    have HDr := Lib.hid (HD0.out.tro_changed hK ⟨i, D, hown, by omega, htro⟩)
    clear hg hown htro hK
    by_cases hlt2 : i < n
    · obtain ⟨g', rfl⟩ : ∃ g', gk = g' + 1 := ⟨gk - 1, by have := HG.out; omega⟩
      have hd : decide ((i : Int) < (n : Int)) = true := by simp; omega
      obtain ⟨t, ht⟩ : ∃ t, l[i]? = some t := ⟨l[i]'(by rw [HN.out]; omega), List.getElem?_eq_getElem _⟩
      have htm : t ∈ l := List.mem_of_getElem? ht
      have hwf := HWF.out t htm
      obtain ⟨b, o, rfl, hbS, hcl⟩ : ∃ b o, a0 = some ⟨b, o, none⟩ ∧ S0 b ∧ ∀ (i : Nat) (t : Tro), l[i]? = some t → W0.cell? ⟨b, o + i * 3, none⟩ = some (.int .i64 t.at_) ∧ W0.cell? ⟨b, o + i * 3 + 1, none⟩ = some (.int .i64 t.kind) ∧ W0.cell? ⟨b, o + i * 3 + 2, none⟩ = some (.int .i64 t.part) := by
        rcases HR.out with h0 | h0
        · rw [h0] at ht; simp at ht
        · exact h0
      obtain ⟨q0, q1, q2⟩ := hcl i t ht
      have hbT : ¬ One T b := fun e => by have := (HS0.out b hbS).2; have e2 : b = T := e; have := HTT.out; omega
      have hkb := HK.out.block b (lt_of_cell q0) hbT
      have r0 : wr.cell? ⟨b, o + i * 3, none⟩ = some (.int .i64 t.at_) := (World.cell?_of_block (a := ⟨b, _, none⟩) hkb).trans q0
      have r1 : wr.cell? ⟨b, o + i * 3 + 1, none⟩ = some (.int .i64 t.kind) := (World.cell?_of_block (a := ⟨b, _, none⟩) hkb).trans q1
      have r2 : wr.cell? ⟨b, o + i * 3 + 2, none⟩ = some (.int .i64 t.part) := (World.cell?_of_block (a := ⟨b, _, none⟩) hkb).trans q2
      have htake : Hid (l.take (i + 1) = l.take i ++ [t]) := Lib.hid (by rw [List.take_add_one, ht]; rfl)
      obtain ⟨ta, tk, tp⟩ := t
      dsimp only at r0 r1 r2 hwf
      obtain ⟨z, hz⟩ := look_any (T := T) (n := i) HTRO.out hwf
      obtain ⟨W, hW⟩ : ∃ W, (wr.alloc (.cells #[.int .i64 ta, .int .i64 tk, .int .i64 tp] 95)).drew = W := ⟨_, rfl⟩
      have hownW : W.ownsMap Tryz.prog 3 Rt T i D := by rw [← hW]; exact (HOWN.out.alloc _).drew
      have hKW : Keeps (One T) W0 W := by rw [← hW]; exact (HK.out.alloc _).drew
      have hszW : wr.heap.size < W.heap.size := by rw [← hW]; show _ < (wr.alloc _).heap.size; simp
      have hbW : W.heap[wr.heap.size]? = some (.cells #[.int .i64 ta, .int .i64 tk, .int .i64 tp] 95 (0, 0)) := by rw [← hW]; exact heap_alloc_new wr _
      have w0 : W.cell? ⟨wr.heap.size, 0, none⟩ = some (.int .i64 ta) := (cell_of_block hbW 0).trans rfl
      have w1 : W.cell? ⟨wr.heap.size, 1, none⟩ = some (.int .i64 tk) := (cell_of_block hbW 1).trans rfl
      have w2 : W.cell? ⟨wr.heap.size, 2, none⟩ = some (.int .i64 tp) := (cell_of_block hbW 2).trans rfl
      have h5 : Five W B d.room F (some T) 0 d.down := block_keep HMID.out.1 hKW (fun e => by have e2 : B = T := e; omega)
      have wB := h5.c2
      have hltW := lt_of_block h5
      have hlook := hz W hownW
      have hlook2 := hz _ (hownW.alloc (.cells #[.int .i64 0, .int .i64 0, .int .i64 0] 95))
      unfold troV at hlook hlook2
      have HT := fun w => told_calls tk w
      obtain ⟨KK, hKK⟩ : ∃ K, tld tk = K := ⟨_, rfl⟩
      simp only [hKK] at HT
      have HHT := Lib.hid HT
      have HKK := Lib.hid hKK
      have HKW := Lib.hid hKW
      have HOW := Lib.hid hownW
      have HWF2 := Lib.hid hwf
      clear q0 q1 q2 hkb hbT hcl htm ht hbS hbW h5 hownW hKW hz HT hKK hwf
      cases hhas : Maps.has D (.int .i64 ta) with
      | true =>
        rw [hhas] at hlook hlook2
        have HH := Lib.hid hhas
        clear hhas
        go_wp2
        go_region
        all_goals
          go_wp2
          go_roundg g'
          case measure => omega
          case rel => exact ⟨i + 1, D, by go_num, by have := HG.out; omega, (HOW.out.alloc _).mono (by omega), by rw [htake.out]; exact HTRO.out.skip (.inl HH.out), HKW.out.alloc _⟩
      | false =>
        rw [hhas] at hlook hlook2
        have HH := Lib.hid hhas
        clear hhas
        by_cases hk0 : KK = 0
        · subst hk0
          go_wp2
          go_region
          all_goals
            go_wp2_with (refine (HHT.out _).mono ?_; rintro e w' ⟨rfl, rfl⟩)
            go_roundg g'
            case measure => omega
            case rel => exact ⟨i + 1, D, by go_num, by have := HG.out; omega, (HOW.out.alloc _).mono (by omega), by rw [htake.out]; exact HTRO.out.skip (.inr HKK.out), HKW.out.alloc _⟩
        · have hk1 : (KK != 0) = true := by simpa using hk0
          have HK0 := Lib.hid hk0
          clear hk0
          obtain ⟨W2, hW2⟩ : ∃ W2, (W.alloc (.cells #[.int .i64 z.at_, .int .i64 z.kind, .int .i64 z.part] 95)).drew = W2 := ⟨_, rfl⟩
          have hown2 : W2.ownsMap Tryz.prog 3 Rt T i D := by rw [← hW2]; exact (HOW.out.alloc _).drew
          have hK2 : Keeps (One T) W W2 := by rw [← hW2]; exact ((Keeps.refl _ W).alloc _).drew
          obtain ⟨W3, hrun3, hown3, hturn3⟩ := hown2.store keyed3 Tryz.underlying76 (by unfold maxLen; omega) (keyOf_wf HWF2.out) (Rt_mk ⟨ta, tk, tp⟩)
          unfold troV at hrun3
          dsimp only at hrun3
          have HOWN3 := Lib.hid hown3
          have HK3 := Lib.hid ((HKW.out.trans hK2 (fresh_refl _ _)).grown hturn3.grown (fun k e => .inl (Option.some.inj e).symm))
          have hIM := Lib.hid hown2.isMap
          have x0 : W2.cell? ⟨wr.heap.size, 0, none⟩ = some (.int .i64 ta) := (World.cell?_of_block (a := ⟨wr.heap.size, 0, none⟩) (hK2.block wr.heap.size hszW (fun e => by have e2 : wr.heap.size = T := e; omega))).trans w0
          have x1 : W2.cell? ⟨wr.heap.size, 1, none⟩ = some (.int .i64 tk) := (World.cell?_of_block (a := ⟨wr.heap.size, 1, none⟩) (hK2.block wr.heap.size hszW (fun e => by have e2 : wr.heap.size = T := e; omega))).trans w1
          have x2 : W2.cell? ⟨wr.heap.size, 2, none⟩ = some (.int .i64 tp) := (World.cell?_of_block (a := ⟨wr.heap.size, 2, none⟩) (hK2.block wr.heap.size hszW (fun e => by have e2 : wr.heap.size = T := e; omega))).trans w2
          have xB : W2.cell? ⟨B, 2, none⟩ = some (.map (some T)) := (World.cell?_of_block (a := ⟨B, 2, none⟩) (hK2.block B hltW (fun e => by have e2 : B = T := e; omega))).trans wB
          have hsz3 := hturn3.grown.size
          clear hown2 hK2 hown3 hturn3
          go_wp2
          go_region
          all_goals
            go_wp2_with (refine (HHT.out _).mono ?_; rintro e w' ⟨rfl, rfl⟩)
            go_region
            all_goals
              go_wp2
              go_roundg g'
              case measure => omega
              case rel => exact ⟨i + 1, _, by go_num, by have := HG.out; omega, HOWN3.out, by rw [htake.out]; exact HTRO.out.put hIM.out HH.out (by show tld tk ≠ 0; rw [HKK.out]; exact HK0.out), HK3.out⟩
    · have hd : decide ((i : Int) < (n : Int)) = false := by simp; omega
      go_wp2
      go_end0
      have hin : i = n := by have := HG.out; omega
      have hall : l.take i = l := List.take_of_length_le (by rw [HN.out]; omega)
      have hDD := HDr.out
      rw [hall] at hDD
      refine ⟨rfl, _, ⟨inv_arm HI.out l, fun k e => e.2, F, some T, cs, hDD.tight⟩, fun k hk => ?_, ?_⟩
      · rcases hk.1 with e | e
        · exact .inl e
        · exact .inr (by have := HTT.out; omega)
      · exact (HMID.out.keeps HSB.out).trans HK.out (fun k e => .inr (by rw [show k = T from e, HTT.out]; exact Nat.le_refl _))

end Go.Proofs.YtacfcfbleogioaaGreatDoor
