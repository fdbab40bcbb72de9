/-
  The reference's segment in memory, and its Create. Conditions: the disk lies in memory; it is small; its troubles are few.
-/
import Derived.Test.YtjhiekijbcjohaaGreatDoorRDo
import Derived.Test.YtjhiekijbcjohaaGreatDoorSRef
import Derived.Test.YtjhiekijbcjohaaGreatDoorSAwake
namespace Go.Proofs.YtjhiekijbcjohaaGreatDoor
open Go.RowKit Go.Lib Go.Joins

/-- The reference's segment: one block. -/
def RSegAt (w : World) (b B : Nat) (n : Int) (g : Sg) : Prop := w.heap[b]? = some (.cells #[.pointer (some ⟨B, 0, none⟩), .int .i64 n, .int .i64 (g.size : Int), .bool g.sick] 61 (0, 0))
theorem RSegAt.keep {w w' : World} {b B : Nat} {n : Int} {g : Sg} {O : Nat → Prop} (h : RSegAt w b B n g) (hk : Keeps O w w') (hO : ¬ O b) : RSegAt w' b B n g := block_keep h hk hO
theorem RSegAt.below {w w' : World} {b B : Nat} {n : Int} {g : Sg} (h : RSegAt w b B n g) (hb : Below w.heap.size w w') : RSegAt w' b B n g := block_below hb h
theorem RSegAt.c0 {w : World} {b B : Nat} {n : Int} {g : Sg} (h : RSegAt w b B n g) : w.cell? ⟨b, 0, none⟩ = some (.pointer (some ⟨B, 0, none⟩)) := (cell_of_block h 0).trans rfl
theorem RSegAt.c1 {w : World} {b B : Nat} {n : Int} {g : Sg} (h : RSegAt w b B n g) : w.cell? ⟨b, 1, none⟩ = some (.int .i64 n) := (cell_of_block h 1).trans rfl
theorem RSegAt.c2 {w : World} {b B : Nat} {n : Int} {g : Sg} (h : RSegAt w b B n g) : w.cell? ⟨b, 2, none⟩ = some (.int .i64 (g.size : Int)) := (cell_of_block h 2).trans rfl
theorem RSegAt.c3 {w : World} {b B : Nat} {n : Int} {g : Sg} (h : RSegAt w b B n g) : w.cell? ⟨b, 3, none⟩ = some (.bool g.sick) := (cell_of_block h 3).trans rfl

theorem RTurns.start {w : World} {S : Nat → Prop} {B : Nat} {d : Dsk} (h : RefD w S B d) : RTurns w S B d w := ⟨S, h, fresh_refl _ _, Keeps.refl _ _⟩
theorem RTurns.quiet {w w1 w2 : World} {S : Nat → Prop} {B : Nat} {d : Dsk} (h : RTurns w S B d w1) (hb : Below w1.heap.size w1 w2) : RTurns w S B d w2 := by
  obtain ⟨S', h1, h2, h3⟩ := h
  exact ⟨S', h1.below hb, h2, h3.trans (keeps_below hb Non) (fresh_non _ _)⟩
theorem RTurns.from_ {w w1 w2 : World} {S : Nat → Prop} {B : Nat} {d : Dsk} (h : RTurns w1 S B d w2) (hb : Below w.heap.size w w1) : RTurns w S B d w2 := by
  obtain ⟨S', h1, h2, h3⟩ := h
  exact ⟨S', h1, fresh_trans (fresh_refl _ _) h2 hb.size, (keeps_below hb S).trans h3 (fresh_refl _ _)⟩
theorem RTurns.own {w w1 : World} {S : Nat → Prop} {B : Nat} {d : Dsk} (h : RTurns w S B d w1) : ∃ S', RefD w1 S' B d ∧ ∀ w2 d', RTurns w1 S' B d' w2 → RTurns w S B d' w2 := by
  obtain ⟨S1, h1, h2, h3⟩ := h
  refine ⟨S1, h1, fun w2 d' ht => ?_⟩
  obtain ⟨S2, k1, k2, k3⟩ := ht
  exact ⟨S2, k1, fresh_trans h2 k2 h3.size, h3.trans k3 h2⟩

/-- What the reference's operations of a segment leave. -/
def RSSt (w w' : World) (S : Nat → Prop) (B : Nat) (n : Int) (d : Dsk) (v : Value) (g : Option Sg) : Prop :=
  ∃ S', RefD w' S' B d ∧ Fresh S w.heap.size S' ∧ Keeps S w w' ∧ match g with
    | none => v = .pointer none
    | some g => ∃ b, v = .pointer (some ⟨b, 0, none⟩) ∧ w.heap.size ≤ b ∧ ¬ S' b ∧ RSegAt w' b B n g
theorem RSSt.of_none {w w' : World} {S : Nat → Prop} {B : Nat} {n : Int} {d : Dsk} (h : RTurns w S B d w') : RSSt w w' S B n d (.pointer none) none := by
  obtain ⟨S', h1, h2, h3⟩ := h
  exact ⟨S', h1, h2, h3, rfl⟩
theorem RSSt.of_some {w w' : World} {S : Nat → Prop} {B : Nat} {n : Int} {d : Dsk} {z : Nat} (h : RTurns w S B d w') :
    RSSt w (w'.alloc (.cells #[.pointer (some ⟨B, 0, none⟩), .int .i64 n, .int .i64 (z : Int), .bool false] 61)) S B n d (.pointer (some ⟨w'.heap.size, 0, none⟩)) (some ⟨z, false⟩) := by
  obtain ⟨S', h1, h2, h3⟩ := h
  have hb : Below w'.heap.size w' (w'.alloc (.cells #[.pointer (some ⟨B, 0, none⟩), .int .i64 n, .int .i64 (z : Int), .bool false] 61)) := (Below.refl _ _).alloc (Nat.le_refl _) _
  exact ⟨S', h1.below hb, h2, h3.trans (keeps_below hb Non) (fresh_non _ _), _, rfl, h3.size, fun e => by have := h1.2.1 _ e; omega, heap_alloc_new w' _⟩

/-- An operation of the reference's disk on the segment's file, with no bytes. -/
theorem rop_calls {w : World} {S : Nat → Prop} {B : Nat} {d : Dsk} {M K : Nat} (k : Nat) (n z : Int) (hk : 1 ≤ k ∧ k ≤ 6) (h : RefD w S B d) (hfew : Few d M K) (hM : M ≤ 1073741824) (hK : K ≤ 1073741000) (htr : d.tr.length ≤ 1048576) :
    Calls Tryz.prog 46 #[.pointer (some ⟨B, 0, none⟩), .int .i64 (k : Int), .string (nameB n), .string ⟨#[]⟩, .int .i64 z, .slice none 0 0] w (RDoes w S B (.int .i64 (step d ⟨k, nameB n, noS, z, []⟩).1) (step d ⟨k, nameB n, noS, z, []⟩).2) :=
  rdo_calls (nameB n) noS z none [] 0 0 w (O := Non) hk ⟨h, hfew.sml (by omega) (by omega), by have := nameB_size n; omega, Nat.zero_le _, ⟨(fun c hc => by cases hc), .inl rfl⟩, fun _ e => e.elim, fun _ => rfl, rfl, Nat.le_refl _, Nat.zero_le _, Nat.zero_le _, htr⟩
/-- .. an Append of bytes. -/
theorem ropa_calls {w : World} {S O : Nat → Prop} {B : Nat} {d : Dsk} {M K : Nat} (n : Int) (a : Option Addr) (b : List Nat) (m c : Nat) (h : RefD w S B d) (hfew : Few d M K) (hM : M ≤ 1073741824) (hK : K ≤ 1073741000) (htr : d.tr.length ≤ 1048576)
    (hr : Row w O a b) (hO : ∀ k, O k → ¬ S k) (h0 : a = none → c = 0) (hm : b.length = m) (hc : m ≤ c) (hcm : c ≤ maxLen) (hmm : m ≤ 1000000) :
    Calls Tryz.prog 46 #[.pointer (some ⟨B, 0, none⟩), .int .i64 2, .string (nameB n), .string ⟨#[]⟩, .int .i64 0, .slice a m c] w (RDoes w S B (.int .i64 (step d (opA n b)).1) (step d (opA n b)).2) :=
  rdo_calls (k := 2) (nameB n) noS 0 a b m c w (O := O) (by decide) ⟨h, hfew.sml (by omega) (by omega), by have := nameB_size n; omega, Nat.zero_le _, hr, hO, h0, hm, hc, hcm, hmm, htr⟩

theorem tr_step (d : Dsk) (o : Opn) : (step d o).2.tr = d.tr := (step_room d o).2.1
/-- What write makes, case by case. -/
theorem write_cases (d : Dsk) (n : Int) (z : Nat) (b : List Nat) :
    ((step d (opA n b)).1 ≠ 0 → writeB d n z b = ((step d (opA n b)).1, decide ((undoB (step d (opA n b)).2 n z).1 ≠ 0), (undoB (step d (opA n b)).2 n z).2)) ∧
    ((step d (opA n b)).1 = 0 → (step (step d (opA n b)).2 (opS n)).1 = 0 → writeB d n z b = (0, false, (step (step d (opA n b)).2 (opS n)).2)) ∧
    ((step d (opA n b)).1 = 0 → (step (step d (opA n b)).2 (opS n)).1 ≠ 0 → writeB d n z b = ((step (step d (opA n b)).2 (opS n)).1, decide ((undoB (step (step d (opA n b)).2 (opS n)).2 n z).1 ≠ 0), (undoB (step (step d (opA n b)).2 (opS n)).2 n z).2)) := by
  refine ⟨fun h => ?_, fun h1 h2 => ?_, fun h1 h2 => ?_⟩
  · unfold writeB laysB
    rw [if_neg h, if_neg h]
  · unfold writeB laysB
    rw [if_pos h1, if_pos h2]
  · unfold writeB laysB
    rw [if_pos h1, if_neg h2]

/-- What the reference's Create leaves. -/
def RCOut (w : World) (S : Nat → Prop) (B : Nat) (n c : Int) (d : Dsk) (g : Option Sg) (e : Ending) (w' : World) : Prop :=
  ∃ v, e = .returned (.tuple #[v, .int .i64 c]) ∧ RSSt w w' S B n d v g

set_option maxRecDepth 100000 in
set_option maxHeartbeats 4000000 in
theorem rcreate_calls {w : World} {S : Nat → Prop} {B : Nat} {n : Int} {d : Dsk} {M K : Nat} (h : RefD w S B d) (hm : mayN n = true) (hfew : Few d M K) (hM : M + 12 ≤ 1073741824) (hK : K ≤ 1073740000) (htr : d.tr.length ≤ 1048576) :
    Calls Tryz.prog 19 #[.pointer (some ⟨B, 0, none⟩), .int .i64 n] w (RCOut w S B n (createB d n).1 (createB d n).2 (if (createB d n).1 = 0 then some ⟨12, false⟩ else none)) := by
  have HNM := Lib.hid (fun W => rname_calls n W)
  have HHD := Lib.hid (fun W => rhead_calls n W)
  have HMY := Lib.hid (rmay7_calls n w)
  rw [hm] at HMY
  have HT0 : Hid (RTurns w S B d w) := Lib.hid (RTurns.start h)
  have HF0 := Lib.hid hfew
  have HTR0 := Lib.hid htr
  have hl := headB_len hm
  obtain ⟨hd, hhd⟩ : ∃ hd, headB n = hd := ⟨_, rfl⟩
  have hbyt : Byts hd := hhd ▸ headB_byts n
  have hcb : createB d n = if (step d (opC n)).1 ≠ 0 then step d (opC n) else ((writeB (step d (opC n)).2 n 0 hd).1, (writeB (step d (opC n)).2 n 0 hd).2.2) := by
    unfold createB
    rw [if_neg (by rw [hm]; decide), hhd]
  rw [hcb]
  rw [hhd] at hl HHD
  have HL := Lib.hid hl
  have HMK : Hid (M + 12 ≤ 1073741824 ∧ K ≤ 1073740000) := Lib.hid ⟨hM, hK⟩
  have hf1 : Few (step d (opC n)).2 M (K + 1) := hfew.step (opC n) byts_nil (Nat.le_refl _)
  have ht1 : (step d (opC n)).2.tr.length ≤ 1048576 := by rw [tr_step]; exact htr
  obtain ⟨⟨c1, d1⟩, hq1⟩ : ∃ q, step d (opC n) = q := ⟨_, rfl⟩
  rw [hq1] at hf1 ht1 ⊢
  have HQ1 := Lib.hid hq1
  have HF1 : Hid (Few d1 M (K + 1)) := Lib.hid hf1
  have HTR1 : Hid (d1.tr.length ≤ 1048576) := Lib.hid ht1
  dsimp only
  clear h hm hfew hM hK htr hhd hcb hq1 hf1 ht1
  by_cases e1 : c1 = 0
  case neg =>
    rw [if_pos e1]
    dsimp only
    rw [if_neg e1]
    have q1 : (c1 == 0) = false := by simpa using e1
    have q1' : (c1 != 0) = true := by simpa using e1
    go_enter Tryz.func19, Tryz.ntmps19
    go_wp2_with fail
    with_reducible refine HMY.out.mono ?_
    rintro e w0' ⟨rfl, rfl⟩
    obtain ⟨S1, hr1, hco1⟩ := HT0.out.own
    have HR1 := Lib.hid hr1
    have HCO1 := Lib.hid hco1
    clear hr1 hco1
    go_wp2_with fail
    with_reducible refine (HNM.out _).mono ?_
    rintro e wn1 ⟨rfl, hbn1⟩
    have HBN1 := Lib.hid hbn1
    clear hbn1
    have hdo1 : Calls Tryz.prog 46 #[.pointer (some ⟨B, 0, none⟩), .int .i64 1, .string (nameB n), .string ⟨#[]⟩, .int .i64 0, .slice none 0 0] wn1 (RDoes wn1 S1 B (.int .i64 (step d (opC n)).1) (step d (opC n)).2) := rop_calls 1 n 0 (by decide) (HR1.out.below HBN1.out) HF0.out (by have := HMK.out; omega) (by have := HMK.out; omega) HTR0.out
    rw [HQ1.out] at hdo1
    have HDO1 := Lib.hid hdo1
    clear hdo1
    go_wp2_with fail
    with_reducible refine HDO1.out.mono ?_
    rintro e w1 ⟨rfl, ht1⟩
    have HT1 : Hid (RTurns w S B d1 w1) := Lib.hid (HCO1.out _ _ (ht1.from_ HBN1.out))
    clear ht1 HDO1 HCO1
    go_wp2
    go_ret2
    exact ⟨_, rfl, RSSt.of_none HT1.out⟩

  subst e1
  rw [if_neg (show ¬ ((0 : Int) ≠ 0) from fun h => h rfl)]
  dsimp only
  have hw := write_cases d1 n 0 hd
  have hf2 : Few (step d1 (opA n hd)).2 (M + 12) (K + 2) := HF1.out.step (opA n hd) hbyt (by show M + hd.length ≤ _; rw [hl]; exact Nat.le_refl _)
  have ht2 : (step d1 (opA n hd)).2.tr.length ≤ 1048576 := by rw [tr_step]; exact HTR1.out
  obtain ⟨⟨c2, d2⟩, hq2⟩ : ∃ q, step d1 (opA n hd) = q := ⟨_, rfl⟩
  rw [hq2] at hw hf2 ht2
  dsimp only at hw hf2 ht2
  have HQ2 := Lib.hid hq2
  have HF2 := Lib.hid hf2
  have HTR2 := Lib.hid ht2
  have hf4 : Few (step d2 (opS n)).2 (M + 12) (K + 3) := hf2.step (opS n) byts_nil (Nat.le_refl _)
  have ht4 : (step d2 (opS n)).2.tr.length ≤ 1048576 := by rw [tr_step]; exact ht2
  obtain ⟨⟨c4, d4⟩, hq4⟩ : ∃ q, step d2 (opS n) = q := ⟨_, rfl⟩
  rw [hq4] at hw hf4 ht4
  dsimp only at hw hf4 ht4
  have HQ4 := Lib.hid hq4
  have HF4 := Lib.hid hf4
  have HTR4 := Lib.hid ht4
  rw [show ∀ d', undoB d' n 0 = step d' (opD n) from fun _ => if_pos rfl, show ∀ d', undoB d' n 0 = step d' (opD n) from fun _ => if_pos rfl] at hw
  clear hbyt hl hf2 ht2 hf4 ht4 hq2 hq4
  by_cases e2 : c2 = 0
  case neg =>
    have hw1 := hw.1 e2
    obtain ⟨⟨c6, d6⟩, hq6⟩ : ∃ q, step d2 (opD n) = q := ⟨_, rfl⟩
    have HQ6 := Lib.hid hq6
    rw [hq6] at hw1
    rw [hw1]
    dsimp only
    rw [if_neg e2]
    clear hw hw1 hq6
    have q2 : (c2 == 0) = false := by simpa using e2
    have q2' : (c2 != 0) = true := by simpa using e2
    go_enter Tryz.func19, Tryz.ntmps19
    go_wp2_with fail
    with_reducible refine HMY.out.mono ?_
    rintro e w0' ⟨rfl, rfl⟩
    obtain ⟨S1, hr1, hco1⟩ := HT0.out.own
    have HR1 := Lib.hid hr1
    have HCO1 := Lib.hid hco1
    clear hr1 hco1
    go_wp2_with fail
    with_reducible refine (HNM.out _).mono ?_
    rintro e wn1 ⟨rfl, hbn1⟩
    have HBN1 := Lib.hid hbn1
    clear hbn1
    have hdo1 : Calls Tryz.prog 46 #[.pointer (some ⟨B, 0, none⟩), .int .i64 1, .string (nameB n), .string ⟨#[]⟩, .int .i64 0, .slice none 0 0] wn1 (RDoes wn1 S1 B (.int .i64 (step d (opC n)).1) (step d (opC n)).2) := rop_calls 1 n 0 (by decide) (HR1.out.below HBN1.out) HF0.out (by have := HMK.out; omega) (by have := HMK.out; omega) HTR0.out
    rw [HQ1.out] at hdo1
    have HDO1 := Lib.hid hdo1
    clear hdo1
    go_wp2_with fail
    with_reducible refine HDO1.out.mono ?_
    rintro e w1 ⟨rfl, ht1⟩
    have HT1 : Hid (RTurns w S B d1 w1) := Lib.hid (HCO1.out _ _ (ht1.from_ HBN1.out))
    clear ht1 HDO1 HCO1
    obtain ⟨S2, hr2, hco2⟩ := HT1.out.own
    have HR2 := Lib.hid hr2
    have HCO2 := Lib.hid hco2
    clear hr2 hco2
    go_wp2_with fail
    with_reducible refine (HNM.out _).mono ?_
    rintro e wn2 ⟨rfl, hbn2⟩
    have HBN2 := Lib.hid hbn2
    clear hbn2
    go_wp2_with fail
    with_reducible refine (HHD.out _).mono ?_
    rintro e wh2 ⟨vh, rfl, hown2⟩
    obtain ⟨ah, ch, rfl, hrow2, hn2, hc2, hcm2⟩ := hown2.form
    rw [HL.out] at hc2 ⊢
    have hdo2 := ropa_calls n ah hd 12 ch (HR2.out.below (below_then HBN2.out hown2.bel)) HF1.out (by have := HMK.out; omega) (by have := HMK.out; omega) HTR1.out hrow2 (fun k e hs => by have h1 := hown2.new k e; have h2 := (HR2.out.below HBN2.out).2.1 k hs; omega) hn2 HL.out hc2 hcm2 (by decide)
    rw [HQ2.out] at hdo2
    have HDO2 := Lib.hid hdo2
    have HBN2' := Lib.hid (below_then HBN2.out hown2.bel)
    clear hdo2 hown2 hrow2 hn2 hc2 hcm2
    go_wp2_with fail
    with_reducible refine HDO2.out.mono ?_
    rintro e w2 ⟨rfl, ht2⟩
    have HT2 : Hid (RTurns w S B d2 w2) := Lib.hid (HCO2.out _ _ (ht2.from_ HBN2'.out))
    clear ht2 HDO2 HCO2
    obtain ⟨S6, hr6, hco6⟩ := HT2.out.own
    have HR6 := Lib.hid hr6
    have HCO6 := Lib.hid hco6
    clear hr6 hco6
    go_wp2_with fail
    with_reducible refine (HNM.out _).mono ?_
    rintro e wn6 ⟨rfl, hbn6⟩
    have HBN6 := Lib.hid hbn6
    clear hbn6
    have hdo6 : Calls Tryz.prog 46 #[.pointer (some ⟨B, 0, none⟩), .int .i64 6, .string (nameB n), .string ⟨#[]⟩, .int .i64 0, .slice none 0 0] wn6 (RDoes wn6 S6 B (.int .i64 (step d2 (opD n)).1) (step d2 (opD n)).2) := rop_calls 6 n 0 (by decide) (HR6.out.below HBN6.out) HF2.out (by have := HMK.out; omega) (by have := HMK.out; omega) HTR2.out
    rw [HQ6.out] at hdo6
    have HDO6 := Lib.hid hdo6
    clear hdo6
    go_wp2_with fail
    with_reducible refine HDO6.out.mono ?_
    rintro e w6 ⟨rfl, ht6⟩
    have HT6 : Hid (RTurns w S B d6 w6) := Lib.hid (HCO6.out _ _ (ht6.from_ HBN6.out))
    clear ht6 HDO6 HCO6
    go_wp2
    go_ret2
    exact ⟨_, rfl, RSSt.of_none HT6.out⟩

  subst e2
  by_cases e4 : c4 = 0
  case neg =>
    have hw1 := hw.2.2 rfl e4
    obtain ⟨⟨c6, d6⟩, hq6⟩ : ∃ q, step d4 (opD n) = q := ⟨_, rfl⟩
    have HQ6 := Lib.hid hq6
    rw [hq6] at hw1
    rw [hw1]
    dsimp only
    rw [if_neg e4]
    clear hw hw1 hq6
    have q4 : (c4 == 0) = false := by simpa using e4
    have q4' : (c4 != 0) = true := by simpa using e4
    go_enter Tryz.func19, Tryz.ntmps19
    go_wp2_with fail
    with_reducible refine HMY.out.mono ?_
    rintro e w0' ⟨rfl, rfl⟩
    obtain ⟨S1, hr1, hco1⟩ := HT0.out.own
    have HR1 := Lib.hid hr1
    have HCO1 := Lib.hid hco1
    clear hr1 hco1
    go_wp2_with fail
    with_reducible refine (HNM.out _).mono ?_
    rintro e wn1 ⟨rfl, hbn1⟩
    have HBN1 := Lib.hid hbn1
    clear hbn1
    have hdo1 : Calls Tryz.prog 46 #[.pointer (some ⟨B, 0, none⟩), .int .i64 1, .string (nameB n), .string ⟨#[]⟩, .int .i64 0, .slice none 0 0] wn1 (RDoes wn1 S1 B (.int .i64 (step d (opC n)).1) (step d (opC n)).2) := rop_calls 1 n 0 (by decide) (HR1.out.below HBN1.out) HF0.out (by have := HMK.out; omega) (by have := HMK.out; omega) HTR0.out
    rw [HQ1.out] at hdo1
    have HDO1 := Lib.hid hdo1
    clear hdo1
    go_wp2_with fail
    with_reducible refine HDO1.out.mono ?_
    rintro e w1 ⟨rfl, ht1⟩
    have HT1 : Hid (RTurns w S B d1 w1) := Lib.hid (HCO1.out _ _ (ht1.from_ HBN1.out))
    clear ht1 HDO1 HCO1
    obtain ⟨S2, hr2, hco2⟩ := HT1.out.own
    have HR2 := Lib.hid hr2
    have HCO2 := Lib.hid hco2
    clear hr2 hco2
    go_wp2_with fail
    with_reducible refine (HNM.out _).mono ?_
    rintro e wn2 ⟨rfl, hbn2⟩
    have HBN2 := Lib.hid hbn2
    clear hbn2
    go_wp2_with fail
    with_reducible refine (HHD.out _).mono ?_
    rintro e wh2 ⟨vh, rfl, hown2⟩
    obtain ⟨ah, ch, rfl, hrow2, hn2, hc2, hcm2⟩ := hown2.form
    rw [HL.out] at hc2 ⊢
    have hdo2 := ropa_calls n ah hd 12 ch (HR2.out.below (below_then HBN2.out hown2.bel)) HF1.out (by have := HMK.out; omega) (by have := HMK.out; omega) HTR1.out hrow2 (fun k e hs => by have h1 := hown2.new k e; have h2 := (HR2.out.below HBN2.out).2.1 k hs; omega) hn2 HL.out hc2 hcm2 (by decide)
    rw [HQ2.out] at hdo2
    have HDO2 := Lib.hid hdo2
    have HBN2' := Lib.hid (below_then HBN2.out hown2.bel)
    clear hdo2 hown2 hrow2 hn2 hc2 hcm2
    go_wp2_with fail
    with_reducible refine HDO2.out.mono ?_
    rintro e w2 ⟨rfl, ht2⟩
    have HT2 : Hid (RTurns w S B d2 w2) := Lib.hid (HCO2.out _ _ (ht2.from_ HBN2'.out))
    clear ht2 HDO2 HCO2
    obtain ⟨S4, hr4, hco4⟩ := HT2.out.own
    have HR4 := Lib.hid hr4
    have HCO4 := Lib.hid hco4
    clear hr4 hco4
    go_wp2_with fail
    with_reducible refine (HNM.out _).mono ?_
    rintro e wn4 ⟨rfl, hbn4⟩
    have HBN4 := Lib.hid hbn4
    clear hbn4
    have hdo4 : Calls Tryz.prog 46 #[.pointer (some ⟨B, 0, none⟩), .int .i64 4, .string (nameB n), .string ⟨#[]⟩, .int .i64 0, .slice none 0 0] wn4 (RDoes wn4 S4 B (.int .i64 (step d2 (opS n)).1) (step d2 (opS n)).2) := rop_calls 4 n 0 (by decide) (HR4.out.below HBN4.out) HF2.out (by have := HMK.out; omega) (by have := HMK.out; omega) HTR2.out
    rw [HQ4.out] at hdo4
    have HDO4 := Lib.hid hdo4
    clear hdo4
    go_wp2_with fail
    with_reducible refine HDO4.out.mono ?_
    rintro e w4 ⟨rfl, ht4⟩
    have HT4 : Hid (RTurns w S B d4 w4) := Lib.hid (HCO4.out _ _ (ht4.from_ HBN4.out))
    clear ht4 HDO4 HCO4
    obtain ⟨S6, hr6, hco6⟩ := HT4.out.own
    have HR6 := Lib.hid hr6
    have HCO6 := Lib.hid hco6
    clear hr6 hco6
    go_wp2_with fail
    with_reducible refine (HNM.out _).mono ?_
    rintro e wn6 ⟨rfl, hbn6⟩
    have HBN6 := Lib.hid hbn6
    clear hbn6
    have hdo6 : Calls Tryz.prog 46 #[.pointer (some ⟨B, 0, none⟩), .int .i64 6, .string (nameB n), .string ⟨#[]⟩, .int .i64 0, .slice none 0 0] wn6 (RDoes wn6 S6 B (.int .i64 (step d4 (opD n)).1) (step d4 (opD n)).2) := rop_calls 6 n 0 (by decide) (HR6.out.below HBN6.out) HF4.out (by have := HMK.out; omega) (by have := HMK.out; omega) HTR4.out
    rw [HQ6.out] at hdo6
    have HDO6 := Lib.hid hdo6
    clear hdo6
    go_wp2_with fail
    with_reducible refine HDO6.out.mono ?_
    rintro e w6 ⟨rfl, ht6⟩
    have HT6 : Hid (RTurns w S B d6 w6) := Lib.hid (HCO6.out _ _ (ht6.from_ HBN6.out))
    clear ht6 HDO6 HCO6
    go_wp2
    go_ret2
    exact ⟨_, rfl, RSSt.of_none HT6.out⟩

  subst e4
  rw [hw.2.1 rfl rfl]
  dsimp only
  rw [if_pos rfl]
  clear hw
  go_enter Tryz.func19, Tryz.ntmps19
  go_wp2_with fail
  with_reducible refine HMY.out.mono ?_
  rintro e w0' ⟨rfl, rfl⟩
  obtain ⟨S1, hr1, hco1⟩ := HT0.out.own
  have HR1 := Lib.hid hr1
  have HCO1 := Lib.hid hco1
  clear hr1 hco1
  go_wp2_with fail
  with_reducible refine (HNM.out _).mono ?_
  rintro e wn1 ⟨rfl, hbn1⟩
  have HBN1 := Lib.hid hbn1
  clear hbn1
  have hdo1 : Calls Tryz.prog 46 #[.pointer (some ⟨B, 0, none⟩), .int .i64 1, .string (nameB n), .string ⟨#[]⟩, .int .i64 0, .slice none 0 0] wn1 (RDoes wn1 S1 B (.int .i64 (step d (opC n)).1) (step d (opC n)).2) := rop_calls 1 n 0 (by decide) (HR1.out.below HBN1.out) HF0.out (by have := HMK.out; omega) (by have := HMK.out; omega) HTR0.out
  rw [HQ1.out] at hdo1
  have HDO1 := Lib.hid hdo1
  clear hdo1
  go_wp2_with fail
  with_reducible refine HDO1.out.mono ?_
  rintro e w1 ⟨rfl, ht1⟩
  have HT1 : Hid (RTurns w S B d1 w1) := Lib.hid (HCO1.out _ _ (ht1.from_ HBN1.out))
  clear ht1 HDO1 HCO1
  obtain ⟨S2, hr2, hco2⟩ := HT1.out.own
  have HR2 := Lib.hid hr2
  have HCO2 := Lib.hid hco2
  clear hr2 hco2
  go_wp2_with fail
  with_reducible refine (HNM.out _).mono ?_
  rintro e wn2 ⟨rfl, hbn2⟩
  have HBN2 := Lib.hid hbn2
  clear hbn2
  go_wp2_with fail
  with_reducible refine (HHD.out _).mono ?_
  rintro e wh2 ⟨vh, rfl, hown2⟩
  obtain ⟨ah, ch, rfl, hrow2, hn2, hc2, hcm2⟩ := hown2.form
  rw [HL.out] at hc2 ⊢
  have hdo2 := ropa_calls n ah hd 12 ch (HR2.out.below (below_then HBN2.out hown2.bel)) HF1.out (by have := HMK.out; omega) (by have := HMK.out; omega) HTR1.out hrow2 (fun k e hs => by have h1 := hown2.new k e; have h2 := (HR2.out.below HBN2.out).2.1 k hs; omega) hn2 HL.out hc2 hcm2 (by decide)
  rw [HQ2.out] at hdo2
  have HDO2 := Lib.hid hdo2
  have HBN2' := Lib.hid (below_then HBN2.out hown2.bel)
  clear hdo2 hown2 hrow2 hn2 hc2 hcm2
  go_wp2_with fail
  with_reducible refine HDO2.out.mono ?_
  rintro e w2 ⟨rfl, ht2⟩
  have HT2 : Hid (RTurns w S B d2 w2) := Lib.hid (HCO2.out _ _ (ht2.from_ HBN2'.out))
  clear ht2 HDO2 HCO2
  obtain ⟨S4, hr4, hco4⟩ := HT2.out.own
  have HR4 := Lib.hid hr4
  have HCO4 := Lib.hid hco4
  clear hr4 hco4
  go_wp2_with fail
  with_reducible refine (HNM.out _).mono ?_
  rintro e wn4 ⟨rfl, hbn4⟩
  have HBN4 := Lib.hid hbn4
  clear hbn4
  have hdo4 : Calls Tryz.prog 46 #[.pointer (some ⟨B, 0, none⟩), .int .i64 4, .string (nameB n), .string ⟨#[]⟩, .int .i64 0, .slice none 0 0] wn4 (RDoes wn4 S4 B (.int .i64 (step d2 (opS n)).1) (step d2 (opS n)).2) := rop_calls 4 n 0 (by decide) (HR4.out.below HBN4.out) HF2.out (by have := HMK.out; omega) (by have := HMK.out; omega) HTR2.out
  rw [HQ4.out] at hdo4
  have HDO4 := Lib.hid hdo4
  clear hdo4
  go_wp2_with fail
  with_reducible refine HDO4.out.mono ?_
  rintro e w4 ⟨rfl, ht4⟩
  have HT4 : Hid (RTurns w S B d4 w4) := Lib.hid (HCO4.out _ _ (ht4.from_ HBN4.out))
  clear ht4 HDO4 HCO4
  go_wp2
  go_ret2
  exact ⟨_, rfl, RSSt.of_some HT4.out⟩

end Go.Proofs.YtjhiekijbcjohaaGreatDoor
