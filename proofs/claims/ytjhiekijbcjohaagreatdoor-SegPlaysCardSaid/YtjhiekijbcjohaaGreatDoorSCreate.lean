/-
  The program's Create and Open of a segment. Conditions: the disk lies in blocks of the law's own; it is small; the library's table of powers of ten is laid.
-/
import Derived.Test.YtjhiekijbcjohaaGreatDoorSBegin
import Derived.Test.YtjhiekijbcjohaaGreatDoorSScan
namespace Go.Proofs.YtjhiekijbcjohaaGreatDoor
open Go.RowKit Go.Lib Go.Joins

/-- The disk, and an open segment or none, reached from w; nothing but the disk's blocks has turned of what was there. -/
def SSt (w0 w w' : World) (S : Nat → Prop) (B : Nat) (n : Int) (d : Dsk) (v : Value) (g : Option Sg) : Prop :=
  ∃ S', Live w0 w' S' B d ∧ Fresh S w.heap.size S' ∧ Keeps S w w' ∧ match g with
    | none => v = .pointer none
    | some g => ∃ b, v = .pointer (some ⟨b, 0, none⟩) ∧ w.heap.size ≤ b ∧ ¬ S' b ∧ SegAt w' b B n g
theorem SSt.size {w0 w w' : World} {S : Nat → Prop} {B : Nat} {n : Int} {d : Dsk} {v : Value} {g : Option Sg} (h : SSt w0 w w' S B n d v g) : w.heap.size ≤ w'.heap.size := by
  obtain ⟨_, _, _, h, _⟩ := h
  exact h.size
theorem SSt.quiet {w0 w w1 w2 : World} {S : Nat → Prop} {B : Nat} {n : Int} {d : Dsk} {v : Value} {g : Option Sg} (h : SSt w0 w w1 S B n d v g) (hb : Below w1.heap.size w1 w2) : SSt w0 w w2 S B n d v g := by
  obtain ⟨S', h1, h2, h3, h4⟩ := h
  refine ⟨S', h1.quiet hb, h2, h3.trans (keeps_below hb Non) (fresh_non _ _), ?_⟩
  cases g with
  | none => exact h4
  | some g => obtain ⟨b, k1, k2, k3, k4⟩ := h4; exact ⟨b, k1, k2, k3, k4.below hb⟩
theorem SSt.plain {w0 w w1 w2 : World} {S : Nat → Prop} {b B : Nat} {n : Int} {d : Dsk} {g : Sg} {v : Value} {h : Option Sg} {S1 : Nat → Prop} (hf : Fresh S w.heap.size S1) (hk : Keeps S w w1) (hb : w.heap.size ≤ b) (hw : WSt w0 w1 w2 S1 b B n d g) (hg : (h = none ∧ v = .pointer none) ∨ (h = some g ∧ v = .pointer (some ⟨b, 0, none⟩))) : SSt w0 w w2 S B n d v h := by
  obtain ⟨S', h1, h2, h3, h4, h5⟩ := hw
  refine ⟨S', h1, fresh_trans hf h2 hk.size, hk.trans h5 (fun i hi => ?_), ?_⟩
  · rcases hi with hi | rfl
    · exact hf i hi
    · exact .inr hb
  · rcases hg with ⟨rfl, rfl⟩ | ⟨rfl, rfl⟩
    · rfl
    · exact ⟨b, rfl, hb, h3, h4⟩
def COut (w0 w : World) (S : Nat → Prop) (B : Nat) (n c : Int) (d : Dsk) (g : Option Sg) (e : Ending) (w' : World) : Prop :=
  ∃ v ev, e = .returned (.tuple #[v, ev]) ∧ ErrAt w.heap.size w' c n ev ∧ SSt w0 w w' S B n d v g

set_option maxRecDepth 100000 in
set_option maxHeartbeats 4000000 in
theorem screate_calls {w0 w : World} {S : Nat → Prop} {B : Nat} {n : Int} {d : Dsk} {M K : Nat} (h : Live w0 w S B d) (ht : Tab w0) (hm : mayN n = true) (hfew : Few d M K) (hM : M + 12 ≤ 1073741824) (hK : K ≤ 1073740000) :
    Calls Tryz.prog 18 #[.pointer (some ⟨B, 0, none⟩), .int .i64 n] w (COut w0 w S B n (createB d n).1 (createB d n).2 (if (createB d n).1 = 0 then some ⟨12, false⟩ else none)) := by
  have HTAB := Lib.hid ht
  have HM := Lib.hid (fun W => smay_calls n W)
  rw [hm] at HM
  have HNM := Lib.hid (name_calls n w (ht.below h.bel))
  have HCR := Lib.hid (fun W (hbw : Below w.heap.size w W) => Calls.after (create_calls (nameB n) W (h.disk.below hbw) (hfew.sml (by omega) (by omega)) (by have := nameB_size n; omega) noS 0) (keeps_below hbw S))
  have HTW := Lib.hid (fun W d' (hT : Turns w S B d' W) => h.turns hT)
  have HF1 : Hid (Few (step d (opC n)).2 M (K + 1)) := Lib.hid (hfew.step (opC n) byts_nil (Nat.le_refl _))
  have HHD := Lib.hid (fun W => head_calls n W)
  have HLN : Hid ((headB n).length = 12) := Lib.hid (headB_len hm)
  have hcb : createB d n = if (step d (opC n)).1 ≠ 0 then step d (opC n) else ((writeB (step d (opC n)).2 n 0 (headB n)).1, (writeB (step d (opC n)).2 n 0 (headB n)).2.2) := if_neg (by rw [hm]; decide)
  rw [hcb]
  obtain ⟨q1, hq1⟩ : ∃ q, step d (opC n) = q := ⟨_, rfl⟩
  have hq1' : step d ⟨1, nameB n, noS, 0, []⟩ = q1 := hq1
  rw [hq1'] at HCR
  rw [hq1] at HF1 ⊢
  clear hq1 hq1' hcb h ht hfew hm
  obtain ⟨e1, d1⟩ := q1
  dsimp only at HCR HF1 ⊢
  by_cases he1 : e1 = 0
  · subst he1
    simp only [ne_eq, not_true_eq_false, if_false]
    have HSK := Lib.hid (writeB_ok (d := d1) (n := n) (z := 0) (b := headB n))
    have HWQ := Lib.hid (fun (w5 : World) (S3 S0 : Nat → Prop) (b : Nat) (a5 : Option Addr) (c5 : Nat) h ht hg hb hw hr hS hn hl hm => swrite_calls (w0 := w0) (w := w5) (S := S3) (S0 := S0) (b := b) (B := B) (n := n) (d := d1) (z := 0) (M := M) (K := K + 1) a5 (headB n) c5 12 h ht hg hb hw HF1.out hM (by omega) hr hS hn HLN.out hl hm (by omega))
    obtain ⟨q, hq⟩ : ∃ q, writeB d1 n 0 (headB n) = q := ⟨_, rfl⟩
    rw [hq] at HWQ HSK ⊢
    obtain ⟨e2, s2, d2⟩ := q
    dsimp only at HWQ HSK ⊢
    rw [HLN.out] at HWQ
    clear hq HF1
    by_cases he2 : e2 = 0
    · subst he2
      obtain rfl : s2 = false := HSK.out rfl
      simp only [if_true] at HWQ ⊢
      go_enter Tryz.func18, Tryz.ntmps18
      go_wp2_with fail
      with_reducible refine (HM.out w).mono ?_
      rintro e wm ⟨rfl, rfl⟩
      go_wp2_with fail
      with_reducible refine HNM.out.mono ?_
      rintro e w2 ⟨rfl, hb2⟩
      go_wp2_with fail
      with_reducible refine (HCR.out _ hb2).mono ?_
      rintro e w3 ⟨rfl, ht3⟩
      obtain ⟨S3, h3, hf3, hk3⟩ := HTW.out _ _ ht3
      obtain ⟨W4, hW4⟩ : ∃ W4, w3.alloc (.cells #[.pointer (some ⟨B, 0, none⟩), .int .i64 n, .int .i64 0, .bool false] 85) = W4 := ⟨_, rfl⟩
      have hb4 : Below w3.heap.size w3 W4 := by rw [← hW4]; exact (Below.refl _ _).alloc (Nat.le_refl _) _
      have hg4 : SegAt W4 w3.heap.size B n ⟨0, false⟩ := by rw [← hW4]; exact heap_alloc_new w3 _
      have hs4 : W4.heap.size = w3.heap.size + 1 := by rw [← hW4]; simp
      have HL4 := Lib.hid (h3.quiet hb4)
      have HG4 := Lib.hid hg4
      have HNB : Hid (∀ k, S3 k → k < w3.heap.size) := Lib.hid h3.disk.2.1
      have HF3 := Lib.hid hf3
      have HK3 := Lib.hid (hk3.trans (keeps_below hb4 Non) (fresh_non _ _))
      have HSZ : Hid (w.heap.size ≤ w3.heap.size ∧ w0.heap.size ≤ w3.heap.size) := Lib.hid ⟨hk3.size, h3.bel.size⟩
      have HS4 := Lib.hid hs4
      have HW4 := Lib.hid hW4
      clear hb2 ht3 h3 hf3 hk3 hb4 hg4 hs4 hW4 HTW HCR HNM
      go_wp2_with fail
      rw [HW4.out]
      with_reducible refine (HHD.out W4).mono ?_
      rintro e w5 ⟨v5, rfl, hown5⟩
      obtain ⟨a5, c5, rfl, hr5, hn5, hl5, hm5⟩ := hown5.form
      rw [HLN.out] at hl5 ⊢
      have HWR := Lib.hid (HWQ.out _ _ _ _ a5 c5 (HL4.out.quiet hown5.bel) HTAB.out (HG4.out.below hown5.bel) (fun e => by have := HNB.out _ e; omega) HSZ.out.2 hr5 (fun k e => ⟨hown5.lt k e, fun e2 => by
        have h1 := HNB.out k e2
        have h2 := hown5.new k e
        have h3 := HS4.out
        omega⟩) hn5 hl5 hm5)
      have HB5 := Lib.hid hown5.bel
      have HFL := Lib.hid (fun W c => fail_calls c n W)
      have HST := Lib.hid (fun W d' g' v h (hw : WSt w0 w5 W S3 w3.heap.size B n d' g') hg => SSt.plain (S := S) (w := w) (v := v) (h := h) (fun k e => by rcases HF3.out k e with h | h; exact .inl h; exact .inr h) (HK3.out.trans (keeps_below HB5.out Non) (fresh_non _ _)) HSZ.out.1 hw hg)
      clear hown5 hr5 hn5 hl5 hm5 HL4 HG4 HNB HHD HF3 HK3 HB5 HS4 HWQ
      go_wp2_with fail
      with_reducible refine HWR.out.mono ?_
      rintro e w6 ⟨rfl, hw6⟩
      have HW6 := Lib.hid hw6
      clear hw6 HWR
      go_wp2
      go_ret2
      refine ⟨_, _, rfl, .inl ⟨rfl, rfl⟩, HST.out _ _ _ _ _ HW6.out (.inr ⟨rfl, rfl⟩)⟩
    · simp only [if_neg he2] at HWQ ⊢
      have hnq : (e2 != 0) = true := by simpa using he2
      clear he2
      go_enter Tryz.func18, Tryz.ntmps18
      go_wp2_with fail
      with_reducible refine (HM.out w).mono ?_
      rintro e wm ⟨rfl, rfl⟩
      go_wp2_with fail
      with_reducible refine HNM.out.mono ?_
      rintro e w2 ⟨rfl, hb2⟩
      go_wp2_with fail
      with_reducible refine (HCR.out _ hb2).mono ?_
      rintro e w3 ⟨rfl, ht3⟩
      obtain ⟨S3, h3, hf3, hk3⟩ := HTW.out _ _ ht3
      obtain ⟨W4, hW4⟩ : ∃ W4, w3.alloc (.cells #[.pointer (some ⟨B, 0, none⟩), .int .i64 n, .int .i64 0, .bool false] 85) = W4 := ⟨_, rfl⟩
      have hb4 : Below w3.heap.size w3 W4 := by rw [← hW4]; exact (Below.refl _ _).alloc (Nat.le_refl _) _
      have hg4 : SegAt W4 w3.heap.size B n ⟨0, false⟩ := by rw [← hW4]; exact heap_alloc_new w3 _
      have hs4 : W4.heap.size = w3.heap.size + 1 := by rw [← hW4]; simp
      have HL4 := Lib.hid (h3.quiet hb4)
      have HG4 := Lib.hid hg4
      have HNB : Hid (∀ k, S3 k → k < w3.heap.size) := Lib.hid h3.disk.2.1
      have HF3 := Lib.hid hf3
      have HK3 := Lib.hid (hk3.trans (keeps_below hb4 Non) (fresh_non _ _))
      have HSZ : Hid (w.heap.size ≤ w3.heap.size ∧ w0.heap.size ≤ w3.heap.size) := Lib.hid ⟨hk3.size, h3.bel.size⟩
      have HS4 := Lib.hid hs4
      have HW4 := Lib.hid hW4
      clear hb2 ht3 h3 hf3 hk3 hb4 hg4 hs4 hW4 HTW HCR HNM
      go_wp2_with fail
      rw [HW4.out]
      with_reducible refine (HHD.out W4).mono ?_
      rintro e w5 ⟨v5, rfl, hown5⟩
      obtain ⟨a5, c5, rfl, hr5, hn5, hl5, hm5⟩ := hown5.form
      rw [HLN.out] at hl5 ⊢
      have HWR := Lib.hid (HWQ.out _ _ _ _ a5 c5 (HL4.out.quiet hown5.bel) HTAB.out (HG4.out.below hown5.bel) (fun e => by have := HNB.out _ e; omega) HSZ.out.2 hr5 (fun k e => ⟨hown5.lt k e, fun e2 => by
        have h1 := HNB.out k e2
        have h2 := hown5.new k e
        have h3 := HS4.out
        omega⟩) hn5 hl5 hm5)
      have HB5 := Lib.hid hown5.bel
      have HFL := Lib.hid (fun W c => fail_calls c n W)
      have HST := Lib.hid (fun W d' g' v h (hw : WSt w0 w5 W S3 w3.heap.size B n d' g') hg => SSt.plain (S := S) (w := w) (v := v) (h := h) (fun k e => by rcases HF3.out k e with h | h; exact .inl h; exact .inr h) (HK3.out.trans (keeps_below HB5.out Non) (fresh_non _ _)) HSZ.out.1 hw hg)
      clear hown5 hr5 hn5 hl5 hm5 HL4 HG4 HNB HHD HF3 HK3 HB5 HS4 HWQ
      go_wp2_with fail
      with_reducible refine HWR.out.mono ?_
      rintro e w6 ⟨rfl, hw6⟩
      have HW6 := Lib.hid hw6
      clear hw6 HWR
      go_wp2_with fail
      with_reducible refine (HFL.out w6 e2).mono ?_
      rintro e w7 ⟨ev, rfl, herr, hb7⟩
      have HE := Lib.hid herr
      have HB7 := Lib.hid hb7
      clear herr hb7
      go_wp2
      go_ret2
      exact ⟨_, _, rfl, HE.out.low (HST.out _ _ _ _ _ HW6.out (.inl ⟨rfl, rfl⟩)).size, (HST.out _ _ _ _ _ HW6.out (.inl ⟨rfl, rfl⟩)).quiet HB7.out⟩
  · simp only [ne_eq, he1, not_false_eq_true, if_true, if_false]
    have hnq : (e1 != 0) = true := by simpa using he1
    clear HF1 HHD HLN he1
    go_enter Tryz.func18, Tryz.ntmps18
    go_wp2_with fail
    with_reducible refine (HM.out w).mono ?_
    rintro e wm ⟨rfl, rfl⟩
    go_wp2_with fail
    with_reducible refine HNM.out.mono ?_
    rintro e w2 ⟨rfl, hb2⟩
    go_wp2_with fail
    with_reducible refine (HCR.out _ hb2).mono ?_
    rintro e w3 ⟨rfl, ht3⟩
    obtain ⟨S3, h3, hf3, hk3⟩ := HTW.out _ _ ht3
    have HST : Hid (SSt w0 w w3 S B n d1 (.pointer none) none) := Lib.hid ⟨S3, h3, hf3, hk3, rfl⟩
    have HFL := Lib.hid (fail_calls e1 n w3)
    clear hb2 ht3 h3 hf3 hk3 HCR HNM HTW
    go_wp2_with fail
    with_reducible refine HFL.out.mono ?_
    rintro e w7 ⟨ev, rfl, herr, hb7⟩
    have HE := Lib.hid herr
    have HB7 := Lib.hid hb7
    clear herr hb7
    go_wp2
    go_ret2
    exact ⟨_, _, rfl, HE.out.low HST.out.size, HST.out.quiet HB7.out⟩

end Go.Proofs.YtjhiekijbcjohaaGreatDoor
