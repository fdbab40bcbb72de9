/-
  ivset.Parse: a text as a set, or none. Conditions: the text is no longer than 100000; the library's table of powers of ten and its two errors are laid.
-/
import Derived.Test.YtiolchdfjlffoaaDoorIY
namespace Go.Proofs.YtiolchdfjlffoaaDoor
open Go.RowKit Go.Lib Go.Joins Go.Shelf
attribute [local go_sem] Oper.semAt_some

theorem unfrozen_of_block {w : World} {b : Nat} {cs : Array Value} {t : TypeId} (h : w.heap[b]? = some (.cells cs t (0, 0))) (i : Nat) : w.frozen? ⟨b, i, none⟩ = false := frozen_of_row w b i cs t h
theorem block_setCell {w : World} {b i : Nat} {cs : Array Value} {t : TypeId} (h : w.heap[b]? = some (.cells cs t (0, 0))) (v : Value) : (w.setCell ⟨b, i, none⟩ v).heap[b]? = some (.cells (cs.setIfInBounds i v) t (0, 0)) := heap_setCell_same w b i cs t v h
theorem progL_len : ∀ {ps : List (List UInt8)} {s : List Sp}, progL ps = some s → s.length = ps.length
  | [], s, h => by
    rw [progL] at h
    injection h with h
    rw [← h]
    rfl
  | p :: ps, s, h => by
    rw [progL] at h
    cases hp : progSp p with
    | none => rw [hp] at h; cases h
    | some x =>
      rw [hp] at h
      obtain ⟨s', h1, rfl⟩ := Option.map_eq_some_iff.1 h
      rw [List.length_cons, List.length_cons, progL_len h1]

/-- Between two pieces. -/
structure PJv (w : World) (b : Nat) (rec : Obj) (pre : List (List UInt8)) (v : Value) (s : List Sp) (W : World) : Prop where
  rb : W.heap[b]? = some (.cells #[.slice none 0 0] 22 (0, 0))
  ob : W.heap[b + 1]? = some (.cells #[.bool false] 4 (0, 0))
  sb : W.heap[b + 2]? = some (.cells #[v] 22 (0, 0))
  tb : ∃ u, W.heap[b + 3]? = some (.cells #[u] 9 (0, 0))
  pb : W.heap[b + 4]? = some (.cells #[.string ⟨#[44]⟩] 9 (0, 0))
  vb : W.heap[b + 5]? = some (.cells #[.int .i64 0] 3 (0, 0))
  db : W.heap[b + 6]? = some (.deferred (some []))
  lp : W.heap[b + 7]? = some rec
  own : OwnP (b + 8) W v s
  go : progL pre = some s
  below : Below b w W
def PJ (w : World) (b : Nat) (rec : Obj) (pre : List (List UInt8)) (W : World) : Prop := ∃ v s, PJv w b rec pre v s W
/-- Left in the middle. -/
structure PX (w : World) (b : Nat) (d : List UInt8) (rec : Obj) (W : World) : Prop where
  rb : W.heap[b]? = some (.cells #[.slice none 0 0] 22 (0, 0))
  ob : W.heap[b + 1]? = some (.cells #[.bool false] 4 (0, 0))
  db : W.heap[b + 6]? = some (.deferred (some []))
  lp : W.heap[b + 7]? = some rec
  bad : progL (pieces 44 d) = none
  below : Below b w W
theorem below_keep {n : Nat} {w W W' : World} {O : Nat → Prop} (h : Below n w W) (hn : n ≤ w.heap.size) (hk : Keeps O W W') (hO : ∀ k, k < n → ¬ O k) : Below n w W' :=
  h.trans ⟨hk.os, hk.tape, hk.output, hk.size, fun k hk2 => hk.block k (by have := h.size; omega) (hO k hk2)⟩
theorem PJv.keep {w W W' : World} {b : Nat} {rec : Obj} {pre : List (List UInt8)} {v : Value} {s : List Sp} {O : Nat → Prop} (h : PJv w b rec pre v s W) (hbw : b ≤ w.heap.size) (hk : Keeps O W W') (hO : ∀ k, ¬ O k) : PJv w b rec pre v s W' := by
  obtain ⟨u, hu⟩ := h.tb
  exact ⟨block_keep h.rb hk (hO _), block_keep h.ob hk (hO _), block_keep h.sb hk (hO _), ⟨u, block_keep hu hk (hO _)⟩, block_keep h.pb hk (hO _), block_keep h.vb hk (hO _), block_keep h.db hk (hO _), block_keep h.lp hk (hO _), h.own.keep hk (fun k _ => hO k), h.go, below_keep h.below hbw hk (fun k _ => hO k)⟩
/-- The text's box is turned. -/
theorem PJv.cell {w W : World} {b : Nat} {rec : Obj} {pre : List (List UInt8)} {v : Value} {s : List Sp} (h : PJv w b rec pre v s W) (hbw : b ≤ w.heap.size) (x : Value) : PJv w b rec pre v s (W.setCell ⟨b + 3, 0, none⟩ x) := by
  obtain ⟨u, hu⟩ := h.tb
  have hk := (Keeps.refl (One (b + 3)) W).setCell (p := ⟨b + 3, 0, none⟩) (.inl rfl) x
  have o : ∀ k, k ≠ b + 3 → ¬ One (b + 3) k := fun k h1 h2 => h1 h2
  exact ⟨block_keep h.rb hk (o _ (by omega)), block_keep h.ob hk (o _ (by omega)), block_keep h.sb hk (o _ (by omega)), ⟨x, block_setCell (i := 0) hu x⟩, block_keep h.pb hk (o _ (by omega)), block_keep h.vb hk (o _ (by omega)), block_keep h.db hk (o _ (by omega)), block_keep h.lp hk (o _ (by omega)), h.own.keep hk (fun k h1 => o k (by omega)), h.go, below_keep h.below hbw hk (fun k h1 => o k (by omega))⟩
/-- The loop's record is turned. -/
theorem PJv.put {w W : World} {b : Nat} {rec : Obj} {pre : List (List UInt8)} {v : Value} {s : List Sp} (h : PJv w b rec pre v s W) (hbw : b ≤ w.heap.size) (rec' : Obj) : PJv w b rec' pre v s (W.putObj (b + 7) rec') := by
  obtain ⟨u, hu⟩ := h.tb
  have hk := keeps_put (Keeps.refl (One (b + 7)) W) (l := b + 7) (.inl rfl) rec'
  have o : ∀ k, k ≠ b + 7 → ¬ One (b + 7) k := fun k h1 h2 => h1 h2
  exact ⟨block_keep h.rb hk (o _ (by omega)), block_keep h.ob hk (o _ (by omega)), block_keep h.sb hk (o _ (by omega)), ⟨u, block_keep hu hk (o _ (by omega))⟩, block_keep h.pb hk (o _ (by omega)), block_keep h.vb hk (o _ (by omega)), block_keep h.db hk (o _ (by omega)), put_same h.lp _, h.own.keep hk (fun k h1 => o k (by omega)), h.go, below_keep h.below hbw hk (fun k h1 => o k (by omega))⟩

/-- What Parse leaves. -/
def ParseOut (d : List UInt8) (w : World) (e : Ending) (w' : World) : Prop := ∃ v ok, e = .returned (.tuple #[v, .bool ok]) ∧ Below w.heap.size w w' ∧
  ((∃ s, progP d = some s ∧ ok = true ∧ SpIn w' v s) ∨ (progP d = none ∧ ok = false ∧ v = .slice none 0 0))

set_option maxRecDepth 100000 in
set_option maxHeartbeats 8000000 in
theorem parse_calls (d : List UInt8) (w : World) (hd : d.length ≤ 100000) (hE : IEnv w) : Calls Tryd.prog 29 #[.string (strB d)] w (ParseOut d w) := by
  refine (callsIn_wide (n := 20)).1 ?_
  obtain ⟨W2, hW2⟩ : ∃ W2, (w.alloc (.cells #[.slice none 0 0] 22)).alloc (.cells #[.bool false] 4) = W2 := ⟨_, rfl⟩
  have HW2 := Lib.hid hW2
  have HD := Lib.hid hd
  have HE := Lib.hid hE
  obtain ⟨sd, hsd⟩ : ∃ s, strB d = s := ⟨_, rfl⟩
  rw [hsd]
  have HSD := Lib.hid hsd
  have hs2 : W2.heap.size = w.heap.size + 2 := by rw [← hW2]; simp
  have n0 : W2.heap[w.heap.size]? = some (.cells #[.slice none 0 0] 22 (0, 0)) := by
    rw [← hW2, Below.heap_alloc _ _ _ (by simp)]
    exact heap_alloc_new _ _
  have n1 : W2.heap[w.heap.size + 1]? = some (.cells #[.bool false] 4 (0, 0)) := by
    rw [← hW2]
    have := heap_alloc_new (w.alloc (.cells #[.slice none 0 0] 22)) (.cells #[.bool false] 4)
    simpa using this
  have hbl2 : Below w.heap.size w W2 := by rw [← hW2]; exact ((Below.refl _ _).alloc (by omega) _).alloc (by simp) _
  by_cases hde : d = []
  · subst hde
    have hsz : sd = ⟨#[]⟩ := hsd.symm
    subst hsz
    have c0 : W2.cell? ⟨w.heap.size, 0, none⟩ = some (.slice none 0 0) := (cell_of_block n0 0).trans rfl
    have c1 : W2.cell? ⟨w.heap.size + 1, 0, none⟩ = some (.bool false) := (cell_of_block n1 0).trans rfl
    have v0 := unfrozen_of_block n0 0
    have v1 := unfrozen_of_block n1 0
    have HBL2 := Lib.hid hbl2
    clear hsd hW2 hd hE n0 n1 hbl2 hs2
    refine callsIn_of_wp_marks Tryd.func29 rfl trivial ?_ rfl
    simp only [Tryd.ntmps29, List.size_toArray, List.length_cons, List.length_nil, Nat.reduceAdd, Nat.reduceSub, Array.replicate_succ, Array.replicate_zero, List.push_toArray, List.append_toArray, List.nil_append, List.cons_append]
    gi_wp2_with (rw [HW2.out])
    have e0 : ((W2.setCell ⟨w.heap.size, 0, none⟩ (.slice none 0 0)).setCell ⟨w.heap.size + 1, 0, none⟩ (.bool true)).cell? ⟨w.heap.size, 0, none⟩ = some (.slice none 0 0) := by simp [go_sem, c0]
    have e1 : ((W2.setCell ⟨w.heap.size, 0, none⟩ (.slice none 0 0)).setCell ⟨w.heap.size + 1, 0, none⟩ (.bool true)).cell? ⟨w.heap.size + 1, 0, none⟩ = some (.bool true) := by simp [go_sem, c1]
    refine ⟨.tuple #[.slice none 0 0, .bool true], by simp [results, Tryd.results29, go_sem, e0, e1], _, _, rfl, (HBL2.out.setCell (Nat.le_refl _) _).setCell (by simp) _, .inl ⟨[], rfl, rfl, SpIn.nil _⟩⟩
  · obtain ⟨W3, hW3⟩ : ∃ W3, W2.alloc (.cells #[.slice none 0 0] 22) = W3 := ⟨_, rfl⟩
    have hs3 : W3.heap.size = w.heap.size + 3 := by rw [← hW3]; simp [hs2]
    have HSQ := Lib.hid (seq_calls sd W3)
    have HS2 := Lib.hid hs2
    have HW3 := Lib.hid hW3
    have hne : ¬ sd.toList = [] := fun e => hde (by rw [← hsd, Go.Lib.toList_data] at e; exact e)
    have hne2 : (sd.toList == []) = false := by rw [beq_eq_false_iff_ne]; exact hne
    have hbl3 : Below w.heap.size w W3 := by rw [← hW3]; exact hbl2.alloc (by omega) _
    have m0 : W3.heap[w.heap.size]? = some (.cells #[.slice none 0 0] 22 (0, 0)) := by rw [← hW3, Below.heap_alloc _ _ _ (by omega)]; exact n0
    have m1 : W3.heap[w.heap.size + 1]? = some (.cells #[.bool false] 4 (0, 0)) := by rw [← hW3, Below.heap_alloc _ _ _ (by omega)]; exact n1
    have m2 : W3.heap[w.heap.size + 2]? = some (.cells #[.slice none 0 0] 22 (0, 0)) := by
      have := heap_alloc_new W2 (.cells #[.slice none 0 0] 22)
      rw [hW3, hs2] at this
      exact this
    have HBL3 := Lib.hid hbl3
    have HM0 := Lib.hid m0
    have HM1 := Lib.hid m1
    have HM2 := Lib.hid m2
    have HS3 := Lib.hid hs3
    have HDE := Lib.hid hde
    clear hsd hW2 hd hE n0 n1 hbl2 hs2 hW3 hbl3 m0 m1 m2 hs3 hde
    refine callsIn_of_wp_marks Tryd.func29 rfl trivial ?_ rfl
    simp only [Tryd.ntmps29, List.size_toArray, List.length_cons, List.length_nil, Nat.reduceAdd, Nat.reduceSub, Array.replicate_succ, Array.replicate_zero, List.push_toArray, List.append_toArray, List.nil_append, List.cons_append]
    gi_wp2_with (first | rw [HW2.out] | fail)
    rw [HW3.out, HS2.out]
    refine ⟨trivial, (callsIn_wide.2 HSQ.out).mono ?_⟩
    rintro e w6 ⟨rfl, hw6⟩
    rw [HS3.out]
    gi_wp2_with fail
    rw [← hw6]
    have h6s : w6.heap.size = w.heap.size + 6 := by rw [hw6]; simp [HS3.out]
    have hib : ∀ L : Obj, PJ w w.heap.size L [] ((w6.alloc (.deferred (some []))).alloc L) ∧ ((w6.alloc (.deferred (some []))).alloc L).heap[w.heap.size + 3]? = some (.cells #[.string sd] 9 (0, 0)) := by
      intro L
      have e4 := Below.heap_alloc W3 (.cells #[.string sd] 9)
      have n4 := heap_alloc_new W3 (.cells #[.string sd] 9)
      have e5 := Below.heap_alloc (W3.alloc (.cells #[.string sd] 9)) (.cells #[.string ⟨#[44]⟩] 9)
      have n5 := heap_alloc_new (W3.alloc (.cells #[.string sd] 9)) (.cells #[.string ⟨#[44]⟩] 9)
      have e6 := Below.heap_alloc ((W3.alloc (.cells #[.string sd] 9)).alloc (.cells #[.string ⟨#[44]⟩] 9)) (.cells #[.int .i64 0] 3)
      have n6 := heap_alloc_new ((W3.alloc (.cells #[.string sd] 9)).alloc (.cells #[.string ⟨#[44]⟩] 9)) (.cells #[.int .i64 0] 3)
      simp only [World.size_alloc, HS3.out] at e4 e5 e6 n4 n5 n6
      rw [← hw6] at e6 n6
      have e7 := Below.heap_alloc w6 (.deferred (some []))
      have n7 := heap_alloc_new w6 (.deferred (some []))
      have e8 := Below.heap_alloc (w6.alloc (.deferred (some []))) L
      have n8 := heap_alloc_new (w6.alloc (.deferred (some []))) L
      simp only [World.size_alloc, h6s] at e7 e8 n7 n8
      have up : ∀ k, k < w.heap.size + 3 → ((w6.alloc (.deferred (some []))).alloc L).heap[k]? = W3.heap[k]? := fun k hk => by
        rw [e8 k (by omega), e7 k (by omega), e6 k (by omega), e5 k (by omega), e4 k (by omega)]
      have b3 : ((w6.alloc (.deferred (some []))).alloc L).heap[w.heap.size + 3]? = some (.cells #[.string sd] 9 (0, 0)) := by
        rw [e8 _ (by omega), e7 _ (by omega), e6 _ (by omega), e5 _ (by omega), n4]
      refine ⟨⟨.slice none 0 0, [], (up _ (by omega)).trans HM0.out, (up _ (by omega)).trans HM1.out, (up _ (by omega)).trans HM2.out, ⟨_, b3⟩, ?_, ?_, ?_, n8, OwnP.nil _ _, rfl, ?_⟩, b3⟩
      · rw [e8 _ (by omega), e7 _ (by omega), e6 _ (by omega), n5]
      · rw [e8 _ (by omega), e7 _ (by omega), n6]
      · rw [e8 _ (by omega), n7]
      · refine (Below.alloc ?_ (by omega) _).alloc (by simp; omega) _
        rw [hw6]
        exact (((HBL3.out.alloc (by rw [HS3.out]; omega) _).alloc (by simp [HS3.out]; omega) _).alloc (by simp [HS3.out]; omega) _)
    have HIB := Lib.hid hib
    have H6S := Lib.hid h6s
    clear hib hw6 hne hne2 h6s
    refine rf_use (gf := 58) (lb := #[.pointer (some ⟨w.heap.size + 3 + 1, 0, none⟩), .pointer (some ⟨w.heap.size + 3, 0, none⟩), .pointer (some ⟨w.heap.size + 3 + 1 + 1, 0, none⟩)]) (by decide) rfl (enters_of Tryd.func58 (by kernel_rfl) rfl) (fun fn rec hrec => ?_)
    rw [H6S.out] at hrec ⊢
    obtain ⟨h0, ht0⟩ := HIB.out (rec .ready none)
    refine (seq1_in 19 (by decide) (w.heap.size + 7) (w.heap.size + 3) (w.heap.size + 4) (w.heap.size + 5) d (by have := HD.out; omega)
      (PJ w w.heap.size (rec .ready none)) (PX w w.heap.size d (rec .done (some .ret)))
      (fun pre W x hj => by obtain ⟨v, s, hj⟩ := hj; exact ⟨v, s, hj.cell (Nat.le_refl _) x⟩)
      (fun pre W hj => by
        obtain ⟨v, s, hj⟩ := hj
        obtain ⟨u, hu⟩ := hj.tb
        exact ⟨(cell_of_block hj.pb 0).trans rfl, (cell_of_block hj.vb 0).trans rfl, unfrozen_of_block hu 0⟩)
      ?_ _ h0 (by rw [HSD.out]; exact (cell_of_block ht0 0).trans rfl)).mono ?_
    · rintro pre x W ⟨v, s, hj⟩ ⟨r, hr⟩
      clear h0 ht0
      have hxl : x.length ≤ 1073741824 := by
        have h1 := pieces_short (c := 44) (l := d) (p := x) (by rw [hr]; simp)
        have := HD.out
        omega
      have hpl : pre.length ≤ 1000000 := by
        have h1 := pieces_few 44 d
        rw [hr, List.length_append, List.length_cons] at h1
        have := HD.out
        omega
      have hsl : s.length ≤ 1000000 := by rw [progL_len hj.go]; exact hpl
      have HGO : Hid (progL (pre ++ [x]) = match progSp x with
        | none => none
        | some y => some (s ++ [y])) := Lib.hid (progL_snoc hj.go)
      have HBAD : Hid (progSp x = none → progL (pieces 44 d) = none) := Lib.hid (fun h => by rw [hr]; exact progL_bad h)
      have m7 := hj.put (Nat.le_refl _) (rec .busy none)
      have hlp := hj.lp
      refine yield_use hrec hlp rfl { tmps := #[.string sd, undef, .pointer (some ⟨w.heap.size, 0, none⟩), .pointer (some ⟨w.heap.size + 1, 0, none⟩), .pointer (some ⟨w.heap.size + 2, 0, none⟩), .string (strB x), undef, undef, .string sd, .bool false, .string sd, .func (.func 58) #[] #[.pointer (some ⟨w.heap.size + 3 + 1, 0, none⟩), .pointer (some ⟨w.heap.size + 3, 0, none⟩), .pointer (some ⟨w.heap.size + 3 + 1 + 1, 0, none⟩)], .string (strB x), undef, undef, undef, undef, undef, undef, undef, undef, undef, undef, undef, undef, undef, undef, undef, undef], defers := [] } ?_ ?_
      · intro K hK
        gi_wp2_with fail
        exact hK
      · have HSC := Lib.hid (span_calls x (W.putObj (w.heap.size + 7) (rec .busy none)) hxl (HE.out.below m7.below))
        unfold SpanOut at HSC
        have hb3 : (W.putObj (w.heap.size + 7) (rec .busy none)).heap[w.heap.size + 3]? = W.heap[w.heap.size + 3]? := put_other (by omega) _
        obtain ⟨W7, hW7⟩ : ∃ W7, W.putObj (w.heap.size + 7) (rec .busy none) = W7 := ⟨_, rfl⟩
        rw [hW7] at HSC m7 hb3
        rw [hW7]
        obtain ⟨xs, hxs⟩ : ∃ y, strB x = y := ⟨_, rfl⟩
        rw [hxs] at HSC
        rw [hxs]
        have HM7 := Lib.hid m7
        have HB3 := Lib.hid hb3
        clear hW7 hxs m7 hb3 hj hlp hr hxl hpl hrec
        gi_wp2_with fail
        refine ⟨trivial, (CallsIn.inRound _ (callsIn_wide.2 HSC.out)).mono ?_⟩
        rintro e w8 ⟨hb8, ⟨f, t, hsp, rfl⟩ | ⟨hsp, rfl⟩⟩
        · obtain ⟨w9, hw9⟩ : ∃ w9, w8.alloc (.cells #[.int .i64 f, .int .i64 t] 44) = w9 := ⟨_, rfl⟩
          have hb9 : Below W7.heap.size W7 w9 := by rw [← hw9]; exact hb8.alloc hb8.size _
          have hk9 : w9.heap[w8.heap.size]? = some (.cells #[.int .i64 f, .int .i64 t] 44 (0, 0)) := by rw [← hw9]; exact heap_alloc_new _ _
          have m9 := HM7.out.keep (Nat.le_refl _) (keeps_below hb9 Non) (fun _ e => e)
          have d0 : w9.cell? ⟨w8.heap.size, 0, none⟩ = some (.int .i64 f) := (cell_of_block hk9 0).trans rfl
          have d1 : w9.cell? ⟨w8.heap.size, 1, none⟩ = some (.int .i64 t) := (cell_of_block hk9 1).trans rfl
          obtain ⟨va, vc, hv⟩ := m9.own.form
          obtain ⟨k, hk⟩ : ∃ k, s.length = k := ⟨_, rfl⟩
          rw [hk] at hv
          subst hv
          have cl : w9.cell? ⟨w.heap.size + 2, 0, none⟩ = some (.slice va k vc) := (cell_of_block m9.sb 0).trans rfl
          have h8 : w.heap.size + 8 ≤ w9.heap.size := by have := lt_of_block m9.lp; omega
          obtain ⟨v', w10, hrun, hown, hkp⟩ := m9.own.append f t h8 hsl
          obtain ⟨va', vc', hv'⟩ := hown.form
          rw [List.length_append, List.length_singleton, hk] at hv'
          subst hv'
          have hO : ∀ j, j < w.heap.size + 8 → ¬ ((Value.slice va k vc).ownBlock = some j) := fun j h1 h2 => by have := m9.own.new j h2; omega
          have b0 := block_keep m9.rb hkp (hO _ (by omega))
          have b1 := block_keep m9.ob hkp (hO _ (by omega))
          have b2 := block_keep m9.sb hkp (hO _ (by omega))
          have b4 := block_keep m9.pb hkp (hO _ (by omega))
          have b5 := block_keep m9.vb hkp (hO _ (by omega))
          have b6 := block_keep m9.db hkp (hO _ (by omega))
          have b7 := block_keep m9.lp hkp (hO _ (by omega))
          obtain ⟨u3, hu3⟩ := m9.tb
          have b3 := block_keep hu3 hkp (hO _ (by omega))
          have cl2 : w10.cell? ⟨w.heap.size + 2, 0, none⟩ = some (.slice va k vc) := (cell_of_block b2 0).trans rfl
          have u2 := unfrozen_of_block b2 0
          have HDN : Hid ((w10.setCell ⟨w.heap.size + 2, 0, none⟩ (.slice va' (k + 1) vc')).heap[w.heap.size + 7]? = some (rec .busy none) ∧
              PJv w w.heap.size (rec .ready none) (pre ++ [x]) (.slice va' (k + 1) vc') (s ++ [(f, t)]) ((w10.setCell ⟨w.heap.size + 2, 0, none⟩ (.slice va' (k + 1) vc')).putObj (w.heap.size + 7) (rec .ready none)) ∧
              ((w10.setCell ⟨w.heap.size + 2, 0, none⟩ (.slice va' (k + 1) vc')).putObj (w.heap.size + 7) (rec .ready none)).cell? ⟨w.heap.size + 3, 0, none⟩ = W.cell? ⟨w.heap.size + 3, 0, none⟩) := Lib.hid (by
            have kk := keeps_put ((Keeps.refl (fun j => j = w.heap.size + 2 ∨ j = w.heap.size + 7) w10).setCell (p := ⟨w.heap.size + 2, 0, none⟩) (.inl (.inl rfl)) (.slice va' (k + 1) vc')) (l := w.heap.size + 7) (.inl (.inr rfl)) (rec .ready none)
            have e7 : (w10.setCell ⟨w.heap.size + 2, 0, none⟩ (.slice va' (k + 1) vc')).heap[w.heap.size + 7]? = some (rec .busy none) := (Below.heap_setCell w10 ⟨w.heap.size + 2, 0, none⟩ _ (w.heap.size + 7) (by show w.heap.size + 7 ≠ w.heap.size + 2; omega)).trans b7
            have g3 := block_keep b3 kk (fun h2 => by rcases h2 with h2 | h2 <;> omega)
            refine ⟨e7, ⟨block_keep b0 kk (fun h2 => by rcases h2 with h2 | h2 <;> omega), block_keep b1 kk (fun h2 => by rcases h2 with h2 | h2 <;> omega), ?_, ⟨u3, g3⟩, block_keep b4 kk (fun h2 => by rcases h2 with h2 | h2 <;> omega), block_keep b5 kk (fun h2 => by rcases h2 with h2 | h2 <;> omega), block_keep b6 kk (fun h2 => by rcases h2 with h2 | h2 <;> omega), put_same e7 _, hown.keep kk (fun j h1 h2 => by rcases h2 with h2 | h2 <;> omega), ?_, ?_⟩, ?_⟩
            · exact (put_other (by omega) _).trans (block_setCell (i := 0) b2 _)
            · rw [HGO.out, hsp]
            · exact below_keep (below_keep m9.below (Nat.le_refl _) hkp (fun j h1 => hO j (by omega))) (Nat.le_refl _) kk (fun j h1 h2 => by rcases h2 with h2 | h2 <;> omega)
            · have q1 : W7.heap[w.heap.size + 3]? = w9.heap[w.heap.size + 3]? := (hb9.block _ (by have := lt_of_block HM7.out.lp; omega)).symm
              exact World.cell?_of_block (g3.trans (hu3.symm.trans (q1.symm.trans HB3.out))))
          have HRUN := Lib.hid hrun
          have HW9 := Lib.hid hw9
          clear hb8 hw9 hb9 hk9 m9 hk h8 hrun hown hkp hO b0 b1 b2 b3 b4 b5 b6 b7 hu3 hsp HGO HBAD hsl
          gi_wp2_with (first
            | rw [HW9.out]
            | (gi_at_builtin; refine step_appIn HRUN.out (.tmp 20) (.tmp 22) rfl rfl rfl rfl ?_))
          exact ⟨HDN.out.1, .inl ⟨rfl, ⟨_, _, HDN.out.2.1⟩, HDN.out.2.2⟩⟩
        · have m8 := HM7.out.keep (Nat.le_refl _) (keeps_below hb8 Non) (fun _ e => e)
          have c0 : w8.cell? ⟨w.heap.size, 0, none⟩ = some (.slice none 0 0) := (cell_of_block m8.rb 0).trans rfl
          have c1 : w8.cell? ⟨w.heap.size + 1, 0, none⟩ = some (.bool false) := (cell_of_block m8.ob 0).trans rfl
          have v0 := unfrozen_of_block m8.rb 0
          have v1 := unfrozen_of_block m8.ob 0
          have l0 : w.heap.size < w8.heap.size := lt_of_block m8.rb
          have l1 : w.heap.size + 1 < w8.heap.size := lt_of_block m8.ob
          obtain ⟨w9, hw9⟩ : ∃ w9, ((w8.setCell ⟨w.heap.size, 0, none⟩ (.slice none 0 0)).setCell ⟨w.heap.size + 1, 0, none⟩ (.bool false)).alloc (.cells #[.int .i64 0, .int .i64 0] 44) = w9 := ⟨_, rfl⟩
          have HDN : Hid (w9.heap[w.heap.size + 7]? = some (rec .busy none) ∧ PX w w.heap.size d (rec .done (some .ret)) (w9.putObj (w.heap.size + 7) (rec .done (some .ret)))) := Lib.hid (by
            have k0 := (((Keeps.refl (fun k => k = w.heap.size ∨ k = w.heap.size + 1) w8).setCell (p := ⟨w.heap.size, 0, none⟩) (.inl (.inl rfl)) (.slice none 0 0)).setCell (p := ⟨w.heap.size + 1, 0, none⟩) (.inl (.inr rfl)) (.bool false)).alloc (.cells #[.int .i64 0, .int .i64 0] 44)
            have k1 := keeps_put ((((Keeps.refl (fun k => k = w.heap.size ∨ k = w.heap.size + 1 ∨ k = w.heap.size + 7) w8).setCell (p := ⟨w.heap.size, 0, none⟩) (.inl (.inl rfl)) (.slice none 0 0)).setCell (p := ⟨w.heap.size + 1, 0, none⟩) (.inl (.inr (.inl rfl))) (.bool false)).alloc (.cells #[.int .i64 0, .int .i64 0] 44)) (l := w.heap.size + 7) (.inl (.inr (.inr rfl))) (rec .done (some .ret))
            rw [hw9] at k0 k1
            have e7 := block_keep m8.lp k0 (fun h => by rcases h with h | h <;> omega)
            have g0 : w9.heap[w.heap.size]? = some (.cells #[.slice none 0 0] 22 (0, 0)) := by
              rw [← hw9, Below.heap_alloc _ _ _ (by simp only [World.size_setCell]; exact l0), Below.heap_setCell _ ⟨w.heap.size + 1, 0, none⟩ _ w.heap.size (by show w.heap.size ≠ w.heap.size + 1; omega)]
              exact block_setCell (i := 0) m8.rb _
            have g1 : w9.heap[w.heap.size + 1]? = some (.cells #[.bool false] 4 (0, 0)) := by
              rw [← hw9, Below.heap_alloc _ _ _ (by simp only [World.size_setCell]; exact l1)]
              exact block_setCell (i := 0) ((Below.heap_setCell _ ⟨w.heap.size, 0, none⟩ _ (w.heap.size + 1) (by show w.heap.size + 1 ≠ w.heap.size; omega)).trans m8.ob) _
            refine ⟨e7, ⟨(put_other (by omega) _).trans g0, (put_other (by omega) _).trans g1, ?_, put_same e7 _, HBAD.out hsp, ?_⟩⟩
            · exact (put_other (by omega) _).trans (block_keep m8.db k0 (fun h => by rcases h with h | h <;> omega))
            · exact below_keep m8.below (Nat.le_refl _) k1 (fun j h1 h2 => by rcases h2 with h2 | h2 | h2 <;> omega))
          have HW9 := Lib.hid hw9
          clear hb8 hw9 m8 hsp HGO HBAD hsl
          gi_wp2_with fail
          rw [HW9.out]
          exact ⟨HDN.out.1, .inr ⟨rfl, HDN.out.2⟩⟩
    · clear h0 ht0
      rintro e W7 ⟨hv, ⟨v, s, hj⟩ | hj⟩
      · refine ⟨hv, .inl ⟨hj.lp, ?_⟩⟩
        have m8 := hj.put (Nat.le_refl _) (rec .exhausted none)
        have hs8 : w.heap.size + 8 ≤ (W7.putObj (w.heap.size + 7) (rec .exhausted none)).heap.size := by have := lt_of_block m8.lp; omega
        obtain ⟨W8, hW8⟩ : ∃ W8, W7.putObj (w.heap.size + 7) (rec .exhausted none) = W8 := ⟨_, rfl⟩
        rw [hW8] at m8 hs8 ⊢
        have HTX := Lib.hid (text_calls m8.own.in (HE.out.tab.below m8.below))
        obtain ⟨va, vc, rfl⟩ := m8.own.form
        obtain ⟨k, hk⟩ : ∃ k, s.length = k := ⟨_, rfl⟩
        rw [hk] at HTX
        have HM8 := Lib.hid m8
        rw [hk] at HM8
        have HGO : Hid (progP d = if textS s = d then some s else none) := Lib.hid (by
          unfold progP
          rw [if_neg HDE.out, hj.go])
        have cl : W8.cell? ⟨w.heap.size + 2, 0, none⟩ = some (.slice va k vc) := (cell_of_block HM8.out.sb 0).trans rfl
        obtain ⟨T, hT⟩ : ∃ T, strB (textS s) = T := ⟨_, rfl⟩
        rw [hT] at HTX
        have HT := Lib.hid hT
        have HS8 := Lib.hid hs8
        clear hv hj m8 hW8 hk hT hs8 hrec
        unfold markA
        gi_wp2_with fail
        refine ⟨trivial, (callsIn_wide.2 HTX.out).mono ?_⟩
        rintro e w9 ⟨rfl, hb9⟩
        have m9 := HM8.out.keep (Nat.le_refl _) (keeps_below hb9 Non) (fun _ e => e)
        have cl : w9.cell? ⟨w.heap.size + 2, 0, none⟩ = some (.slice va k vc) := (cell_of_block m9.sb 0).trans rfl
        have c0 : w9.cell? ⟨w.heap.size, 0, none⟩ = some (.slice none 0 0) := (cell_of_block m9.rb 0).trans rfl
        have c1 : w9.cell? ⟨w.heap.size + 1, 0, none⟩ = some (.bool false) := (cell_of_block m9.ob 0).trans rfl
        have v0 := unfrozen_of_block m9.rb 0
        have v1 := unfrozen_of_block m9.ob 0
        have M9 := Lib.hid m9
        clear hb9 m9
        by_cases hTd : T = sd
        · have HR : Hid (progP d = some s) := Lib.hid (by
            have h : textS s = d := strB_inj (by rw [HT.out, hTd, HSD.out])
            rw [HGO.out, if_pos h])
          subst hTd
          gi_wp2_with fail
          have k10 := ((Keeps.refl (fun k => k = w.heap.size ∨ k = w.heap.size + 1) w9).setCell (p := ⟨w.heap.size, 0, none⟩) (.inl (.inl rfl)) (.slice va k vc)).setCell (p := ⟨w.heap.size + 1, 0, none⟩) (.inl (.inr rfl)) (.bool true)
          have e0 : ((w9.setCell ⟨w.heap.size, 0, none⟩ (.slice va k vc)).setCell ⟨w.heap.size + 1, 0, none⟩ (.bool true)).heap[w.heap.size]? = some (.cells #[.slice va k vc] 22 (0, 0)) := (Below.heap_setCell _ ⟨w.heap.size + 1, 0, none⟩ _ w.heap.size (by show w.heap.size ≠ w.heap.size + 1; omega)).trans (block_setCell (i := 0) M9.out.rb _)
          have e1 : ((w9.setCell ⟨w.heap.size, 0, none⟩ (.slice va k vc)).setCell ⟨w.heap.size + 1, 0, none⟩ (.bool true)).heap[w.heap.size + 1]? = some (.cells #[.bool true] 4 (0, 0)) := block_setCell (i := 0) ((Below.heap_setCell _ ⟨w.heap.size, 0, none⟩ _ (w.heap.size + 1) (by show w.heap.size + 1 ≠ w.heap.size; omega)).trans M9.out.ob) _
          have e6 : ((w9.setCell ⟨w.heap.size, 0, none⟩ (.slice va k vc)).setCell ⟨w.heap.size + 1, 0, none⟩ (.bool true)).heap[w.heap.size + 6]? = some (.deferred (some [])) := block_keep M9.out.db k10 (fun h => by rcases h with h | h <;> omega)
          refine ⟨by simp, .inl ⟨_, _, rfl, run_takeDeferred e6, ?_⟩⟩
          have g0 : (((w9.setCell ⟨w.heap.size, 0, none⟩ (.slice va k vc)).setCell ⟨w.heap.size + 1, 0, none⟩ (.bool true)).putObj (w.heap.size + 6) (.deferred none)).cell? ⟨w.heap.size, 0, none⟩ = some (.slice va k vc) := (cell_of_block ((put_other (by omega) _).trans e0) 0).trans rfl
          have g1 : (((w9.setCell ⟨w.heap.size, 0, none⟩ (.slice va k vc)).setCell ⟨w.heap.size + 1, 0, none⟩ (.bool true)).putObj (w.heap.size + 6) (.deferred none)).cell? ⟨w.heap.size + 1, 0, none⟩ = some (.bool true) := (cell_of_block ((put_other (by omega) _).trans e1) 0).trans rfl
          have k11 := keeps_put (k10.mono (S' := fun k => k = w.heap.size ∨ k = w.heap.size + 1 ∨ k = w.heap.size + 6) (fun k _ h => by rcases h with h | h <;> omega)) (l := w.heap.size + 6) (.inl (by omega)) (.deferred none)
          have hbf : Below w.heap.size w (((w9.setCell ⟨w.heap.size, 0, none⟩ (.slice va k vc)).setCell ⟨w.heap.size + 1, 0, none⟩ (.bool true)).putObj (w.heap.size + 6) (.deferred none)) := below_keep M9.out.below (Nat.le_refl _) k11 (fun j h1 h2 => by rcases h2 with h2 | h2 | h2 <;> omega)
          obtain ⟨WF, hWF⟩ : ∃ WF, ((w9.setCell ⟨w.heap.size, 0, none⟩ (.slice va k vc)).setCell ⟨w.heap.size + 1, 0, none⟩ (.bool true)).putObj (w.heap.size + 6) (.deferred none) = WF := ⟨_, rfl⟩
          rw [hWF] at g0 g1 k11 hbf ⊢
          refine ⟨.tuple #[.slice va k vc, .bool true], by simp [results, Tryd.results29, go_sem, g0, g1], _, _, rfl, hbf, ?_⟩
          have k12 := k11
          have hin := (M9.out.own.keep k12 (fun j h1 h2 => by rcases h2 with h2 | h2 | h2 <;> omega)).in
          exact .inl ⟨s, HR.out, rfl, hin⟩
        · have HR : Hid (progP d = none) := Lib.hid (by
            have h : ¬ textS s = d := fun e => hTd (by rw [← HT.out, e, HSD.out])
            rw [HGO.out, if_neg h])
          have hse : (T.toList == sd.toList) = false := bytes_ne hTd
          have hse2 : (T.toList != sd.toList) = true := by rw [bne, hse]; rfl
          clear hTd
          gi_wp2_with fail
          have k10 := ((Keeps.refl (fun k => k = w.heap.size ∨ k = w.heap.size + 1) w9).setCell (p := ⟨w.heap.size, 0, none⟩) (.inl (.inl rfl)) (.slice none 0 0)).setCell (p := ⟨w.heap.size + 1, 0, none⟩) (.inl (.inr rfl)) (.bool false)
          have e0 : ((w9.setCell ⟨w.heap.size, 0, none⟩ (.slice none 0 0)).setCell ⟨w.heap.size + 1, 0, none⟩ (.bool false)).heap[w.heap.size]? = some (.cells #[.slice none 0 0] 22 (0, 0)) := (Below.heap_setCell _ ⟨w.heap.size + 1, 0, none⟩ _ w.heap.size (by show w.heap.size ≠ w.heap.size + 1; omega)).trans (block_setCell (i := 0) M9.out.rb _)
          have e1 : ((w9.setCell ⟨w.heap.size, 0, none⟩ (.slice none 0 0)).setCell ⟨w.heap.size + 1, 0, none⟩ (.bool false)).heap[w.heap.size + 1]? = some (.cells #[.bool false] 4 (0, 0)) := block_setCell (i := 0) ((Below.heap_setCell _ ⟨w.heap.size, 0, none⟩ _ (w.heap.size + 1) (by show w.heap.size + 1 ≠ w.heap.size; omega)).trans M9.out.ob) _
          have e6 : ((w9.setCell ⟨w.heap.size, 0, none⟩ (.slice none 0 0)).setCell ⟨w.heap.size + 1, 0, none⟩ (.bool false)).heap[w.heap.size + 6]? = some (.deferred (some [])) := block_keep M9.out.db k10 (fun h => by rcases h with h | h <;> omega)
          refine ⟨by simp, .inl ⟨_, _, rfl, run_takeDeferred e6, ?_⟩⟩
          have g0 : (((w9.setCell ⟨w.heap.size, 0, none⟩ (.slice none 0 0)).setCell ⟨w.heap.size + 1, 0, none⟩ (.bool false)).putObj (w.heap.size + 6) (.deferred none)).cell? ⟨w.heap.size, 0, none⟩ = some (.slice none 0 0) := (cell_of_block ((put_other (by omega) _).trans e0) 0).trans rfl
          have g1 : (((w9.setCell ⟨w.heap.size, 0, none⟩ (.slice none 0 0)).setCell ⟨w.heap.size + 1, 0, none⟩ (.bool false)).putObj (w.heap.size + 6) (.deferred none)).cell? ⟨w.heap.size + 1, 0, none⟩ = some (.bool false) := (cell_of_block ((put_other (by omega) _).trans e1) 0).trans rfl
          have k11 := keeps_put (k10.mono (S' := fun k => k = w.heap.size ∨ k = w.heap.size + 1 ∨ k = w.heap.size + 6) (fun k _ h => by rcases h with h | h <;> omega)) (l := w.heap.size + 6) (.inl (by omega)) (.deferred none)
          have hbf : Below w.heap.size w (((w9.setCell ⟨w.heap.size, 0, none⟩ (.slice none 0 0)).setCell ⟨w.heap.size + 1, 0, none⟩ (.bool false)).putObj (w.heap.size + 6) (.deferred none)) := below_keep M9.out.below (Nat.le_refl _) k11 (fun j h1 h2 => by rcases h2 with h2 | h2 | h2 <;> omega)
          obtain ⟨WF, hWF⟩ : ∃ WF, ((w9.setCell ⟨w.heap.size, 0, none⟩ (.slice none 0 0)).setCell ⟨w.heap.size + 1, 0, none⟩ (.bool false)).putObj (w.heap.size + 6) (.deferred none) = WF := ⟨_, rfl⟩
          rw [hWF] at g0 g1 k11 hbf ⊢
          refine ⟨.tuple #[.slice none 0 0, .bool false], by simp [results, Tryd.results29, go_sem, g0, g1], _, _, rfl, hbf, ?_⟩
          exact .inr ⟨HR.out, rfl, rfl⟩
      · refine ⟨hv, .inr ⟨.ret, hj.lp, ?_⟩⟩
        have k9 := keeps_put (Keeps.refl (One (w.heap.size + 7)) W7) (l := w.heap.size + 7) (.inl rfl) (rec .exhausted (some .ret))
        have d0 := block_keep hj.rb k9 (fun e => by unfold One at e; omega)
        have d1 := block_keep hj.ob k9 (fun e => by unfold One at e; omega)
        have d6 := block_keep hj.db k9 (fun e => by unfold One at e; omega)
        have hbel := below_keep hj.below (Nat.le_refl _) k9 (fun j h1 h2 => by unfold One at h2; omega)
        have HR : Hid (progP d = none) := Lib.hid (by
          unfold progP
          rw [if_neg HDE.out, hj.bad])
        obtain ⟨W8, hW8⟩ : ∃ W8, W7.putObj (w.heap.size + 7) (rec .exhausted (some .ret)) = W8 := ⟨_, rfl⟩
        rw [hW8] at d0 d1 d6 hbel ⊢
        clear hrec hj hv k9 hW8
        unfold markA
        gi_wp2_with fail
        refine ⟨by simp, .inl ⟨_, _, rfl, run_takeDeferred d6, ?_⟩⟩
        have g0 : (W8.putObj (w.heap.size + 6) (.deferred none)).cell? ⟨w.heap.size, 0, none⟩ = some (.slice none 0 0) := (cell_of_block ((put_other (by omega) _).trans d0) 0).trans rfl
        have g1 : (W8.putObj (w.heap.size + 6) (.deferred none)).cell? ⟨w.heap.size + 1, 0, none⟩ = some (.bool false) := (cell_of_block ((put_other (by omega) _).trans d1) 0).trans rfl
        have k11 := keeps_put (Keeps.refl (One (w.heap.size + 6)) W8) (l := w.heap.size + 6) (.inl rfl) (.deferred none)
        have hbf := below_keep hbel (Nat.le_refl _) k11 (fun j h1 h2 => by unfold One at h2; omega)
        obtain ⟨WF, hWF⟩ : ∃ WF, W8.putObj (w.heap.size + 6) (.deferred none) = WF := ⟨_, rfl⟩
        rw [hWF] at g0 g1 hbf ⊢
        refine ⟨.tuple #[.slice none 0 0, .bool false], by simp [results, Tryd.results29, go_sem, g0, g1], _, _, rfl, hbf, ?_⟩
        exact .inr ⟨HR.out, rfl, rfl⟩
end Go.Proofs.YtiolchdfjlffoaaDoor
