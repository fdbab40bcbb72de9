/-
  From the reading of an argument to what the walks ask of it: a step, a slice of steps, a slice of numbers. No condition.
  From the reading of an argument to what the walks ask of it: tails, bytes, a number. No condition.
-/
import Derived.Test.YtfiacojgddpphaaOpen
import Derived.Test.YtfiacojgddpphaaDoSmall
namespace Go.Proofs.Ytfiacojgddpphaa
open Go.ChangeShapes Go.WideShapes Go.ChangeAt Go.RowKit Go.Deep Go.Joins

variable {H : Type} {enc : TypeId × Value → H}

/-- A slice of numbers, read. -/
theorem ints_of {W : World} {base : Nat} {spare : Nat → Bool} {held : Bool} {n : Nat} {v : Value} {y : DataW H × List MemPlace} (h : DataW.trod enc Try.prog W base spare held n 36 [v] = some y) :
    ∃ a len cap, ∃ l : List Int, v = .slice a len cap ∧ RowI W (Old W) a l ∧ l.length = len ∧ len ≤ cap := by
  rcases open_ints Try.underlying36 Try.underlying3 (by kernel_rfl) h with ⟨hcs, _⟩ | ⟨x, len, cap, zs, hcs, _, hl, _, hz, _, hcell, _⟩
  · simp at hcs
    subst hcs
    exact ⟨none, 0, 0, [], rfl, .inl rfl, rfl, Nat.le_refl _⟩
  · simp at hcs
    subst hcs
    have hzl : len ≤ zs.length := by rw [hz]; split <;> omega
    by_cases h0 : len = 0
    · subst h0
      exact ⟨some x, 0, cap, [], rfl, .inl rfl, rfl, hl⟩
    · obtain ⟨b, off, spot⟩ := x
      have hspot : spot = none := by simpa [Addr.add] using World.cell?_spot (hcell 0 (by omega))
      subst hspot
      have hb : b < W.heap.size := by
        have hc := hcell 0 (by omega)
        rw [Addr.add_mid] at hc
        exact lt_of_cell hc
      refine ⟨_, len, cap, zs.take len, rfl, .inr ⟨b, off, rfl, hb, fun i z hi => ?_⟩, by rw [List.length_take]; omega, hl⟩
      have hlt : i < len := by
        have := (List.getElem?_eq_some_iff.1 hi).1
        rw [List.length_take] at this
        omega
      rw [List.getElem?_take_of_lt hlt] at hi
      have hc := hcell i (by omega)
      rw [Addr.add_mid, List.getD_eq_getElem?_getD, hi, Option.getD_some] at hc
      exact hc

set_option maxRecDepth 100000 in
/-- A slice of troubles, read. -/
theorem tros_of {W : World} {base : Nat} {spare : Nat → Bool} {held : Bool} {n : Nat} {v : Value} {y : DataW H × List MemPlace} (h : DataW.trod enc Try.prog W base spare held n 37 [v] = some y) :
    ∃ a len cap, ∃ l : List Tro, v = .slice a len cap ∧ RowT W (Old W) a l ∧ l.length = len ∧ ∀ t ∈ l, (Lit.int .i64 t.at_).wf = true := by
  rcases open_slice_fields Try.underlying37 Try.underlying92 (by kernel_rfl) (by kernel_rfl) h with ⟨hcs, _⟩ | ⟨x, len, cap, m, D, Pl, hcs, _, hl, hm, hmm, hx, hi⟩
  · simp at hcs
    subst hcs
    exact ⟨none, 0, 0, [], rfl, .inl rfl, rfl, fun t ht => by cases ht⟩
  · simp at hcs
    subst hcs
    have hml : len ≤ m := by rw [hmm]; split <;> omega
    by_cases h00 : len = 0
    · subst h00
      exact ⟨some x, 0, cap, [], rfl, .inl rfl, rfl, fun t ht => by cases ht⟩
    · obtain ⟨b, off, spot⟩ := x
      have hspot : spot = none := by
        obtain ⟨ys, n, _, _, _, hfl⟩ := hi 0 (by omega)
        obtain ⟨v0, y0, c0, _⟩ := hfl 0 _ rfl
        simpa [Addr.add] using World.cell?_spot c0
      subst hspot
      obtain ⟨L, hL, hP⟩ := list_of (P := fun i (t : Tro) => (W.cell? ⟨b, off + i * 3, none⟩ = some (.int .i64 t.at_) ∧ W.cell? ⟨b, off + i * 3 + 1, none⟩ = some (.int .i64 t.kind) ∧ W.cell? ⟨b, off + i * 3 + 2, none⟩ = some (.int .i64 t.part)) ∧
          (Lit.int .i64 t.at_).wf = true) len (fun i hil => by
        obtain ⟨ys, n, hD, _, hyl, hfl⟩ := hi i (by omega)
        obtain ⟨u0, y0, c0, k0, t0⟩ := hfl 0 _ rfl
        obtain ⟨u1, y1, c1, k1, t1⟩ := hfl 1 _ rfl
        obtain ⟨u2, y2, c2, k2, t2⟩ := hfl 2 _ rfl
        obtain ⟨z0, e0, _, w0⟩ := DataW.trod_int Try.underlying3 t0
        obtain ⟨z1, e1, _, _⟩ := DataW.trod_int Try.underlying3 t1
        obtain ⟨z2, e2, _, _⟩ := DataW.trod_int Try.underlying3 t2
        simp at e0 e1 e2
        subst e0 e1 e2
        rw [Addr.add_mid] at c0 c1 c2
        exact ⟨⟨z0, z1, z2⟩, ⟨c0, by rw [Nat.add_assoc]; exact c1, by rw [Nat.add_assoc]; exact c2⟩, w0⟩)
      have hbS : Old W b := by
        obtain ⟨ys, n, _, _, _, hfl⟩ := hi 0 (by omega)
        obtain ⟨v0, y0, c0, _⟩ := hfl 0 _ rfl
        rw [Addr.add_mid] at c0
        exact lt_of_cell c0
      refine ⟨_, len, cap, L, rfl, .inr ⟨b, off, rfl, hbS, fun i t hit => (hP i t hit).1⟩, hL, fun t ht => ?_⟩
      obtain ⟨i, hit⟩ := List.mem_iff_getElem?.1 ht
      exact (hP i t hit).2

/-- The seven cells of a step, read. -/
theorem do_of {W : World} {base : Nat} {spare : Nat → Bool} {held : Bool} {n : Nat} {v0 v1 v2 v3 v4 v5 v6 : Value} {y0 y1 y2 y3 y4 y5 y6 : DataW H × List MemPlace} (h0 : DataW.trod enc Try.prog W base spare held n 3 [v0] = some y0) (h1 : DataW.trod enc Try.prog W base spare held n 9 [v1] = some y1)
    (h2 : DataW.trod enc Try.prog W base spare held n 9 [v2] = some y2) (h3 : DataW.trod enc Try.prog W base spare held n 3 [v3] = some y3) (h4 : DataW.trod enc Try.prog W base spare held n 35 [v4] = some y4) (h5 : DataW.trod enc Try.prog W base spare held n 36 [v5] = some y5) (h6 : DataW.trod enc Try.prog W base spare held n 37 [v6] = some y6) :
    ∃ x c, #[v0, v1, v2, v3, v4, v5, v6] = doA x c ∧ DoV W (Old W) x c := by
  obtain ⟨k, e0, _, _⟩ := DataW.trod_int Try.underlying3 h0
  obtain ⟨s, e1, _, _⟩ := DataW.trod_string Try.underlying9 h1
  obtain ⟨t, e2, _, _⟩ := DataW.trod_string Try.underlying9 h2
  obtain ⟨nn, e3, _, _⟩ := DataW.trod_int Try.underlying3 h3
  simp at e0 e1 e2 e3
  subst e0 e1 e2 e3
  obtain ⟨ab, lb, cb, b, rfl, hrow, hlb, hn0, hbc, hbm, _⟩ := bytes_of h4
  obtain ⟨at_, lt, ct, ts, rfl, htails, hlt, hltc⟩ := ints_of h5
  obtain ⟨al, ll, cl, tl, rfl, hlist, hll, hwf⟩ := tros_of h6
  subst hlb hlt hll
  exact ⟨⟨k, s, t, nn, b, ts, tl⟩, ⟨ab, cb, at_, ct, al, cl⟩, rfl, ⟨hrow, hn0, hbc, hbm, htails, hltc, hlist, hwf⟩⟩

set_option maxRecDepth 100000 in
/-- A slice of steps, read. -/
theorem dos_of {W : World} {base b0 : Nat} {spare : Nat → Bool} {held : Bool} {v : Value} {d : DataW H} {p : List MemPlace} (hv : Value.okWide Try.prog W .any b0 23 v) (h0 : DataW.Trod enc Try.prog W base spare held 23 v d p) :
    ∃ a len cap, ∃ l : List DoI, v = .slice a len cap ∧ Dos W (Old W) a l ∧ l.length = len ∧ ((∀ k ∈ d.weights Try.prog 23, k ≤ reachBytes) → len ≤ reachBytes) := by
  obtain ⟨a0, len0, cap0, rfl⟩ := okWide_slice Try.underlying23 hv
  obtain ⟨fuel, hf⟩ := h0
  rcases open_slice_fields Try.underlying23 Try.underlying39 (by kernel_rfl) (by kernel_rfl) hf with ⟨hcs, _⟩ | ⟨x, len, cap, m, D, Pl, hcs, _, hl, hm, hmm, hx, hi⟩
  · simp [Value.cells] at hcs
    obtain ⟨rfl, rfl, rfl⟩ := hcs
    exact ⟨none, 0, 0, [], rfl, .inl rfl, rfl, fun _ => Nat.zero_le _⟩
  · simp [Value.cells] at hcs
    obtain ⟨rfl, rfl, rfl⟩ := hcs
    have hml : len0 ≤ m := by rw [hmm]; split <;> omega
    obtain ⟨rfl, rfl⟩ := Prod.mk.inj hx
    by_cases h00 : len0 = 0
    · subst h00
      exact ⟨some x, 0, cap0, [], rfl, .inl rfl, rfl, fun _ => Nat.zero_le _⟩
    · obtain ⟨b, off, spot⟩ := x
      have hspot : spot = none := by
        obtain ⟨ys, n, _, _, _, hfl⟩ := hi 0 (by omega)
        obtain ⟨v0, y0, c0, _⟩ := hfl 0 _ rfl
        simpa [Addr.add] using World.cell?_spot c0
      subst hspot
      obtain ⟨L, hL, hP⟩ := list_of (P := fun i (x : DoI) => ∃ c, DoV W (Old W) x c ∧ ∀ j v, (doA x c)[j]? = some v → W.cell? ⟨b, off + i * 7 + j, none⟩ = some v) len0 (fun i hil => by
        obtain ⟨ys, n, hD, _, hyl, hfl⟩ := hi i (by omega)
        obtain ⟨u0, y0, c0, _, t0⟩ := hfl 0 _ rfl
        obtain ⟨u1, y1, c1, _, t1⟩ := hfl 1 _ rfl
        obtain ⟨u2, y2, c2, _, t2⟩ := hfl 2 _ rfl
        obtain ⟨u3, y3, c3, _, t3⟩ := hfl 3 _ rfl
        obtain ⟨u4, y4, c4, _, t4⟩ := hfl 4 _ rfl
        obtain ⟨u5, y5, c5, _, t5⟩ := hfl 5 _ rfl
        obtain ⟨u6, y6, c6, _, t6⟩ := hfl 6 _ rfl
        rw [Addr.add_mid] at c0 c1 c2 c3 c4 c5 c6
        obtain ⟨x, c, he, hv⟩ := do_of t0 t1 t2 t3 t4 t5 t6
        refine ⟨x, c, hv, fun j v hj => ?_⟩
        rw [← he] at hj
        rw [Nat.add_assoc]
        match j, hj with
        | 0, hj => obtain rfl : u0 = v := by simpa using hj
                   exact c0
        | 1, hj => obtain rfl : u1 = v := by simpa using hj
                   exact c1
        | 2, hj => obtain rfl : u2 = v := by simpa using hj
                   exact c2
        | 3, hj => obtain rfl : u3 = v := by simpa using hj
                   exact c3
        | 4, hj => obtain rfl : u4 = v := by simpa using hj
                   exact c4
        | 5, hj => obtain rfl : u5 = v := by simpa using hj
                   exact c5
        | 6, hj => obtain rfl : u6 = v := by simpa using hj
                   exact c6
        | j + 7, hj => simp at hj)
      have hbS : Old W b := by
        obtain ⟨ys, n, _, _, _, hfl⟩ := hi 0 (by omega)
        obtain ⟨v0, y0, c0, _⟩ := hfl 0 _ rfl
        rw [Addr.add_mid] at c0
        exact lt_of_cell c0
      refine ⟨_, len0, cap0, L, rfl, .inr ⟨b, off, rfl, hbS, hP⟩, hL, fun hw => ?_⟩
      have := hw _ (by simp only [DataW.weights, Try.underlying23]; exact List.mem_cons_self ..)
      have hb39 : Try.prog.bytesOf 39 = 120 := by kernel_rfl
      rw [hb39] at this
      simp only [List.length_map, List.length_range] at this
      omega

theorem open_agg7 {P : Program} {w : World} {base : Nat} {spare : Nat → Bool} {held : Bool} {r : Reach} {b0 : Nat} {t : TypeId} {f0 f1 f2 f3 f4 f5 f6 : Field} {v : Value} {d : DataW H} {p : List MemPlace} (hs : P.underlying t = some (.struct #[f0, f1, f2, f3, f4, f5, f6])) (hone : oneCellFields P #[f0, f1, f2, f3, f4, f5, f6] = true) (hC : P.cellsOf t = 7)
    (hv : Value.okWide P w r b0 t v) (h : DataW.Trod enc P w base spare held t v d p) :
    ∃ (v0 v1 v2 v3 v4 v5 v6 : Value) (y0 y1 y2 y3 y4 y5 y6 : DataW H × List MemPlace) (n : Nat), v = .agg #[v0, v1, v2, v3, v4, v5, v6] ∧
      DataW.trod enc P w base spare held n f0.type [v0] = some y0 ∧ DataW.trod enc P w base spare held n f1.type [v1] = some y1 ∧ DataW.trod enc P w base spare held n f2.type [v2] = some y2 ∧ DataW.trod enc P w base spare held n f3.type [v3] = some y3 ∧ DataW.trod enc P w base spare held n f4.type [v4] = some y4 ∧ DataW.trod enc P w base spare held n f5.type [v5] = some y5 ∧ DataW.trod enc P w base spare held n f6.type [v6] = some y6 := by
  obtain ⟨cs, rfl, hsz⟩ := okWide_struct hs hv
  obtain ⟨l⟩ := cs
  match l, hsz.trans hC with
  | [c0, c1, c2, c3, c4, c5, c6], _ =>
    obtain ⟨fuel, hf⟩ := h
    obtain ⟨xs, n, _, hx, _, hlen, hg⟩ := DataW.trod_struct hs hf
    obtain ⟨o0, k0⟩ := hone_of hone 0 f0 rfl
    obtain ⟨o1, k1⟩ := hone_of hone 1 f1 rfl
    obtain ⟨o2, k2⟩ := hone_of hone 2 f2 rfl
    obtain ⟨o3, k3⟩ := hone_of hone 3 f3 rfl
    obtain ⟨o4, k4⟩ := hone_of hone 4 f4 rfl
    obtain ⟨o5, k5⟩ := hone_of hone 5 f5 rfl
    obtain ⟨o6, k6⟩ := hone_of hone 6 f6 rfl
    match xs, hlen with
    | [y0, y1, y2, y3, y4, y5, y6], _ =>
      exact ⟨c0, c1, c2, c3, c4, c5, c6, y0, y1, y2, y3, y4, y5, y6, n, rfl, by simpa [Value.cells, o0, k0] using hg 0 f0 rfl, by simpa [Value.cells, o1, k1] using hg 1 f1 rfl, by simpa [Value.cells, o2, k2] using hg 2 f2 rfl, by simpa [Value.cells, o3, k3] using hg 3 f3 rfl, by simpa [Value.cells, o4, k4] using hg 4 f4 rfl, by simpa [Value.cells, o5, k5] using hg 5 f5 rfl, by simpa [Value.cells, o6, k6] using hg 6 f6 rfl⟩

set_option maxRecDepth 100000 in
/-- A step by value, read. -/
theorem dov_of {W : World} {base b0 : Nat} {spare : Nat → Bool} {held : Bool} {v : Value} {d : DataW H} {p : List MemPlace} (hv : Value.okWide Try.prog W .any b0 39 v) (h : DataW.Trod enc Try.prog W base spare held 39 v d p) :
    ∃ x c, v = .agg (doA x c) ∧ DoV W (Old W) x c := by
  obtain ⟨v0, v1, v2, v3, v4, v5, v6, y0, y1, y2, y3, y4, y5, y6, n, rfl, t0, t1, t2, t3, t4, t5, t6⟩ := open_agg7 Try.underlying39 (by kernel_rfl) (by kernel_rfl) hv h
  obtain ⟨x, c, he, hv⟩ := do_of t0 t1 t2 t3 t4 t5 t6
  exact ⟨x, c, by rw [he], hv⟩

end Go.Proofs.Ytfiacojgddpphaa
namespace Go.Proofs.Ytfiacojgddpphaa
open Go.ChangeShapes Go.WideShapes Go.ChangeAt Go.RowKit

variable {H : Type} {enc : TypeId × Value → H}

set_option maxRecDepth 100000 in
theorem tails_of {W : World} {base b0 : Nat} {spare : Nat → Bool} {held : Bool} {v : Value} {d : DataW H} {p : List MemPlace} (hv : Value.okWide Try.prog W .any b0 36 v) (h0 : DataW.Trod enc Try.prog W base spare held 36 v d p) :
    ∃ a len cap, ∃ l : List Int, v = .slice a len cap ∧ RowI W (Old W) a l ∧ l.length = len ∧ len ≤ cap := by
  obtain ⟨a0, len0, cap0, rfl⟩ := okWide_slice Try.underlying36 hv
  obtain ⟨fuel, hf⟩ := h0
  exact ints_of hf
set_option maxRecDepth 100000 in
theorem data_of {W : World} {base b0 : Nat} {spare : Nat → Bool} {held : Bool} {v : Value} {d : DataW H} {p : List MemPlace} (hv : Value.okWide Try.prog W .any b0 35 v) (h0 : DataW.Trod enc Try.prog W base spare held 35 v d p) :
    ∃ a len cap l, v = .slice a len cap ∧ Row W (Old W) a l ∧ l.length = len ∧ (a = none → cap = 0) ∧ len ≤ cap ∧ cap ≤ maxLen := by
  obtain ⟨a0, len0, cap0, rfl⟩ := okWide_slice Try.underlying35 hv
  obtain ⟨fuel, hf⟩ := h0
  obtain ⟨a, len, cap, l, h1, h2, h3, h4, h5, h6, _⟩ := bytes_of hf
  exact ⟨a, len, cap, l, h1, h2, h3, h4, h5, h6⟩
set_option maxRecDepth 100000 in
theorem room_of {W : World} {base b0 : Nat} {spare : Nat → Bool} {held : Bool} {v : Value} {d : DataW H} {p : List MemPlace} (hv : Value.okWide Try.prog W .any b0 3 v) (h0 : DataW.Trod enc Try.prog W base spare held 3 v d p) :
    ∃ n : Int, v = .int .i64 n ∧ n ≤ 9223372036854775807 := by
  obtain ⟨n, rfl, _, _, hw⟩ := open_int Try.underlying3 hv h0
  refine ⟨n, rfl, ?_⟩
  simp [Lit.wf, IntKind.min, IntKind.max, IntKind.signed, IntKind.bits] at hw
  omega

end Go.Proofs.Ytfiacojgddpphaa
