/-
  Rules and texts as arguments of the rows, read back: they lie in memory, none larger than what a process reaches. No condition.
-/
import Derived.Test.YtojpjhfafbdpcaaGreatDoorKM
import Derived.Test.YtojpjhfafbdpcaaGreatDoorKW
import Derived.Carry
import Derived.ChangeSlices
import Derived.Deep.Slices
import Derived.Deep.Fields
import Derived.Lib.SmallJoins
import Derived.SizedLaws
namespace Go.Proofs.YtojpjhfafbdpcaaGreatDoor
open Go.ChangeShapes Go.WideShapes Go.ChangeAt Go.RowKit Go.Deep Go.Joins

theorem list_of {α : Type} {P : Nat → α → Prop} : ∀ n, (∀ i, i < n → ∃ x, P i x) → ∃ l : List α, l.length = n ∧ ∀ i x, l[i]? = some x → P i x
  | 0, _ => ⟨[], rfl, fun i x h => by simp at h⟩
  | n + 1, h => by
    obtain ⟨l, hl, hp⟩ := list_of n (fun i hi => h i (by omega))
    obtain ⟨x, hx⟩ := h n (by omega)
    refine ⟨l ++ [x], by rw [List.length_append, hl]; rfl, fun i y hi => ?_⟩
    by_cases hlt : i < n
    · rw [List.getElem?_append_left (by omega)] at hi
      exact hp i y hi
    · rw [List.getElem?_append_right (by omega)] at hi
      have hi0 : i - l.length = 0 := by
        have := (List.getElem?_eq_some_iff.1 hi).1
        simp at this
        omega
      rw [hi0] at hi
      obtain rfl : x = y := by simpa using hi
      obtain rfl : i = n := by omega
      exact hx
variable {H : Type} {enc : TypeId × Value → H}

theorem weightsAll_mem {P : Program} {e : TypeId} : ∀ {l : List (DataW H)} {d : DataW H}, d ∈ l → ∀ n ∈ d.weights P e, n ∈ DataW.weightsAll P e l
  | x :: l, d, hd, n, hn => by
    unfold DataW.weightsAll
    rcases List.mem_cons.1 hd with rfl | hd
    · exact List.mem_append_left _ hn
    · exact List.mem_append_right _ (weightsAll_mem hd n hn)
theorem open_slice_fields {P : Program} {w : World} {base : Nat} {spare : Nat → Bool} {held : Bool} {t e : TypeId} {fs : Array Field} {fuel : Nat} {cs : List Value} {x : DataW H × List MemPlace} (ht : P.underlying t = some (.slice e)) (he : P.underlying e = some (.struct fs))
    (hone : oneCellFields P fs = true) (hC : P.cellsOf e = fs.size) (h : DataW.trod enc P w base spare held fuel t cs = some x) :
    (cs = [.slice none 0 0] ∧ x = (.nil, [])) ∨
    ∃ (a : Addr) (len cap m : Nat) (D : Nat → DataW H) (Pl : Nat → List MemPlace), cs = [.slice (some a) len cap] ∧ base ≤ a.block ∧ len ≤ cap ∧ cap ≤ maxLen ∧ m = (if spare a.block then cap else len) ∧
      x = (.slice ((List.range len).map D) ((List.range (m - len)).map fun j => D (len + j)), MemPlace.row a (m * fs.size) ++ (List.range m).flatMap Pl) ∧
      ∀ i, i < m → ∃ (ys : List (DataW H × List MemPlace)) (n : Nat), D i = .agg (ys.map (·.1)) ∧ Pl i = ys.flatMap (·.2) ∧ ys.length = fs.size ∧
        ∀ (j : Nat) (f : Field), fs[j]? = some f → ∃ (v : Value) (y : DataW H × List MemPlace), w.cell? (a.add (i * fs.size + j)) = some v ∧ ys[j]? = some y ∧ DataW.trod enc P w base spare held n f.type [v] = some y := by
  rcases open_slice ht h with h0 | ⟨a, len, cap, m, n, D, Pl, hcs, hb, hl, hm, hmm, hx, hi⟩
  · exact .inl h0
  · refine .inr ⟨a, len, cap, m, D, Pl, hcs, hb, hl, hm, hmm, by rw [hC] at hx; exact hx, fun i him => ?_⟩
    obtain ⟨cs', hc, ht'⟩ := hi i him
    rw [hC] at hc
    obtain ⟨ys, n', hn', hy, hlen, hyl, hf⟩ := DataW.trod_struct he ht'
    obtain ⟨_, hcl, hat⟩ := World.cells?_some hc
    simp only [Prod.mk.injEq] at hy
    refine ⟨ys, n', hy.1, hy.2, hyl, fun j f hj => ?_⟩
    obtain ⟨ho, hk⟩ := hone_of hone j f hj
    have hjl : j < fs.size := (Array.getElem?_eq_some_iff.1 hj).1
    have hcell := hat j hjl
    have hv : cs'[j]? = some (cs'[j]'(by omega)) := List.getElem?_eq_getElem (by omega)
    have h1 := hf j f hj
    rw [ho, hk] at h1
    have hone' : (cs'.drop j).take 1 = [cs'[j]'(by omega)] := by
      rw [List.drop_eq_getElem_cons (by omega)]
      rfl
    rw [hone'] at h1
    have hys : ys[j]? = some (ys[j]'(by omega)) := List.getElem?_eq_getElem (by omega)
    refine ⟨_, _, ?_, hys, h1.trans hys⟩
    rw [← Go.Deep.add_add, hcell, hv]

set_option maxRecDepth 100000 in
/-- A slice of texts, read. -/
theorem texts_of {W : World} {base : Nat} {spare : Nat → Bool} {held : Bool} {n : Nat} {v : Value} {y : DataW H × List MemPlace} (h : DataW.trod enc Tryz.prog W base spare held n 36 [v] = some y) :
    ∃ l, StrIn W Any v l ∧ ((∀ k ∈ y.1.weights Tryz.prog 36, k ≤ reachBytes) → l.length ≤ reachBytes ∧ ∀ x ∈ l, x.length ≤ reachBytes) := by
  have hC : Tryz.prog.cellsOf 9 = 1 := by kernel_rfl
  rcases open_slice Tryz.underlying36 h with ⟨hcs, _⟩ | ⟨x, len, cap, m, n, D, Pl, hcs, _, hl, hm, hmm, hx, hi⟩
  · simp at hcs
    subst hcs
    exact ⟨[], StrIn.nil W Any, fun _ => ⟨Nat.zero_le _, fun f hf => by cases hf⟩⟩
  · simp at hcs
    subst hcs
    have hml : len ≤ m := by rw [hmm]; split <;> omega
    have hcell : ∀ i, i < m → ∃ u, W.cell? (x.add i) = some u ∧ DataW.trod enc Tryz.prog W base spare held n 9 [u] = some (D i, Pl i) := fun i him => by
      obtain ⟨cs', hc, ht'⟩ := hi i him
      rw [hC, Nat.mul_one] at hc
      obtain ⟨_, hcl, hat⟩ := World.cells?_some hc
      have hc0 := hat 0 (by omega)
      have hv0 : cs' = [cs'[0]'(by omega)] := by
        match cs', hcl with
        | [z], _ => rfl
      refine ⟨cs'[0]'(by omega), ?_, by rw [← hv0]; exact ht'⟩
      rw [List.getElem?_eq_getElem (by omega)] at hc0
      simpa [Addr.add] using hc0
    by_cases h00 : len = 0
    · subst h00
      exact ⟨[], ⟨_, cap, rfl, Nat.zero_le _, hm, fun e => (by cases e), .inl rfl⟩, fun _ => ⟨Nat.zero_le _, fun f hf => by cases hf⟩⟩
    · obtain ⟨b, off, spot⟩ := x
      have hspot : spot = none := by
        obtain ⟨u0, c0, _⟩ := hcell 0 (by omega)
        simpa [Addr.add] using World.cell?_spot c0
      subst hspot
      obtain ⟨L, hL, hP⟩ := list_of (P := fun i (l : List UInt8) => W.cell? ⟨b, off + i, none⟩ = some (.string (strB l)) ∧ ((∀ k ∈ (D i).weights Tryz.prog 9, k ≤ reachBytes) → l.length ≤ reachBytes)) len (fun i hil => by
        obtain ⟨u0, c0, t0⟩ := hcell i (by omega)
        obtain ⟨s0, e0, x0, _⟩ := DataW.trod_string Tryz.underlying9 t0
        simp at e0
        subst e0
        rw [Addr.add_mid] at c0
        refine ⟨s0.data.toList, c0, fun hw => hw _ ?_⟩
        have hd : D i = .lit (.string s0.data.toList) := congrArg Prod.fst x0
        rw [hd, DataW.weights]
        exact List.mem_singleton.2 rfl)
      subst hx
      refine ⟨L, ⟨_, cap, by rw [hL], by rw [hL]; exact hl, hm, fun e => (by cases e), .inr ⟨b, off, rfl, trivial, fun i a ha => (hP i a ha).1⟩⟩, fun hw => ⟨?_, fun f hf => ?_⟩⟩
      · have := hw _ (by simp only [DataW.weights, Tryz.underlying36]; exact List.mem_cons_self ..)
        have hb24 : Tryz.prog.bytesOf 9 = 16 := by kernel_rfl
        rw [hb24] at this
        simp only [List.length_map, List.length_range] at this
        omega
      · obtain ⟨i, hif⟩ := List.mem_iff_getElem?.1 hf
        refine (hP i f hif).2 (fun k hk => hw k ?_)
        simp only [DataW.weights, Tryz.underlying36]
        refine List.mem_cons_of_mem _ (List.mem_append_left _ (weightsAll_mem (List.mem_map.2 ⟨i, List.mem_range.2 ?_, rfl⟩) k hk))
        have := (List.getElem?_eq_some_iff.1 hif).1
        omega

set_option maxRecDepth 100000 in
/-- A slice of rules, read. -/
theorem rules_of {W : World} {base : Nat} {spare : Nat → Bool} {held : Bool} {n : Nat} {v : Value} {y : DataW H × List MemPlace} (h : DataW.trod enc Tryz.prog W base spare held n 23 [v] = some y) :
    ∃ l, RlsIn W Any v l ∧ ((∀ k ∈ y.1.weights Tryz.prog 23, k ≤ reachBytes) → ∀ r ∈ l, RlBig r) := by
  rcases open_slice_fields Tryz.underlying23 Tryz.underlying38 (by kernel_rfl) (by kernel_rfl) h with ⟨hcs, _⟩ | ⟨x, len, cap, m, D, Pl, hcs, _, hl, hm, hmm, hx, hi⟩
  · simp at hcs
    subst hcs
    exact ⟨[], RlsIn.nil W Any, fun _ r hr => by cases hr⟩
  · simp at hcs
    subst hcs
    have hml : len ≤ m := by rw [hmm]; split <;> omega
    by_cases h00 : len = 0
    · subst h00
      exact ⟨[], ⟨_, cap, rfl, Nat.zero_le _, hm, fun e => (by cases e), .inl rfl⟩, fun _ r hr => by cases hr⟩
    · obtain ⟨b, off, spot⟩ := x
      have hspot : spot = none := by
        obtain ⟨ys, n, _, _, _, hfl⟩ := hi 0 (by omega)
        obtain ⟨v0, y0, c0, _⟩ := hfl 0 _ rfl
        simpa [Addr.add] using World.cell?_spot c0
      subst hspot
      obtain ⟨L, hL, hP⟩ := list_of (P := fun i (r : Rl) => (∃ pv kv, W.cell? ⟨b, off + i * 2, none⟩ = some pv ∧ W.cell? ⟨b, off + i * 2 + 1, none⟩ = some kv ∧ StrIn W Any pv r.path ∧ StrIn W Any kv r.keys) ∧ ((∀ k ∈ (D i).weights Tryz.prog 38, k ≤ reachBytes) → RlBig r)) len (fun i hil => by
        obtain ⟨ys, n, hD, _, hyl, hfl⟩ := hi i (by omega)
        obtain ⟨u0, y0, c0, k0, t0⟩ := hfl 0 _ rfl
        obtain ⟨u1, y1, c1, k1, t1⟩ := hfl 1 _ rfl
        obtain ⟨lp, hp, hpw⟩ := texts_of t0
        obtain ⟨lk, hk, hkw⟩ := texts_of t1
        rw [Addr.add_mid] at c0 c1
        obtain ⟨ya, yb, rfl⟩ : ∃ ya yb, ys = [ya, yb] := by
          match ys, hyl with
          | [ya, yb], _ => exact ⟨ya, yb, rfl⟩
        obtain rfl : ya = y0 := Option.some.inj k0
        obtain rfl : yb = y1 := Option.some.inj k1
        refine ⟨⟨lp, lk⟩, ⟨u0, u1, c0, by rw [Nat.add_assoc]; exact c1, hp, hk⟩, fun hw => ?_⟩
        have hDi : D i = .agg [ya.1, yb.1] := hD
        rw [hDi] at hw
        simp only [DataW.weights, Tryz.underlying38] at hw
        obtain ⟨g1, g2⟩ := hpw (fun k hk => hw k (DataW.weights_mem_each (j := 0) (t := 36) rfl rfl k hk))
        obtain ⟨g3, g4⟩ := hkw (fun k hk => hw k (DataW.weights_mem_each (j := 1) (t := 36) rfl rfl k hk))
        have hrb : reachBytes ≤ 1152921504606846976 := by decide
        exact ⟨Nat.le_trans g1 hrb, Nat.le_trans g3 hrb, fun x hx => Nat.le_trans (g2 x hx) hrb, fun x hx => Nat.le_trans (g4 x hx) hrb⟩)
      subst hx
      refine ⟨L, ⟨_, cap, by rw [hL], by rw [hL]; exact hl, hm, fun e => (by cases e), .inr ⟨b, off, rfl, trivial, fun i a ha => (hP i a ha).1⟩⟩, fun hw r hr => ?_⟩
      obtain ⟨i, hif⟩ := List.mem_iff_getElem?.1 hr
      refine (hP i r hif).2 (fun k hk => hw k ?_)
      simp only [DataW.weights, Tryz.underlying23]
      refine List.mem_cons_of_mem _ (List.mem_append_left _ (weightsAll_mem (List.mem_map.2 ⟨i, List.mem_range.2 ?_, rfl⟩) k hk))
      have := (List.getElem?_eq_some_iff.1 hif).1
      omega
theorem arg_below {W : World} {base : Nat} {spare : Nat → Bool} {held : Bool} {t : TypeId} {v : Value} {d : DataW H} {p : List MemPlace} (h : DataW.Trod enc Tryz.prog W base spare held t v d p) : ∀ x ∈ p, x.block < W.heap.size := by
  obtain ⟨m, hm⟩ := h
  exact DataW.trod_lt m _ _ _ hm
set_option maxRecDepth 100000 in
theorem rules_arg {W : World} {base b0 : Nat} {spare : Nat → Bool} {held : Bool} {v : Value} {d : DataW H} {p : List MemPlace} (hv : Value.okWide Tryz.prog W .any b0 23 v) (h0 : DataW.Trod enc Tryz.prog W base spare held 23 v d p) :
    ∃ l, RlsIn W Any v l ∧ ((∀ k ∈ d.weights Tryz.prog 23, k ≤ reachBytes) → ∀ r ∈ l, RlBig r) := by
  obtain ⟨a0, len0, cap0, rfl⟩ := okWide_slice Tryz.underlying23 hv
  obtain ⟨fuel, hf⟩ := h0
  exact rules_of hf
set_option maxRecDepth 100000 in
theorem texts_arg {W : World} {base b0 : Nat} {spare : Nat → Bool} {held : Bool} {v : Value} {d : DataW H} {p : List MemPlace} (hv : Value.okWide Tryz.prog W .any b0 36 v) (h0 : DataW.Trod enc Tryz.prog W base spare held 36 v d p) :
    ∃ l, StrIn W Any v l ∧ ((∀ k ∈ d.weights Tryz.prog 36, k ≤ reachBytes) → l.length ≤ reachBytes ∧ ∀ x ∈ l, x.length ≤ reachBytes) := by
  obtain ⟨a0, len0, cap0, rfl⟩ := okWide_slice Tryz.underlying36 hv
  obtain ⟨fuel, hf⟩ := h0
  exact texts_of hf

end Go.Proofs.YtojpjhfafbdpcaaGreatDoor
