/-
  Tokens in a slice of the call's own, and append to it; whether they end with an operand; the error of a code and a place. No condition.
-/
import Derived.Test.YtkpgbcackphdbaaDoorQI
import Derived.Test.YtkpgbcackphdbaaDoorMAt
namespace Go.Proofs.YtkpgbcackphdbaaDoor
open Go.RowKit Go.Lib Go.Joins

/-- The cells of tokens. -/
def flatT3 : List Tk → List Value
  | [] => []
  | x :: t => .int .i64 x.kind :: .int .i64 (x.spot : Int) :: .string (strB x.text) :: flatT3 t
theorem flatT3_app : ∀ l m : List Tk, flatT3 (l ++ m) = flatT3 l ++ flatT3 m
  | [], _ => rfl
  | x :: t, m => by rw [List.cons_append, flatT3, flatT3, flatT3_app t m]; rfl
theorem flatT3_len : ∀ l : List Tk, (flatT3 l).length = l.length * 3
  | [] => rfl
  | x :: t => by rw [flatT3, List.length_cons, List.length_cons, List.length_cons, flatT3_len t, List.length_cons]; omega
theorem flatT3_at : ∀ {l : List Tk} {i : Nat} {x : Tk}, l[i]? = some x → (flatT3 l)[i * 3]? = some (.int .i64 x.kind) ∧ (flatT3 l)[i * 3 + 1]? = some (.int .i64 (x.spot : Int)) ∧ (flatT3 l)[i * 3 + 2]? = some (.string (strB x.text))
  | [], _, _, h => by simp at h
  | y :: t, 0, x, h => by
    obtain rfl : y = x := by simpa using h
    exact ⟨rfl, rfl, rfl⟩
  | y :: t, i + 1, x, h => by
    rw [List.getElem?_cons_succ] at h
    obtain ⟨h1, h2, h3⟩ := flatT3_at h
    rw [show (i + 1) * 3 = i * 3 + 1 + 1 + 1 by omega]
    exact ⟨h1, h2, h3⟩
theorem flatT3_one : ∀ {l : List Tk} {u : Value}, u ∈ flatT3 l → u.oneCell' = true
  | [], _, h => by cases h
  | x :: t, u, h => by
    rw [flatT3] at h
    rcases List.mem_cons.1 h with rfl | h
    · rfl
    · rcases List.mem_cons.1 h with rfl | h
      · rfl
      · rcases List.mem_cons.1 h with rfl | h
        · rfl
        · exact flatT3_one h
theorem infoT : (Tryd.prog.info? 31).map (fun i => (i.zero, i.size, i.bytes)) = some (some (.agg #[.int .i64 0, .int .i64 0, .string ⟨#[]⟩]), 3, 32) := by kernel_rfl

/-- A slice that leads to tokens. -/
def TkIn (w : World) (v : Value) (l : List Tk) : Prop :=
  ∃ a c, v = .slice a l.length c ∧ l.length ≤ c ∧ c ≤ maxLen ∧ (l = [] ∨ ∃ b o, a = some ⟨b, o, none⟩ ∧ ∀ i x, l[i]? = some x → w.cell? ⟨b, o + i * 3, none⟩ = some (.int .i64 x.kind) ∧ w.cell? ⟨b, o + i * 3 + 1, none⟩ = some (.int .i64 (x.spot : Int)) ∧ w.cell? ⟨b, o + i * 3 + 2, none⟩ = some (.string (strB x.text)))
theorem TkIn.form {w : World} {v : Value} {l : List Tk} (h : TkIn w v l) : ∃ a c, v = .slice a l.length c ∧ l.length ≤ c ∧ c ≤ maxLen := by
  obtain ⟨a, c, h1, h2, h3, _⟩ := h
  exact ⟨a, c, h1, h2, h3⟩
theorem TkIn.below {w w' : World} {v : Value} {l : List Tk} (h : TkIn w v l) (hb : Below w.heap.size w w') : TkIn w' v l := by
  obtain ⟨a, c, h1, h2, h3, h4⟩ := h
  refine ⟨a, c, h1, h2, h3, ?_⟩
  rcases h4 with h4 | ⟨b, o, h5, h6⟩
  · exact .inl h4
  · exact .inr ⟨b, o, h5, fun i x hx => ⟨cell_below hb (h6 i x hx).1, cell_below hb (h6 i x hx).2.1, cell_below hb (h6 i x hx).2.2⟩⟩
theorem TkIn.at {w : World} {a : Option Addr} {n c : Nat} {l : List Tk} (h : TkIn w (.slice a n c) l) {i : Nat} {x : Tk} (hx : l[i]? = some x) : ∃ b o, a = some ⟨b, o, none⟩ ∧ w.cell? ⟨b, o + i * 3, none⟩ = some (.int .i64 x.kind) ∧ w.cell? ⟨b, o + i * 3 + 1, none⟩ = some (.int .i64 (x.spot : Int)) ∧ w.cell? ⟨b, o + i * 3 + 2, none⟩ = some (.string (strB x.text)) := by
  obtain ⟨a', c', h1, _, _, h4⟩ := h
  injection h1 with h1 _ _
  subst h1
  rcases h4 with h4 | ⟨b, o, h5, h6⟩
  · rw [h4] at hx; simp at hx
  · exact ⟨b, o, h5, h6 i x hx⟩
/-- Tokens in a slice that was made since n0. -/
structure OwnQ (n0 : Nat) (w : World) (v : Value) (l : List Tk) : Prop where
  row : w.ownsRow 0 31 3 v l.length (flatT3 l)
  new : ∀ k, v.ownBlock = some k → n0 ≤ k
theorem OwnQ.nil (n0 : Nat) (w : World) : OwnQ n0 w (.slice none 0 0) [] := ⟨World.ownsRow_nil _ _ _ _, (fun k e => by cases e)⟩
theorem OwnQ.keep {n0 : Nat} {w w' : World} {O : Nat → Prop} {v : Value} {l : List Tk} (h : OwnQ n0 w v l) (hk : Keeps O w w') (hO : ∀ k, n0 ≤ k → ¬ O k) : OwnQ n0 w' v l :=
  ⟨ownsRow_keep h.row hk (fun k e => hO k (h.new k e)), h.new⟩
theorem OwnQ.below {n0 : Nat} {w w' : World} {v : Value} {l : List Tk} (h : OwnQ n0 w v l) (hb : Below w.heap.size w w') : OwnQ n0 w' v l := h.keep (keeps_below hb Non) (fun _ _ e => e)
theorem OwnQ.in {n0 : Nat} {w : World} {v : Value} {l : List Tk} (h : OwnQ n0 w v l) : TkIn w v l := by
  rcases h.row.2 with ⟨h1, h0⟩ | ⟨g, cap, cur, h1, hg, hgb, hcap, hcm, hcur, htk⟩
  · exact ⟨none, 0, by rw [h1, h0], by rw [h0]; exact Nat.zero_le _, Nat.zero_le _, .inl (List.length_eq_zero_iff.1 h0)⟩
  · refine ⟨_, cap, h1, hcap, hcm, .inr ⟨g, 0, rfl, fun i x hx => ?_⟩⟩
    have hc := h.row.cells (g := g) (by rw [h1]; rfl)
    obtain ⟨x1, x2, x3⟩ := flatT3_at hx
    have y1 := hc _ _ x1
    have y2 := hc _ _ x2
    have y3 := hc _ _ x3
    rw [Addr.add_mid] at y1 y2 y3
    exact ⟨y1, by rw [Nat.add_assoc]; exact y2, by rw [Nat.add_assoc]; exact y3⟩
theorem OwnQ.form {n0 : Nat} {w : World} {v : Value} {l : List Tk} (h : OwnQ n0 w v l) : ∃ a c, v = .slice a l.length c := by
  obtain ⟨a, c, h1, _⟩ := h.in.form
  exact ⟨a, c, h1⟩
/-- One more token, laid out in a literal. -/
theorem OwnQ.append {n0 : Nat} {w : World} {v : Value} {l : List Tk} (h : OwnQ n0 w v l) (x : Tk) (hn : n0 ≤ w.heap.size) (hs : l.length ≤ 1000000) :
    ∃ v' w', (∀ ty, (Builtin.append_ #[23, 23] ty #[v, .slice (some ⟨w.heap.size, 0, none⟩) 1 1]).run Tryd.prog (w.alloc (.cells #[.int .i64 x.kind, .int .i64 (x.spot : Int), .string (strB x.text)] 31)) = .ok v' w') ∧ OwnQ n0 w' v' (l ++ [x]) ∧ Keeps (fun k => v.ownBlock = some k) w w' := by
  obtain ⟨v', w', h1, h2, h3, h4⟩ := append_any (w := w.alloc (.cells #[.int .i64 x.kind, .int .i64 (x.spot : Int), .string (strB x.text)] 31)) Tryd.underlying23 infoT rfl (by decide) (h.row.alloc _) (b := ⟨w.heap.size, 0, none⟩) (m := 1) (c := 1) (news := flatT3 [x]) rfl (newA_cells w (flatT3 [x]) _)
    (fun u hu => flatT3_one hu) (by unfold maxLen; omega) (by omega)
  have hkk : Keeps (fun k => v.ownBlock = some k) w w' := ((Keeps.refl _ w).alloc _).grown h3 (fun k e => .inl e)
  refine ⟨v', w', h1, ⟨by rw [List.length_append, flatT3_app]; exact h2, fun k e => ?_⟩, hkk⟩
  rcases h4 k e with h5 | h5
  · exact h.new k h5
  · simp at h5; omega

/-- What fail leaves. -/
def FailOut (c n : Int) (w : World) (e : Ending) (w' : World) : Prop := ∃ v, e = .returned v ∧ ErrAt w.heap.size w' c n v ∧ Below w.heap.size w w'
set_option maxRecDepth 100000 in
set_option maxHeartbeats 2000000 in
theorem fail_calls (c n : Int) (w : World) (hc : (c == 0) = false) : Calls Tryd.prog 12 #[.int .i64 c, .int .i64 n] w (FailOut c n w) := by
  have h1 := Lib.hid (new_code c n w hc)
  have h2 := Lib.hid (wrap_some segS 47 (.agg #[.int .i64 c, .int .i64 n]) w)
  have hseg : segS = ⟨#[113, 117, 101, 114, 121]⟩ := rfl
  have hne : c ≠ 0 := by intro e; rw [e] at hc; cases hc
  have HNE := Lib.hid hne
  rw [hseg] at h2
  clear hc hne hseg
  go_enter Tryd.func12, Tryd.ntmps12
  go_wp2_with fail
  with_reducible refine h1.out.mono ?_
  rintro e w1 ⟨rfl, rfl⟩
  unfold plainV
  go_wp2_with fail
  with_reducible refine h2.out.mono ?_
  rintro e w2 ⟨rfl, rfl⟩
  go_wp2
  go_ret
  exact ⟨_, rfl, .inr ⟨HNE.out, w.heap.size, rfl, (cell_of_block (heap_alloc_new _ _) 0).trans rfl, (cell_of_block (heap_alloc_new _ _) 1).trans rfl, Nat.le_refl _⟩, (Below.refl _ _).alloc (Nat.le_refl _) _⟩

theorem last_at (l : List Tk) (x : Tk) : (l ++ [x])[l.length]? = some x := by simp
set_option maxRecDepth 100000 in
set_option maxHeartbeats 4000000 in
theorem operand_calls {w : World} {v : Value} {l : List Tk} (h : TkIn w v l) (hl : l.length ≤ 1000000) : Calls Tryd.prog 16 #[v] w (Leaves (.bool (behindQ l)) w) := by
  obtain ⟨a, c, rfl, hc, hcm⟩ := h.form
  rcases List.eq_nil_or_concat l with rfl | ⟨i, x, hix⟩
  · clear h hc
    go_enter Tryd.func16, Tryd.ntmps16
    go_wp2_with fail
    go_ret
    exact ⟨rfl, Below.refl _ _⟩
  · rw [List.concat_eq_append] at hix
    subst hix
    rw [behind_snoc]
    obtain ⟨b, o, rfl, y1, y2, y3⟩ := h.at (last_at i x)
    rw [List.length_append, List.length_singleton] at hc hl ⊢
    obtain ⟨k, hk⟩ : ∃ k, i.length = k := ⟨_, rfl⟩
    rw [hk] at y1 y2 y3 hc hl ⊢
    obtain ⟨n, hn⟩ : ∃ n, k + 1 = n := ⟨_, rfl⟩
    rw [hn] at hc hl ⊢
    have hxl : (strB x.text).toList = x.text := by rw [Go.Lib.toList_data, strB_list]
    have hsub : IntKind.i64.wrap ((n : Int) - 1) = (k : Int) := by rw [IntWalk.i64_in _ (by omega)]; omega
    have hn0 : ((n : Int) == 0) = false := by rw [beq_eq_false_iff_ne]; omega
    have hn1 : ¬ (n : Int) = 0 := by omega
    have hk0 : (0 : Int) ≤ (k : Int) := by omega
    have hkn : k < n := by omega
    have hkn2 : (k : Int) < (n : Int) := by omega
    have hkc : k < c := by omega
    obtain ⟨q, hq⟩ : ∃ q, lastQ (some x) = q := ⟨_, rfl⟩
    rw [hq]
    have HQ : Hid ((if x.kind = 5 then false else if x.kind = 6 then !opensQ.contains x.text else true) = q) := Lib.hid hq
    obtain ⟨K, hK⟩ : ∃ K, x.kind = K := ⟨_, rfl⟩
    obtain ⟨sp, hsp⟩ : ∃ K, (x.spot : Int) = K := ⟨_, rfl⟩
    obtain ⟨tx, htx⟩ : ∃ K, x.text = K := ⟨_, rfl⟩
    rw [hK] at y1 HQ
    rw [hsp] at y2
    rw [htx] at y3 hxl HQ
    obtain ⟨s, hs⟩ : ∃ s, strB tx = s := ⟨_, rfl⟩
    rw [hs] at y3 hxl
    clear h hk hn hq hK hsp htx hs hcm
    by_cases h5 : K = 5
    · subst h5
      obtain rfl : q = false := HQ.out.symm
      clear hxl
      go_enter Tryd.func16, Tryd.ntmps16
      go_wp2_with fail
      go_ret
      exact ⟨rfl, (Below.refl _ _).alloc (Nat.le_refl _) _⟩
    · have e5 : (K == 5) = false := beq_eq_false_iff_ne.2 h5
      rw [if_neg h5] at HQ
      by_cases h6 : K = 6
      · subst h6
        rw [if_pos rfl] at HQ
        have hop : opensQ.contains tx = (tx == [64] || (tx == [58, 58] || (tx == [40] || (tx == [91] || (tx == [44] || false))))) := by
          unfold opensQ
          simp only [List.contains_cons, List.contains_nil]
        rw [hop] at HQ
        clear hop h5 e5
        cases g1 : (tx == [64]) with
        | true =>
          rw [g1] at HQ
          have f1 : (s.toList == [64]) = true := by rw [hxl]; exact g1
          obtain rfl : q = false := HQ.out.symm
          clear hxl g1
          go_enter Tryd.func16, Tryd.ntmps16
          go_wp2_with fail
          go_ret
          exact ⟨rfl, (Below.refl _ _).alloc (Nat.le_refl _) _⟩
        | false =>
          have f1 : (s.toList == [64]) = false := by rw [hxl]; exact g1
          cases g2 : (tx == [58, 58]) with
          | true =>
            rw [g1, g2] at HQ
            have f2 : (s.toList == [58, 58]) = true := by rw [hxl]; exact g2
            obtain rfl : q = false := HQ.out.symm
            clear hxl g1 g2
            go_enter Tryd.func16, Tryd.ntmps16
            go_wp2_with fail
            go_ret
            exact ⟨rfl, (Below.refl _ _).alloc (Nat.le_refl _) _⟩
          | false =>
            have f2 : (s.toList == [58, 58]) = false := by rw [hxl]; exact g2
            cases g3 : (tx == [40]) with
            | true =>
              rw [g1, g2, g3] at HQ
              have f3 : (s.toList == [40]) = true := by rw [hxl]; exact g3
              obtain rfl : q = false := HQ.out.symm
              clear hxl g1 g2 g3
              go_enter Tryd.func16, Tryd.ntmps16
              go_wp2_with fail
              go_ret
              exact ⟨rfl, (Below.refl _ _).alloc (Nat.le_refl _) _⟩
            | false =>
              have f3 : (s.toList == [40]) = false := by rw [hxl]; exact g3
              cases g4 : (tx == [91]) with
              | true =>
                rw [g1, g2, g3, g4] at HQ
                have f4 : (s.toList == [91]) = true := by rw [hxl]; exact g4
                obtain rfl : q = false := HQ.out.symm
                clear hxl g1 g2 g3 g4
                go_enter Tryd.func16, Tryd.ntmps16
                go_wp2_with fail
                go_ret
                exact ⟨rfl, (Below.refl _ _).alloc (Nat.le_refl _) _⟩
              | false =>
                have f4 : (s.toList == [91]) = false := by rw [hxl]; exact g4
                cases g5 : (tx == [44]) with
                | true =>
                  rw [g1, g2, g3, g4, g5] at HQ
                  have f5 : (s.toList == [44]) = true := by rw [hxl]; exact g5
                  obtain rfl : q = false := HQ.out.symm
                  clear hxl g1 g2 g3 g4 g5
                  go_enter Tryd.func16, Tryd.ntmps16
                  go_wp2_with fail
                  go_ret
                  exact ⟨rfl, (Below.refl _ _).alloc (Nat.le_refl _) _⟩
                | false =>
                  have f5 : (s.toList == [44]) = false := by rw [hxl]; exact g5
                  rw [g1, g2, g3, g4, g5] at HQ
                  obtain rfl : q = true := HQ.out.symm
                  clear hxl g1 g2 g3 g4 g5
                  go_enter Tryd.func16, Tryd.ntmps16
                  go_wp2_with fail
                  go_ret
                  exact ⟨rfl, (Below.refl _ _).alloc (Nat.le_refl _) _⟩
      · have e6 : (K == 6) = false := beq_eq_false_iff_ne.2 h6
        rw [if_neg h6] at HQ
        obtain rfl : q = true := HQ.out.symm
        clear hxl
        go_enter Tryd.func16, Tryd.ntmps16
        go_wp2_with fail
        go_ret
        exact ⟨rfl, (Below.refl _ _).alloc (Nat.le_refl _) _⟩
end Go.Proofs.YtkpgbcackphdbaaDoor
