/-
  Texts and rules in memory; whether two rows of texts are the same, told by slices.Equal and by the reference. Condition: the slices lead to what they are said to.
-/
import Derived.Test.YtojpjhfafbdpcaaGreatDoorKK
import Derived.Test.YtojpjhfafbdpcaaGreatDoorKP
import Derived.Test.YtojpjhfafbdpcaaGreatDoorEnc2
namespace Go.Proofs.YtojpjhfafbdpcaaGreatDoor
open Go.RowKit Go.Lib Go.Joins

theorem cell_keep {w w' : World} {O : Nat → Prop} {b o : Nat} {v : Value} (h : w.cell? ⟨b, o, none⟩ = some v) (hk : Keeps O w w') (hb : ¬ O b) : w'.cell? ⟨b, o, none⟩ = some v :=
  (World.cell?_of_block (w := w) (hk.block b (lt_of_cell h) hb)).trans h
/-- A slice of texts in memory, in blocks that S has. -/
def StrIn (w : World) (S : Nat → Prop) (v : Value) (l : List (List UInt8)) : Prop :=
  ∃ a c, v = .slice a l.length c ∧ l.length ≤ c ∧ c ≤ maxLen ∧ (a = none → c = 0) ∧ (l = [] ∨ ∃ b o, a = some ⟨b, o, none⟩ ∧ S b ∧ ∀ (i : Nat) (x : List UInt8), l[i]? = some x → w.cell? ⟨b, o + i, none⟩ = some (.string (strB x)))
def Any : Nat → Prop := fun _ => True
theorem StrIn.nil (w : World) (S : Nat → Prop) : StrIn w S (.slice none 0 0) [] := ⟨none, 0, rfl, Nat.le_refl _, Nat.zero_le _, fun _ => rfl, .inl rfl⟩
theorem StrIn.keep {w w' : World} {S S' O : Nat → Prop} {v : Value} {l : List (List UInt8)} (h : StrIn w S v l) (hk : Keeps O w w') (hS : ∀ k, k < w.heap.size → S k → ¬ O k) (hs : ∀ k, k < w.heap.size → S k → S' k) : StrIn w' S' v l := by
  obtain ⟨a, c, h1, h2, h3, h4, h5⟩ := h
  refine ⟨a, c, h1, h2, h3, h4, ?_⟩
  rcases h5 with h5 | ⟨b, o, h5, h6, h7⟩
  · exact .inl h5
  · cases l with
    | nil => exact .inl rfl
    | cons y t =>
      have hlt : b < w.heap.size := lt_of_cell (h7 0 y rfl)
      exact .inr ⟨b, o, h5, hs b hlt h6, fun i x hx => cell_keep (h7 i x hx) hk (hS b hlt h6)⟩
theorem StrIn.below {w w' : World} {S : Nat → Prop} {v : Value} {l : List (List UInt8)} (h : StrIn w S v l) (hb : Below w.heap.size w w') : StrIn w' S v l :=
  h.keep (keeps_below hb Non) (fun _ _ _ e => e) (fun _ _ e => e)
theorem StrIn.mono {w : World} {S S' : Nat → Prop} {v : Value} {l : List (List UInt8)} (h : StrIn w S v l) (hs : ∀ k, k < w.heap.size → S k → S' k) : StrIn w S' v l := h.keep (Keeps.refl Non w) (fun _ _ _ e => e) hs
theorem StrIn.any {w : World} {S : Nat → Prop} {v : Value} {l : List (List UInt8)} (h : StrIn w S v l) : StrIn w Any v l := h.mono (fun _ _ _ => trivial)
theorem StrIn.form {w : World} {S : Nat → Prop} {v : Value} {l : List (List UInt8)} (h : StrIn w S v l) : ∃ a c, v = .slice a l.length c ∧ l.length ≤ c ∧ c ≤ maxLen ∧ (a = none → c = 0) := by
  obtain ⟨a, c, h1, h2, h3, h4, _⟩ := h
  exact ⟨a, c, h1, h2, h3, h4⟩
theorem StrIn.at {w : World} {S : Nat → Prop} {a : Option Addr} {n c : Nat} {l : List (List UInt8)} (h : StrIn w S (.slice a n c) l) {i : Nat} {x : List UInt8} (hx : l[i]? = some x) : ∃ b o, a = some ⟨b, o, none⟩ ∧ w.cell? ⟨b, o + i, none⟩ = some (.string (strB x)) := by
  obtain ⟨a', c', h1, _, _, _, h5⟩ := h
  injection h1 with h1 _ _
  subst h1
  rcases h5 with rfl | ⟨b, o, h5, _, h7⟩
  · simp at hx
  · exact ⟨b, o, h5, h7 i x hx⟩
theorem StrIn.take {w : World} {S : Nat → Prop} {a : Option Addr} {n c k : Nat} {l : List (List UInt8)} (h : StrIn w S (.slice a n c) l) (hk : k ≤ n) : StrIn w S (.slice a k c) (l.take k) := by
  obtain ⟨a', c', h1, h2, h3, h4, h5⟩ := h
  injection h1 with h1 h1b h1c
  subst h1 h1b h1c
  refine ⟨a, c, by rw [List.length_take]; congr 1; omega, by rw [List.length_take]; omega, h3, h4, ?_⟩
  rcases h5 with rfl | ⟨b, o, h5, h6, h7⟩
  · exact .inl (by simp)
  · refine .inr ⟨b, o, h5, h6, fun i x hx => h7 i x ?_⟩
    rw [List.getElem?_take] at hx
    split at hx
    · exact hx
    · cases hx

/-- A slice of rules in memory, in blocks that S has. -/
def RlsIn (w : World) (S : Nat → Prop) (v : Value) (l : List Rl) : Prop :=
  ∃ a c, v = .slice a l.length c ∧ l.length ≤ c ∧ c ≤ maxLen ∧ (a = none → c = 0) ∧ (l = [] ∨ ∃ b o, a = some ⟨b, o, none⟩ ∧ S b ∧ ∀ (i : Nat) (x : Rl), l[i]? = some x → ∃ pv kv, w.cell? ⟨b, o + i * 2, none⟩ = some pv ∧ w.cell? ⟨b, o + i * 2 + 1, none⟩ = some kv ∧ StrIn w S pv x.path ∧ StrIn w S kv x.keys)
theorem RlsIn.nil (w : World) (S : Nat → Prop) : RlsIn w S (.slice none 0 0) [] := ⟨none, 0, rfl, Nat.le_refl _, Nat.zero_le _, fun _ => rfl, .inl rfl⟩
theorem RlsIn.keep {w w' : World} {S S' O : Nat → Prop} {v : Value} {l : List Rl} (h : RlsIn w S v l) (hk : Keeps O w w') (hS : ∀ k, k < w.heap.size → S k → ¬ O k) (hs : ∀ k, k < w.heap.size → S k → S' k) : RlsIn w' S' v l := by
  obtain ⟨a, c, h1, h2, h3, h4, h5⟩ := h
  refine ⟨a, c, h1, h2, h3, h4, ?_⟩
  rcases h5 with h5 | ⟨b, o, h5, h6, h7⟩
  · exact .inl h5
  · cases l with
    | nil => exact .inl rfl
    | cons y t =>
      obtain ⟨_, _, y1, _⟩ := h7 0 y rfl
      have hlt : b < w.heap.size := lt_of_cell y1
      refine .inr ⟨b, o, h5, hs b hlt h6, fun i x hx => ?_⟩
      obtain ⟨pv, kv, q1, q2, q3, q4⟩ := h7 i x hx
      exact ⟨pv, kv, cell_keep q1 hk (hS b hlt h6), cell_keep q2 hk (hS b hlt h6), q3.keep hk hS hs, q4.keep hk hS hs⟩
theorem RlsIn.below {w w' : World} {S : Nat → Prop} {v : Value} {l : List Rl} (h : RlsIn w S v l) (hb : Below w.heap.size w w') : RlsIn w' S v l :=
  h.keep (keeps_below hb Non) (fun _ _ _ e => e) (fun _ _ e => e)
theorem RlsIn.mono {w : World} {S S' : Nat → Prop} {v : Value} {l : List Rl} (h : RlsIn w S v l) (hs : ∀ k, k < w.heap.size → S k → S' k) : RlsIn w S' v l := h.keep (Keeps.refl Non w) (fun _ _ _ e => e) hs
theorem RlsIn.any {w : World} {S : Nat → Prop} {v : Value} {l : List Rl} (h : RlsIn w S v l) : RlsIn w Any v l := h.mono (fun _ _ _ => trivial)
theorem RlsIn.form {w : World} {S : Nat → Prop} {v : Value} {l : List Rl} (h : RlsIn w S v l) : ∃ a c, v = .slice a l.length c ∧ l.length ≤ c ∧ c ≤ maxLen ∧ (a = none → c = 0) := by
  obtain ⟨a, c, h1, h2, h3, h4, _⟩ := h
  exact ⟨a, c, h1, h2, h3, h4⟩
theorem RlsIn.at {w : World} {S : Nat → Prop} {a : Option Addr} {n c : Nat} {l : List Rl} (h : RlsIn w S (.slice a n c) l) {i : Nat} {x : Rl} (hx : l[i]? = some x) : ∃ b o pv kv, a = some ⟨b, o, none⟩ ∧ w.cell? ⟨b, o + i * 2, none⟩ = some pv ∧ w.cell? ⟨b, o + i * 2 + 1, none⟩ = some kv ∧ StrIn w S pv x.path ∧ StrIn w S kv x.keys := by
  obtain ⟨a', c', h1, _, _, _, h5⟩ := h
  injection h1 with h1 _ _
  subst h1
  rcases h5 with rfl | ⟨b, o, h5, _, h7⟩
  · simp at hx
  · obtain ⟨pv, kv, h8⟩ := h7 i x hx
    exact ⟨b, o, pv, kv, h5, h8⟩
theorem RlsIn.take {w : World} {S : Nat → Prop} {a : Option Addr} {n c k : Nat} {l : List Rl} (h : RlsIn w S (.slice a n c) l) (hk : k ≤ n) : RlsIn w S (.slice a k c) (l.take k) := by
  obtain ⟨a', c', h1, h2, h3, h4, h5⟩ := h
  injection h1 with h1 h1b h1c
  subst h1 h1b h1c
  refine ⟨a, c, by rw [List.length_take]; congr 1; omega, by rw [List.length_take]; omega, h3, h4, ?_⟩
  rcases h5 with rfl | ⟨b, o, h5, h6, h7⟩
  · exact .inl (by simp)
  · refine .inr ⟨b, o, h5, h6, fun i x hx => h7 i x ?_⟩
    rw [List.getElem?_take] at hx
    split at hx
    · exact hx
    · cases hx

/-- Two rows of texts, told to be the same or not. -/
def sameS (l1 l2 : List (List UInt8)) : Bool := decide (l1 = l2)
theorem sameS_beq (l1 l2 : List (List UInt8)) : sameS l1 l2 = (l1 == l2) := by
  unfold sameS
  by_cases h : l1 = l2
  · subst h
    simp
  · rw [decide_eq_false h]
    exact (beq_eq_false_iff_ne.2 h).symm

set_option maxRecDepth 100000 in
set_option maxHeartbeats 2000000 in
theorem eqS_calls {w : World} {S1 S2 : Nat → Prop} {v1 v2 : Value} {l1 l2 : List (List UInt8)} (h1 : StrIn w S1 v1 l1) (h2 : StrIn w S2 v2 l2) : Calls Tryz.prog 44 #[v1, v2] w (Leaves (.bool (sameS l1 l2)) w) := by
  obtain ⟨a1, c1, rfl, hc1, hm1, hn1, hr1⟩ := h1
  obtain ⟨a2, c2, rfl, hc2, hm2, hn2, hr2⟩ := h2
  obtain ⟨Q, hQ⟩ : ∃ Q, sameS l1 l2 = Q := ⟨_, rfl⟩
  rw [hQ]
  unfold sameS at hQ
  obtain ⟨n1, hl1⟩ : ∃ n, l1.length = n := ⟨_, rfl⟩
  obtain ⟨n2, hl2⟩ : ∃ n, l2.length = n := ⟨_, rfl⟩
  rw [hl1, hl2]
  by_cases hne : n1 = n2
  · subst hne
    have HQ : Hid (Q = decide (l1.drop 0 = l2.drop 0)) := Lib.hid (by rw [List.drop_zero, List.drop_zero]; exact hQ.symm)
    have H1 := Lib.hid hr1
    have H2 := Lib.hid hr2
    have HL1 := Lib.hid hl1
    have HL2 := Lib.hid hl2
    have hne2 : ((n1 : Int) != (n1 : Int)) = false := by simp
    have HMX : Hid (n1 ≤ maxLen) := Lib.hid (by omega)
    clear hQ hr1 hr2 hl1 hl2 hc1 hc2 hm1 hm2 hn1 hn2
    go_enter Tryz.func44, Tryz.ntmps44
    go_wp2_with fail
    go_loopg [13] n1 (fun g s wr => ∃ i : Nat, s = .int .i64 (i : Int) ∧ g + i = n1 ∧ Q = decide (l1.drop i = l2.drop i) ∧ Below w.heap.size w wr)
    case atStart => exact ⟨0, rfl, rfl, HQ.out, Below.refl _ _⟩
    case round =>
      obtain ⟨i, rfl, hg, hq, hb⟩ := hrel
      have HQ2 := Lib.hid hq
      have HB := Lib.hid hb
      clear hq hb HQ
      cases gk with
      | zero =>
        obtain rfl : i = n1 := by omega
        have hge : ¬ ((i : Int) < (i : Int)) := by omega
        have HF : Hid (Q = true) := Lib.hid (by rw [HQ2.out, List.drop_eq_nil_of_le (by have := HL1.out; omega), List.drop_eq_nil_of_le (by have := HL2.out; omega)]; rfl)
        go_wp2_with fail
        go_ret
        exact ⟨by rw [HF.out]; rfl, HB.out⟩
      | succ g =>
        have hlt : (i : Int) < (n1 : Int) := by omega
        have hi0 : (0 : Int) ≤ (i : Int) := by omega
        obtain ⟨x1, hx1⟩ : ∃ x, l1[i]? = some x := ⟨_, List.getElem?_eq_getElem (by have := HL1.out; omega)⟩
        obtain ⟨x2, hx2⟩ : ∃ x, l2[i]? = some x := ⟨_, List.getElem?_eq_getElem (by have := HL2.out; omega)⟩
        have hd1 : l1.drop i = x1 :: l1.drop (i + 1) := by
          rw [List.drop_eq_getElem_cons (by have := HL1.out; omega)]
          rw [List.getElem?_eq_getElem (by have := HL1.out; omega)] at hx1
          rw [Option.some.inj hx1]
        have hd2 : l2.drop i = x2 :: l2.drop (i + 1) := by
          rw [List.drop_eq_getElem_cons (by have := HL2.out; omega)]
          rw [List.getElem?_eq_getElem (by have := HL2.out; omega)] at hx2
          rw [Option.some.inj hx2]
        rcases H1.out with h0 | ⟨b1, o1, rfl, _, hcell1⟩
        · rw [h0] at hx1; simp at hx1
        rcases H2.out with h0 | ⟨b2, o2, rfl, _, hcell2⟩
        · rw [h0] at hx2; simp at hx2
        have y1 := hcell1 i x1 hx1
        have z1 := hcell2 i x2 hx2
        replace y1 := (HB.out.cell (lt_of_cell y1)).trans y1
        replace z1 := (HB.out.cell (lt_of_cell z1)).trans z1
        obtain ⟨s1, hs1⟩ : ∃ s, strB x1 = s := ⟨_, rfl⟩
        obtain ⟨s2, hs2⟩ : ∃ s, strB x2 = s := ⟨_, rfl⟩
        rw [hs1] at y1
        rw [hs2] at z1
        clear hcell1 hcell2 hx1 hx2
        by_cases hs : s1 = s2
        · subst hs
          have hadd : IntKind.i64.wrap ((i : Int) + 1) = ((i + 1 : Nat) : Int) := IntWalk.i64_in _ (by have := HMX.out; unfold maxLen at this; omega)
          have HN : Hid (Q = decide (l1.drop (i + 1) = l2.drop (i + 1))) := Lib.hid (by
            have hx : x1 = x2 := strB_inj (hs1.trans hs2.symm)
            rw [HQ2.out, hd1, hd2, hx]
            simp only [List.cons.injEq, true_and])
          clear hs1 hs2 hd1 hd2 HQ2
          go_wp2_with fail
          go_quiet (fail)
          go_wp2_with fail
          go_roundg g
          case measure => omega
          case rel => exact ⟨i + 1, rfl, by omega, HN.out, below_drewNv HB.out _⟩
        · have HF : Hid (Q = false) := Lib.hid (by
            rw [HQ2.out, hd1, hd2, decide_eq_false_iff_not]
            intro h
            injection h with h _
            exact hs (by rw [← hs1, ← hs2, h]))
          have hse : (s1.toList == s2.toList) = false := bytes_ne hs
          have hse2 : (s1.toList != s2.toList) = true := by rw [bne, hse]; rfl
          clear hs1 hs2 hd1 hd2 HQ2 hs
          go_wp2_with fail
          go_quiet (fail)
          go_wp2_with fail
          go_ret
          exact ⟨by rw [HF.out]; rfl, below_drewNv HB.out _⟩
  · have HF : Hid (Q = false) := Lib.hid (by
      rw [← hQ, decide_eq_false_iff_not]
      intro h
      exact hne (by rw [← hl1, ← hl2, h]))
    have hne2 : ((n1 : Int) != (n2 : Int)) = true := by rw [bne_iff_ne]; omega
    clear hQ hr1 hr2 hl1 hl2 hc1 hc2 hm1 hm2 hn1 hn2 hne
    go_enter Tryz.func44, Tryz.ntmps44
    go_wp2_with fail
    go_ret
    exact ⟨by rw [HF.out]; rfl, Below.refl _ _⟩

set_option maxRecDepth 100000 in
set_option maxHeartbeats 2000000 in
theorem texts_calls {w : World} {S1 S2 : Nat → Prop} {v1 v2 : Value} {l1 l2 : List (List UInt8)} (h1 : StrIn w S1 v1 l1) (h2 : StrIn w S2 v2 l2) : Calls Tryz.prog 23 #[v1, v2] w (Leaves (.bool (sameS l1 l2)) w) := by
  obtain ⟨a1, c1, rfl, hc1, hm1, hn1, hr1⟩ := h1
  obtain ⟨a2, c2, rfl, hc2, hm2, hn2, hr2⟩ := h2
  obtain ⟨Q, hQ⟩ : ∃ Q, sameS l1 l2 = Q := ⟨_, rfl⟩
  rw [hQ]
  unfold sameS at hQ
  obtain ⟨n1, hl1⟩ : ∃ n, l1.length = n := ⟨_, rfl⟩
  obtain ⟨n2, hl2⟩ : ∃ n, l2.length = n := ⟨_, rfl⟩
  rw [hl1, hl2]
  by_cases hne : n1 = n2
  · subst hne
    have HQ : Hid (Q = decide (l1.drop 0 = l2.drop 0)) := Lib.hid (by rw [List.drop_zero, List.drop_zero]; exact hQ.symm)
    have H1 := Lib.hid hr1
    have H2 := Lib.hid hr2
    have HL1 := Lib.hid hl1
    have HL2 := Lib.hid hl2
    have hne2 : ((n1 : Int) != (n1 : Int)) = false := by simp
    have HMX : Hid (n1 ≤ maxLen) := Lib.hid (by omega)
    clear hQ hr1 hr2 hl1 hl2 hc1 hc2 hm1 hm2 hn1 hn2
    go_enter Tryz.func23, Tryz.ntmps23
    go_wp2_with fail
    go_loopg [5] n1 (fun g s wr => ∃ i : Nat, s = .int .i64 (i : Int) ∧ g + i = n1 ∧ Q = decide (l1.drop i = l2.drop i) ∧ Below w.heap.size w wr)
    case atStart => exact ⟨0, rfl, rfl, HQ.out, Below.refl _ _⟩
    case round =>
      obtain ⟨i, rfl, hg, hq, hb⟩ := hrel
      have HQ2 := Lib.hid hq
      have HB := Lib.hid hb
      clear hq hb HQ
      cases gk with
      | zero =>
        obtain rfl : i = n1 := by omega
        have hge : ¬ ((i : Int) < (i : Int)) := by omega
        have HF : Hid (Q = true) := Lib.hid (by rw [HQ2.out, List.drop_eq_nil_of_le (by have := HL1.out; omega), List.drop_eq_nil_of_le (by have := HL2.out; omega)]; rfl)
        go_wp2_with fail
        go_ret
        exact ⟨by rw [HF.out]; rfl, HB.out⟩
      | succ g =>
        have hlt : (i : Int) < (n1 : Int) := by omega
        have hi0 : (0 : Int) ≤ (i : Int) := by omega
        obtain ⟨x1, hx1⟩ : ∃ x, l1[i]? = some x := ⟨_, List.getElem?_eq_getElem (by have := HL1.out; omega)⟩
        obtain ⟨x2, hx2⟩ : ∃ x, l2[i]? = some x := ⟨_, List.getElem?_eq_getElem (by have := HL2.out; omega)⟩
        have hd1 : l1.drop i = x1 :: l1.drop (i + 1) := by
          rw [List.drop_eq_getElem_cons (by have := HL1.out; omega)]
          rw [List.getElem?_eq_getElem (by have := HL1.out; omega)] at hx1
          rw [Option.some.inj hx1]
        have hd2 : l2.drop i = x2 :: l2.drop (i + 1) := by
          rw [List.drop_eq_getElem_cons (by have := HL2.out; omega)]
          rw [List.getElem?_eq_getElem (by have := HL2.out; omega)] at hx2
          rw [Option.some.inj hx2]
        rcases H1.out with h0 | ⟨b1, o1, rfl, _, hcell1⟩
        · rw [h0] at hx1; simp at hx1
        rcases H2.out with h0 | ⟨b2, o2, rfl, _, hcell2⟩
        · rw [h0] at hx2; simp at hx2
        have y1 := hcell1 i x1 hx1
        have z1 := hcell2 i x2 hx2
        replace y1 := (HB.out.cell (lt_of_cell y1)).trans y1
        replace z1 := (HB.out.cell (lt_of_cell z1)).trans z1
        obtain ⟨s1, hs1⟩ : ∃ s, strB x1 = s := ⟨_, rfl⟩
        obtain ⟨s2, hs2⟩ : ∃ s, strB x2 = s := ⟨_, rfl⟩
        rw [hs1] at y1
        rw [hs2] at z1
        clear hcell1 hcell2 hx1 hx2
        by_cases hs : s1 = s2
        · subst hs
          have hadd : IntKind.i64.wrap ((i : Int) + 1) = ((i + 1 : Nat) : Int) := IntWalk.i64_in _ (by have := HMX.out; unfold maxLen at this; omega)
          have HN : Hid (Q = decide (l1.drop (i + 1) = l2.drop (i + 1))) := Lib.hid (by
            have hx : x1 = x2 := strB_inj (hs1.trans hs2.symm)
            rw [HQ2.out, hd1, hd2, hx]
            simp only [List.cons.injEq, true_and])
          clear hs1 hs2 hd1 hd2 HQ2
          go_wp2_with fail
          go_quiet (fail)
          go_wp2_with fail
          go_roundg g
          case measure => omega
          case rel => exact ⟨i + 1, rfl, by omega, HN.out, below_drewNv HB.out _⟩
        · have HF : Hid (Q = false) := Lib.hid (by
            rw [HQ2.out, hd1, hd2, decide_eq_false_iff_not]
            intro h
            injection h with h _
            exact hs (by rw [← hs1, ← hs2, h]))
          have hse : (s1.toList == s2.toList) = false := bytes_ne hs
          have hse2 : (s1.toList != s2.toList) = true := by rw [bne, hse]; rfl
          clear hs1 hs2 hd1 hd2 HQ2 hs
          go_wp2_with fail
          go_quiet (fail)
          go_wp2_with fail
          go_ret
          exact ⟨by rw [HF.out]; rfl, below_drewNv HB.out _⟩
  · have HF : Hid (Q = false) := Lib.hid (by
      rw [← hQ, decide_eq_false_iff_not]
      intro h
      exact hne (by rw [← hl1, ← hl2, h]))
    have hne2 : ((n1 : Int) != (n2 : Int)) = true := by rw [bne_iff_ne]; omega
    clear hQ hr1 hr2 hl1 hl2 hc1 hc2 hm1 hm2 hn1 hn2 hne
    go_enter Tryz.func23, Tryz.ntmps23
    go_wp2_with fail
    go_ret
    exact ⟨by rw [HF.out]; rfl, Below.refl _ _⟩

end Go.Proofs.YtojpjhfafbdpcaaGreatDoor
