/-
  A slice of slices of bytes; whether two rows of bytes are the same, whether two slices of such rows are; how many bytes they have together. Conditions: slices lead to what they are said to; they are no longer than 2 to the 30.
-/
import Derived.Test.YtjhiekijbcjohaaGreatDoorWordA
namespace Go.Proofs.YtjhiekijbcjohaaGreatDoor
open Go.RowKit Go.Lib

/-- These cells are slices of bytes, one behind the other. -/
structure RCells (w : World) (S : Nat → Prop) (cells : List Value) (L : List (List Nat)) : Prop where
  len : cells.length = L.length
  at_ : ∀ (i : Nat) (l : List Nat), L[i]? = some l → ∃ v, cells[i]? = some v ∧ Byt w S v l

theorem RCells.nil (w : World) (S : Nat → Prop) : RCells w S [] [] := ⟨rfl, fun i f h => by simp at h⟩
theorem RCells.keep {w w' : World} {S O : Nat → Prop} {cells : List Value} {L : List (List Nat)} (h : RCells w S cells L) (hb : Keeps O w w') (hO : ∀ k, S k → ¬ O k) : RCells w' S cells L :=
  ⟨h.len, fun i f hi => by obtain ⟨v, h1, h2⟩ := h.at_ i f hi; exact ⟨v, h1, h2.keep hb hO⟩⟩
theorem RCells.mono {w : World} {S S' : Nat → Prop} {cells : List Value} {L : List (List Nat)} (h : RCells w S cells L) (hS : ∀ k, S k → S' k) : RCells w S' cells L :=
  ⟨h.len, fun i f hi => by obtain ⟨v, h1, h2⟩ := h.at_ i f hi; exact ⟨v, h1, h2.mono hS⟩⟩
theorem RCells.app {w : World} {S : Nat → Prop} {cells cells' : List Value} {L L' : List (List Nat)} (h : RCells w S cells L) (h' : RCells w S cells' L') : RCells w S (cells ++ cells') (L ++ L') := by
  have hl := h.len
  refine ⟨by rw [List.length_append, List.length_append, h.len, h'.len], fun i f hi => ?_⟩
  by_cases hlt : i < L.length
  · rw [List.getElem?_append_left hlt] at hi
    rw [List.getElem?_append_left (by omega)]
    exact h.at_ i f hi
  · rw [List.getElem?_append_right (by omega)] at hi
    rw [List.getElem?_append_right (by omega), hl]
    exact h'.at_ _ f hi
theorem RCells.one {w : World} {S : Nat → Prop} {v : Value} {l : List Nat} (h : Byt w S v l) : RCells w S [v] [l] := by
  refine ⟨rfl, fun i g hi => ?_⟩
  cases i with
  | zero =>
    obtain rfl : l = g := by simpa using hi
    exact ⟨v, rfl, h⟩
  | succ k => simp at hi

/-- A slice leads to these rows of bytes, in blocks of S. -/
def Recs (w : World) (S : Nat → Prop) (a : Option Addr) (L : List (List Nat)) : Prop :=
  ∃ cells, RCells w S cells L ∧ (L = [] ∨ ∃ b o, a = some ⟨b, o, none⟩ ∧ S b ∧ ∀ j u, cells[j]? = some u → w.cell? ⟨b, o + j, none⟩ = some u)

theorem Recs.keep {w w' : World} {S O : Nat → Prop} {a : Option Addr} {L : List (List Nat)} (h : Recs w S a L) (hb : Keeps O w w') (hO : ∀ k, S k → ¬ O k) : Recs w' S a L := by
  obtain ⟨cells, h1, h2⟩ := h
  refine ⟨cells, h1.keep hb hO, ?_⟩
  rcases h2 with h2 | ⟨b, o, h2, h3, h4⟩
  · exact .inl h2
  · exact .inr ⟨b, o, h2, h3, fun j u hu => (World.cell?_of_block (a := ⟨b, o + j, none⟩) (hb.block b (lt_of_cell (h4 j u hu)) (hO b h3))).trans (h4 j u hu)⟩
theorem Recs.mono {w : World} {S S' : Nat → Prop} {a : Option Addr} {L : List (List Nat)} (h : Recs w S a L) (hS : ∀ k, S k → S' k) : Recs w S' a L := by
  obtain ⟨cells, h1, h2⟩ := h
  refine ⟨cells, h1.mono hS, ?_⟩
  rcases h2 with h2 | ⟨b, o, h2, h3, h4⟩
  · exact .inl h2
  · exact .inr ⟨b, o, h2, hS b h3, h4⟩
theorem Recs.below {w w' : World} {S : Nat → Prop} {a : Option Addr} {L : List (List Nat)} (h : Recs w S a L) (hb : Below w.heap.size w w') : Recs w' S a L := h.keep (keeps_below hb Non) (fun _ _ h => h)
theorem Recs.draws {w : World} {S : Nat → Prop} {a : Option Addr} {L : List (List Nat)} (h : Recs w S a L) (n : Nat) : Recs (w.drewN n) S a L := h.keep ((Keeps.refl Non _).drewN _) (fun _ _ h => h)
theorem Byt.below {w w' : World} {S : Nat → Prop} {v : Value} {l : List Nat} (h : Byt w S v l) (hb : Below w.heap.size w w') : Byt w' S v l := h.keep (keeps_below hb Non) (fun _ _ h => h)
/-- A row that is there. -/
theorem recs_at {w : World} {S : Nat → Prop} {a : Option Addr} {L : List (List Nat)} (h : Recs w S a L) {i : Nat} {l : List Nat} (hi : L[i]? = some l) :
    ∃ b o da dc, a = some ⟨b, o, none⟩ ∧ S b ∧ w.cell? ⟨b, o + i, none⟩ = some (.slice da l.length dc) ∧ Row w S da l ∧ (da = none → dc = 0) ∧ l.length ≤ dc ∧ dc ≤ maxLen := by
  obtain ⟨cells, h1, h2⟩ := h
  rcases h2 with h2 | ⟨b, o, h2, h3, h4⟩
  · rw [h2] at hi; simp at hi
  · obtain ⟨v, h5, ⟨⟨da, dc, rfl, h6, h7, h8, h9⟩⟩⟩ := h1.at_ i l hi
    exact ⟨b, o, da, dc, h2, h3, h4 i _ h5, h6, h7, h8, h9⟩
theorem recs_of_owns {w : World} {S : Nat → Prop} {base : Nat} {v : Value} {L : List (List Nat)} {cells : List Value} (hc : RCells w S cells L) (ho : w.ownsRow base 27 1 v L.length cells) (hS : ∀ k, v.ownBlock = some k → S k) :
    ∃ a c, v = .slice a L.length c ∧ Recs w S a L ∧ (a = none → c = 0) ∧ L.length ≤ c ∧ c ≤ maxLen := by
  rcases ho.2 with ⟨h1, h0⟩ | ⟨g, cap, cur, h1, hg, hgb, hcap, hcm, hcur, htk⟩
  · exact ⟨none, 0, by rw [h1, h0], ⟨cells, hc, .inl (List.length_eq_zero_iff.1 h0)⟩, fun _ => rfl, by omega, Nat.zero_le _⟩
  · refine ⟨_, cap, h1, ⟨cells, hc, .inr ⟨g, 0, rfl, hS g (by rw [h1]; rfl), fun j u hu => ?_⟩⟩, (fun e => by cases e), hcap, hcm⟩
    have := ho.cells (g := g) (by rw [h1]; rfl) j u hu
    rwa [Addr.add_mid] at this

/-- The same rows from a place on. -/
def eqRecs (L M : List (List Nat)) (i : Nat) : Bool := decide (L.drop i = M.drop i)
theorem eqRecs_step {L M : List (List Nat)} {i : Nat} {x y : List Nat} (hx : L[i]? = some x) (hy : M[i]? = some y) : eqRecs L M i = (decide (x = y) && eqRecs L M (i + 1)) := by
  obtain ⟨h1, rfl⟩ := List.getElem?_eq_some_iff.1 hx
  obtain ⟨h2, rfl⟩ := List.getElem?_eq_some_iff.1 hy
  unfold eqRecs
  rw [List.drop_eq_getElem_cons h1, List.drop_eq_getElem_cons h2, Bool.eq_iff_iff]
  simp only [List.cons.injEq, decide_eq_true_eq, Bool.and_eq_true]

set_option maxRecDepth 100000 in
set_option maxHeartbeats 4000000 in
theorem records_calls (a a' : Option Addr) (L M : List (List Nat)) (c c' n n' : Nat) (w : World) {S S' : Nat → Prop} (h : Recs w S a L) (h' : Recs w S' a' M) (hn : L.length = n) (hn' : M.length = n') (hb : n ≤ 1073741824) (hb' : n' ≤ 1073741824) (hd : ∀ f ∈ L, f.length ≤ 1073741824) (hd' : ∀ f ∈ M, f.length ≤ 1073741824) :
    Calls Tryz.prog 34 #[.slice a n c, .slice a' n' c'] w (Tells (.bool (decide (L = M))) w) := by
  by_cases hnn : n = n'
  · subst hnn
    have he : decide (L = M) = eqRecs L M 0 := rfl
    rw [he]
    obtain ⟨q, hq⟩ : ∃ q, eqRecs L M 0 = q := ⟨_, rfl⟩
    rw [hq]
    have HQ := Lib.hid hq
    have HR := Lib.hid h
    have HR' := Lib.hid h'
    have HN := Lib.hid hn
    have HN' := Lib.hid hn'
    have HD := Lib.hid hd
    have HD' := Lib.hid hd'
    clear h h' hn hn' he hq hd hd'
    go_enter Tryz.func34, Tryz.ntmps34
    go_wp2
    go_loopg [5] n (fun g idx wr => ∃ (i k : Nat), idx = .int .i64 (i : Int) ∧ g + i = n ∧ eqRecs L M i = q ∧ wr = w.drewN k)
    case atStart => exact ⟨0, 0, rfl, rfl, HQ.out, rfl⟩
    case round =>
      obtain ⟨i, k, rfl, hg, hq, rfl⟩ := hrel
      have HG := Lib.hid hg
      have HE := Lib.hid hq
      clear hg hq HQ
      by_cases hlt : i < n
      · obtain ⟨g', rfl⟩ : ∃ g', gk = g' + 1 := ⟨gk - 1, by have := HG.out; omega⟩
        have hdd : decide ((i : Int) < (n : Int)) = true := by simp; omega
        obtain ⟨x, hx⟩ : ∃ x, L[i]? = some x := ⟨L[i]'(by rw [HN.out]; exact hlt), List.getElem?_eq_getElem _⟩
        obtain ⟨y, hy⟩ : ∃ y, M[i]? = some y := ⟨M[i]'(by rw [HN'.out]; exact hlt), List.getElem?_eq_getElem _⟩
        have hst := eqRecs_step hx hy
        rw [HE.out] at hst
        obtain ⟨b, o, da, dc, rfl, _, r0, hrow, _⟩ := recs_at HR.out hx
        obtain ⟨b', o', da', dc', rfl, _, s0, hrow', _⟩ := recs_at HR'.out hy
        have HBY := Lib.hid (fun W (hW : Row W S da x) (hW' : Row W S' da' y) => bytes_calls da da' x y dc dc' x.length y.length W hW hW' rfl rfl (HD.out x (List.mem_of_getElem? hx)) (HD'.out y (List.mem_of_getElem? hy)))
        have HROW := Lib.hid hrow
        have HROW' := Lib.hid hrow'
        obtain ⟨bq, hbq⟩ : ∃ bq, decide (x = y) = bq := ⟨_, rfl⟩
        rw [hbq] at HBY hst
        have HST := Lib.hid hst
        clear hst hx hy hrow hrow' hbq
        cases bq with
        | true =>
          have HN2 : Hid (eqRecs L M (i + 1) = q) := Lib.hid (by have := HST.out; simp at this; exact this.symm)
          go_wp2
          go_quiet ((exact quiet_add (HBY.out _ (HROW.out.draws _) (HROW'.out.draws _))))
          go_wp2
          go_roundg g'
          case measure => omega
          case rel => exact ⟨i + 1, _, by go_num, by have := HG.out; omega, HN2.out, rfl⟩
        | false =>
          have HF : Hid (q = false) := Lib.hid (by rw [HST.out]; rfl)
          go_wp2
          go_quiet ((exact quiet_add (HBY.out _ (HROW.out.draws _) (HROW'.out.draws _))))
          go_wp2
          go_ret
          exact ⟨by rw [HF.out]; rfl, _, World.drewN_drewN w k nq⟩
      · have hdd : decide ((i : Int) < (n : Int)) = false := by simp; omega
        have HT : Hid (q = true) := Lib.hid (by
          rw [← HE.out]
          unfold eqRecs
          rw [List.drop_eq_nil_of_le (by rw [HN.out]; omega), List.drop_eq_nil_of_le (by rw [HN'.out]; omega)]
          rfl)
        go_wp2
        go_ret
        exact ⟨by rw [HT.out]; rfl, k, rfl⟩
  · have he : decide (L = M) = false := by
      simp only [decide_eq_false_iff_not]
      intro e
      rw [← hn, ← hn', e] at hnn
      exact hnn rfl
    rw [he]
    have hne : ((n : Int) != (n' : Int)) = true := by simp; omega
    clear h h' he hn hn' hd hd'
    go_enter Tryz.func34, Tryz.ntmps34
    go_wp2
    go_ret
    exact ⟨rfl, 0, rfl⟩

theorem tot_drop {L : List (List Nat)} {i : Nat} {f : List Nat} (hf : L[i]? = some f) : tot (L.drop i) = f.length + tot (L.drop (i + 1)) := by
  obtain ⟨h1, rfl⟩ := List.getElem?_eq_some_iff.1 hf
  rw [List.drop_eq_getElem_cons h1, tot_cons]

set_option maxRecDepth 100000 in
set_option maxHeartbeats 4000000 in
theorem total_calls (a : Option Addr) (L : List (List Nat)) (c n : Nat) (w : World) {S : Nat → Prop} (h : Recs w S a L) (hn : L.length = n) (hb : tot L ≤ 9223372036854775807) (hb2 : n ≤ 281474976710656) :
    Calls Tryz.prog 42 #[.slice a n c] w (Stays (.int .i64 (tot L : Nat)) w) := by
  obtain ⟨q, hq⟩ : ∃ q, tot L = q := ⟨_, rfl⟩
  rw [hq] at hb ⊢
  have HQ := Lib.hid hq
  have HR := Lib.hid h
  have HN := Lib.hid hn
  clear h hn hq
  go_enter Tryz.func42, Tryz.ntmps42
  go_wp2
  go_loopg [4, 3] n (fun g idx acc wr => ∃ (i m : Nat), idx = .int .i64 (i : Int) ∧ acc = .int .i64 (m : Int) ∧ g + i = n ∧ m + tot (L.drop i) = q ∧ wr = w)
  case atStart => exact ⟨0, 0, rfl, rfl, rfl, by rw [Nat.zero_add]; exact HQ.out, rfl⟩
  case round =>
    obtain ⟨i, m, rfl, rfl, hg, hm, rfl⟩ := hrel
    have HG := Lib.hid hg
    have HM := Lib.hid hm
    clear hg hm HQ
    by_cases hlt : i < n
    · obtain ⟨g', rfl⟩ : ∃ g', gk = g' + 1 := ⟨gk - 1, by have := HG.out; omega⟩
      have hdd : decide ((i : Int) < (n : Int)) = true := by simp; omega
      obtain ⟨f, hf⟩ : ∃ x, L[i]? = some x := ⟨L[i]'(by rw [HN.out]; exact hlt), List.getElem?_eq_getElem _⟩
      have HN2 : Hid (m + f.length + tot (L.drop (i + 1)) = q) := Lib.hid (by rw [← HM.out, tot_drop hf]; omega)
      obtain ⟨b, o, da, dc, rfl, _, r0, _⟩ := recs_at HR.out hf
      obtain ⟨z, hz⟩ : ∃ z, f.length = z := ⟨_, rfl⟩
      rw [hz] at r0 HN2
      have hz1 : (m : Int) + (z : Int) ≤ 9223372036854775807 := by have := HN2.out; omega
      clear hf hz HM
      go_wp2
      go_roundg g'
      case measure => omega
      case rel => exact ⟨i + 1, m + z, by go_num, by go_num, by have := HG.out; omega, HN2.out, rfl⟩
    · have hdd : decide ((i : Int) < (n : Int)) = false := by simp; omega
      have HT : Hid (m = q) := Lib.hid (by
        rw [← HM.out, List.drop_eq_nil_of_le (by rw [HN.out]; omega), tot_nil]; omega)
      go_wp2
      go_ret
      exact ⟨by rw [HT.out]; rfl, rfl⟩

end Go.Proofs.YtjhiekijbcjohaaGreatDoor
