/-
  append to a row of the call's own, of any element; a slice of files. Conditions: the row stays within the model's bounds.
-/
import Derived.Test.YtacfcfbleogioaaGreatDoorReads2
namespace Go.Proofs.YtacfcfbleogioaaGreatDoor
open Go.RowKit Go.Lib Go.Joins

theorem append_any {w : World} {t e size bytes : Nat} {z : Value} (ht : Tryz.prog.underlying t = some (.slice e)) (hinfo : (Tryz.prog.info? e).map (fun i => (i.zero, i.size, i.bytes)) = some (some z, size, bytes)) (hzs : z.cells.size = size) (hsz : 0 < size)
    {v : Value} {n : Nat} {xs : List Value} (hown : w.ownsRow 0 e size v n xs) {b : Addr} {m c : Nat} {news : List Value} (hl : news.length = m * size) (hnews : ∀ j u, news[j]? = some u → w.cell? (b.add j) = some u) (h1 : ∀ u ∈ news, u.oneCell' = true)
    (hmx : n + m ≤ maxLen) (hbytes : (n + m) * bytes ≤ 140737488355328) :
    ∃ v' w', (∀ ty, (Builtin.append_ #[t, t] ty #[v, .slice (some b) m c]).run Tryz.prog w = .ok v' w') ∧ w'.ownsRow 0 e size v' (n + m) (xs ++ news) ∧ w.grownBy w' v.ownBlock ∧ ∀ k, v'.ownBlock = some k → v.ownBlock = some k ∨ w.heap.size ≤ k := by
  obtain ⟨i5, hi5, hj50, hj51, hj52⟩ := info_parts hinfo
  obtain ⟨v', w', hrun, h2, h3, h4⟩ := run_append_own (P := Tryz.prog) w 0 t t e i5 z size bytes ht hi5 hj50 hj51 hj52 hzs hsz v n xs hown b m c news hl hnews h1 hmx hbytes (Nat.zero_le _)
  refine ⟨v', w', fun ty => ?_, h2, h3, ?_⟩
  · rw [← hrun]
    rfl
  · subst hj51
    have h63 : n + m ≤ 9223372036854775807 := by simp only [maxLen] at hmx; omega
    rcases hown.2 with ⟨rfl, rfl⟩ | ⟨g, cap, cur, rfl, hbg, hg, hnc, hcm, hcs, htake⟩
    · by_cases hm : m = 0
      · intro k hk
        have := h4.2 ⟨rfl, hm⟩
        rw [this] at hk
        cases hk
      · have hr2 := run_append_nil (P := Tryz.prog) w t t e i5 z ht hi5 hj50 b m c news hl hnews (by omega) (by omega) (by rw [hj52]; rw [Nat.zero_add] at hbytes; omega)
        rw [hr2] at hrun
        have e := (Result.ok.inj hrun).1
        intro k hk
        rw [← e] at hk
        have : w.heap.size = k := Option.some.inj hk
        exact .inr (by omega)
    · by_cases hroom : n + m ≤ cap
      · have hfit : n * i5.size + news.length ≤ cur.size := by rw [hl, hcs, ← Nat.add_mul]; exact Nat.mul_le_mul_right _ hroom
        have hr2 := run_append_room (P := Tryz.prog) w t t e i5 ht hi5 g n cap cur hg b m c news hl hnews h1 hroom hfit
        rw [hr2] at hrun
        have e := (Result.ok.inj hrun).1
        intro k hk
        rw [← e] at hk
        exact .inl hk
      · have holds : ∀ j u, xs[j]? = some u → w.cell? ((⟨g, 0, none⟩ : Addr).add j) = some u := hown.cells (g := g) rfl
        have hr2 := run_append_grow (P := Tryz.prog) w t t e i5 z ht hi5 hj50 ⟨g, 0, none⟩ n cap xs hown.1 holds b m c news hl hnews (by omega) (by omega) (growslice_fits (by omega) (by rw [hj52]; exact hbytes))
        rw [hr2] at hrun
        have e := (Result.ok.inj hrun).1
        intro k hk
        rw [← e] at hk
        have : w.heap.size = k := Option.some.inj hk
        exact .inr (by omega)

theorem append_any_none {w : World} {t e size : Nat} {z : Value} {bytes : Nat} (ht : Tryz.prog.underlying t = some (.slice e)) (hinfo : (Tryz.prog.info? e).map (fun i => (i.zero, i.size, i.bytes)) = some (some z, size, bytes))
    {v : Value} {n : Nat} {xs : List Value} (hown : w.ownsRow 0 e size v n xs) : ∀ ty, (Builtin.append_ #[t, t] ty #[v, .slice none 0 0]).run Tryz.prog w = .ok v w := by
  obtain ⟨i5, hi5, hj50, hj51, hj52⟩ := info_parts hinfo
  intro ty
  exact run_append_owned_none (P := Tryz.prog) (w := w) 0 t ty e i5 size ht hi5 v n xs hown

theorem info52 : (Tryz.prog.info? 63).map (fun i => (i.zero, i.size, i.bytes)) = some (some (.agg #[.string ⟨#[]⟩, .slice none 0 0, .int .i64 0]), 3, 48) := by kernel_rfl
theorem info92 : (Tryz.prog.info? 95).map (fun i => (i.zero, i.size, i.bytes)) = some (some (.agg #[.int .i64 0, .int .i64 0, .int .i64 0]), 3, 24) := by kernel_rfl

/-- A file as it may come in. -/
structure FilI where
  name : ByteArray
  data : List Nat
  safe : Int
def toI (f : Fil) : FilI := ⟨f.name, f.data, (f.safe : Int)⟩

theorem Byt.keep {w w' : World} {S O : Nat → Prop} {v : Value} {l : List Nat} (h : Byt w S v l) (hb : Keeps O w w') (hO : ∀ k, S k → ¬ O k) : Byt w' S v l := by
  obtain ⟨⟨a, c, h1, h2, h3⟩⟩ := h
  exact ⟨a, c, h1, h2.keep hb hO, h3⟩
theorem Byt.mono {w : World} {S S' : Nat → Prop} {v : Value} {l : List Nat} (h : Byt w S v l) (hS : ∀ k, S k → S' k) : Byt w S' v l := by
  obtain ⟨⟨a, c, h1, h2, h3⟩⟩ := h
  exact ⟨a, c, h1, h2.mono hS, h3⟩

/-- These cells are those of files, one behind the other. -/
structure FCells (w : World) (S : Nat → Prop) (cells : List Value) (L : List FilI) : Prop where
  len : cells.length = L.length * 3
  at_ : ∀ (i : Nat) (f : FilI), L[i]? = some f → cells[i * 3]? = some (.string f.name) ∧ (∃ dv, cells[i * 3 + 1]? = some dv ∧ Byt w S dv f.data) ∧ cells[i * 3 + 2]? = some (.int .i64 f.safe)

theorem FCells.nil (w : World) (S : Nat → Prop) : FCells w S [] [] := ⟨rfl, fun i f h => by simp at h⟩
theorem FCells.keep {w w' : World} {S O : Nat → Prop} {cells : List Value} {L : List FilI} (h : FCells w S cells L) (hb : Keeps O w w') (hO : ∀ k, S k → ¬ O k) : FCells w' S cells L :=
  ⟨h.len, fun i f hi => by obtain ⟨h1, ⟨dv, h2, h3⟩, h4⟩ := h.at_ i f hi; exact ⟨h1, ⟨dv, h2, h3.keep hb hO⟩, h4⟩⟩
theorem FCells.mono {w : World} {S S' : Nat → Prop} {cells : List Value} {L : List FilI} (h : FCells w S cells L) (hS : ∀ k, S k → S' k) : FCells w S' cells L :=
  ⟨h.len, fun i f hi => by obtain ⟨h1, ⟨dv, h2, h3⟩, h4⟩ := h.at_ i f hi; exact ⟨h1, ⟨dv, h2, h3.mono hS⟩, h4⟩⟩
theorem FCells.app {w : World} {S : Nat → Prop} {cells cells' : List Value} {L L' : List FilI} (h : FCells w S cells L) (h' : FCells w S cells' L') : FCells w S (cells ++ cells') (L ++ L') := by
  have hl := h.len
  refine ⟨by rw [List.length_append, List.length_append, h.len, h'.len, Nat.add_mul], fun i f hi => ?_⟩
  by_cases hlt : i < L.length
  · rw [List.getElem?_append_left hlt] at hi
    obtain ⟨h1, ⟨dv, h2, h3⟩, h4⟩ := h.at_ i f hi
    rw [List.getElem?_append_left (by omega), List.getElem?_append_left (by omega), List.getElem?_append_left (by omega)]
    exact ⟨h1, ⟨dv, h2, h3⟩, h4⟩
  · rw [List.getElem?_append_right (by omega)] at hi
    obtain ⟨h1, ⟨dv, h2, h3⟩, h4⟩ := h'.at_ _ f hi
    rw [List.getElem?_append_right (by omega), List.getElem?_append_right (by omega), List.getElem?_append_right (by omega)]
    rw [show i * 3 - cells.length = (i - L.length) * 3 by omega, show i * 3 + 1 - cells.length = (i - L.length) * 3 + 1 by omega, show i * 3 + 2 - cells.length = (i - L.length) * 3 + 2 by omega]
    exact ⟨h1, ⟨dv, h2, h3⟩, h4⟩
theorem FCells.one {w : World} {S : Nat → Prop} {f : FilI} {dv : Value} (h : Byt w S dv f.data) : FCells w S [.string f.name, dv, .int .i64 f.safe] [f] := by
  refine ⟨rfl, fun i g hi => ?_⟩
  cases i with
  | zero =>
    obtain rfl : f = g := by simpa using hi
    exact ⟨rfl, ⟨dv, rfl, h⟩, rfl⟩
  | succ k => simp at hi

/-- A slice leads to these files, in blocks of S. -/
def Fils (w : World) (S : Nat → Prop) (a : Option Addr) (L : List FilI) : Prop :=
  ∃ cells, FCells w S cells L ∧ (L = [] ∨ ∃ b o, a = some ⟨b, o, none⟩ ∧ S b ∧ ∀ j u, cells[j]? = some u → w.cell? ⟨b, o + j, none⟩ = some u)

theorem Fils.keep {w w' : World} {S O : Nat → Prop} {a : Option Addr} {L : List FilI} (h : Fils w S a L) (hb : Keeps O w w') (hO : ∀ k, S k → ¬ O k) : Fils w' S a L := by
  obtain ⟨cells, h1, h2⟩ := h
  refine ⟨cells, h1.keep hb hO, ?_⟩
  rcases h2 with h2 | ⟨b, o, h2, h3, h4⟩
  · exact .inl h2
  · exact .inr ⟨b, o, h2, h3, fun j u hu => (World.cell?_of_block (a := ⟨b, o + j, none⟩) (hb.block b (lt_of_cell (h4 j u hu)) (hO b h3))).trans (h4 j u hu)⟩
theorem Fils.mono {w : World} {S S' : Nat → Prop} {a : Option Addr} {L : List FilI} (h : Fils w S a L) (hS : ∀ k, S k → S' k) : Fils w S' a L := by
  obtain ⟨cells, h1, h2⟩ := h
  refine ⟨cells, h1.mono hS, ?_⟩
  rcases h2 with h2 | ⟨b, o, h2, h3, h4⟩
  · exact .inl h2
  · exact .inr ⟨b, o, h2, hS b h3, h4⟩
theorem Fils.below {w w' : World} {S : Nat → Prop} {a : Option Addr} {L : List FilI} (h : Fils w S a L) (hb : Below w.heap.size w w') : Fils w' S a L := h.keep (keeps_below hb Non) (fun _ _ h => h)

theorem fils_of_owns {w : World} {S : Nat → Prop} {base : Nat} {v : Value} {L : List FilI} {cells : List Value} (hc : FCells w S cells L) (ho : w.ownsRow base 63 3 v L.length cells) (hS : ∀ k, v.ownBlock = some k → S k) :
    ∃ a c, v = .slice a L.length c ∧ Fils w S a L ∧ (a = none → c = 0) ∧ L.length ≤ c ∧ c ≤ maxLen := by
  rcases ho.2 with ⟨h1, h0⟩ | ⟨g, cap, cur, h1, hg, hgb, hcap, hcm, hcur, htk⟩
  · exact ⟨none, 0, by rw [h1, h0], ⟨cells, hc, .inl (List.length_eq_zero_iff.1 h0)⟩, fun _ => rfl, by omega, Nat.zero_le _⟩
  · refine ⟨_, cap, h1, ⟨cells, hc, .inr ⟨g, 0, rfl, hS g (by rw [h1]; rfl), fun j u hu => ?_⟩⟩, (fun e => by cases e), hcap, hcm⟩
    have := ho.cells (g := g) (by rw [h1]; rfl) j u hu
    rwa [Addr.add_mid] at this

end Go.Proofs.YtacfcfbleogioaaGreatDoor
