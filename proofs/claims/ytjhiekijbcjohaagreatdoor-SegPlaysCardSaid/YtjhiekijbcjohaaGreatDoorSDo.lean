/-
  The law's steps, and whether they are small enough; a segment's Size, Sick and Number. Conditions: the slice leads to what it is said to; it is no longer than 2 to the 48.
-/
import Derived.Test.YtjhiekijbcjohaaGreatDoorSAwake
namespace Go.Proofs.YtjhiekijbcjohaaGreatDoor
open Go.RowKit Go.Lib Go.Joins

/-- A step. -/
structure SDoI where
  kind : Int
  recs : List (List Nat)
  tails : List Int
  list : List Tro
/-- Where its rows lie. -/
structure SDoC where
  ar : Option Addr
  cr : Nat
  at_ : Option Addr
  ct : Nat
  al : Option Addr
  cl : Nat
abbrev sdoA (x : SDoI) (c : SDoC) : Array Value := #[.int .i64 x.kind, .slice c.ar x.recs.length c.cr, .slice c.at_ x.tails.length c.ct, .slice c.al x.list.length c.cl]
structure SDoV (w : World) (S : Nat → Prop) (x : SDoI) (c : SDoC) : Prop where
  recs : Recs w S c.ar x.recs
  nr : c.ar = none → c.cr = 0
  lr : x.recs.length ≤ c.cr
  mr : c.cr ≤ maxLen
  reach : ∀ f ∈ x.recs, f.length ≤ 140737488355328
  tails : RowI w S c.at_ x.tails
  lt : x.tails.length ≤ c.ct
  list : RowT w S c.al x.list
  wf : ∀ t ∈ x.list, (Lit.int .i64 t.at_).wf = true
theorem SDoV.keep {w w' : World} {S O : Nat → Prop} {x : SDoI} {c : SDoC} (h : SDoV w S x c) (hb : Keeps O w w') (hO : ∀ k, S k → ¬ O k) : SDoV w' S x c :=
  ⟨h.recs.keep hb hO, h.nr, h.lr, h.mr, h.reach, h.tails.keep hb hO, h.lt, h.list.keep hb hO, h.wf⟩

/-- A slice leads to these steps, in blocks of S. -/
def SDos (w : World) (S : Nat → Prop) (a : Option Addr) (l : List SDoI) : Prop :=
  l = [] ∨ ∃ b o, a = some ⟨b, o, none⟩ ∧ S b ∧ ∀ i x, l[i]? = some x → ∃ c, SDoV w S x c ∧ ∀ j v, (sdoA x c)[j]? = some v → w.cell? ⟨b, o + i * 4 + j, none⟩ = some v
theorem SDos.keep {w w' : World} {S O : Nat → Prop} {a : Option Addr} {l : List SDoI} (h : SDos w S a l) (hb : Keeps O w w') (hO : ∀ k, S k → ¬ O k) : SDos w' S a l := by
  rcases h with h | ⟨b, o, h1, h2, h3⟩
  · exact .inl h
  · refine .inr ⟨b, o, h1, h2, fun i x hi => ?_⟩
    obtain ⟨c, hv, hc⟩ := h3 i x hi
    exact ⟨c, hv.keep hb hO, fun j v hj => (World.cell?_of_block (a := ⟨b, o + i * 4 + j, none⟩) (hb.block b (lt_of_cell (hc j v hj)) (hO b h2))).trans (hc j v hj)⟩
theorem SDos.below {w w' : World} {S : Nat → Prop} {a : Option Addr} {l : List SDoI} (h : SDos w S a l) (hb : Below w.heap.size w w') : SDos w' S a l := h.keep (keeps_below hb Non) (fun _ _ h => h)
theorem sdos_at {w : World} {S : Nat → Prop} {a : Option Addr} {l : List SDoI} (h : SDos w S a l) {i : Nat} {x : SDoI} (hi : l[i]? = some x) :
    ∃ b o c, a = some ⟨b, o, none⟩ ∧ S b ∧ SDoV w S x c ∧ w.cell? ⟨b, o + i * 4, none⟩ = some (.int .i64 x.kind) ∧ w.cell? ⟨b, o + i * 4 + 1, none⟩ = some (.slice c.ar x.recs.length c.cr) ∧ w.cell? ⟨b, o + i * 4 + 2, none⟩ = some (.slice c.at_ x.tails.length c.ct) ∧
      w.cell? ⟨b, o + i * 4 + 3, none⟩ = some (.slice c.al x.list.length c.cl) := by
  rcases h with h | ⟨b, o, h1, h2, h3⟩
  · rw [h] at hi; simp at hi
  · obtain ⟨c, hv, hc⟩ := h3 i x hi
    exact ⟨b, o, c, h1, h2, hv, hc 0 _ rfl, hc 1 _ rfl, hc 2 _ rfl, hc 3 _ rfl⟩

/-- Whether a step is small enough. -/
structure SDoS (x : SDoI) : Prop where
  recs : x.recs.length ≤ 50
  tot : tot x.recs ≤ 2000
  tails : x.tails.length ≤ 100
  list : x.list.length ≤ 100
def smS (x : SDoI) : Bool := decide (x.recs.length ≤ 50) && decide (tot x.recs ≤ 2000) && decide (x.tails.length ≤ 100) && decide (x.list.length ≤ 100)
theorem smS_is {x : SDoI} : smS x = true ↔ SDoS x := by
  unfold smS
  simp only [Bool.and_eq_true, decide_eq_true_eq]
  exact ⟨fun ⟨⟨⟨h1, h2⟩, h3⟩, h4⟩ => ⟨h1, h2, h3, h4⟩, fun ⟨h1, h2, h3, h4⟩ => ⟨⟨⟨h1, h2⟩, h3⟩, h4⟩⟩
def smallS : List SDoI → Nat → Bool
  | [], _ => true
  | x :: l, i => if i < 30 then (smS x && smallS l (i + 1)) else true
theorem smallS_at : ∀ {l : List SDoI} {i j : Nat} {x : SDoI}, smallS l i = true → l[j]? = some x → i + j < 30 → SDoS x
  | y :: l, i, 0, x, h, hx, hj => by
    obtain rfl : y = x := by simpa using hx
    unfold smallS at h
    rw [if_pos (by omega), Bool.and_eq_true] at h
    exact smS_is.1 h.1
  | y :: l, i, j + 1, x, h, hx, hj => by
    unfold smallS at h
    rw [if_pos (by omega), Bool.and_eq_true] at h
    exact smallS_at h.2 (by simpa using hx) (by omega)
  | [], i, j, x, h, hx, hj => by simp at hx
theorem smallS_drop {l : List SDoI} {i : Nat} {x : SDoI} (hx : l[i]? = some x) : smallS (l.drop i) i = if i < 30 then (smS x && smallS (l.drop (i + 1)) (i + 1)) else true := by
  obtain ⟨h1, rfl⟩ := List.getElem?_eq_some_iff.1 hx
  rw [List.drop_eq_getElem_cons h1]
  rfl
theorem tot_bound : ∀ (L : List (List Nat)), (∀ f ∈ L, f.length ≤ 140737488355328) → tot L ≤ L.length * 140737488355328
  | [], _ => Nat.zero_le _
  | f :: L, h => by
    have h1 := tot_bound L (fun g hg => h g (List.mem_cons_of_mem _ hg))
    have h2 := h f (List.mem_cons_self ..)
    rw [tot_cons, List.length_cons, Nat.add_mul]
    omega

set_option maxRecDepth 100000 in
set_option maxHeartbeats 8000000 in
theorem ssmall_calls (a : Option Addr) (l : List SDoI) (c n : Nat) (w : World) {S : Nat → Prop} (h : SDos w S a l) (hn : l.length = n) (_hb : n ≤ 281474976710656) :
    Calls Tryz.prog 15 #[.slice a n c] w (Stays (.bool (smallS l 0)) w) := by
  obtain ⟨q, hq⟩ : ∃ q, smallS l 0 = q := ⟨_, rfl⟩
  rw [hq]
  have HQ := Lib.hid hq
  have HR := Lib.hid h
  have HN := Lib.hid hn
  clear h hn hq
  go_enter Tryz.func15, Tryz.ntmps15
  go_wp2
  go_loopg [3] n (fun g idx wr => ∃ (i : Nat), idx = .int .i64 (i : Int) ∧ g + i = n ∧ smallS (l.drop i) i = q ∧ wr = w)
  case atStart => exact ⟨0, rfl, rfl, HQ.out, rfl⟩
  case round =>
    obtain ⟨i, rfl, hg, hq, rfl⟩ := hrel
    have HG := Lib.hid hg
    have HE := Lib.hid hq
    clear hg hq HQ
    by_cases hlt : i < n
    · obtain ⟨g', rfl⟩ : ∃ g', gk = g' + 1 := ⟨gk - 1, by have := HG.out; omega⟩
      have hdd : decide ((i : Int) < (n : Int)) = true := by simp; omega
      obtain ⟨x, hx⟩ : ∃ x, l[i]? = some x := ⟨l[i]'(by rw [HN.out]; exact hlt), List.getElem?_eq_getElem _⟩
      have hst := smallS_drop hx
      rw [HE.out] at hst
      have HST := Lib.hid hst
      obtain ⟨b, o, dc, rfl, _, hdv, _, c1, c2, c3⟩ := sdos_at HR.out hx
      clear hst hx
      by_cases h30 : i < 30
      · have hd30 : decide ((i : Int) < 30) = true := by simp; omega
        have hst2 := HST.out
        rw [if_pos h30] at hst2
        have HST2 := Lib.hid hst2
        clear HST hst2
        obtain ⟨z1, e1⟩ : ∃ z, x.recs.length = z := ⟨_, rfl⟩
        obtain ⟨z2, e2⟩ : ∃ z, tot x.recs = z := ⟨_, rfl⟩
        obtain ⟨z3, e3⟩ : ∃ z, x.tails.length = z := ⟨_, rfl⟩
        obtain ⟨z4, e4⟩ : ∃ z, x.list.length = z := ⟨_, rfl⟩
        have hsm : smS x = (decide (z1 ≤ 50) && decide (z2 ≤ 2000) && decide (z3 ≤ 100) && decide (z4 ≤ 100)) := by unfold smS; rw [e1, e2, e3, e4]
        have HTC : Hid (z1 ≤ 50 → Calls Tryz.prog 42 #[.slice dc.ar z1 dc.cr] wr (Stays (.int .i64 (z2 : Int)) wr)) := Lib.hid (fun h50 => by
          have hb := tot_bound x.recs hdv.reach
          have := total_calls dc.ar x.recs dc.cr z1 wr hdv.recs e1 (by rw [e1] at hb; omega) (by omega)
          rw [e2] at this
          exact this)
        rw [e1] at c1
        rw [e3] at c2
        rw [e4] at c3
        rw [hsm] at HST2
        clear e1 e2 e3 e4 hsm hdv
        by_cases k1 : z1 ≤ 50
        case neg =>
          have g1 : decide ((50 : Int) < (z1 : Int)) = true := by simp; omega
          have HF : Hid (q = false) := Lib.hid (by
            have := HST2.out
            rw [decide_eq_false k1] at this
            simpa using this)
          clear HST2
          go_wp2
          go_ret
          exact ⟨by rw [HF.out]; rfl, rfl⟩
        have g1 : decide ((50 : Int) < (z1 : Int)) = false := by simp; omega
        have htc := HTC.out k1
        have HTC2 := Lib.hid htc
        clear htc HTC
        go_wp2_with fail
        with_reducible refine HTC2.out.mono ?_
        rintro e w2 ⟨rfl, rfl⟩
        by_cases k2 : z2 ≤ 2000
        case neg =>
          have g2 : decide ((2000 : Int) < (z2 : Int)) = true := by simp; omega
          have HF : Hid (q = false) := Lib.hid (by
            have := HST2.out
            rw [decide_eq_false k2] at this
            simpa using this)
          clear HST2
          go_wp2
          go_ret
          exact ⟨by rw [HF.out]; rfl, rfl⟩
        have g2 : decide ((2000 : Int) < (z2 : Int)) = false := by simp; omega
        by_cases k3 : z3 ≤ 100
        case neg =>
          have g3 : decide ((100 : Int) < (z3 : Int)) = true := by simp; omega
          have HF : Hid (q = false) := Lib.hid (by
            have := HST2.out
            rw [decide_eq_false k3] at this
            simpa using this)
          clear HST2
          go_wp2
          go_ret
          exact ⟨by rw [HF.out]; rfl, rfl⟩
        have g3 : decide ((100 : Int) < (z3 : Int)) = false := by simp; omega
        by_cases k4 : z4 ≤ 100
        case neg =>
          have g4 : decide ((100 : Int) < (z4 : Int)) = true := by simp; omega
          have HF : Hid (q = false) := Lib.hid (by
            have := HST2.out
            rw [decide_eq_false k4] at this
            simpa using this)
          clear HST2
          go_wp2
          go_ret
          exact ⟨by rw [HF.out]; rfl, rfl⟩
        have g4 : decide ((100 : Int) < (z4 : Int)) = false := by simp; omega
        have HN2 : Hid (smallS (l.drop (i + 1)) (i + 1) = q) := Lib.hid (by
          have := HST2.out
          rw [decide_eq_true k1, decide_eq_true k2, decide_eq_true k3, decide_eq_true k4] at this
          exact this.symm)
        clear HST2 k1 k2 k3 k4
        go_wp2
        go_roundg g'
        case measure => omega
        case rel => exact ⟨i + 1, by go_num, by have := HG.out; omega, HN2.out, rfl⟩
      · have hd30 : decide ((i : Int) < 30) = false := by simp; omega
        have HT : Hid (q = true) := Lib.hid (by
          have := HST.out
          rw [if_neg h30] at this
          exact this)
        clear HST
        go_wp2
        go_ret
        exact ⟨by rw [HT.out]; rfl, rfl⟩
    · have hdd : decide ((i : Int) < (n : Int)) = false := by simp; omega
      have HT : Hid (q = true) := Lib.hid (by
        rw [← HE.out, List.drop_eq_nil_of_le (by rw [HN.out]; omega)]
        rfl)
      go_wp2
      go_ret
      exact ⟨by rw [HT.out]; rfl, rfl⟩

theorem ssize_calls {w : World} {b B : Nat} {n : Int} {g : Sg} (hg : SegAt w b B n g) : Calls Tryz.prog 25 #[.pointer (some ⟨b, 0, none⟩)] w (Stays (.int .i64 (g.size : Int)) w) := by
  have c2 := hg.c2
  go_enter Tryz.func25, Tryz.ntmps25
  go_wp2
  go_ret
  exact ⟨rfl, rfl⟩
theorem ssick_calls {w : World} {b B : Nat} {n : Int} {g : Sg} (hg : SegAt w b B n g) : Calls Tryz.prog 26 #[.pointer (some ⟨b, 0, none⟩)] w (Stays (.bool g.sick) w) := by
  have c3 := hg.c3
  go_enter Tryz.func26, Tryz.ntmps26
  go_wp2
  go_ret
  exact ⟨rfl, rfl⟩
theorem snumber_calls {w : World} {b B : Nat} {n : Int} {g : Sg} (hg : SegAt w b B n g) : Calls Tryz.prog 27 #[.pointer (some ⟨b, 0, none⟩)] w (Stays (.int .i64 n) w) := by
  have c1 := hg.c1
  go_enter Tryz.func27, Tryz.ntmps27
  go_wp2
  go_ret
  exact ⟨rfl, rfl⟩

end Go.Proofs.YtjhiekijbcjohaaGreatDoor
