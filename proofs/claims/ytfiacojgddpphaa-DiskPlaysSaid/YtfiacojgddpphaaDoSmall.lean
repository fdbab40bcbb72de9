/-
  The law's question whether steps are small enough. Conditions: the slice leads to what it is said to; it is no longer than 2 to the 48.
-/
import Derived.Test.YtfiacojgddpphaaDo
namespace Go.Proofs.Ytfiacojgddpphaa
open Go.RowKit Go.Lib Go.Joins

/-- A slice leads to these steps, in blocks of S. -/
def Dos (w : World) (S : Nat → Prop) (a : Option Addr) (l : List DoI) : Prop :=
  l = [] ∨ ∃ b o, a = some ⟨b, o, none⟩ ∧ S b ∧ ∀ i x, l[i]? = some x → ∃ c, DoV w S x c ∧ ∀ j v, (doA x c)[j]? = some v → w.cell? ⟨b, o + i * 7 + j, none⟩ = some v
theorem Dos.keep {w w' : World} {S O : Nat → Prop} {a : Option Addr} {l : List DoI} (h : Dos w S a l) (hb : Keeps O w w') (hO : ∀ k, S k → ¬ O k) : Dos w' S a l := by
  rcases h with h | ⟨b, o, h1, h2, h3⟩
  · exact .inl h
  · refine .inr ⟨b, o, h1, h2, fun i x hi => ?_⟩
    obtain ⟨c, hv, hc⟩ := h3 i x hi
    exact ⟨c, hv.keep hb hO, fun j v hj => (World.cell?_of_block (a := ⟨b, o + i * 7 + j, none⟩) (hb.block b (lt_of_cell (hc j v hj)) (hO b h2))).trans (hc j v hj)⟩
theorem Dos.below {w w' : World} {S : Nat → Prop} {a : Option Addr} {l : List DoI} (h : Dos w S a l) (hb : Below w.heap.size w w') : Dos w' S a l := h.keep (keeps_below hb Non) (fun _ _ h => h)
theorem dos_at {w : World} {S : Nat → Prop} {a : Option Addr} {l : List DoI} (h : Dos w S a l) {i : Nat} {x : DoI} (hi : l[i]? = some x) :
    ∃ b o c, a = some ⟨b, o, none⟩ ∧ DoV w S x c ∧ w.cell? ⟨b, o + i * 7, none⟩ = some (.int .i64 x.kind) ∧ w.cell? ⟨b, o + i * 7 + 1, none⟩ = some (.string x.name) ∧ w.cell? ⟨b, o + i * 7 + 2, none⟩ = some (.string x.to) ∧ w.cell? ⟨b, o + i * 7 + 3, none⟩ = some (.int .i64 x.n) ∧
      w.cell? ⟨b, o + i * 7 + 4, none⟩ = some (.slice c.ab x.b.length c.cb) ∧ w.cell? ⟨b, o + i * 7 + 5, none⟩ = some (.slice c.at_ x.tails.length c.ct) ∧ w.cell? ⟨b, o + i * 7 + 6, none⟩ = some (.slice c.al x.list.length c.cl) := by
  rcases h with h | ⟨b, o, h1, _, h3⟩
  · rw [h] at hi; simp at hi
  · obtain ⟨c, hv, hc⟩ := h3 i x hi
    exact ⟨b, o, c, h1, hv, hc 0 _ rfl, hc 1 _ rfl, hc 2 _ rfl, hc 3 _ rfl, hc 4 _ rfl, hc 5 _ rfl, hc 6 _ rfl⟩

def smD (x : DoI) : Bool := decide (x.b.length ≤ 2000) && decide (x.name.size ≤ 1000) && decide (x.to.size ≤ 1000) && decide (x.tails.length ≤ 200) && decide (x.list.length ≤ 200)
theorem smD_is {x : DoI} : smD x = true ↔ DoS x := by
  unfold smD
  simp only [Bool.and_eq_true, decide_eq_true_eq]
  exact ⟨fun ⟨⟨⟨⟨h1, h2⟩, h3⟩, h4⟩, h5⟩ => ⟨h1, h2, h3, h4, h5⟩, fun ⟨h1, h2, h3, h4, h5⟩ => ⟨⟨⟨⟨h1, h2⟩, h3⟩, h4⟩, h5⟩⟩
def smallD : List DoI → Nat → Bool
  | [], _ => true
  | x :: l, i => if i < 60 then (smD x && smallD l (i + 1)) else true
theorem smallD_at : ∀ {l : List DoI} {i j : Nat} {x : DoI}, smallD l i = true → l[j]? = some x → i + j < 60 → DoS x
  | y :: l, i, 0, x, h, hx, hj => by
    obtain rfl : y = x := by simpa using hx
    unfold smallD at h
    rw [if_pos (by omega), Bool.and_eq_true] at h
    exact smD_is.1 h.1
  | y :: l, i, j + 1, x, h, hx, hj => by
    unfold smallD at h
    rw [if_pos (by omega), Bool.and_eq_true] at h
    exact smallD_at h.2 (by simpa using hx) (by omega)
  | [], i, j, x, h, hx, hj => by simp at hx
theorem smallD_drop {l : List DoI} {i : Nat} {x : DoI} (hx : l[i]? = some x) : smallD (l.drop i) i = if i < 60 then (smD x && smallD (l.drop (i + 1)) (i + 1)) else true := by
  obtain ⟨h1, rfl⟩ := List.getElem?_eq_some_iff.1 hx
  rw [List.drop_eq_getElem_cons h1]
  rfl

set_option maxRecDepth 100000 in
set_option maxHeartbeats 8000000 in
theorem dsmall_calls (a : Option Addr) (l : List DoI) (c n : Nat) (w : World) {S : Nat → Prop} (h : Dos w S a l) (hn : l.length = n) (_hb : n ≤ 281474976710656) :
    Calls Try.prog 10 #[.slice a n c] w fun e w' => e = .returned (.bool (smallD l 0)) ∧ w = w' := by
  obtain ⟨q, hq⟩ : ∃ q, smallD l 0 = q := ⟨_, rfl⟩
  rw [hq]
  have HQ := Lib.hid hq
  have HR := Lib.hid h
  have HN := Lib.hid hn
  clear h hn hq
  go_enter Try.func10, Try.ntmps10
  go_wp2
  go_loopg [3] n (fun g idx wr => ∃ (i : Nat), idx = .int .i64 (i : Int) ∧ g + i = n ∧ smallD (l.drop i) i = q ∧ wr = w)
  case atStart => exact ⟨0, rfl, rfl, HQ.out, rfl⟩
  case round =>
    obtain ⟨i, rfl, hg, hq, rfl⟩ := hrel
    have HG := Lib.hid hg
    have HE := Lib.hid hq
    clear hg hq HQ
    by_cases hlt : i < n
    · obtain ⟨g', rfl⟩ : ∃ g', gk = g' + 1 := ⟨gk - 1, by have := HG.out; omega⟩
      have hdd : decide ((i : Int) < (n : Int)) = true := by simp; omega
      obtain ⟨x, hx⟩ : ∃ x, l[i]? = some x := ⟨l[i]'(by rw [HN.out]; exact hlt), List.getElem?_eq_getElem _⟩
      have hst := smallD_drop hx
      rw [HE.out] at hst
      have HST := Lib.hid hst
      obtain ⟨b, o, dc, rfl, _, _, c1, c2, _, c4, c5, c6⟩ := dos_at HR.out hx
      clear hst hx
      by_cases h60 : i < 60
      · have hd60 : decide ((i : Int) < 60) = true := by simp; omega
        have hst2 := HST.out
        rw [if_pos h60] at hst2
        have HST2 := Lib.hid hst2
        clear HST hst2
        obtain ⟨z1, e1⟩ : ∃ z, x.b.length = z := ⟨_, rfl⟩
        obtain ⟨z2, e2⟩ : ∃ z, x.name.size = z := ⟨_, rfl⟩
        obtain ⟨z3, e3⟩ : ∃ z, x.to.size = z := ⟨_, rfl⟩
        obtain ⟨z4, e4⟩ : ∃ z, x.tails.length = z := ⟨_, rfl⟩
        obtain ⟨z5, e5⟩ : ∃ z, x.list.length = z := ⟨_, rfl⟩
        have hsm : smD x = (decide (z1 ≤ 2000) && decide (z2 ≤ 1000) && decide (z3 ≤ 1000) && decide (z4 ≤ 200) && decide (z5 ≤ 200)) := by unfold smD; rw [e1, e2, e3, e4, e5]
        rw [e1] at c4
        rw [e4] at c5
        rw [e5] at c6
        rw [hsm] at HST2
        clear e1 e4 e5 hsm
        by_cases k1 : z1 ≤ 2000
        case neg =>
          have g1 : decide ((2000 : Int) < (z1 : Int)) = true := by simp; omega
          have HF : Hid (q = false) := Lib.hid (by
            have := HST2.out
            rw [decide_eq_false k1] at this
            simpa using this)
          clear HST2
          go_wp2
          go_ret
          exact ⟨by rw [HF.out]; rfl, rfl⟩
        have g1 : decide ((2000 : Int) < (z1 : Int)) = false := by simp; omega
        by_cases k2 : z2 ≤ 1000
        case neg =>
          have g2 : decide ((1000 : Int) < (z2 : Int)) = true := by simp; omega
          have HF : Hid (q = false) := Lib.hid (by
            have := HST2.out
            rw [decide_eq_false k2] at this
            simpa using this)
          clear HST2
          go_wp2
          go_ret
          exact ⟨by rw [HF.out]; rfl, rfl⟩
        have g2 : decide ((1000 : Int) < (z2 : Int)) = false := by simp; omega
        by_cases k3 : z3 ≤ 1000
        case neg =>
          have g3 : decide ((1000 : Int) < (z3 : Int)) = true := by simp; omega
          have HF : Hid (q = false) := Lib.hid (by
            have := HST2.out
            rw [decide_eq_false k3] at this
            simpa using this)
          clear HST2
          go_wp2
          go_ret
          exact ⟨by rw [HF.out]; rfl, rfl⟩
        have g3 : decide ((1000 : Int) < (z3 : Int)) = false := by simp; omega
        by_cases k4 : z4 ≤ 200
        case neg =>
          have g4 : decide ((200 : Int) < (z4 : Int)) = true := by simp; omega
          have HF : Hid (q = false) := Lib.hid (by
            have := HST2.out
            rw [decide_eq_false k4] at this
            simpa using this)
          clear HST2
          go_wp2
          go_ret
          exact ⟨by rw [HF.out]; rfl, rfl⟩
        have g4 : decide ((200 : Int) < (z4 : Int)) = false := by simp; omega
        by_cases k5 : z5 ≤ 200
        case neg =>
          have g5 : decide ((200 : Int) < (z5 : Int)) = true := by simp; omega
          have HF : Hid (q = false) := Lib.hid (by
            have := HST2.out
            rw [decide_eq_false k5] at this
            simpa using this)
          clear HST2
          go_wp2
          go_ret
          exact ⟨by rw [HF.out]; rfl, rfl⟩
        have g5 : decide ((200 : Int) < (z5 : Int)) = false := by simp; omega
        have HN2 : Hid (smallD (l.drop (i + 1)) (i + 1) = q) := Lib.hid (by
          have := HST2.out
          rw [decide_eq_true k1, decide_eq_true k2, decide_eq_true k3, decide_eq_true k4, decide_eq_true k5] at this
          exact this.symm)
        clear HST2 k1 k2 k3 k4 k5
        go_wp2
        go_roundg g'
        case measure => omega
        case rel => exact ⟨i + 1, by go_num, by have := HG.out; omega, HN2.out, rfl⟩
      · have hd60 : decide ((i : Int) < 60) = false := by simp; omega
        have HT : Hid (q = true) := Lib.hid (by
          have := HST.out
          rw [if_neg h60] at this
          exact this)
        clear HST
        go_wp2
        go_ret
        exact ⟨by rw [HT.out]; rfl, rfl⟩
    · have hdd : decide ((i : Int) < (n : Int)) = false := by simp; omega
      have HT : Hid (q = true) := Lib.hid (by
        rw [← HE.out, List.drop_eq_nil_of_le (by rw [HN.out]; omega)]
        rfl)
      go_wp2
      go_ret
      exact ⟨by rw [HT.out]; rfl, rfl⟩

end Go.Proofs.Ytfiacojgddpphaa
