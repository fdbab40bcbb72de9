/-
  The reference's Small. Conditions: slices lead to what they are said to; no file's data is longer than 2 to the 48.
-/
import Derived.Test.YtfiacojgddpphaaRef2
namespace Go.Proofs.Ytfiacojgddpphaa
open Go.RowKit Go.Lib Go.Joins

def smallF : List FilI → Nat → Nat → Bool
  | [], _, n => decide (n ≤ 16384)
  | f :: L, i, n => if i < 100 ∧ f.name.size ≤ 1000 then smallF L (i + 1) (n + f.data.length) else false
theorem smallF_total : ∀ (L : List FilI) (i n : Nat), smallF L i n = true → n + total L ≤ 16384 ∧ (∀ f ∈ L, f.name.size ≤ 1000) ∧ (i + L.length ≤ 100 ∨ L = [])
  | [], i, n, h => ⟨by simpa [smallF, total] using h, (fun _ hf => by cases hf), Or.inr rfl⟩
  | f :: L, i, n, h => by
    unfold smallF at h
    split at h
    · next hc =>
      obtain ⟨h1, h2, h3⟩ := smallF_total L (i + 1) (n + f.data.length) h
      refine ⟨?_, ?_, ?_⟩
      · unfold total at h1 ⊢
        simp only [List.map_cons, List.sum_cons]
        omega
      · intro g hg
        rcases List.mem_cons.1 hg with rfl | hg
        · exact hc.2
        · exact h2 g hg
      · rcases h3 with h3 | rfl
        · left; simp only [List.length_cons]; omega
        · left; simp only [List.length_cons, List.length_nil]; omega
    · cases h
theorem smallF_drop {L : List FilI} {i n : Nat} {f : FilI} (hf : L[i]? = some f) : smallF (L.drop i) i n = if i < 100 ∧ f.name.size ≤ 1000 then smallF (L.drop (i + 1)) (i + 1) (n + f.data.length) else false := by
  obtain ⟨h1, rfl⟩ := List.getElem?_eq_some_iff.1 hf
  rw [List.drop_eq_getElem_cons h1]
  rfl

set_option maxRecDepth 100000 in
set_option maxHeartbeats 8000000 in
theorem small_calls (a : Option Addr) (L : List FilI) (c n : Nat) (w : World) {S : Nat → Prop} (h : Fils w S a L) (hn : L.length = n) (_hb : n ≤ 281474976710656) (hd : ∀ f ∈ L, f.data.length ≤ 281474976710656) :
    Calls Try.prog 9 #[.slice a n c] w (Tells (.bool (smallF L 0 0)) w) := by
  obtain ⟨q, hq⟩ : ∃ q, smallF L 0 0 = q := ⟨_, rfl⟩
  rw [hq]
  have HQ := Lib.hid hq
  have HR := Lib.hid h
  have HN := Lib.hid hn
  have HD := Lib.hid hd
  clear h hn hq hd
  go_enter Try.func9, Try.ntmps9
  go_wp2
  go_loopg [4, 3] n (fun g idx acc wr => ∃ (i m k : Nat), idx = .int .i64 (i : Int) ∧ acc = .int .i64 (m : Int) ∧ g + i = n ∧ i ≤ 100 ∧ m ≤ i * 281474976710656 ∧ smallF (L.drop i) i m = q ∧ wr = w.drewN k)
  case atStart => exact ⟨0, 0, 0, rfl, rfl, rfl, by omega, by omega, HQ.out, rfl⟩
  case round =>
    obtain ⟨i, m, k, rfl, rfl, hg, hi, hm, hq, rfl⟩ := hrel
    have HG := Lib.hid hg
    have HE := Lib.hid hq
    have HI := Lib.hid hi
    have HM := Lib.hid hm
    clear hg hq HQ hi hm
    by_cases hlt : i < n
    · obtain ⟨g', rfl⟩ : ∃ g', gk = g' + 1 := ⟨gk - 1, by have := HG.out; omega⟩
      have hdd : decide ((i : Int) < (n : Int)) = true := by simp; omega
      obtain ⟨f, hf⟩ : ∃ x, L[i]? = some x := ⟨L[i]'(by rw [HN.out]; exact hlt), List.getElem?_eq_getElem _⟩
      have hst := smallF_drop (n := m) hf
      rw [HE.out] at hst
      have HST := Lib.hid hst
      have HDF := Lib.hid (HD.out f (List.mem_of_getElem? hf))
      obtain ⟨b, o, da, dc, rfl, _, r0, r1, r2, hrow, _⟩ := fils_at HR.out hf
      clear hst hf hrow
      by_cases h1 : i < 100
      · have hd1 : decide ((100 : Int) ≤ (i : Int)) = false := by simp; omega
        by_cases h2 : f.name.size ≤ 1000
        · have hd2 : decide ((1000 : Int) < (f.name.size : Int)) = false := by simp; omega
          have HN2 : Hid (smallF (L.drop (i + 1)) (i + 1) (m + f.data.length) = q) := Lib.hid (by
            have := HST.out
            rw [if_pos ⟨h1, h2⟩] at this
            exact this.symm)
          obtain ⟨z, hz⟩ : ∃ z, f.data.length = z := ⟨_, rfl⟩
          rw [hz] at r1 HN2 HDF
          have hz1 : z ≤ 281474976710656 := HDF.out
          have hm1 : m ≤ 28147497671065600 := by have := HM.out; have := HI.out; omega
          clear HST h2
          go_wp2
          go_roundg g'
          case measure => omega
          case rel => exact ⟨i + 1, m + z, k, by go_num, by go_num, by have := HG.out; omega, by omega, by have := HM.out; omega, HN2.out, rfl⟩
        · have hd2 : decide ((1000 : Int) < (f.name.size : Int)) = true := by simp; omega
          have HF : Hid (q = false) := Lib.hid (by
            have := HST.out
            rw [if_neg (fun h => h2 h.2)] at this
            exact this)
          clear HST
          go_wp2
          go_ret
          exact ⟨by rw [HF.out]; rfl, k, rfl⟩
      · have hd1 : decide ((100 : Int) ≤ (i : Int)) = true := by simp; omega
        have HF : Hid (q = false) := Lib.hid (by
          have := HST.out
          rw [if_neg (fun h => h1 h.1)] at this
          exact this)
        clear HST
        go_wp2
        go_ret
        exact ⟨by rw [HF.out]; rfl, k, rfl⟩
    · have hdd : decide ((i : Int) < (n : Int)) = false := by simp; omega
      have HT : Hid (q = decide (m ≤ 16384)) := Lib.hid (by
        rw [← HE.out, List.drop_eq_nil_of_le (by rw [HN.out]; omega)]
        rfl)
      have hdm : decide ((m : Int) ≤ 16384) = decide (m ≤ 16384) := by
        rw [Bool.eq_iff_iff]; simp; omega
      go_wp2
      go_ret
      exact ⟨by rw [HT.out, ← hdm]; rfl, k, rfl⟩

end Go.Proofs.Ytfiacojgddpphaa
