/-
  The reference's Bytes, May, Same, Small. Conditions: slices lead to what they are said to; they are no longer than 2 to the 30.
-/
import Derived.Test.YtfiacojgddpphaaLoad
namespace Go.Proofs.Ytfiacojgddpphaa
open Go.RowKit Go.Lib Go.Joins

/-- A call that only reads. -/
def Tells (v : Value) (w : World) (e : Ending) (w' : World) : Prop := e = .returned v ∧ ∃ n, w' = w.drewN n

/-- Same from a place on. -/
def eqFrom (l m : List Nat) (i : Nat) : Bool := decide (l.drop i = m.drop i)
theorem eqFrom_step {l m : List Nat} {i x y : Nat} (hx : l[i]? = some x) (hy : m[i]? = some y) : eqFrom l m i = (decide (x = y) && eqFrom l m (i + 1)) := by
  obtain ⟨h1, rfl⟩ := List.getElem?_eq_some_iff.1 hx
  obtain ⟨h2, rfl⟩ := List.getElem?_eq_some_iff.1 hy
  unfold eqFrom
  rw [List.drop_eq_getElem_cons h1, List.drop_eq_getElem_cons h2, Bool.eq_iff_iff]
  simp only [List.cons.injEq, decide_eq_true_eq, Bool.and_eq_true]

theorem row_at {w : World} {S : Nat → Prop} {a : Option Addr} {l : List Nat} (h : Row w S a l) {i x : Nat} (hi : l[i]? = some x) : ∃ b o, a = some ⟨b, o, none⟩ ∧ w.cell? ⟨b, o + i, none⟩ = some (.int .u8 (x : Int)) := by
  rcases h.2 with h0 | ⟨b, o, ha, _, hc⟩
  · rw [h0] at hi; simp at hi
  · exact ⟨b, o, ha, hc i x hi⟩

set_option maxRecDepth 100000 in
set_option maxHeartbeats 4000000 in
theorem bytes_calls (a a' : Option Addr) (l m : List Nat) (c c' n n' : Nat) (w : World) {S S' : Nat → Prop} (h : Row w S a l) (h' : Row w S' a' m) (hn : l.length = n) (hn' : m.length = n') (hb : n ≤ 1073741824) (hb' : n' ≤ 1073741824) :
    Calls Try.prog 23 #[.slice a n c, .slice a' n' c'] w (Tells (.bool (decide (l = m))) w) := by
  by_cases hnn : n = n'
  · subst hnn
    have he : decide (l = m) = eqFrom l m 0 := rfl
    rw [he]
    obtain ⟨q, hq⟩ : ∃ q, eqFrom l m 0 = q := ⟨_, rfl⟩
    rw [hq]
    have HQ := Lib.hid hq
    have HR := Lib.hid h
    have HR' := Lib.hid h'
    have HN := Lib.hid hn
    have HN' := Lib.hid hn'
    clear h h' hn hn' he hq
    go_enter Try.func23, Try.ntmps23
    go_wp2
    go_loopg [5] n (fun g idx wr => ∃ (i k : Nat), idx = .int .i64 (i : Int) ∧ g + i = n ∧ eqFrom l m i = q ∧ wr = w.drewN k)
    case atStart => exact ⟨0, 0, rfl, rfl, HQ.out, rfl⟩
    case round =>
      obtain ⟨i, k, rfl, hg, hq, rfl⟩ := hrel
      have HG := Lib.hid hg
      have HE := Lib.hid hq
      clear hg hq HQ
      by_cases hlt : i < n
      · obtain ⟨g', rfl⟩ : ∃ g', gk = g' + 1 := ⟨gk - 1, by have := HG.out; omega⟩
        have hd : decide ((i : Int) < (n : Int)) = true := by simp; omega
        obtain ⟨x, hx⟩ : ∃ x, l[i]? = some x := ⟨l[i]'(by rw [HN.out]; exact hlt), List.getElem?_eq_getElem _⟩
        obtain ⟨y, hy⟩ : ∃ y, m[i]? = some y := ⟨m[i]'(by rw [HN'.out]; exact hlt), List.getElem?_eq_getElem _⟩
        have hst := eqFrom_step hx hy
        rw [HE.out] at hst
        have HST := Lib.hid hst
        obtain ⟨b, o, rfl, hc⟩ := row_at HR.out hx
        obtain ⟨b', o', rfl, hc'⟩ := row_at HR'.out hy
        clear hst hx hy
        by_cases hxy : x = y
        · subst hxy
          have HN2 : Hid (eqFrom l m (i + 1) = q) := Lib.hid (by have := HST.out; simp at this; exact this.symm)
          go_wp2
          go_quiet (fail)
          go_wp2
          go_roundg g'
          case measure => omega
          case rel => exact ⟨i + 1, _, by go_num, by have := HG.out; omega, HN2.out, rfl⟩
        · have HF : Hid (q = false) := Lib.hid (by rw [HST.out, decide_eq_false hxy]; rfl)
          have hne : ((x : Int) != (y : Int)) = true := by simp; omega
          have hne2 : ((x : Int) == (y : Int)) = false := by simp; omega
          clear HST
          go_wp2
          go_quiet (fail)
          go_wp2
          go_ret
          exact ⟨by rw [HF.out]; rfl, _, World.drewN_drewN w k nq⟩
      · have hd : decide ((i : Int) < (n : Int)) = false := by simp; omega
        have HT : Hid (q = true) := Lib.hid (by
          rw [← HE.out]
          unfold eqFrom
          rw [List.drop_eq_nil_of_le (by rw [HN.out]; omega), List.drop_eq_nil_of_le (by rw [HN'.out]; omega)]
          rfl)
        go_wp2
        go_ret
        exact ⟨by rw [HT.out]; rfl, k, rfl⟩
  · have he : decide (l = m) = false := by
      simp only [decide_eq_false_iff_not]
      intro e
      rw [← hn, ← hn', e] at hnn
      exact hnn rfl
    rw [he]
    have hne : ((n : Int) != (n' : Int)) = true := by simp; omega
    clear h h' he hn hn'
    go_enter Try.func23, Try.ntmps23
    go_wp2
    go_ret
    exact ⟨rfl, 0, rfl⟩

set_option maxRecDepth 100000 in
set_option maxHeartbeats 4000000 in
theorem may_calls (s : ByteArray) (w : World) (hs : s.size ≤ 1099511627776) : Calls Try.prog 31 #[.string s] w fun e w' => e = .returned (.bool (nmd s)) ∧ w = w' := by
  obtain ⟨q, hq⟩ : ∃ q, s.data.toList.all okc = q := ⟨_, rfl⟩
  have HQ := Lib.hid hq
  have hn : nmd s = (q && decide (1 ≤ s.size) && decide (s.size ≤ 40)) := by unfold nmd; rw [hq]
  rw [hn]
  obtain ⟨z, hz⟩ : ∃ z, (q && decide (1 ≤ s.size) && decide (s.size ≤ 40)) = z := ⟨_, rfl⟩
  rw [hz]
  have HZ := Lib.hid hz
  clear hn hq hz
  go_enter Try.func31, Try.ntmps31
  go_wp2
  go_loopg [3, 4] s.size (fun g idx _ wr => ∃ (p : Nat), idx = .int .i64 (p : Int) ∧ g + p = s.size ∧ (s.data.toList.drop p).all okc = q ∧ wr = w)
  case atStart => exact ⟨0, rfl, rfl, HQ.out, rfl⟩
  case round =>
    obtain ⟨p, rfl, hg, hall, rfl⟩ := hrel
    have HG := Lib.hid hg
    have HA := Lib.hid hall
    clear hg hall HQ
    by_cases hlt : p < s.size
    · obtain ⟨g', rfl⟩ : ∃ g', gk = g' + 1 := ⟨gk - 1, by have := HG.out; omega⟩
      have hdd : decide ((p : Int) < (s.size : Int)) = true := by simp; omega
      have hd := drop_at hlt
      obtain ⟨c, hc⟩ : ∃ c, s[p] = c := ⟨_, rfl⟩
      have HA2 : Hid ((okc c && (s.data.toList.drop (p + 1)).all okc) = q) := Lib.hid (by
        have := HA.out
        rw [hd, hc, List.all_cons] at this
        exact this)
      clear hd HA
      have hok : okc c = (decide (97 ≤ (c.toNat : Int) ∧ (c.toNat : Int) ≤ 122) || decide (48 ≤ (c.toNat : Int) ∧ (c.toNat : Int) ≤ 57) || decide ((c.toNat : Int) = 46) || decide ((c.toNat : Int) = 45)) := by
        unfold okc
        rw [Bool.eq_iff_iff]
        simp
        omega
      have HOK := Lib.hid hok
      have hr0 : (0 : Int) ≤ (c.toNat : Int) := by omega
      have hr1 : (c.toNat : Int) ≤ 255 := by have := c.toNat_lt; omega
      obtain ⟨r, hr⟩ : ∃ r : Int, (c.toNat : Int) = r := ⟨_, rfl⟩
      rw [hr] at HOK hr0 hr1
      clear hok
      by_cases k1 : 97 ≤ r ∧ r ≤ 122
      · have H : Hid ((s.data.toList.drop (p + 1)).all okc = q) := Lib.hid (by have := HA2.out; rw [HOK.out, decide_eq_true k1] at this; simpa using this)
        obtain ⟨ka, kb⟩ := k1
        clear HA2 HOK
        go_wp2
        go_roundg g'
        case measure => omega
        case rel => exact ⟨p + 1, by go_num, by have := HG.out; omega, H.out, rfl⟩
      by_cases k2 : 48 ≤ r ∧ r ≤ 57
      · have H : Hid ((s.data.toList.drop (p + 1)).all okc = q) := Lib.hid (by have := HA2.out; rw [HOK.out, decide_eq_true k2] at this; simpa using this)
        obtain ⟨ka, kb⟩ := k2
        have kc : r < 97 := by omega
        clear HA2 HOK k1
        go_wp2
        go_roundg g'
        case measure => omega
        case rel => exact ⟨p + 1, by go_num, by have := HG.out; omega, H.out, rfl⟩
      by_cases k3 : r = 46
      · have H : Hid ((s.data.toList.drop (p + 1)).all okc = q) := Lib.hid (by have := HA2.out; rw [HOK.out, k3] at this; simpa using this)
        subst k3
        clear HA2 HOK k1 k2
        go_wp2
        go_roundg g'
        case measure => omega
        case rel => exact ⟨p + 1, by go_num, by have := HG.out; omega, H.out, rfl⟩
      by_cases k4 : r = 45
      · have H : Hid ((s.data.toList.drop (p + 1)).all okc = q) := Lib.hid (by have := HA2.out; rw [HOK.out, k4] at this; simpa using this)
        subst k4
        clear HA2 HOK k1 k2 k3
        go_wp2
        go_roundg g'
        case measure => omega
        case rel => exact ⟨p + 1, by go_num, by have := HG.out; omega, H.out, rfl⟩
      · have H : Hid (z = false) := Lib.hid (by
          have := HA2.out
          rw [HOK.out, decide_eq_false k1, decide_eq_false k2, decide_eq_false k3, decide_eq_false k4] at this
          rw [← HZ.out, ← this]
          rfl)
        have d1 : (r != 46) = true := by simpa using k3
        have d2 : (r != 45) = true := by simpa using k4
        clear HA2 HOK
        by_cases e1 : r < 97
        · by_cases e2 : r < 48
          · go_wp2
            go_ret
            exact ⟨by rw [H.out]; rfl, rfl⟩
          · have e3 : 57 < r := by omega
            go_wp2
            go_ret
            exact ⟨by rw [H.out]; rfl, rfl⟩
        · have e3 : 122 < r := by omega
          have e4 : 57 < r := by omega
          have e5 : ¬ r < 48 := by omega
          go_wp2
          go_ret
          exact ⟨by rw [H.out]; rfl, rfl⟩
    · have hdd : decide ((p : Int) < (s.size : Int)) = false := by simp; omega
      have H : Hid (z = (decide (1 ≤ s.size) && decide (s.size ≤ 40))) := Lib.hid (by
        have := HA.out
        rw [List.drop_eq_nil_of_le (by rw [Array.length_toList]; exact Nat.le_of_not_lt hlt)] at this
        rw [← HZ.out, ← this]
        rfl)
      clear HA
      by_cases k1 : 1 ≤ s.size
      · by_cases k2 : s.size ≤ 40
        · have e1 : Hid (z = true) := Lib.hid (by rw [H.out, decide_eq_true k1, decide_eq_true k2]; rfl)
          have d1 : decide ((1 : Int) ≤ (s.size : Int)) = true := by simp; omega
          have d2 : decide ((s.size : Int) ≤ 40) = true := by simp; omega
          go_wp2
          all_goals (go_ret; exact ⟨by rw [e1.out]; rfl, rfl⟩)
        · have e1 : Hid (z = false) := Lib.hid (by rw [H.out, decide_eq_true k1, decide_eq_false k2]; rfl)
          have d1 : decide ((1 : Int) ≤ (s.size : Int)) = true := by simp; omega
          have d2 : decide ((s.size : Int) ≤ 40) = false := by simp; omega
          go_wp2
          all_goals (go_ret; exact ⟨by rw [e1.out]; rfl, rfl⟩)
      · have e1 : Hid (z = false) := Lib.hid (by rw [H.out, decide_eq_false k1]; rfl)
        have d1 : decide ((1 : Int) ≤ (s.size : Int)) = false := by simp; omega
        go_wp2
        all_goals (go_ret; exact ⟨by rw [e1.out]; rfl, rfl⟩)

end Go.Proofs.Ytfiacojgddpphaa
