/-
  The reference's Bytes, May, Same, Small. Conditions: slices lead to what they are said to; they are no longer than 2 to the 30.
  The reference's Same and Small. Conditions: slices lead to what they are said to; names and bytes are short.
  The reference's Small. Conditions: slices lead to what they are said to; no file's data is longer than 2 to the 48.
-/
import Derived.Test.YtjhiekijbcjohaaGreatDoorLoad
namespace Go.Proofs.YtjhiekijbcjohaaGreatDoor
open Go.RowKit Go.Lib Go.Joins

/-- A call that only reads. -/
def Tells (v : Value) (w : World) (e : Ending) (w' : World) : Prop := e = .returned v ∧ ∃ n, w' = w.drewN n

/-- Same from a place on. -/
def eqFrom (l m : List Nat) (i : Nat) : Bool := decide (l.drop i = m.drop i)
theorem eqFrom_step {l m : List Nat} {i x y : Nat} (hx : l[i]? = some x) (hy : m[i]? = some y) : eqFrom l m i = (decide (x = y) && eqFrom l m (i + 1)) := by
  obtain ⟨h1, rfl⟩ := List.getElem?_eq_some_iff.1 hx
  obtain ⟨h2, rfl⟩ := List.getElem?_eq_some_iff.1 hy
  unfold eqFrom
  rw [List.drop_eq_getElem_cons h1, List.drop_eq_getElem_cons h2, Bool.eq_iff_iff]
  simp only [List.cons.injEq, decide_eq_true_eq, Bool.and_eq_true]

theorem row_at {w : World} {S : Nat → Prop} {a : Option Addr} {l : List Nat} (h : Row w S a l) {i x : Nat} (hi : l[i]? = some x) : ∃ b o, a = some ⟨b, o, none⟩ ∧ w.cell? ⟨b, o + i, none⟩ = some (.int .u8 (x : Int)) := by
  rcases h.2 with h0 | ⟨b, o, ha, _, hc⟩
  · rw [h0] at hi; simp at hi
  · exact ⟨b, o, ha, hc i x hi⟩

set_option maxRecDepth 100000 in
set_option maxHeartbeats 4000000 in
theorem bytes_calls (a a' : Option Addr) (l m : List Nat) (c c' n n' : Nat) (w : World) {S S' : Nat → Prop} (h : Row w S a l) (h' : Row w S' a' m) (hn : l.length = n) (hn' : m.length = n') (hb : n ≤ 1073741824) (hb' : n' ≤ 1073741824) :
    Calls Tryz.prog 11 #[.slice a n c, .slice a' n' c'] w (Tells (.bool (decide (l = m))) w) := by
  by_cases hnn : n = n'
  · subst hnn
    have he : decide (l = m) = eqFrom l m 0 := rfl
    rw [he]
    obtain ⟨q, hq⟩ : ∃ q, eqFrom l m 0 = q := ⟨_, rfl⟩
    rw [hq]
    have HQ := Lib.hid hq
    have HR := Lib.hid h
    have HR' := Lib.hid h'
    have HN := Lib.hid hn
    have HN' := Lib.hid hn'
    clear h h' hn hn' he hq
    go_enter Tryz.func11, Tryz.ntmps11
    go_wp2
    go_loopg [5] n (fun g idx wr => ∃ (i k : Nat), idx = .int .i64 (i : Int) ∧ g + i = n ∧ eqFrom l m i = q ∧ wr = w.drewN k)
    case atStart => exact ⟨0, 0, rfl, rfl, HQ.out, rfl⟩
    case round =>
      obtain ⟨i, k, rfl, hg, hq, rfl⟩ := hrel
      have HG := Lib.hid hg
      have HE := Lib.hid hq
      clear hg hq HQ
      by_cases hlt : i < n
      · obtain ⟨g', rfl⟩ : ∃ g', gk = g' + 1 := ⟨gk - 1, by have := HG.out; omega⟩
        have hd : decide ((i : Int) < (n : Int)) = true := by simp; omega
        obtain ⟨x, hx⟩ : ∃ x, l[i]? = some x := ⟨l[i]'(by rw [HN.out]; exact hlt), List.getElem?_eq_getElem _⟩
        obtain ⟨y, hy⟩ : ∃ y, m[i]? = some y := ⟨m[i]'(by rw [HN'.out]; exact hlt), List.getElem?_eq_getElem _⟩
        have hst := eqFrom_step hx hy
        rw [HE.out] at hst
        have HST := Lib.hid hst
        obtain ⟨b, o, rfl, hc⟩ := row_at HR.out hx
        obtain ⟨b', o', rfl, hc'⟩ := row_at HR'.out hy
        clear hst hx hy
        by_cases hxy : x = y
        · subst hxy
          have HN2 : Hid (eqFrom l m (i + 1) = q) := Lib.hid (by have := HST.out; simp at this; exact this.symm)
          go_wp2
          go_quiet (fail)
          go_wp2
          go_roundg g'
          case measure => omega
          case rel => exact ⟨i + 1, _, by go_num, by have := HG.out; omega, HN2.out, rfl⟩
        · have HF : Hid (q = false) := Lib.hid (by rw [HST.out, decide_eq_false hxy]; rfl)
          have hne : ((x : Int) != (y : Int)) = true := by simp; omega
          have hne2 : ((x : Int) == (y : Int)) = false := by simp; omega
          clear HST
          go_wp2
          go_quiet (fail)
          go_wp2
          go_ret
          exact ⟨by rw [HF.out]; rfl, _, World.drewN_drewN w k nq⟩
      · have hd : decide ((i : Int) < (n : Int)) = false := by simp; omega
        have HT : Hid (q = true) := Lib.hid (by
          rw [← HE.out]
          unfold eqFrom
          rw [List.drop_eq_nil_of_le (by rw [HN.out]; omega), List.drop_eq_nil_of_le (by rw [HN'.out]; omega)]
          rfl)
        go_wp2
        go_ret
        exact ⟨by rw [HT.out]; rfl, k, rfl⟩
  · have he : decide (l = m) = false := by
      simp only [decide_eq_false_iff_not]
      intro e
      rw [← hn, ← hn', e] at hnn
      exact hnn rfl
    rw [he]
    have hne : ((n : Int) != (n' : Int)) = true := by simp; omega
    clear h h' he hn hn'
    go_enter Tryz.func11, Tryz.ntmps11
    go_wp2
    go_ret
    exact ⟨rfl, 0, rfl⟩

set_option maxRecDepth 100000 in
set_option maxHeartbeats 4000000 in
theorem may_calls (s : ByteArray) (w : World) (hs : s.size ≤ 1099511627776) : Calls Tryz.prog 113 #[.string s] w fun e w' => e = .returned (.bool (nmd s)) ∧ w = w' := by
  obtain ⟨q, hq⟩ : ∃ q, s.data.toList.all okc = q := ⟨_, rfl⟩
  have HQ := Lib.hid hq
  have hn : nmd s = (q && decide (1 ≤ s.size) && decide (s.size ≤ 40)) := by unfold nmd; rw [hq]
  rw [hn]
  obtain ⟨z, hz⟩ : ∃ z, (q && decide (1 ≤ s.size) && decide (s.size ≤ 40)) = z := ⟨_, rfl⟩
  rw [hz]
  have HZ := Lib.hid hz
  clear hn hq hz
  go_enter Tryz.func113, Tryz.ntmps113
  go_wp2
  go_loopg [3, 4] s.size (fun g idx _ wr => ∃ (p : Nat), idx = .int .i64 (p : Int) ∧ g + p = s.size ∧ (s.data.toList.drop p).all okc = q ∧ wr = w)
  case atStart => exact ⟨0, rfl, rfl, HQ.out, rfl⟩
  case round =>
    obtain ⟨p, rfl, hg, hall, rfl⟩ := hrel
    have HG := Lib.hid hg
    have HA := Lib.hid hall
    clear hg hall HQ
    by_cases hlt : p < s.size
    · obtain ⟨g', rfl⟩ : ∃ g', gk = g' + 1 := ⟨gk - 1, by have := HG.out; omega⟩
      have hdd : decide ((p : Int) < (s.size : Int)) = true := by simp; omega
      have hd := drop_at hlt
      obtain ⟨c, hc⟩ : ∃ c, s[p] = c := ⟨_, rfl⟩
      have HA2 : Hid ((okc c && (s.data.toList.drop (p + 1)).all okc) = q) := Lib.hid (by
        have := HA.out
        rw [hd, hc, List.all_cons] at this
        exact this)
      clear hd HA
      have hok : okc c = (decide (97 ≤ (c.toNat : Int) ∧ (c.toNat : Int) ≤ 122) || decide (48 ≤ (c.toNat : Int) ∧ (c.toNat : Int) ≤ 57) || decide ((c.toNat : Int) = 46) || decide ((c.toNat : Int) = 45)) := by
        unfold okc
        rw [Bool.eq_iff_iff]
        simp
        omega
      have HOK := Lib.hid hok
      have hr0 : (0 : Int) ≤ (c.toNat : Int) := by omega
      have hr1 : (c.toNat : Int) ≤ 255 := by have := c.toNat_lt; omega
      obtain ⟨r, hr⟩ : ∃ r : Int, (c.toNat : Int) = r := ⟨_, rfl⟩
      rw [hr] at HOK hr0 hr1
      clear hok
      by_cases k1 : 97 ≤ r ∧ r ≤ 122
      · have H : Hid ((s.data.toList.drop (p + 1)).all okc = q) := Lib.hid (by have := HA2.out; rw [HOK.out, decide_eq_true k1] at this; simpa using this)
        obtain ⟨ka, kb⟩ := k1
        clear HA2 HOK
        go_wp2
        go_roundg g'
        case measure => omega
        case rel => exact ⟨p + 1, by go_num, by have := HG.out; omega, H.out, rfl⟩
      by_cases k2 : 48 ≤ r ∧ r ≤ 57
      · have H : Hid ((s.data.toList.drop (p + 1)).all okc = q) := Lib.hid (by have := HA2.out; rw [HOK.out, decide_eq_true k2] at this; simpa using this)
        obtain ⟨ka, kb⟩ := k2
        have kc : r < 97 := by omega
        clear HA2 HOK k1
        go_wp2
        go_roundg g'
        case measure => omega
        case rel => exact ⟨p + 1, by go_num, by have := HG.out; omega, H.out, rfl⟩
      by_cases k3 : r = 46
      · have H : Hid ((s.data.toList.drop (p + 1)).all okc = q) := Lib.hid (by have := HA2.out; rw [HOK.out, k3] at this; simpa using this)
        subst k3
        clear HA2 HOK k1 k2
        go_wp2
        go_roundg g'
        case measure => omega
        case rel => exact ⟨p + 1, by go_num, by have := HG.out; omega, H.out, rfl⟩
      by_cases k4 : r = 45
      · have H : Hid ((s.data.toList.drop (p + 1)).all okc = q) := Lib.hid (by have := HA2.out; rw [HOK.out, k4] at this; simpa using this)
        subst k4
        clear HA2 HOK k1 k2 k3
        go_wp2
        go_roundg g'
        case measure => omega
        case rel => exact ⟨p + 1, by go_num, by have := HG.out; omega, H.out, rfl⟩
      · have H : Hid (z = false) := Lib.hid (by
          have := HA2.out
          rw [HOK.out, decide_eq_false k1, decide_eq_false k2, decide_eq_false k3, decide_eq_false k4] at this
          rw [← HZ.out, ← this]
          rfl)
        have d1 : (r != 46) = true := by simpa using k3
        have d2 : (r != 45) = true := by simpa using k4
        clear HA2 HOK
        by_cases e1 : r < 97
        · by_cases e2 : r < 48
          · go_wp2
            go_ret
            exact ⟨by rw [H.out]; rfl, rfl⟩
          · have e3 : 57 < r := by omega
            go_wp2
            go_ret
            exact ⟨by rw [H.out]; rfl, rfl⟩
        · have e3 : 122 < r := by omega
          have e4 : 57 < r := by omega
          have e5 : ¬ r < 48 := by omega
          go_wp2
          go_ret
          exact ⟨by rw [H.out]; rfl, rfl⟩
    · have hdd : decide ((p : Int) < (s.size : Int)) = false := by simp; omega
      have H : Hid (z = (decide (1 ≤ s.size) && decide (s.size ≤ 40))) := Lib.hid (by
        have := HA.out
        rw [List.drop_eq_nil_of_le (by rw [Array.length_toList]; exact Nat.le_of_not_lt hlt)] at this
        rw [← HZ.out, ← this]
        rfl)
      clear HA
      by_cases k1 : 1 ≤ s.size
      · by_cases k2 : s.size ≤ 40
        · have e1 : Hid (z = true) := Lib.hid (by rw [H.out, decide_eq_true k1, decide_eq_true k2]; rfl)
          have d1 : decide ((1 : Int) ≤ (s.size : Int)) = true := by simp; omega
          have d2 : decide ((s.size : Int) ≤ 40) = true := by simp; omega
          go_wp2
          all_goals (go_ret; exact ⟨by rw [e1.out]; rfl, rfl⟩)
        · have e1 : Hid (z = false) := Lib.hid (by rw [H.out, decide_eq_true k1, decide_eq_false k2]; rfl)
          have d1 : decide ((1 : Int) ≤ (s.size : Int)) = true := by simp; omega
          have d2 : decide ((s.size : Int) ≤ 40) = false := by simp; omega
          go_wp2
          all_goals (go_ret; exact ⟨by rw [e1.out]; rfl, rfl⟩)
      · have e1 : Hid (z = false) := Lib.hid (by rw [H.out, decide_eq_false k1]; rfl)
        have d1 : decide ((1 : Int) ≤ (s.size : Int)) = false := by simp; omega
        go_wp2
        all_goals (go_ret; exact ⟨by rw [e1.out]; rfl, rfl⟩)

end Go.Proofs.YtjhiekijbcjohaaGreatDoor
namespace Go.Proofs.YtjhiekijbcjohaaGreatDoor
open Go.RowKit Go.Lib Go.Joins

def same1 (f g : FilI) : Bool := decide (f.name = g.name) && decide (f.safe = g.safe) && decide (f.data = g.data)
def sameB : List FilI → List FilI → Bool
  | [], [] => true
  | f :: L, g :: M => same1 f g && sameB L M
  | _, _ => false
theorem same1_eq {f g : FilI} : same1 f g = true ↔ f = g := by
  obtain ⟨n, d, s⟩ := f
  obtain ⟨n', d', s'⟩ := g
  unfold same1
  simp only [Bool.and_eq_true, decide_eq_true_eq, FilI.mk.injEq]
  constructor
  · rintro ⟨⟨h1, h2⟩, h3⟩; exact ⟨h1, h3, h2⟩
  · rintro ⟨h1, h3, h2⟩; exact ⟨⟨h1, h2⟩, h3⟩
theorem sameB_eq : ∀ {L M : List FilI}, sameB L M = true ↔ L = M
  | [], [] => by simp [sameB]
  | [], _ :: _ => by simp [sameB]
  | _ :: _, [] => by simp [sameB]
  | f :: L, g :: M => by
    unfold sameB
    rw [Bool.and_eq_true, same1_eq, sameB_eq, List.cons.injEq]
theorem sameB_len {L M : List FilI} (h : L.length ≠ M.length) : sameB L M = false := by
  cases hs : sameB L M
  · rfl
  · exact absurd (congrArg List.length (sameB_eq.1 hs)) h
theorem sameB_drop {L M : List FilI} {i : Nat} {f g : FilI} (hf : L[i]? = some f) (hg : M[i]? = some g) : sameB (L.drop i) (M.drop i) = (same1 f g && sameB (L.drop (i + 1)) (M.drop (i + 1))) := by
  obtain ⟨h1, rfl⟩ := List.getElem?_eq_some_iff.1 hf
  obtain ⟨h2, rfl⟩ := List.getElem?_eq_some_iff.1 hg
  rw [List.drop_eq_getElem_cons h1, List.drop_eq_getElem_cons h2]
  rfl

theorem quiet_add {P : Program} {f : FuncId} {args : Array Value} {w : World} {a n : Nat} {v : Value} (h : Calls P f args (w.drewN (a + n)) (Tells v (w.drewN (a + n)))) :
    Calls P f args (w.drewN (a + n)) fun e w'' => e = .returned v ∧ ∃ m, w'' = w.drewN (a + m) :=
  h.mono fun _ _ ⟨he, m, hm⟩ => ⟨he, n + m, by rw [hm, World.drewN_drewN, Nat.add_assoc]⟩

set_option maxRecDepth 100000 in
set_option maxHeartbeats 8000000 in
theorem same_calls (a a' : Option Addr) (L M : List FilI) (c c' n n' : Nat) (w : World) {S S' : Nat → Prop} (h : Fils w S a L) (h' : Fils w S' a' M) (hn : L.length = n) (hn' : M.length = n') (hb : n ≤ 1073741824) (hb' : n' ≤ 1073741824) (hd : ∀ f ∈ L, f.data.length ≤ 1073741824) (hd' : ∀ f ∈ M, f.data.length ≤ 1073741824) :
    Calls Tryz.prog 21 #[.slice a n c, .slice a' n' c'] w (Tells (.bool (sameB L M)) w) := by
  by_cases hnn : n = n'
  · subst hnn
    obtain ⟨q, hq⟩ : ∃ q, sameB L M = q := ⟨_, rfl⟩
    rw [hq]
    have HQ := Lib.hid hq
    have HR := Lib.hid h
    have HR' := Lib.hid h'
    have HN := Lib.hid hn
    have HN' := Lib.hid hn'
    have HD := Lib.hid hd
    have HD' := Lib.hid hd'
    clear h h' hn hn' hq hd hd'
    go_enter Tryz.func21, Tryz.ntmps21
    go_wp2
    go_loopg [5] n (fun g idx wr => ∃ (i k : Nat), idx = .int .i64 (i : Int) ∧ g + i = n ∧ sameB (L.drop i) (M.drop i) = q ∧ wr = w.drewN k)
    case atStart => exact ⟨0, 0, rfl, rfl, HQ.out, rfl⟩
    case round =>
      obtain ⟨i, k, rfl, hg, hq, rfl⟩ := hrel
      have HG := Lib.hid hg
      have HE := Lib.hid hq
      clear hg hq HQ
      by_cases hlt : i < n
      · obtain ⟨g', rfl⟩ : ∃ g', gk = g' + 1 := ⟨gk - 1, by have := HG.out; omega⟩
        have hdd : decide ((i : Int) < (n : Int)) = true := by simp; omega
        obtain ⟨f, hf⟩ : ∃ x, L[i]? = some x := ⟨L[i]'(by rw [HN.out]; exact hlt), List.getElem?_eq_getElem _⟩
        obtain ⟨g, hg⟩ : ∃ y, M[i]? = some y := ⟨M[i]'(by rw [HN'.out]; exact hlt), List.getElem?_eq_getElem _⟩
        have hst := sameB_drop hf hg
        rw [HE.out] at hst
        have HST := Lib.hid hst
        obtain ⟨b, o, da, dc, rfl, _, r0, r1, r2, hrow, _⟩ := fils_at HR.out hf
        obtain ⟨b', o', da', dc', rfl, _, s0, s1, s2, hrow', _⟩ := fils_at HR'.out hg
        have HBY := Lib.hid (fun W (hW : Row W S da f.data) (hW' : Row W S' da' g.data) => bytes_calls da da' f.data g.data dc dc' f.data.length g.data.length W hW hW' rfl rfl (HD.out f (List.mem_of_getElem? hf)) (HD'.out g (List.mem_of_getElem? hg)))
        have HROW := Lib.hid hrow
        have HROW' := Lib.hid hrow'
        clear hst hf hg hrow hrow'
        by_cases hnm : f.name = g.name
        · by_cases hsf : f.safe = g.safe
          · obtain ⟨bq, hbq⟩ : ∃ bq, decide (f.data = g.data) = bq := ⟨_, rfl⟩
            rw [hbq] at HBY
            have HBQ := Lib.hid hbq
            have HST2 : Hid (q = (bq && sameB (L.drop (i + 1)) (M.drop (i + 1)))) := Lib.hid (by
              have := HST.out
              unfold same1 at this
              rw [decide_eq_true hnm, decide_eq_true hsf, hbq] at this
              simpa using this)
            rw [hnm] at r0
            rw [hsf] at r2
            clear hbq hnm hsf HST
            cases bq with
            | true =>
              have HN2 : Hid (sameB (L.drop (i + 1)) (M.drop (i + 1)) = q) := Lib.hid (by have := HST2.out; simp at this; exact this.symm)
              go_wp2
              go_quiet ((exact quiet_add (HBY.out _ (HROW.out.keep ((Keeps.refl Non _).drewN _) (fun _ _ h => h)) (HROW'.out.keep ((Keeps.refl Non _).drewN _) (fun _ _ h => h)))))
              go_wp2
              go_roundg g'
              case measure => omega
              case rel => exact ⟨i + 1, _, by go_num, by have := HG.out; omega, HN2.out, rfl⟩
            | false =>
              have HF : Hid (q = false) := Lib.hid (by rw [HST2.out]; rfl)
              go_wp2
              go_quiet ((exact quiet_add (HBY.out _ (HROW.out.keep ((Keeps.refl Non _).drewN _) (fun _ _ h => h)) (HROW'.out.keep ((Keeps.refl Non _).drewN _) (fun _ _ h => h)))))
              go_wp2
              go_ret
              exact ⟨by rw [HF.out]; rfl, _, World.drewN_drewN w k nq⟩
          · have HF : Hid (q = false) := Lib.hid (by
              have := HST.out
              unfold same1 at this
              rw [decide_eq_false hsf] at this
              simpa using this)
            rw [hnm] at r0
            have hne : (f.safe != g.safe) = true := by simpa using hsf
            clear hnm hsf HST
            go_wp2
            go_quiet (fail)
            go_wp2
            go_ret
            exact ⟨by rw [HF.out]; rfl, _, World.drewN_drewN w k nq⟩
        · have HF : Hid (q = false) := Lib.hid (by
            have := HST.out
            unfold same1 at this
            rw [decide_eq_false hnm] at this
            simpa using this)
          have hne : (f.name.toList == g.name.toList) = false := by
            rw [ByteArray.toList_eq, ByteArray.toList_eq]
            have := same_is f.name g.name
            rw [decide_eq_false hnm] at this
            exact this
          clear HST
          go_wp2
          go_quiet (fail)
          go_wp2
          go_ret
          exact ⟨by rw [HF.out]; rfl, _, World.drewN_drewN w k nq⟩
      · have hdd : decide ((i : Int) < (n : Int)) = false := by simp; omega
        have HT : Hid (q = true) := Lib.hid (by
          rw [← HE.out, List.drop_eq_nil_of_le (by rw [HN.out]; omega), List.drop_eq_nil_of_le (by rw [HN'.out]; omega)]
          rfl)
        go_wp2
        go_ret
        exact ⟨by rw [HT.out]; rfl, k, rfl⟩
  · have he : sameB L M = false := sameB_len (by rw [hn, hn']; exact hnn)
    rw [he]
    have hne : ((n : Int) != (n' : Int)) = true := by simp; omega
    clear h h' he hn hn' hd hd'
    go_enter Tryz.func21, Tryz.ntmps21
    go_wp2
    go_ret
    exact ⟨rfl, 0, rfl⟩

end Go.Proofs.YtjhiekijbcjohaaGreatDoor
namespace Go.Proofs.YtjhiekijbcjohaaGreatDoor
open Go.RowKit Go.Lib Go.Joins

def smallF : List FilI → Nat → Nat → Bool
  | [], _, n => decide (n ≤ 16384)
  | f :: L, i, n => if i < 100 ∧ f.name.size ≤ 1000 then smallF L (i + 1) (n + f.data.length) else false
theorem smallF_total : ∀ (L : List FilI) (i n : Nat), smallF L i n = true → n + total L ≤ 16384 ∧ (∀ f ∈ L, f.name.size ≤ 1000) ∧ (i + L.length ≤ 100 ∨ L = [])
  | [], i, n, h => ⟨by simpa [smallF, total] using h, (fun _ hf => by cases hf), Or.inr rfl⟩
  | f :: L, i, n, h => by
    unfold smallF at h
    split at h
    · next hc =>
      obtain ⟨h1, h2, h3⟩ := smallF_total L (i + 1) (n + f.data.length) h
      refine ⟨?_, ?_, ?_⟩
      · unfold total at h1 ⊢
        simp only [List.map_cons, List.sum_cons]
        omega
      · intro g hg
        rcases List.mem_cons.1 hg with rfl | hg
        · exact hc.2
        · exact h2 g hg
      · rcases h3 with h3 | rfl
        · left; simp only [List.length_cons]; omega
        · left; simp only [List.length_cons, List.length_nil]; omega
    · cases h
theorem smallF_drop {L : List FilI} {i n : Nat} {f : FilI} (hf : L[i]? = some f) : smallF (L.drop i) i n = if i < 100 ∧ f.name.size ≤ 1000 then smallF (L.drop (i + 1)) (i + 1) (n + f.data.length) else false := by
  obtain ⟨h1, rfl⟩ := List.getElem?_eq_some_iff.1 hf
  rw [List.drop_eq_getElem_cons h1]
  rfl

end Go.Proofs.YtjhiekijbcjohaaGreatDoor
