/-
  The program's within, told, named, and a copy of bytes. Conditions: a name is shorter than 2 to the 40.
-/
import Derived.Test.YtjhiekijbcjohaaGreatDoorBase
import Derived.Test.YtjhiekijbcjohaaGreatDoorShelves
import Derived.Laws.RangeString
import Derived.Laws.RangeAny
namespace Go.Proofs.YtjhiekijbcjohaaGreatDoor
open Go.RowKit Go.Lib

set_option maxRecDepth 100000 in
set_option maxHeartbeats 1000000 in
theorem within_calls (n : Int) (m : Nat) (w : World) : Calls Tryz.prog 54 #[.int .i64 n, .int .i64 (m : Int)] w fun e w' => e = .returned (.int .i64 (wth n m : Int)) ∧ w = w' := by
  have hq : min (max n 0) (m : Int) = (wth n m : Int) := by unfold wth; omega
  have HQ := Lib.hid hq
  clear hq
  go_enter Tryz.func54, Tryz.ntmps54
  go_wp2
  go_ret
  exact ⟨by rw [HQ.out]; rfl, rfl⟩

set_option maxRecDepth 100000 in
set_option maxHeartbeats 1000000 in
theorem told_calls (k : Int) (w : World) : Calls Tryz.prog 53 #[.int .i64 k] w fun e w' => e = .returned (.int .i64 (tld k)) ∧ w = w' := by
  obtain ⟨q, hq⟩ : ∃ q, tld k = q := ⟨_, rfl⟩
  rw [hq]
  unfold tld at hq
  have HQ := Lib.hid hq
  clear hq
  by_cases h1 : k = 1
  · subst h1
    go_enter Tryz.func53, Tryz.ntmps53
    go_wp2
    go_ret
    exact ⟨by rw [← HQ.out]; rfl, rfl⟩
  by_cases h2 : k = 2
  · subst h2
    go_enter Tryz.func53, Tryz.ntmps53
    go_wp2
    go_ret
    exact ⟨by rw [← HQ.out]; rfl, rfl⟩
  by_cases h3 : k = 3
  · subst h3
    go_enter Tryz.func53, Tryz.ntmps53
    go_wp2
    go_ret
    exact ⟨by rw [← HQ.out]; rfl, rfl⟩
  · have H : Hid (q = 0) := Lib.hid (by rw [← HQ.out, if_neg h1, if_neg h2, if_neg h3])
    go_enter Tryz.func53, Tryz.ntmps53
    go_wp2
    go_ret
    exact ⟨by rw [H.out]; rfl, rfl⟩

theorem drop_at {s : ByteArray} {p : Nat} (h : p < s.size) : s.data.toList.drop p = s[p] :: s.data.toList.drop (p + 1) := by
  have hl : p < s.data.toList.length := by rw [Array.length_toList]; exact h
  rw [List.drop_eq_getElem_cons hl]
  congr 1

set_option maxRecDepth 100000 in
set_option maxHeartbeats 2000000 in
theorem named_calls (s : ByteArray) (w : World) (hs : s.size ≤ 1099511627776) : Calls Tryz.prog 73 #[.string s] w (Leaves (.bool (nmd s)) w) := by
  obtain ⟨q, hq⟩ : ∃ q, s.data.toList.all okc = q := ⟨_, rfl⟩
  have HQ := Lib.hid hq
  have hn : nmd s = (q && decide (1 ≤ s.size) && decide (s.size ≤ 40)) := by unfold nmd; rw [hq]
  rw [hn]
  obtain ⟨z, hz⟩ : ∃ z, (q && decide (1 ≤ s.size) && decide (s.size ≤ 40)) = z := ⟨_, rfl⟩
  rw [hz]
  have HZ := Lib.hid hz
  clear hn hq hz
  have hit : ∀ p, Below w.heap.size w (w.iter s p) := fun p => (Below.refl _ w).alloc (Nat.le_refl _) _
  have HIT := Lib.hid hit
  clear hit
  go_enter Tryz.func73, Tryz.ntmps73
  go_wp2
  go_loopg [4] s.size (fun g _ wr => ∃ (p : Nat), wr = w.iter s p ∧ g + p = s.size ∧ (s.data.toList.drop p).all okc = q)
  case atStart => exact ⟨0, rfl, rfl, HQ.out⟩
  case round =>
    obtain ⟨p, rfl, hg, hall⟩ := hrel
    have HG := Lib.hid hg
    have HA := Lib.hid hall
    clear hg hall HQ
    by_cases hlt : p < s.size
    · obtain ⟨g', rfl⟩ : ∃ g', gk = g' + 1 := ⟨gk - 1, by have := HG.out; omega⟩
      have hd := drop_at hlt
      obtain ⟨c, hc⟩ : ∃ c, s[p] = c := ⟨_, rfl⟩
      have HA2 : Hid ((okc c && (s.data.toList.drop (p + 1)).all okc) = q) := Lib.hid (by
        have := HA.out
        rw [hd, hc, List.all_cons] at this
        exact this)
      clear hd HA
      by_cases ha : c.toNat < 128
      · have hnx := fun ty => run_next_ascii (P := Tryz.prog) w s p ty hlt (by rw [hc]; exact ha)
        rw [hc] at hnx
        have hr0 : (0 : Int) ≤ (c.toNat : Int) := by omega
        have hok : okc c = (decide (97 ≤ (c.toNat : Int) ∧ (c.toNat : Int) ≤ 122) || decide (48 ≤ (c.toNat : Int) ∧ (c.toNat : Int) ≤ 57) || decide ((c.toNat : Int) = 46) || decide ((c.toNat : Int) = 45)) := by
          unfold okc
          rw [Bool.eq_iff_iff]
          simp
          omega
        have HOK := Lib.hid hok
        obtain ⟨r, hr⟩ : ∃ r : Int, (c.toNat : Int) = r := ⟨_, rfl⟩
        rw [hr] at hnx HOK hr0
        clear hok ha hc hr
        by_cases k1 : 97 ≤ r ∧ r ≤ 122
        · have H : Hid ((s.data.toList.drop (p + 1)).all okc = q) := Lib.hid (by have := HA2.out; rw [HOK.out, decide_eq_true k1] at this; simpa using this)
          obtain ⟨ka, kb⟩ := k1
          clear HA2 HOK
          go_wp2
          go_roundg g'
          case measure => omega
          case rel => exact ⟨p + 1, rfl, by have := HG.out; omega, H.out⟩
        by_cases k2 : 48 ≤ r ∧ r ≤ 57
        · have H : Hid ((s.data.toList.drop (p + 1)).all okc = q) := Lib.hid (by have := HA2.out; rw [HOK.out, decide_eq_true k2] at this; simpa using this)
          obtain ⟨ka, kb⟩ := k2
          have kc : ¬ (97 ≤ r) := by omega
          clear HA2 HOK k1
          go_wp2
          go_roundg g'
          case measure => omega
          case rel => exact ⟨p + 1, rfl, by have := HG.out; omega, H.out⟩
        by_cases k3 : r = 46
        · have H : Hid ((s.data.toList.drop (p + 1)).all okc = q) := Lib.hid (by have := HA2.out; rw [HOK.out, k3] at this; simpa using this)
          subst k3
          clear HA2 HOK k1 k2
          go_wp2
          go_roundg g'
          case measure => omega
          case rel => exact ⟨p + 1, rfl, by have := HG.out; omega, H.out⟩
        by_cases k4 : r = 45
        · have H : Hid ((s.data.toList.drop (p + 1)).all okc = q) := Lib.hid (by have := HA2.out; rw [HOK.out, k4] at this; simpa using this)
          subst k4
          clear HA2 HOK k1 k2 k3
          go_wp2
          go_roundg g'
          case measure => omega
          case rel => exact ⟨p + 1, rfl, by have := HG.out; omega, H.out⟩
        · have H : Hid (z = false) := Lib.hid (by
            have := HA2.out
            rw [HOK.out, decide_eq_false k1, decide_eq_false k2, decide_eq_false k3, decide_eq_false k4] at this
            rw [← HZ.out, ← this]
            rfl)
          have d1 : (r == 46) = false := by simpa using k3
          have d2 : (r == 45) = false := by simpa using k4
          clear HA2 HOK
          go_wp2
          all_goals
            first
              | (exfalso; omega)
              | (go_ret; exact ⟨by rw [H.out]; rfl, HIT.out _⟩)
      · have hnx := fun ty => run_next_any (P := Tryz.prog) w s p ty hlt
        have hh := (decode_high s p hlt (by rw [hc]; omega)).1
        have hle := decode_le s p
        have H : Hid (z = false) := Lib.hid (by
          have := HA2.out
          rw [show okc c = false by unfold okc; simp; omega] at this
          rw [← HZ.out, ← this]
          rfl)
        obtain ⟨⟨r, n⟩, hrn⟩ : ∃ d, Utf8.decode s p = d := ⟨_, rfl⟩
        rw [hrn] at hnx hh hle
        have h0 : (128 : Int) ≤ (r : Int) := by have : 128 ≤ r := hh; omega
        have h1 : (r : Int) ≤ 2147483647 := by have : r ≤ 2147483647 := hle; omega
        obtain ⟨R, hR⟩ : ∃ R : Int, (r : Int) = R := ⟨_, rfl⟩
        simp only [hR] at hnx h0 h1
        clear HA2 hrn hh hle hR hc ha
        have d0 : ¬ (R ≤ 122) := by omega
        have d3 : ¬ (R ≤ 57) := by omega
        have d1 : (R == 46) = false := by simp; omega
        have d2 : (R == 45) = false := by simp; omega
        go_wp2
        all_goals
          first
            | (exfalso; omega)
            | (go_ret; exact ⟨by rw [H.out]; rfl, HIT.out _⟩)
    · have hnx := fun ty => run_next_end (P := Tryz.prog) w s p ty hlt
      have H : Hid (z = (decide (1 ≤ s.size) && decide (s.size ≤ 40))) := Lib.hid (by
        have := HA.out
        rw [List.drop_eq_nil_of_le (by rw [Array.length_toList]; exact Nat.le_of_not_lt hlt)] at this
        rw [← HZ.out, ← this]
        rfl)
      clear HA
      by_cases k1 : 1 ≤ s.size
      · by_cases k2 : s.size ≤ 40
        · have e1 : Hid (z = true) := Lib.hid (by rw [H.out, decide_eq_true k1, decide_eq_true k2]; rfl)
          have d1 : decide ((1 : Int) ≤ (s.size : Int)) = true := by simp; omega
          have d2 : decide ((s.size : Int) ≤ 40) = true := by simp; omega
          go_wp2
          all_goals (go_ret; exact ⟨by rw [e1.out]; rfl, HIT.out _⟩)
        · have e1 : Hid (z = false) := Lib.hid (by rw [H.out, decide_eq_true k1, decide_eq_false k2]; rfl)
          have d1 : decide ((1 : Int) ≤ (s.size : Int)) = true := by simp; omega
          have d2 : decide ((s.size : Int) ≤ 40) = false := by simp; omega
          go_wp2
          all_goals (go_ret; exact ⟨by rw [e1.out]; rfl, HIT.out _⟩)
      · have e1 : Hid (z = false) := Lib.hid (by rw [H.out, decide_eq_false k1]; rfl)
        have d1 : decide ((1 : Int) ≤ (s.size : Int)) = false := by simp; omega
        go_wp2
        all_goals (go_ret; exact ⟨by rw [e1.out]; rfl, HIT.out _⟩)

/-- What bytes.Clone hands back: a row of the call's own, of the same bytes. -/
def Cloned (l : List Nat) (w : World) (e : Ending) (w' : World) : Prop :=
  ∃ v, e = .returned v ∧ w'.ownsRow w.heap.size 5 1 v l.length (cellsN l) ∧ Below w.heap.size w w'

theorem row_cells {w : World} {S : Nat → Prop} {b : Addr} {l : List Nat} (hr : Row w S (some b) l) : ∀ j u, (cellsN l)[j]? = some u → w.cell? (b.add j) = some u := by
  intro j u hj
  rw [cellsN, List.getElem?_map] at hj
  obtain ⟨c, hc, rfl⟩ := Option.map_eq_some_iff.1 hj
  rcases hr.2 with h0 | ⟨b2, o2, he, _, hcell⟩
  · rw [h0] at hc; simp at hc
  · obtain rfl := Option.some.inj he
    rw [Addr.add_mid]
    exact hcell j c hc

theorem clone_calls (a : Option Addr) (c : Nat) (l : List Nat) (S : Nat → Prop) (w : World) (hr : Row w S a l) (hl : l.length ≤ 1073741824) : Calls Tryz.prog 49 #[.slice a l.length c] w (Cloned l w) := by
  cases a with
  | none =>
    have h0 : l = [] := by
      rcases hr.2 with h | ⟨b, o, h, _⟩
      · exact h
      · cases h
    subst h0
    refine (Tryz.bytes_Clone_nil 0 c w).mono ?_
    rintro e w' ⟨rfl, rfl⟩
    exact ⟨_, rfl, World.ownsRow_nil _ _ _ _, Below.refl _ _⟩
  | some b =>
    have hx : ∀ (i x : Nat), l[i]? = some x → w.cell? (b.add i) = some (.int .u8 (x : Int)) := fun i x hi => row_cells hr i _ (by rw [cellsN, List.getElem?_map, hi]; rfl)
    refine (Tryz.bytes_Clone_at b l.length c (l.map fun x : Nat => (x : Int)) w (by simp) (by omega) (fun i hi => ?_)).mono ?_
    · have h1 : l[i]? = some l[i] := List.getElem?_eq_getElem hi
      rw [hx i _ h1, List.getD_eq_getElem?_getD, List.getElem?_map, h1]
      rfl
    · rintro e w' ⟨v, rfl, hown, _, hb⟩
      refine ⟨v, rfl, ?_, hb⟩
      rw [List.map_map] at hown
      exact hown

theorem row_of_own {w : World} {B n : Nat} {v : Value} {l : List Nat} (hb : ∀ c ∈ l, c < 256) (hn : l.length = n) (h : w.ownsRow B 5 1 v n (cellsN l)) : Byt w (fun k => v.ownBlock = some k) v l := by
  subst hn
  rcases h.2 with ⟨h1, h0⟩ | ⟨g, cap, cur, h1, hg, hgb, hcap, hcm, hcur, htk⟩
  · exact ⟨none, 0, by rw [h1, h0], ⟨hb, Or.inl (List.length_eq_zero_iff.1 (by omega))⟩, fun _ => rfl, by omega, Nat.zero_le _⟩
  · refine ⟨_, cap, h1, ⟨hb, Or.inr ⟨g, 0, rfl, by rw [h1]; rfl, fun i x hx => ?_⟩⟩, (fun e => by cases e), hcap, hcm⟩
    have := h.cells (g := g) (by rw [h1]; rfl) i (.int .u8 (x : Int)) (by rw [cellsN, List.getElem?_map, hx]; rfl)
    rwa [Addr.add_mid] at this

end Go.Proofs.YtjhiekijbcjohaaGreatDoor
