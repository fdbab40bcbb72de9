/-
  The program's within, told, named, and a copy of bytes. Conditions: a name is shorter than 2 to the 40.
  The program's find, Used and left. Conditions: the disk lies in memory; all files together are no more than 2 to the 30 bytes.
  The program's New, Names, Read, Ops, Down. Conditions: the disk lies in memory.
-/
import Derived.Test.YtacfcfbleogioaaGreatDoorBase
import Derived.Test.YtacfcfbleogioaaGreatDoorShelves
import Derived.Laws.RangeString
import Derived.Laws.RangeAny
import Derived.Maps.RangeWalk
import Derived.Deep.QuietTactic
import Derived.BigQuiet
import Derived.Lib.QuietBelow
import Derived.OwnWalkIn
import Derived.TacticsInMore
namespace Go.Proofs.YtacfcfbleogioaaGreatDoor
open Go.RowKit Go.Lib

set_option maxRecDepth 100000 in
set_option maxHeartbeats 1000000 in
theorem within_calls (n : Int) (m : Nat) (w : World) : Calls Tryz.prog 72 #[.int .i64 n, .int .i64 (m : Int)] w fun e w' => e = .returned (.int .i64 (wth n m : Int)) ∧ w = w' := by
  have hq : min (max n 0) (m : Int) = (wth n m : Int) := by unfold wth; omega
  have HQ := Lib.hid hq
  clear hq
  go_enter Tryz.func72, Tryz.ntmps72
  go_wp2
  go_ret
  exact ⟨by rw [HQ.out]; rfl, rfl⟩

set_option maxRecDepth 100000 in
set_option maxHeartbeats 1000000 in
theorem told_calls (k : Int) (w : World) : Calls Tryz.prog 51 #[.int .i64 k] w fun e w' => e = .returned (.int .i64 (tld k)) ∧ w = w' := by
  obtain ⟨q, hq⟩ : ∃ q, tld k = q := ⟨_, rfl⟩
  rw [hq]
  unfold tld at hq
  have HQ := Lib.hid hq
  clear hq
  by_cases h1 : k = 1
  · subst h1
    go_enter Tryz.func51, Tryz.ntmps51
    go_wp2
    go_ret
    exact ⟨by rw [← HQ.out]; rfl, rfl⟩
  by_cases h2 : k = 2
  · subst h2
    go_enter Tryz.func51, Tryz.ntmps51
    go_wp2
    go_ret
    exact ⟨by rw [← HQ.out]; rfl, rfl⟩
  by_cases h3 : k = 3
  · subst h3
    go_enter Tryz.func51, Tryz.ntmps51
    go_wp2
    go_ret
    exact ⟨by rw [← HQ.out]; rfl, rfl⟩
  · have H : Hid (q = 0) := Lib.hid (by rw [← HQ.out, if_neg h1, if_neg h2, if_neg h3])
    go_enter Tryz.func51, Tryz.ntmps51
    go_wp2
    go_ret
    exact ⟨by rw [H.out]; rfl, rfl⟩

theorem drop_at {s : ByteArray} {p : Nat} (h : p < s.size) : s.data.toList.drop p = s[p] :: s.data.toList.drop (p + 1) := by
  have hl : p < s.data.toList.length := by rw [Array.length_toList]; exact h
  rw [List.drop_eq_getElem_cons hl]
  congr 1

set_option maxRecDepth 100000 in
set_option maxHeartbeats 2000000 in
theorem named_calls (s : ByteArray) (w : World) (hs : s.size ≤ 1099511627776) : Calls Tryz.prog 81 #[.string s] w (Leaves (.bool (nmd s)) w) := by
  obtain ⟨q, hq⟩ : ∃ q, s.data.toList.all okc = q := ⟨_, rfl⟩
  have HQ := Lib.hid hq
  have hn : nmd s = (q && decide (1 ≤ s.size) && decide (s.size ≤ 40)) := by unfold nmd; rw [hq]
  rw [hn]
  obtain ⟨z, hz⟩ : ∃ z, (q && decide (1 ≤ s.size) && decide (s.size ≤ 40)) = z := ⟨_, rfl⟩
  rw [hz]
  have HZ := Lib.hid hz
  clear hn hq hz
  have hit : ∀ p, Below w.heap.size w (w.iter s p) := fun p => (Below.refl _ w).alloc (Nat.le_refl _) _
  have HIT := Lib.hid hit
  clear hit
  go_enter Tryz.func81, Tryz.ntmps81
  go_wp2
  go_loopg [4] s.size (fun g _ wr => ∃ (p : Nat), wr = w.iter s p ∧ g + p = s.size ∧ (s.data.toList.drop p).all okc = q)
  case atStart => exact ⟨0, rfl, rfl, HQ.out⟩
  case round =>
    obtain ⟨p, rfl, hg, hall⟩ := hrel
    have HG := Lib.hid hg
    have HA := Lib.hid hall
    clear hg hall HQ
    by_cases hlt : p < s.size
    · obtain ⟨g', rfl⟩ : ∃ g', gk = g' + 1 := ⟨gk - 1, by have := HG.out; omega⟩
      have hd := drop_at hlt
      obtain ⟨c, hc⟩ : ∃ c, s[p] = c := ⟨_, rfl⟩
      have HA2 : Hid ((okc c && (s.data.toList.drop (p + 1)).all okc) = q) := Lib.hid (by
        have := HA.out
        rw [hd, hc, List.all_cons] at this
        exact this)
      clear hd HA
      by_cases ha : c.toNat < 128
      · have hnx := fun ty => run_next_ascii (P := Tryz.prog) w s p ty hlt (by rw [hc]; exact ha)
        rw [hc] at hnx
        have hr0 : (0 : Int) ≤ (c.toNat : Int) := by omega
        have hok : okc c = (decide (97 ≤ (c.toNat : Int) ∧ (c.toNat : Int) ≤ 122) || decide (48 ≤ (c.toNat : Int) ∧ (c.toNat : Int) ≤ 57) || decide ((c.toNat : Int) = 46) || decide ((c.toNat : Int) = 45)) := by
          unfold okc
          rw [Bool.eq_iff_iff]
          simp
          omega
        have HOK := Lib.hid hok
        obtain ⟨r, hr⟩ : ∃ r : Int, (c.toNat : Int) = r := ⟨_, rfl⟩
        rw [hr] at hnx HOK hr0
        clear hok ha hc hr
        by_cases k1 : 97 ≤ r ∧ r ≤ 122
        · have H : Hid ((s.data.toList.drop (p + 1)).all okc = q) := Lib.hid (by have := HA2.out; rw [HOK.out, decide_eq_true k1] at this; simpa using this)
          obtain ⟨ka, kb⟩ := k1
          clear HA2 HOK
          go_wp2
          go_roundg g'
          case measure => omega
          case rel => exact ⟨p + 1, rfl, by have := HG.out; omega, H.out⟩
        by_cases k2 : 48 ≤ r ∧ r ≤ 57
        · have H : Hid ((s.data.toList.drop (p + 1)).all okc = q) := Lib.hid (by have := HA2.out; rw [HOK.out, decide_eq_true k2] at this; simpa using this)
          obtain ⟨ka, kb⟩ := k2
          have kc : ¬ (97 ≤ r) := by omega
          clear HA2 HOK k1
          go_wp2
          go_roundg g'
          case measure => omega
          case rel => exact ⟨p + 1, rfl, by have := HG.out; omega, H.out⟩
        by_cases k3 : r = 46
        · have H : Hid ((s.data.toList.drop (p + 1)).all okc = q) := Lib.hid (by have := HA2.out; rw [HOK.out, k3] at this; simpa using this)
          subst k3
          clear HA2 HOK k1 k2
          go_wp2
          go_roundg g'
          case measure => omega
          case rel => exact ⟨p + 1, rfl, by have := HG.out; omega, H.out⟩
        by_cases k4 : r = 45
        · have H : Hid ((s.data.toList.drop (p + 1)).all okc = q) := Lib.hid (by have := HA2.out; rw [HOK.out, k4] at this; simpa using this)
          subst k4
          clear HA2 HOK k1 k2 k3
          go_wp2
          go_roundg g'
          case measure => omega
          case rel => exact ⟨p + 1, rfl, by have := HG.out; omega, H.out⟩
        · have H : Hid (z = false) := Lib.hid (by
            have := HA2.out
            rw [HOK.out, decide_eq_false k1, decide_eq_false k2, decide_eq_false k3, decide_eq_false k4] at this
            rw [← HZ.out, ← this]
            rfl)
          have d1 : (r == 46) = false := by simpa using k3
          have d2 : (r == 45) = false := by simpa using k4
          clear HA2 HOK
          go_wp2
          all_goals
            first
              | (exfalso; omega)
              | (go_ret; exact ⟨by rw [H.out]; rfl, HIT.out _⟩)
      · have hnx := fun ty => run_next_any (P := Tryz.prog) w s p ty hlt
        have hh := (decode_high s p hlt (by rw [hc]; omega)).1
        have hle := decode_le s p
        have H : Hid (z = false) := Lib.hid (by
          have := HA2.out
          rw [show okc c = false by unfold okc; simp; omega] at this
          rw [← HZ.out, ← this]
          rfl)
        obtain ⟨⟨r, n⟩, hrn⟩ : ∃ d, Utf8.decode s p = d := ⟨_, rfl⟩
        rw [hrn] at hnx hh hle
        have h0 : (128 : Int) ≤ (r : Int) := by have : 128 ≤ r := hh; omega
        have h1 : (r : Int) ≤ 2147483647 := by have : r ≤ 2147483647 := hle; omega
        obtain ⟨R, hR⟩ : ∃ R : Int, (r : Int) = R := ⟨_, rfl⟩
        simp only [hR] at hnx h0 h1
        clear HA2 hrn hh hle hR hc ha
        have d0 : ¬ (R ≤ 122) := by omega
        have d3 : ¬ (R ≤ 57) := by omega
        have d1 : (R == 46) = false := by simp; omega
        have d2 : (R == 45) = false := by simp; omega
        go_wp2
        all_goals
          first
            | (exfalso; omega)
            | (go_ret; exact ⟨by rw [H.out]; rfl, HIT.out _⟩)
    · have hnx := fun ty => run_next_end (P := Tryz.prog) w s p ty hlt
      have H : Hid (z = (decide (1 ≤ s.size) && decide (s.size ≤ 40))) := Lib.hid (by
        have := HA.out
        rw [List.drop_eq_nil_of_le (by rw [Array.length_toList]; exact Nat.le_of_not_lt hlt)] at this
        rw [← HZ.out, ← this]
        rfl)
      clear HA
      by_cases k1 : 1 ≤ s.size
      · by_cases k2 : s.size ≤ 40
        · have e1 : Hid (z = true) := Lib.hid (by rw [H.out, decide_eq_true k1, decide_eq_true k2]; rfl)
          have d1 : decide ((1 : Int) ≤ (s.size : Int)) = true := by simp; omega
          have d2 : decide ((s.size : Int) ≤ 40) = true := by simp; omega
          go_wp2
          all_goals (go_ret; exact ⟨by rw [e1.out]; rfl, HIT.out _⟩)
        · have e1 : Hid (z = false) := Lib.hid (by rw [H.out, decide_eq_true k1, decide_eq_false k2]; rfl)
          have d1 : decide ((1 : Int) ≤ (s.size : Int)) = true := by simp; omega
          have d2 : decide ((s.size : Int) ≤ 40) = false := by simp; omega
          go_wp2
          all_goals (go_ret; exact ⟨by rw [e1.out]; rfl, HIT.out _⟩)
      · have e1 : Hid (z = false) := Lib.hid (by rw [H.out, decide_eq_false k1]; rfl)
        have d1 : decide ((1 : Int) ≤ (s.size : Int)) = false := by simp; omega
        go_wp2
        all_goals (go_ret; exact ⟨by rw [e1.out]; rfl, HIT.out _⟩)

/-- What bytes.Clone hands back: a row of the call's own, of the same bytes. -/
def Cloned (l : List Nat) (w : World) (e : Ending) (w' : World) : Prop :=
  ∃ v, e = .returned v ∧ w'.ownsRow w.heap.size 5 1 v l.length (cellsN l) ∧ Below w.heap.size w w'

theorem row_cells {w : World} {S : Nat → Prop} {b : Addr} {l : List Nat} (hr : Row w S (some b) l) : ∀ j u, (cellsN l)[j]? = some u → w.cell? (b.add j) = some u := by
  intro j u hj
  rw [cellsN, List.getElem?_map] at hj
  obtain ⟨c, hc, rfl⟩ := Option.map_eq_some_iff.1 hj
  rcases hr.2 with h0 | ⟨b2, o2, he, _, hcell⟩
  · rw [h0] at hc; simp at hc
  · obtain rfl := Option.some.inj he
    rw [Addr.add_mid]
    exact hcell j c hc

theorem clone_calls (a : Option Addr) (c : Nat) (l : List Nat) (S : Nat → Prop) (w : World) (hr : Row w S a l) (hl : l.length ≤ 1073741824) : Calls Tryz.prog 34 #[.slice a l.length c] w (Cloned l w) := by
  cases a with
  | none =>
    have h0 : l = [] := by
      rcases hr.2 with h | ⟨b, o, h, _⟩
      · exact h
      · cases h
    subst h0
    refine (Tryz.bytes_Clone_nil 0 c w).mono ?_
    rintro e w' ⟨rfl, rfl⟩
    exact ⟨_, rfl, World.ownsRow_nil _ _ _ _, Below.refl _ _⟩
  | some b =>
    have hx : ∀ (i x : Nat), l[i]? = some x → w.cell? (b.add i) = some (.int .u8 (x : Int)) := fun i x hi => row_cells hr i _ (by rw [cellsN, List.getElem?_map, hi]; rfl)
    refine (Tryz.bytes_Clone_at b l.length c (l.map fun x : Nat => (x : Int)) w (by simp) (by omega) (fun i hi => ?_)).mono ?_
    · have h1 : l[i]? = some l[i] := List.getElem?_eq_getElem hi
      rw [hx i _ h1, List.getD_eq_getElem?_getD, List.getElem?_map, h1]
      rfl
    · rintro e w' ⟨v, rfl, hown, _, hb⟩
      refine ⟨v, rfl, ?_, hb⟩
      rw [List.map_map] at hown
      exact hown

theorem row_of_own {w : World} {B n : Nat} {v : Value} {l : List Nat} (hb : ∀ c ∈ l, c < 256) (hn : l.length = n) (h : w.ownsRow B 5 1 v n (cellsN l)) : Byt w (fun k => v.ownBlock = some k) v l := by
  subst hn
  rcases h.2 with ⟨h1, h0⟩ | ⟨g, cap, cur, h1, hg, hgb, hcap, hcm, hcur, htk⟩
  · exact ⟨none, 0, by rw [h1, h0], ⟨hb, Or.inl (List.length_eq_zero_iff.1 (by omega))⟩, fun _ => rfl, by omega, Nat.zero_le _⟩
  · refine ⟨_, cap, h1, ⟨hb, Or.inr ⟨g, 0, rfl, by rw [h1]; rfl, fun i x hx => ?_⟩⟩, (fun e => by cases e), hcap, hcm⟩
    have := h.cells (g := g) (by rw [h1]; rfl) i (.int .u8 (x : Int)) (by rw [cellsN, List.getElem?_map, hx]; rfl)
    rwa [Addr.add_mid] at this

end Go.Proofs.YtacfcfbleogioaaGreatDoor

namespace Go.Proofs.YtacfcfbleogioaaGreatDoor
open Go.RowKit Go.Lib Go.Joins

theorem keyed9 : Maps.Keyed Tryz.prog 9 := Maps.string_keyed Tryz.underlying9

theorem keyOf_name {s : ByteArray} (hs : s.size ≤ maxLen) : keyOf Tryz.prog 9 (.string s) = some (lit s) := by
  simp [keyOf, mapKey, Tryz.underlying9, hs, lit]

/-- What the map of files tells of a name. -/
def ptr (o : Option Cel) : Value := match o with | some c => .pointer (some ⟨c.fb, 0, none⟩) | none => .pointer none

theorem look_run {w : World} {F n : Nat} {cs : List Cel} (h : w.ownsMap Tryz.prog 9 Rp F n (dat cs)) {s : ByteArray} (hs : s.size ≤ maxLen) :
    (Instr.lookup 75 (.map (some F)) (.string s) false).run Tryz.prog w = .ok (ptr (cfnd s cs)) w := by
  obtain ⟨v, ps, hrun, hv⟩ := h.lookup keyed9 Tryz.underlying75 (z := .pointer none) (Tryz.zeroValue71 w) (zd := .nil) (zp := []) rfl (keyOf_name hs)
  rw [atKey_dat] at hv
  have hp : v = ptr (cfnd s cs) := by
    cases hc : cfnd s cs with
    | none => rw [hc] at hv; exact Rp_nil hv
    | some c => rw [hc] at hv; exact Rp_inv hv
  rw [← hp]
  exact hrun

set_option maxRecDepth 100000 in
set_option maxHeartbeats 1000000 in
theorem find_calls (s : ByteArray) (w : World) {S : Nat → Prop} {B : Nat} {d : Dsk} {F : Nat} {T : Option Nat} {cs : List Cel} (h : DiskAt w S B d F T cs) (hs : s.size ≤ 1099511627776) :
    Calls Tryz.prog 88 #[.pointer (some ⟨B, 0, none⟩), .string s] w fun e w' => e = .returned (.tuple #[ptr (cfnd s cs), .int .i64 (if (cfnd s cs).isSome then 0 else 42)]) ∧ w = w' := by
  have hl := look_run h.map (s := s) (by unfold maxLen; omega)
  have hc1 : w.cell? ⟨B, 1, none⟩ = some (.map (some F)) := (cell_of_block h.blk 1).trans rfl
  clear h
  cases hf : cfnd s cs with
  | none =>
    rw [hf] at hl
    unfold ptr at hl
    go_enter Tryz.func88, Tryz.ntmps88
    go_wp2
    go_ret2
    exact ⟨rfl, rfl⟩
  | some c =>
    rw [hf] at hl
    unfold ptr at hl
    go_enter Tryz.func88, Tryz.ntmps88
    go_wp2
    go_ret2
    exact ⟨rfl, rfl⟩

/-- The bytes of those files that are still to come. -/
def togo (left : Lit → Bool) (cs : List Cel) : Nat := ((cs.filter (fun c => left (lit c.f.name))).map (fun c => c.f.data.length)).sum

theorem togo_all (cs : List Cel) : togo (Maps.has (dat cs)) cs = used (cs.map Cel.f) := by
  have e : cs.filter (fun c => Maps.has (dat cs) (lit c.f.name)) = cs := by
    refine List.filter_eq_self.2 (fun c hc => ?_)
    unfold Maps.has dat
    refine List.any_eq_true.2 ⟨ent c, List.mem_map.2 ⟨c, hc, rfl⟩, ?_⟩
    show (lit c.f.name).sameKey (lit c.f.name) = true
    rw [same_is]
    simp
  unfold togo used
  rw [e, List.map_map]
  rfl
theorem togo_none {left : Lit → Bool} (h : ∀ k, left k = false) (cs : List Cel) : togo left cs = 0 := by
  unfold togo
  rw [List.filter_eq_nil_iff.2 (fun c _ => by rw [h]; decide)]
  rfl
theorem togo_step {left : Lit → Bool} : ∀ (cs : List Cel), Srt (cs.map Cel.f) → ∀ {c : Cel}, cfnd c.f.name cs = some c → left (lit c.f.name) = true →
    togo (fun z => left z && !z.sameKey (lit c.f.name)) cs + c.f.data.length = togo left cs
  | [], _, c, h, _ => by cases h
  | g :: L, hs, c, h, hl => by
    obtain ⟨h1, h2⟩ := List.pairwise_cons.1 hs
    by_cases hg : g.f.name = c.f.name
    · have e : g = c := by
        unfold cfnd at h
        rw [List.find?_cons] at h
        simp only [hg, decide_true] at h
        exact Option.some.inj h
      subst e
      have hr : ∀ x ∈ L, (left (lit x.f.name) && !(lit x.f.name).sameKey (lit g.f.name)) = left (lit x.f.name) := fun x hx => by
        have : x.f.name ≠ g.f.name := (nlt_ne (h1 x.f (List.mem_map.2 ⟨x, hx, rfl⟩))).symm
        rw [same_is, decide_eq_false this]
        simp
      have hf : L.filter (fun x => left (lit x.f.name) && !(lit x.f.name).sameKey (lit g.f.name)) = L.filter (fun x => left (lit x.f.name)) := List.filter_congr hr
      unfold togo
      rw [List.filter_cons, List.filter_cons]
      have hk : (left (lit g.f.name) && !(lit g.f.name).sameKey (lit g.f.name)) = false := by rw [same_is]; simp
      rw [if_neg (by simp only [hk]; decide), if_pos hl, hf, List.map_cons, List.sum_cons]
      omega
    · have e : cfnd c.f.name L = some c := by
        unfold cfnd at h ⊢
        rw [List.find?_cons] at h
        simpa only [hg, decide_false] using h
      have ih := togo_step (left := left) L h2 e hl
      have hk : (left (lit g.f.name) && !(lit g.f.name).sameKey (lit c.f.name)) = left (lit g.f.name) := by rw [same_is, decide_eq_false hg]; simp
      unfold togo at ih ⊢
      rw [List.filter_cons, List.filter_cons]
      by_cases hgl : left (lit g.f.name) = true
      · rw [if_pos (by simp only [hk]; exact hgl), if_pos hgl, List.map_cons, List.sum_cons, List.map_cons, List.sum_cons]
        omega
      · rw [if_neg (by simp only [hk]; exact hgl), if_neg hgl]
        exact ih

theorem dv_form {w : World} {dv : Value} {n : Nat} {xs : List Value} (h : w.ownsRow 0 5 1 dv n xs) : ∃ a c, dv = .slice a n c := by
  rcases h.2 with ⟨h1, h0⟩ | ⟨g, cap, cur, h1, _⟩
  · exact ⟨none, 0, by rw [h1, h0]⟩
  · exact ⟨_, cap, h1⟩

set_option maxRecDepth 100000 in
set_option maxHeartbeats 2000000 in
theorem used_calls (w : World) {S : Nat → Prop} {B : Nat} {d : Dsk} {F : Nat} {T : Option Nat} {cs : List Cel} (h : DiskAt w S B d F T cs) (hi : Inv d) (hu : used d.L ≤ 1073741824) :
    Calls Tryz.prog 124 #[.pointer (some ⟨B, 0, none⟩)] w (Leaves (.int .i64 (used d.L : Int)) w) := by
  have hsrt : Srt (cs.map Cel.f) := by rw [h.is]; exact hi.srt
  have hus : used (cs.map Cel.f) = used d.L := by rw [h.is]
  obtain ⟨q, hq⟩ : ∃ q, used d.L = q := ⟨_, rfl⟩
  rw [hq] at hu hus ⊢
  have hown := h.map
  have hfile := h.file
  have hrow := h.row
  have hc1 : w.cell? ⟨B, 1, none⟩ = some (.map (some F)) := (cell_of_block h.blk 1).trans rfl
  have HSRT := Lib.hid hsrt
  have HUS := Lib.hid hus
  have HFILE := Lib.hid hfile
  have HROW := Lib.hid hrow
  clear hsrt hus hq hfile hrow hi h
  go_enter Tryz.func124, Tryz.ntmps124
  go_wp2_with (first | (at_range; refine wpList_range_own _ rfl _ 75 rfl 9 71 keyed9 Tryz.underlying75 Rp F cs.length (dat cs) rfl hown ?_; intro w0 hrg0 hg0 hs0) | go_in)
  go_frame
  have HG0 := Lib.hid hg0
  have HS0 := Lib.hid hs0
  clear hg0 hs0 hown hc1
  go_loopw [3, 5] (fun u _ wr => ∃ (left : Lit → Bool) (cnt acc : Nat), wr.ranges Tryz.prog 9 Rp F w.heap.size cs.length (dat cs) left cnt ∧ u = .int .i64 (acc : Int) ∧ acc + togo left cs = q ∧ Below w.heap.size w wr) (fun _ _ wr => wr.rangeLeft F w.heap.size)
  case atStart => exact ⟨_, _, 0, hrg0, rfl, by rw [togo_all, HUS.out]; omega, ⟨HG0.out.os, HG0.out.tape, HG0.out.output, HG0.out.size, fun k hk => HG0.out.block k hk (by simp)⟩⟩
  case round =>
    obtain ⟨left, cnt, acc, hrg, rfl, hacc, hb⟩ := hrel
    have HACC := Lib.hid hacc
    have HB := Lib.hid hb
    have HRG := Lib.hid hrg
    have ha0 : acc ≤ 1073741824 := by omega
    clear hacc hb hrg0
    go_wp2_with (first
      | (at_next; refine wpList_next_ranges _ rfl _ rfl 9 keyed9 Rp Value.string Value.pointer (fun key kl hk => by obtain ⟨x, hx, _⟩ := Maps.keyOf_str Tryz.underlying9 hk; exact ⟨_, hx⟩) (fun v y hv => by cases v <;> first | (cases hv; done) | exact ⟨_, rfl⟩) F w.heap.size cs.length (dat cs) left cnt rfl hrg ?_ ?_)
      | go_in)
    · intro hc0 hl0
      have H0 := Lib.hid (togo_none hl0 cs)
      clear hl0 hrg
      go_wp2
      go_ret
      exact ⟨by rw [show (acc : Int) = (q : Int) by have := HACC.out; have := H0.out; omega]; rfl, HB.out⟩
    · intro x p kl y1 y2 w1 cnt1 hkey hlk hv hat hrg1 hlt hg1 hs1 hen
      have hxs : x.size ≤ maxLen ∧ kl = lit x := by
        obtain ⟨z, e1, e2, e3⟩ := Maps.keyOf_str Tryz.underlying9 hkey
        have e4 : x = ⟨z.toArray⟩ := Value.string.inj e1
        subst e4
        exact ⟨by simpa [ByteArray.size] using e3, by rw [e2]; simp [lit]⟩
      obtain ⟨hxs, rfl⟩ := hxs
      have hat2 : ∃ c, cfnd x cs = some c ∧ y1 = DataW.lit (.int .u64 (c.fb : Int)) := by
        cases hc : cfnd x cs with
        | none =>
          have h1 := hat .nil
          have h2 := hat (.map [])
          rw [atKey_dat, hc] at h1 h2
          rw [← h1] at h2
          cases h2
        | some c =>
          have h1 := hat .nil
          rw [atKey_dat, hc] at h1
          exact ⟨c, rfl, h1.symm⟩
      obtain ⟨c, hc, hy⟩ := hat2
      obtain ⟨hmem, rfl⟩ := cfnd_some hc
      have hp : Value.pointer p = .pointer (some ⟨c.fb, 0, none⟩) := by
        rw [hy] at hv
        exact Rp_inv hv
      have hp := Value.pointer.inj hp
      subst hp
      have hst := togo_step cs HSRT.out hc hlk
      have HST := Lib.hid hst
      have hrow := HROW.out c hmem
      have hfile := HFILE.out c hmem
      obtain ⟨a, cap, hdv⟩ := dv_form hrow
      have hlen : c.f.data.length ≤ 1073741824 := by
        have := HACC.out
        omega
      have hcd : w1.cell? ⟨c.fb, 0, none⟩ = some (.slice a c.f.data.length cap) := by
        have h1 : w.cell? ⟨c.fb, 0, none⟩ = some (.slice a c.f.data.length cap) := by rw [← hdv]; exact (cell_of_block hfile 0).trans rfl
        have h2 := (World.cell?_of_block (a := ⟨c.fb, 0, none⟩) (HB.out.block c.fb (lt_of_cell h1))).trans h1
        exact hg1.cell h2 (by have := lt_of_cell h1; simp; omega)
      have HB1 : Hid (Below w.heap.size w w1) := Lib.hid (HB.out.trans ⟨hg1.os, hg1.tape, hg1.output, hg1.size, fun k hk => hg1.block k (by have := HB.out.size; omega) (by simp; omega)⟩)
      have HRG1 := Lib.hid hrg1
      have HLT := Lib.hid hlt
      clear hkey hlk hv hat hrg1 hlt hg1 hs1 hxs hc hy hrow hfile hdv hrg hst
      go_wp2
      go_roundw
      case rel => exact ⟨_, cnt1, acc + c.f.data.length, HRG1.out, by go_num, by have := HST.out; have := HACC.out; omega, HB1.out⟩
      case measure => rw [HRG1.out.left_eq, HRG.out.left_eq]; exact HLT.out

set_option maxRecDepth 100000 in
set_option maxHeartbeats 2000000 in
theorem left_calls (w : World) {S : Nat → Prop} {B : Nat} {d : Dsk} {F : Nat} {T : Option Nat} {cs : List Cel} (h : DiskAt w S B d F T cs) (hi : Inv d) (hu : used d.L ≤ 1073741824) :
    Calls Tryz.prog 82 #[.pointer (some ⟨B, 0, none⟩)] w (Leaves (.int .i64 (d.room - (used d.L : Int))) w) := by
  have hc0 : w.cell? ⟨B, 0, none⟩ = some (.int .i64 d.room) := (cell_of_block h.blk 0).trans rfl
  have hr0 := hi.room0
  have hr1 := hi.room1
  have hfit := hi.fit
  have HU : ∀ w' : World, Below w.heap.size w w' → Calls Tryz.prog 124 #[.pointer (some ⟨B, 0, none⟩)] w' (Leaves (.int .i64 (used d.L : Int)) w') := fun w' hb => used_calls w' (h.keep (keeps_below hb Non) (fun _ _ h => h)) hi hu
  obtain ⟨q, hq⟩ : ∃ q, used d.L = q := ⟨_, rfl⟩
  rw [hq] at hfit HU ⊢
  have HHU := Lib.hid HU
  have hw : IntKind.i64.wrap (d.room - (q : Int)) = d.room - (q : Int) := IntWalk.i64_in _ (by omega)
  obtain ⟨R, hR⟩ : ∃ R, d.room = R := ⟨_, rfl⟩
  rw [hR] at hc0 hr0 hr1 hfit hw ⊢
  obtain ⟨Q, hQ⟩ : ∃ Q : Int, (q : Int) = Q := ⟨_, rfl⟩
  rw [hQ] at hfit hw HHU ⊢
  have cU := fun dq os => Calls.regrown_of (HHU.out _ (below_regrown w dq os))
  have c0 := fun dq os => cell_regrown hc0 dq os
  clear hR hq h hi hu HU hQ hc0 HHU
  go_enter Tryz.func82, Tryz.ntmps82
  go_wp2
  refine wp_region_quiet_below (by kernel_rfl) (by kernel_rfl) ?_
  repeat (quiet_step (exact cU _ _))
  refine wpQuiet_nil ?_
  intro _ hw'
  obtain ⟨⟨dq, osq⟩, hw''⟩ := hw'
  subst hw''
  go_wp2
  go_ret
  exact ⟨rfl, below_regrown _ _ _⟩

end Go.Proofs.YtacfcfbleogioaaGreatDoor

namespace Go.Proofs.YtacfcfbleogioaaGreatDoor
open Go.RowKit Go.Lib Go.Joins

/-- A new slice of these names. -/
def NamesOut (l : List ByteArray) (w : World) (e : Ending) (w' : World) : Prop :=
  ∃ v, e = .returned v ∧ w'.ownsRow w.heap.size 9 1 v l.length (l.map Value.string) ∧ Below w.heap.size w w'

theorem srt_le : ∀ (L : List Fil), Srt L → (L.map (fun f => f.name.data.toList)).Pairwise (fun x y => x ≤ y) := by
  intro L h
  rw [List.pairwise_map]
  refine h.imp (fun {a b} hab => ?_)
  unfold nlt at hab
  simp only [decide_eq_true_eq] at hab
  exact List.le_of_lt hab

theorem sorted_names {L : List Fil} (h : Srt L) {ss : List (List UInt8)} (hp : ss.Perm (L.map (fun f => f.name.data.toList))) : ss.mergeSort (fun x y => decide (x ≤ y)) = L.map (fun f => f.name.data.toList) := by
  rw [Go.mergeSort_of_perm hp]
  refine List.mergeSort_of_pairwise ?_
  exact (srt_le L h).imp (fun hxy => by simpa using hxy)

theorem enc_name (s : ByteArray) : encStr s.data.toList = .string s := by simp [encStr]

set_option maxRecDepth 100000 in
set_option maxHeartbeats 2000000 in
theorem names_calls (w : World) {S : Nat → Prop} {B : Nat} {d : Dsk} {F : Nat} {T : Option Nat} {cs : List Cel} (h : DiskAt w S B d F T cs) (hi : Inv d) :
    Calls Tryz.prog 41 #[.pointer (some ⟨B, 0, none⟩)] w (NamesOut (d.L.map Fil.name) w) := by
  have hown := h.map
  have hc1 : w.cell? ⟨B, 1, none⟩ = some (.map (some F)) := (cell_of_block h.blk 1).trans rfl
  have hlen : cs.length ≤ 64 := by have := hi.most; rw [← h.is, List.length_map] at this; exact this
  have hsz := size_dat cs
  have HS : Hid (∀ ss : List (List UInt8), ss.Perm (Go.strKeys (dat cs)) → (ss.mergeSort (fun x y => decide (x ≤ y))).map encStr = (d.L.map Fil.name).map Value.string ∧ ss.length = (d.L.map Fil.name).length) := Lib.hid (by
    intro ss hp
    have e : Go.strKeys (dat cs) = d.L.map (fun f => f.name.data.toList) := by
      rw [← h.is, List.map_map]
      show (cs.map ent).map (fun p => Go.strOf p.1) = _
      rw [List.map_map]
      rfl
    rw [e] at hp
    refine ⟨?_, by have := hp.length_eq; simpa using this⟩
    rw [sorted_names hi.srt hp, List.map_map, List.map_map]
    exact List.map_congr_left (fun f _ => enc_name _))
  obtain ⟨l, hl⟩ : ∃ l, d.L.map Fil.name = l := ⟨_, rfl⟩
  rw [hl] at HS ⊢
  have HC := fun W (ho : W.ownsMap Tryz.prog 9 Rp F cs.length (dat cs)) => Tryz.slices_Sorted_keys_44_45 F cs.length (dat cs) Rp W ho (by rw [hsz]; unfold maxLen; omega) (by rw [hsz]; omega)
  have HCC := Lib.hid (HC w hown)
  clear HC hlen hsz hl h hi hown
  refine (callsIn_wide (n := 6)).1 ?_
  have hfK : Fence.wide.fn 86 := trivial
  have hfS : Fence.wide.fn 85 := trivial
  refine callsIn_of_wp Tryz.func41 rfl trivial ?_ rfl
  simp only [Tryz.ntmps41, List.size_toArray, List.length_cons, List.length_nil, Nat.reduceAdd, Nat.reduceSub, Array.replicate_succ, Array.replicate_zero, List.push_toArray, List.append_toArray, List.nil_append, List.cons_append]
  gi_wp2_with (first
    | (gi_at_call 86; refine (Tryz.maps_Keys_45 _ _).mono ?_; rintro e w' ⟨rfl, rfl⟩)
    | (gi_at_call 85; refine HCC.out.mono ?_; rintro e w' ⟨v, ss, rfl, hS, hrow, hnil, hb⟩))
  go_ret
  obtain ⟨h1, h2⟩ := HS.out ss hS
  rw [h1, h2] at hrow
  exact ⟨v, rfl, ownsRow_base_a hrow (by simp), ((Below.refl _ w).alloc (Nat.le_refl _) _).trans (hb.mono (by simp))⟩

end Go.Proofs.YtacfcfbleogioaaGreatDoor
