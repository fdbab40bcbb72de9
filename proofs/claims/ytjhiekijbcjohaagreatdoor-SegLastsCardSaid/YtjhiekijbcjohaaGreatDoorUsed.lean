/-
  The program's find, Used and left. Conditions: the disk lies in memory; all files together are no more than 2 to the 30 bytes.
-/
import Derived.Test.YtjhiekijbcjohaaGreatDoorSmall
import Derived.Maps.RangeWalk
import Derived.Deep.QuietTactic
import Derived.BigQuiet
import Derived.Lib.QuietBelow
namespace Go.Proofs.YtjhiekijbcjohaaGreatDoor
open Go.RowKit Go.Lib Go.Joins

theorem keyed9 : Maps.Keyed Tryz.prog 9 := Maps.string_keyed Tryz.underlying9

theorem keyOf_name {s : ByteArray} (hs : s.size ≤ maxLen) : keyOf Tryz.prog 9 (.string s) = some (lit s) := by
  simp [keyOf, mapKey, Tryz.underlying9, hs, lit]

/-- What the map of files tells of a name. -/
def ptr (o : Option Cel) : Value := match o with | some c => .pointer (some ⟨c.fb, 0, none⟩) | none => .pointer none

theorem look_run {w : World} {F n : Nat} {cs : List Cel} (h : w.ownsMap Tryz.prog 9 Rp F n (dat cs)) {s : ByteArray} (hs : s.size ≤ maxLen) :
    (Instr.lookup 78 (.map (some F)) (.string s) false).run Tryz.prog w = .ok (ptr (cfnd s cs)) w := by
  obtain ⟨v, ps, hrun, hv⟩ := h.lookup keyed9 Tryz.underlying78 (z := .pointer none) (Tryz.zeroValue95 w) (zd := .nil) (zp := []) rfl (keyOf_name hs)
  rw [atKey_dat] at hv
  have hp : v = ptr (cfnd s cs) := by
    cases hc : cfnd s cs with
    | none => rw [hc] at hv; exact Rp_nil hv
    | some c => rw [hc] at hv; exact Rp_inv hv
  rw [← hp]
  exact hrun

set_option maxRecDepth 100000 in
set_option maxHeartbeats 1000000 in
theorem find_calls (s : ByteArray) (w : World) {S : Nat → Prop} {B : Nat} {d : Dsk} {F : Nat} {T : Option Nat} {cs : List Cel} (h : DiskAt w S B d F T cs) (hs : s.size ≤ 1099511627776) :
    Calls Tryz.prog 92 #[.pointer (some ⟨B, 0, none⟩), .string s] w fun e w' => e = .returned (.tuple #[ptr (cfnd s cs), .int .i64 (if (cfnd s cs).isSome then 0 else 42)]) ∧ w = w' := by
  have hl := look_run h.map (s := s) (by unfold maxLen; omega)
  have hc1 : w.cell? ⟨B, 1, none⟩ = some (.map (some F)) := (cell_of_block h.blk 1).trans rfl
  clear h
  cases hf : cfnd s cs with
  | none =>
    rw [hf] at hl
    unfold ptr at hl
    go_enter Tryz.func92, Tryz.ntmps92
    go_wp2
    go_ret2
    exact ⟨rfl, rfl⟩
  | some c =>
    rw [hf] at hl
    unfold ptr at hl
    go_enter Tryz.func92, Tryz.ntmps92
    go_wp2
    go_ret2
    exact ⟨rfl, rfl⟩

/-- The bytes of those files that are still to come. -/
def togo (left : Lit → Bool) (cs : List Cel) : Nat := ((cs.filter (fun c => left (lit c.f.name))).map (fun c => c.f.data.length)).sum

theorem togo_all (cs : List Cel) : togo (Maps.has (dat cs)) cs = used (cs.map Cel.f) := by
  have e : cs.filter (fun c => Maps.has (dat cs) (lit c.f.name)) = cs := by
    refine List.filter_eq_self.2 (fun c hc => ?_)
    unfold Maps.has dat
    refine List.any_eq_true.2 ⟨ent c, List.mem_map.2 ⟨c, hc, rfl⟩, ?_⟩
    show (lit c.f.name).sameKey (lit c.f.name) = true
    rw [same_is]
    simp
  unfold togo used
  rw [e, List.map_map]
  rfl
theorem togo_none {left : Lit → Bool} (h : ∀ k, left k = false) (cs : List Cel) : togo left cs = 0 := by
  unfold togo
  rw [List.filter_eq_nil_iff.2 (fun c _ => by rw [h]; decide)]
  rfl
theorem togo_step {left : Lit → Bool} : ∀ (cs : List Cel), Srt (cs.map Cel.f) → ∀ {c : Cel}, cfnd c.f.name cs = some c → left (lit c.f.name) = true →
    togo (fun z => left z && !z.sameKey (lit c.f.name)) cs + c.f.data.length = togo left cs
  | [], _, c, h, _ => by cases h
  | g :: L, hs, c, h, hl => by
    obtain ⟨h1, h2⟩ := List.pairwise_cons.1 hs
    by_cases hg : g.f.name = c.f.name
    · have e : g = c := by
        unfold cfnd at h
        rw [List.find?_cons] at h
        simp only [hg, decide_true] at h
        exact Option.some.inj h
      subst e
      have hr : ∀ x ∈ L, (left (lit x.f.name) && !(lit x.f.name).sameKey (lit g.f.name)) = left (lit x.f.name) := fun x hx => by
        have : x.f.name ≠ g.f.name := (nlt_ne (h1 x.f (List.mem_map.2 ⟨x, hx, rfl⟩))).symm
        rw [same_is, decide_eq_false this]
        simp
      have hf : L.filter (fun x => left (lit x.f.name) && !(lit x.f.name).sameKey (lit g.f.name)) = L.filter (fun x => left (lit x.f.name)) := List.filter_congr hr
      unfold togo
      rw [List.filter_cons, List.filter_cons]
      have hk : (left (lit g.f.name) && !(lit g.f.name).sameKey (lit g.f.name)) = false := by rw [same_is]; simp
      rw [if_neg (by simp only [hk]; decide), if_pos hl, hf, List.map_cons, List.sum_cons]
      omega
    · have e : cfnd c.f.name L = some c := by
        unfold cfnd at h ⊢
        rw [List.find?_cons] at h
        simpa only [hg, decide_false] using h
      have ih := togo_step (left := left) L h2 e hl
      have hk : (left (lit g.f.name) && !(lit g.f.name).sameKey (lit c.f.name)) = left (lit g.f.name) := by rw [same_is, decide_eq_false hg]; simp
      unfold togo at ih ⊢
      rw [List.filter_cons, List.filter_cons]
      by_cases hgl : left (lit g.f.name) = true
      · rw [if_pos (by simp only [hk]; exact hgl), if_pos hgl, List.map_cons, List.sum_cons, List.map_cons, List.sum_cons]
        omega
      · rw [if_neg (by simp only [hk]; exact hgl), if_neg hgl]
        exact ih

theorem dv_form {w : World} {dv : Value} {n : Nat} {xs : List Value} (h : w.ownsRow 0 5 1 dv n xs) : ∃ a c, dv = .slice a n c := by
  rcases h.2 with ⟨h1, h0⟩ | ⟨g, cap, cur, h1, _⟩
  · exact ⟨none, 0, by rw [h1, h0]⟩
  · exact ⟨_, cap, h1⟩

set_option maxRecDepth 100000 in
set_option maxHeartbeats 2000000 in
theorem used_calls (w : World) {S : Nat → Prop} {B : Nat} {d : Dsk} {F : Nat} {T : Option Nat} {cs : List Cel} (h : DiskAt w S B d F T cs) (hi : Inv d) (hu : used d.L ≤ 1073741824) :
    Calls Tryz.prog 136 #[.pointer (some ⟨B, 0, none⟩)] w (Leaves (.int .i64 (used d.L : Int)) w) := by
  have hsrt : Srt (cs.map Cel.f) := by rw [h.is]; exact hi.srt
  have hus : used (cs.map Cel.f) = used d.L := by rw [h.is]
  obtain ⟨q, hq⟩ : ∃ q, used d.L = q := ⟨_, rfl⟩
  rw [hq] at hu hus ⊢
  have hown := h.map
  have hfile := h.file
  have hrow := h.row
  have hc1 : w.cell? ⟨B, 1, none⟩ = some (.map (some F)) := (cell_of_block h.blk 1).trans rfl
  have HSRT := Lib.hid hsrt
  have HUS := Lib.hid hus
  have HFILE := Lib.hid hfile
  have HROW := Lib.hid hrow
  clear hsrt hus hq hfile hrow hi h
  go_enter Tryz.func136, Tryz.ntmps136
  go_wp2_with (first | (at_range; refine wpList_range_own _ rfl _ 78 rfl 9 95 keyed9 Tryz.underlying78 Rp F cs.length (dat cs) rfl hown ?_; intro w0 hrg0 hg0 hs0) | go_in)
  go_frame
  have HG0 := Lib.hid hg0
  have HS0 := Lib.hid hs0
  clear hg0 hs0 hown hc1
  go_loopw [3, 5] (fun u _ wr => ∃ (left : Lit → Bool) (cnt acc : Nat), wr.ranges Tryz.prog 9 Rp F w.heap.size cs.length (dat cs) left cnt ∧ u = .int .i64 (acc : Int) ∧ acc + togo left cs = q ∧ Below w.heap.size w wr) (fun _ _ wr => wr.rangeLeft F w.heap.size)
  case atStart => exact ⟨_, _, 0, hrg0, rfl, by rw [togo_all, HUS.out]; omega, ⟨HG0.out.os, HG0.out.tape, HG0.out.output, HG0.out.size, fun k hk => HG0.out.block k hk (by simp)⟩⟩
  case round =>
    obtain ⟨left, cnt, acc, hrg, rfl, hacc, hb⟩ := hrel
    have HACC := Lib.hid hacc
    have HB := Lib.hid hb
    have HRG := Lib.hid hrg
    have ha0 : acc ≤ 1073741824 := by omega
    clear hacc hb hrg0
    go_wp2_with (first
      | (at_next; refine wpList_next_ranges _ rfl _ rfl 9 keyed9 Rp Value.string Value.pointer (fun key kl hk => by obtain ⟨x, hx, _⟩ := Maps.keyOf_str Tryz.underlying9 hk; exact ⟨_, hx⟩) (fun v y hv => by cases v <;> first | (cases hv; done) | exact ⟨_, rfl⟩) F w.heap.size cs.length (dat cs) left cnt rfl hrg ?_ ?_)
      | go_in)
    · intro hc0 hl0
      have H0 := Lib.hid (togo_none hl0 cs)
      clear hl0 hrg
      go_wp2
      go_ret
      exact ⟨by rw [show (acc : Int) = (q : Int) by have := HACC.out; have := H0.out; omega]; rfl, HB.out⟩
    · intro x p kl y1 y2 w1 cnt1 hkey hlk hv hat hrg1 hlt hg1 hs1 hen
      have hxs : x.size ≤ maxLen ∧ kl = lit x := by
        obtain ⟨z, e1, e2, e3⟩ := Maps.keyOf_str Tryz.underlying9 hkey
        have e4 : x = ⟨z.toArray⟩ := Value.string.inj e1
        subst e4
        exact ⟨by simpa [ByteArray.size] using e3, by rw [e2]; simp [lit]⟩
      obtain ⟨hxs, rfl⟩ := hxs
      have hat2 : ∃ c, cfnd x cs = some c ∧ y1 = DataW.lit (.int .u64 (c.fb : Int)) := by
        cases hc : cfnd x cs with
        | none =>
          have h1 := hat .nil
          have h2 := hat (.map [])
          rw [atKey_dat, hc] at h1 h2
          rw [← h1] at h2
          cases h2
        | some c =>
          have h1 := hat .nil
          rw [atKey_dat, hc] at h1
          exact ⟨c, rfl, h1.symm⟩
      obtain ⟨c, hc, hy⟩ := hat2
      obtain ⟨hmem, rfl⟩ := cfnd_some hc
      have hp : Value.pointer p = .pointer (some ⟨c.fb, 0, none⟩) := by
        rw [hy] at hv
        exact Rp_inv hv
      have hp := Value.pointer.inj hp
      subst hp
      have hst := togo_step cs HSRT.out hc hlk
      have HST := Lib.hid hst
      have hrow := HROW.out c hmem
      have hfile := HFILE.out c hmem
      obtain ⟨a, cap, hdv⟩ := dv_form hrow
      have hlen : c.f.data.length ≤ 1073741824 := by
        have := HACC.out
        omega
      have hcd : w1.cell? ⟨c.fb, 0, none⟩ = some (.slice a c.f.data.length cap) := by
        have h1 : w.cell? ⟨c.fb, 0, none⟩ = some (.slice a c.f.data.length cap) := by rw [← hdv]; exact (cell_of_block hfile 0).trans rfl
        have h2 := (World.cell?_of_block (a := ⟨c.fb, 0, none⟩) (HB.out.block c.fb (lt_of_cell h1))).trans h1
        exact hg1.cell h2 (by have := lt_of_cell h1; simp; omega)
      have HB1 : Hid (Below w.heap.size w w1) := Lib.hid (HB.out.trans ⟨hg1.os, hg1.tape, hg1.output, hg1.size, fun k hk => hg1.block k (by have := HB.out.size; omega) (by simp; omega)⟩)
      have HRG1 := Lib.hid hrg1
      have HLT := Lib.hid hlt
      clear hkey hlk hv hat hrg1 hlt hg1 hs1 hxs hc hy hrow hfile hdv hrg hst
      go_wp2
      go_roundw
      case rel => exact ⟨_, cnt1, acc + c.f.data.length, HRG1.out, by go_num, by have := HST.out; have := HACC.out; omega, HB1.out⟩
      case measure => rw [HRG1.out.left_eq, HRG.out.left_eq]; exact HLT.out

set_option maxRecDepth 100000 in
set_option maxHeartbeats 2000000 in
theorem left_calls (w : World) {S : Nat → Prop} {B : Nat} {d : Dsk} {F : Nat} {T : Option Nat} {cs : List Cel} (h : DiskAt w S B d F T cs) (hi : Inv d) (hu : used d.L ≤ 1073741824) :
    Calls Tryz.prog 107 #[.pointer (some ⟨B, 0, none⟩)] w (Leaves (.int .i64 (d.room - (used d.L : Int))) w) := by
  have hc0 : w.cell? ⟨B, 0, none⟩ = some (.int .i64 d.room) := (cell_of_block h.blk 0).trans rfl
  have hr0 := hi.room0
  have hr1 := hi.room1
  have hfit := hi.fit
  have HU : ∀ w' : World, Below w.heap.size w w' → Calls Tryz.prog 136 #[.pointer (some ⟨B, 0, none⟩)] w' (Leaves (.int .i64 (used d.L : Int)) w') := fun w' hb => used_calls w' (h.keep (keeps_below hb Non) (fun _ _ h => h)) hi hu
  obtain ⟨q, hq⟩ : ∃ q, used d.L = q := ⟨_, rfl⟩
  rw [hq] at hfit HU ⊢
  have HHU := Lib.hid HU
  have hw : IntKind.i64.wrap (d.room - (q : Int)) = d.room - (q : Int) := IntWalk.i64_in _ (by omega)
  obtain ⟨R, hR⟩ : ∃ R, d.room = R := ⟨_, rfl⟩
  rw [hR] at hc0 hr0 hr1 hfit hw ⊢
  obtain ⟨Q, hQ⟩ : ∃ Q : Int, (q : Int) = Q := ⟨_, rfl⟩
  rw [hQ] at hfit hw HHU ⊢
  have cU := fun dq os => Calls.regrown_of (HHU.out _ (below_regrown w dq os))
  have c0 := fun dq os => cell_regrown hc0 dq os
  clear hR hq h hi hu HU hQ hc0 HHU
  go_enter Tryz.func107, Tryz.ntmps107
  go_wp2
  refine wp_region_quiet_below (by kernel_rfl) (by kernel_rfl) ?_
  repeat (quiet_step (exact cU _ _))
  refine wpQuiet_nil ?_
  intro _ hw'
  obtain ⟨⟨dq, osq⟩, hw''⟩ := hw'
  subst hw''
  go_wp2
  go_ret
  exact ⟨rfl, below_regrown _ _ _⟩

end Go.Proofs.YtjhiekijbcjohaaGreatDoor
