/-
  The program's Read, Ops, Down, New. Conditions: the disk lies in memory; numbers and names are small.
  append to a row of the call's own, of any element; a slice of files. Conditions: the row stays within the model's bounds.
  The program's Files. Conditions: the disk lies in memory; all files together are no more than 2 to the 30 bytes.
  The program's Arm. Conditions: the disk lies in memory; the troubles lie in memory that isn't the disk's; there are no more than 2 to the 20.
  The program's takes. Conditions: the disk lies in memory; numbers and names are small.
  The program's Load. Conditions: the files lie in memory; all of them together are no more than 2 to the 30 bytes; names are small.
  The reference's Bytes, May, Same, Small. Conditions: slices lead to what they are said to; they are no longer than 2 to the 30.
  The reference's Same and Small. Conditions: slices lead to what they are said to; names and bytes are short.
  The reference's Small. Conditions: slices lead to what they are said to; no file's data is longer than 2 to the 48.
  What the laws know of a disk of their own: it lies in blocks that were not there when the law was called. Small rows of constants. No condition.
-/
import Derived.Test.YtacfcfbleogioaaGreatDoorUsedA
import Derived.Test.YtacfcfbleogioaaGreatDoorOpsB
import Derived.Deep.RegionHeld3
import Derived.Deep.DrawnRows
namespace Go.Proofs.YtacfcfbleogioaaGreatDoor
open Go.RowKit Go.Lib Go.Joins

/-- What Read answers. -/
def ReadOut (o : Option Fil) (w : World) (e : Ending) (w' : World) : Prop :=
  Below w.heap.size w w' ∧ match o with
    | none => e = .returned (.tuple #[.slice none 0 0, .int .i64 42])
    | some f => ∃ v, e = .returned (.tuple #[v, .int .i64 0]) ∧ w'.ownsRow w.heap.size 5 1 v f.data.length (cellsN f.data)

set_option maxRecDepth 100000 in
set_option maxHeartbeats 2000000 in
theorem read_calls (s : ByteArray) (w : World) {S : Nat → Prop} {B : Nat} {d : Dsk} (hd : Disk w S B d) (hu : used d.L ≤ 1073741824) (hz : s.size ≤ 1099511627776) :
    Calls Tryz.prog 43 #[.pointer (some ⟨B, 0, none⟩), .string s] w (ReadOut (fnd s d.L) w) := by
  obtain ⟨hi, _, F, T, cs, h⟩ := hd
  have hfc := find_calls s w h hz
  have hcf := fnd_cs h s
  rw [hcf]
  cases hc : cfnd s cs with
  | none =>
    rw [hc] at hfc
    dsimp only [Option.isSome, ptr] at hfc
    simp only [Bool.false_eq_true, if_false] at hfc
    have HFC := Lib.hid hfc
    clear hfc hu h hi hcf hc
    go_enter Tryz.func43, Tryz.ntmps43
    go_wp2_with fail
    refine HFC.out.mono ?_
    rintro e w' ⟨rfl, rfl⟩
    go_wp2
    go_ret2
    exact ⟨Below.refl _ _, rfl⟩
  | some c =>
    rw [hc] at hfc
    dsimp only [Option.isSome, ptr] at hfc
    simp only [if_true] at hfc
    have HFC := Lib.hid hfc
    obtain ⟨hm, hcn⟩ := cfnd_some hc
    obtain ⟨a, cap, hdv⟩ := dv_form (h.row c hm)
    have hlen : c.f.data.length ≤ 1073741824 := Nat.le_trans (used_mem (by rw [← h.is]; exact List.mem_map.2 ⟨c, hm, rfl⟩)) hu
    have hcd : w.cell? ⟨c.fb, 0, none⟩ = some (.slice a c.f.data.length cap) := by rw [← hdv]; exact (cell_of_block (h.file c hm) 0).trans rfl
    have hby := row_of_own (hi.byte c.f (by rw [← h.is]; exact List.mem_map.2 ⟨c, hm, rfl⟩)) rfl (h.row c hm)
    obtain ⟨a2, cap2, hv2, hrow, _⟩ := hby.is
    rw [hdv] at hv2
    obtain ⟨rfl, _, rfl⟩ := Value.slice.inj hv2
    have HCL := Lib.hid (clone_calls a cap c.f.data _ w hrow hlen)
    show Calls Tryz.prog 43 _ w (ReadOut (some c.f) w)
    obtain ⟨D, hD⟩ : ∃ D, c.f.data = D := ⟨_, rfl⟩
    obtain ⟨len, hln⟩ : ∃ len, c.f.data.length = len := ⟨_, rfl⟩
    rw [hln] at hcd HCL
    have HLN := Lib.hid hln
    clear hfc hu h hi hcf hc hdv hlen hby hv2 hrow hD hln
    go_enter Tryz.func43, Tryz.ntmps43
    go_wp2_with fail
    refine HFC.out.mono ?_
    rintro e w' ⟨rfl, rfl⟩
    go_wp2_with fail
    with_reducible refine HCL.out.mono ?_
    rintro e w2 ⟨v, rfl, hown, hb⟩
    have HO := Lib.hid hown
    have HB := Lib.hid hb
    clear hown hb
    go_wp2
    go_ret2
    exact ⟨HB.out, v, rfl, HO.out⟩

def dsk0 (room : Int) : Dsk := ⟨max room 0, [], [], 0, false⟩

/-- A new disk. -/
def Born (d : Dsk) (w : World) (e : Ending) (w' : World) : Prop := ∃ B S, e = .returned (.pointer (some ⟨B, 0, none⟩)) ∧ Disk w' S B d ∧ Fresh Non w.heap.size S ∧ Below w.heap.size w w'

set_option maxRecDepth 100000 in
theorem new_calls (room : Int) (w : World) (h1 : room ≤ 9223372036854775807) : Calls Tryz.prog 28 #[.int .i64 room] w (Born (dsk0 room) w) := by
  have hmm := @run_makeMap Tryz.prog
  obtain ⟨R, hR⟩ : ∃ R, max room 0 = R := ⟨_, rfl⟩
  have H : Hid (Born (dsk0 room) w (.returned (.pointer (some ⟨w.heap.size + 1, 0, none⟩))) ((w.alloc (.map #[] 0)).alloc (.cells #[.int .i64 R, .map (some w.heap.size), .map none, .int .i64 0, .bool false] 78))) := Lib.hid (by
    refine ⟨w.heap.size + 1, _, rfl, ⟨⟨?_, ?_, List.Pairwise.nil, Nat.zero_le _, ?_, ?_, ?_, ?_⟩, fun k e => e.2, w.heap.size, none, [], DiskAt.tight (S := fun k => w.heap.size ≤ k) ?_⟩, fun k hk => .inr hk.1, ((Below.refl _ w).alloc (Nat.le_refl _) _).alloc (by simp) _⟩
    · unfold dsk0; show 0 ≤ max room 0; omega
    · unfold dsk0; show max room 0 ≤ _; omega
    · intro f hf; cases hf
    · intro f hf; cases hf
    · intro f hf; cases hf
    · show ((used [] : Nat) : Int) ≤ max room 0; simp [used]; omega
    · refine { blk := ?_, map := ?_, tro := fun i => rfl, file := ?_, row := ?_, is := rfl, fbs := List.nodup_nil, dbs := ?_, mapT := by simp, sB := by omega, sF := Nat.le_refl _, sT := (fun k e => by cases e), sfb := ?_, sdb := ?_ }
      · rw [← hR]; exact alloc2_at1 _ _ _
      · exact ((World.ownsMap_made w Tryz.prog 9 Rp).alloc _)
      · intro c hc; cases hc
      · intro c hc; cases hc
      · intro c hc; cases hc
      · intro c hc; cases hc
      · intro c hc; cases hc)
  clear h1
  go_enter Tryz.func28, Tryz.ntmps28
  go_wp2
  go_ret
  exact H.out

end Go.Proofs.YtacfcfbleogioaaGreatDoor

namespace Go.Proofs.YtacfcfbleogioaaGreatDoor
open Go.RowKit Go.Lib Go.Joins

theorem append_any {w : World} {t e size bytes : Nat} {z : Value} (ht : Tryz.prog.underlying t = some (.slice e)) (hinfo : (Tryz.prog.info? e).map (fun i => (i.zero, i.size, i.bytes)) = some (some z, size, bytes)) (hzs : z.cells.size = size) (hsz : 0 < size)
    {v : Value} {n : Nat} {xs : List Value} (hown : w.ownsRow 0 e size v n xs) {b : Addr} {m c : Nat} {news : List Value} (hl : news.length = m * size) (hnews : ∀ j u, news[j]? = some u → w.cell? (b.add j) = some u) (h1 : ∀ u ∈ news, u.oneCell' = true)
    (hmx : n + m ≤ maxLen) (hbytes : (n + m) * bytes ≤ 140737488355328) :
    ∃ v' w', (∀ ty, (Builtin.append_ #[t, t] ty #[v, .slice (some b) m c]).run Tryz.prog w = .ok v' w') ∧ w'.ownsRow 0 e size v' (n + m) (xs ++ news) ∧ w.grownBy w' v.ownBlock ∧ ∀ k, v'.ownBlock = some k → v.ownBlock = some k ∨ w.heap.size ≤ k := by
  obtain ⟨i5, hi5, hj50, hj51, hj52⟩ := info_parts hinfo
  obtain ⟨v', w', hrun, h2, h3, h4⟩ := run_append_own (P := Tryz.prog) w 0 t t e i5 z size bytes ht hi5 hj50 hj51 hj52 hzs hsz v n xs hown b m c news hl hnews h1 hmx hbytes (Nat.zero_le _)
  refine ⟨v', w', fun ty => ?_, h2, h3, ?_⟩
  · rw [← hrun]
    rfl
  · subst hj51
    have h63 : n + m ≤ 9223372036854775807 := by simp only [maxLen] at hmx; omega
    rcases hown.2 with ⟨rfl, rfl⟩ | ⟨g, cap, cur, rfl, hbg, hg, hnc, hcm, hcs, htake⟩
    · by_cases hm : m = 0
      · intro k hk
        have := h4.2 ⟨rfl, hm⟩
        rw [this] at hk
        cases hk
      · have hr2 := run_append_nil (P := Tryz.prog) w t t e i5 z ht hi5 hj50 b m c news hl hnews (by omega) (by omega) (by rw [hj52]; rw [Nat.zero_add] at hbytes; omega)
        rw [hr2] at hrun
        have e := (Result.ok.inj hrun).1
        intro k hk
        rw [← e] at hk
        have : w.heap.size = k := Option.some.inj hk
        exact .inr (by omega)
    · by_cases hroom : n + m ≤ cap
      · have hfit : n * i5.size + news.length ≤ cur.size := by rw [hl, hcs, ← Nat.add_mul]; exact Nat.mul_le_mul_right _ hroom
        have hr2 := run_append_room (P := Tryz.prog) w t t e i5 ht hi5 g n cap cur hg b m c news hl hnews h1 hroom hfit
        rw [hr2] at hrun
        have e := (Result.ok.inj hrun).1
        intro k hk
        rw [← e] at hk
        exact .inl hk
      · have holds : ∀ j u, xs[j]? = some u → w.cell? ((⟨g, 0, none⟩ : Addr).add j) = some u := hown.cells (g := g) rfl
        have hr2 := run_append_grow (P := Tryz.prog) w t t e i5 z ht hi5 hj50 ⟨g, 0, none⟩ n cap xs hown.1 holds b m c news hl hnews (by omega) (by omega) (growslice_fits (by omega) (by rw [hj52]; exact hbytes))
        rw [hr2] at hrun
        have e := (Result.ok.inj hrun).1
        intro k hk
        rw [← e] at hk
        have : w.heap.size = k := Option.some.inj hk
        exact .inr (by omega)

theorem append_any_none {w : World} {t e size : Nat} {z : Value} {bytes : Nat} (ht : Tryz.prog.underlying t = some (.slice e)) (hinfo : (Tryz.prog.info? e).map (fun i => (i.zero, i.size, i.bytes)) = some (some z, size, bytes))
    {v : Value} {n : Nat} {xs : List Value} (hown : w.ownsRow 0 e size v n xs) : ∀ ty, (Builtin.append_ #[t, t] ty #[v, .slice none 0 0]).run Tryz.prog w = .ok v w := by
  obtain ⟨i5, hi5, hj50, hj51, hj52⟩ := info_parts hinfo
  intro ty
  exact run_append_owned_none (P := Tryz.prog) (w := w) 0 t ty e i5 size ht hi5 v n xs hown

theorem info52 : (Tryz.prog.info? 63).map (fun i => (i.zero, i.size, i.bytes)) = some (some (.agg #[.string ⟨#[]⟩, .slice none 0 0, .int .i64 0]), 3, 48) := by kernel_rfl
theorem info92 : (Tryz.prog.info? 95).map (fun i => (i.zero, i.size, i.bytes)) = some (some (.agg #[.int .i64 0, .int .i64 0, .int .i64 0]), 3, 24) := by kernel_rfl

/-- A file as it may come in. -/
structure FilI where
  name : ByteArray
  data : List Nat
  safe : Int
def toI (f : Fil) : FilI := ⟨f.name, f.data, (f.safe : Int)⟩

theorem Byt.keep {w w' : World} {S O : Nat → Prop} {v : Value} {l : List Nat} (h : Byt w S v l) (hb : Keeps O w w') (hO : ∀ k, S k → ¬ O k) : Byt w' S v l := by
  obtain ⟨⟨a, c, h1, h2, h3⟩⟩ := h
  exact ⟨a, c, h1, h2.keep hb hO, h3⟩
theorem Byt.mono {w : World} {S S' : Nat → Prop} {v : Value} {l : List Nat} (h : Byt w S v l) (hS : ∀ k, S k → S' k) : Byt w S' v l := by
  obtain ⟨⟨a, c, h1, h2, h3⟩⟩ := h
  exact ⟨a, c, h1, h2.mono hS, h3⟩

/-- These cells are those of files, one behind the other. -/
structure FCells (w : World) (S : Nat → Prop) (cells : List Value) (L : List FilI) : Prop where
  len : cells.length = L.length * 3
  at_ : ∀ (i : Nat) (f : FilI), L[i]? = some f → cells[i * 3]? = some (.string f.name) ∧ (∃ dv, cells[i * 3 + 1]? = some dv ∧ Byt w S dv f.data) ∧ cells[i * 3 + 2]? = some (.int .i64 f.safe)

theorem FCells.nil (w : World) (S : Nat → Prop) : FCells w S [] [] := ⟨rfl, fun i f h => by simp at h⟩
theorem FCells.keep {w w' : World} {S O : Nat → Prop} {cells : List Value} {L : List FilI} (h : FCells w S cells L) (hb : Keeps O w w') (hO : ∀ k, S k → ¬ O k) : FCells w' S cells L :=
  ⟨h.len, fun i f hi => by obtain ⟨h1, ⟨dv, h2, h3⟩, h4⟩ := h.at_ i f hi; exact ⟨h1, ⟨dv, h2, h3.keep hb hO⟩, h4⟩⟩
theorem FCells.mono {w : World} {S S' : Nat → Prop} {cells : List Value} {L : List FilI} (h : FCells w S cells L) (hS : ∀ k, S k → S' k) : FCells w S' cells L :=
  ⟨h.len, fun i f hi => by obtain ⟨h1, ⟨dv, h2, h3⟩, h4⟩ := h.at_ i f hi; exact ⟨h1, ⟨dv, h2, h3.mono hS⟩, h4⟩⟩
theorem FCells.app {w : World} {S : Nat → Prop} {cells cells' : List Value} {L L' : List FilI} (h : FCells w S cells L) (h' : FCells w S cells' L') : FCells w S (cells ++ cells') (L ++ L') := by
  have hl := h.len
  refine ⟨by rw [List.length_append, List.length_append, h.len, h'.len, Nat.add_mul], fun i f hi => ?_⟩
  by_cases hlt : i < L.length
  · rw [List.getElem?_append_left hlt] at hi
    obtain ⟨h1, ⟨dv, h2, h3⟩, h4⟩ := h.at_ i f hi
    rw [List.getElem?_append_left (by omega), List.getElem?_append_left (by omega), List.getElem?_append_left (by omega)]
    exact ⟨h1, ⟨dv, h2, h3⟩, h4⟩
  · rw [List.getElem?_append_right (by omega)] at hi
    obtain ⟨h1, ⟨dv, h2, h3⟩, h4⟩ := h'.at_ _ f hi
    rw [List.getElem?_append_right (by omega), List.getElem?_append_right (by omega), List.getElem?_append_right (by omega)]
    rw [show i * 3 - cells.length = (i - L.length) * 3 by omega, show i * 3 + 1 - cells.length = (i - L.length) * 3 + 1 by omega, show i * 3 + 2 - cells.length = (i - L.length) * 3 + 2 by omega]
    exact ⟨h1, ⟨dv, h2, h3⟩, h4⟩
theorem FCells.one {w : World} {S : Nat → Prop} {f : FilI} {dv : Value} (h : Byt w S dv f.data) : FCells w S [.string f.name, dv, .int .i64 f.safe] [f] := by
  refine ⟨rfl, fun i g hi => ?_⟩
  cases i with
  | zero =>
    obtain rfl : f = g := by simpa using hi
    exact ⟨rfl, ⟨dv, rfl, h⟩, rfl⟩
  | succ k => simp at hi

/-- A slice leads to these files, in blocks of S. -/
def Fils (w : World) (S : Nat → Prop) (a : Option Addr) (L : List FilI) : Prop :=
  ∃ cells, FCells w S cells L ∧ (L = [] ∨ ∃ b o, a = some ⟨b, o, none⟩ ∧ S b ∧ ∀ j u, cells[j]? = some u → w.cell? ⟨b, o + j, none⟩ = some u)

theorem Fils.keep {w w' : World} {S O : Nat → Prop} {a : Option Addr} {L : List FilI} (h : Fils w S a L) (hb : Keeps O w w') (hO : ∀ k, S k → ¬ O k) : Fils w' S a L := by
  obtain ⟨cells, h1, h2⟩ := h
  refine ⟨cells, h1.keep hb hO, ?_⟩
  rcases h2 with h2 | ⟨b, o, h2, h3, h4⟩
  · exact .inl h2
  · exact .inr ⟨b, o, h2, h3, fun j u hu => (World.cell?_of_block (a := ⟨b, o + j, none⟩) (hb.block b (lt_of_cell (h4 j u hu)) (hO b h3))).trans (h4 j u hu)⟩
theorem Fils.mono {w : World} {S S' : Nat → Prop} {a : Option Addr} {L : List FilI} (h : Fils w S a L) (hS : ∀ k, S k → S' k) : Fils w S' a L := by
  obtain ⟨cells, h1, h2⟩ := h
  refine ⟨cells, h1.mono hS, ?_⟩
  rcases h2 with h2 | ⟨b, o, h2, h3, h4⟩
  · exact .inl h2
  · exact .inr ⟨b, o, h2, hS b h3, h4⟩
theorem Fils.below {w w' : World} {S : Nat → Prop} {a : Option Addr} {L : List FilI} (h : Fils w S a L) (hb : Below w.heap.size w w') : Fils w' S a L := h.keep (keeps_below hb Non) (fun _ _ h => h)

theorem fils_of_owns {w : World} {S : Nat → Prop} {base : Nat} {v : Value} {L : List FilI} {cells : List Value} (hc : FCells w S cells L) (ho : w.ownsRow base 63 3 v L.length cells) (hS : ∀ k, v.ownBlock = some k → S k) :
    ∃ a c, v = .slice a L.length c ∧ Fils w S a L ∧ (a = none → c = 0) ∧ L.length ≤ c ∧ c ≤ maxLen := by
  rcases ho.2 with ⟨h1, h0⟩ | ⟨g, cap, cur, h1, hg, hgb, hcap, hcm, hcur, htk⟩
  · exact ⟨none, 0, by rw [h1, h0], ⟨cells, hc, .inl (List.length_eq_zero_iff.1 h0)⟩, fun _ => rfl, by omega, Nat.zero_le _⟩
  · refine ⟨_, cap, h1, ⟨cells, hc, .inr ⟨g, 0, rfl, hS g (by rw [h1]; rfl), fun j u hu => ?_⟩⟩, (fun e => by cases e), hcap, hcm⟩
    have := ho.cells (g := g) (by rw [h1]; rfl) j u hu
    rwa [Addr.add_mid] at this

end Go.Proofs.YtacfcfbleogioaaGreatDoor

namespace Go.Proofs.YtacfcfbleogioaaGreatDoor
open Go.RowKit Go.Lib Go.Joins

/-- A new slice of these files. -/
def FilesOut (l : List FilI) (w : World) (e : Ending) (w' : World) : Prop :=
  ∃ a c S', e = .returned (.slice a l.length c) ∧ Fils w' S' a l ∧ (a = none → c = 0) ∧ l.length ≤ c ∧ c ≤ maxLen ∧ (∀ k, S' k → w.heap.size ≤ k ∧ k < w'.heap.size) ∧ Below w.heap.size w w'

theorem names_cells {w : World} {base : Nat} {v : Value} {l : List ByteArray} (h : w.ownsRow base 9 1 v l.length (l.map Value.string)) : ∃ a c, v = .slice a l.length c ∧ (l = [] ∨ ∃ g, a = some ⟨g, 0, none⟩ ∧ base ≤ g ∧ ∀ (i : Nat) (s : ByteArray), l[i]? = some s → w.cell? ⟨g, i, none⟩ = some (.string s)) := by
  rcases h.2 with ⟨h1, h0⟩ | ⟨g, cap, cur, h1, hg, hgb, hcap, hcm, hcur, htk⟩
  · exact ⟨none, 0, by rw [h1, h0], .inl (List.length_eq_zero_iff.1 h0)⟩
  · refine ⟨_, cap, h1, .inr ⟨g, rfl, hg, fun i s hi => ?_⟩⟩
    have := h.cells (g := g) (by rw [h1]; rfl) i (.string s) (by rw [List.getElem?_map, hi]; rfl)
    rw [Addr.add_mid, Nat.zero_add] at this
    exact this

theorem dv_form2 {w : World} {base e size n : Nat} {dv : Value} {xs : List Value} (h : w.ownsRow base e size dv n xs) : ∃ a c, dv = .slice a n c := by
  rcases h.2 with ⟨h1, h0⟩ | ⟨g, cap, cur, h1, _⟩
  · exact ⟨none, 0, by rw [h1, h0]⟩
  · exact ⟨_, cap, h1⟩

theorem ownsRow_base0 {w : World} {base e size n : Nat} {v : Value} {xs : List Value} (h : w.ownsRow base e size v n xs) : w.ownsRow 0 e size v n xs := ownsRow_le h (Nat.zero_le _)

/-- A cell of the list as the map tells it. -/
theorem cfnd_at {cs : List Cel} (hs : Srt (cs.map Cel.f)) {i : Nat} {c : Cel} (hi : cs[i]? = some c) : cfnd c.f.name cs = some c := by
  have hm : c ∈ cs := List.mem_of_getElem? hi
  cases hc : cfnd c.f.name cs with
  | none =>
    unfold cfnd at hc
    have := List.find?_eq_none.1 hc c hm
    simp at this
  | some x =>
    obtain ⟨h1, h2⟩ := cfnd_some hc
    rw [srt_inj hs x h1 c hm h2]

theorem other_elem_n {w : World} {b e n size : Nat} {v : Value} {xs : List Value} {cs : Array Value} {t : TypeId} {fr : Nat × Nat} (h : w.heap[b]? = some (.cells cs t fr)) (hown : w.ownsRow 0 e size v n xs) (ht : t ≠ e) : v.ownBlock ≠ some b := by
  intro hb
  rcases hown.2 with ⟨rfl, _⟩ | ⟨g, cap, cur, rfl, _, hg, _⟩
  · cases hb
  · have : g = b := Option.some.inj hb
    subst this
    rw [h] at hg
    simp only [Option.some.injEq, Obj.cells.injEq] at hg
    exact ht hg.2.1

theorem news_at {w : World} {l : List Value} {t : TypeId} : ∀ j u, l[j]? = some u → (w.alloc (.cells l.toArray t)).cell? ((⟨w.heap.size, 0, none⟩ : Addr).add j) = some u := by
  intro j u hj
  rw [Addr.add_mid, Nat.zero_add, cell_of_block (heap_alloc_new w (.cells l.toArray t)) j]
  simpa using hj

theorem append_file {w : World} {v : Value} {n : Nat} {xs : List Value} (hown : w.ownsRow 0 63 3 v n xs) (hn : n ≤ 1000) (nm : ByteArray) (a : Option Addr) (l c : Nat) (z : Int) :
    ∃ v' w', (∀ ty, (Builtin.append_ #[22, 22] ty #[v, .slice (some ⟨w.heap.size, 0, none⟩) 1 1]).run Tryz.prog (w.alloc (.cells #[.string nm, .slice a l c, .int .i64 z] 63)) = .ok v' w') ∧ w'.ownsRow 0 63 3 v' (n + 1) (xs ++ [.string nm, .slice a l c, .int .i64 z]) ∧
      (w.alloc (.cells #[.string nm, .slice a l c, .int .i64 z] 63)).grownBy w' v.ownBlock ∧ ∀ k, v'.ownBlock = some k → v.ownBlock = some k ∨ w.heap.size + 1 ≤ k := by
  obtain ⟨v3, w3, h1, h2, h3, h4⟩ := append_any (w := w.alloc (.cells #[.string nm, .slice a l c, .int .i64 z] 63)) Tryz.underlying22 info52 rfl (by decide) (hown.alloc _)
    (b := ⟨w.heap.size, 0, none⟩) (m := 1) (c := 1) (news := [.string nm, .slice a l c, .int .i64 z]) rfl news_at (by intro u hu; simp at hu; rcases hu with rfl | rfl | rfl <;> rfl) (by unfold maxLen; omega) (by omega)
  exact ⟨v3, w3, h1, h2, h3, fun k hk => by simpa using h4 k hk⟩

/-- A copy of a file's bytes, the file lying as it lay. -/
theorem clone_file {wr : World} {a : Option Addr} {cap ln : Nat} {dt : List Nat} {sf : Int} {fb : Nat} (nm : ByteArray) (hcl : Calls Tryz.prog 34 #[.slice a ln cap] wr.drew (Cloned dt wr.drew)) (hln : dt.length = ln) (hfl : wr.heap[fb]? = some (.cells #[.slice a ln cap, .int .i64 sf] 74 (0, 0))) :
    Calls Tryz.prog 34 #[.slice a ln cap] wr.drew fun e w2 => ∃ a3 c3, e = .returned (.slice a3 ln c3) ∧ Hid (w2.ownsRow wr.heap.size 5 1 (.slice a3 ln c3) ln (cellsN dt)) ∧ Hid (Below wr.heap.size wr w2) ∧
      w2.cell? ⟨fb, 0, none⟩ = some (.slice a ln cap) ∧ w2.cell? ⟨fb, 1, none⟩ = some (.int .i64 sf) ∧
      (w2.alloc (.cells #[.string nm, .slice a3 ln c3, .int .i64 sf] 63)).cell? ⟨fb, 0, none⟩ = some (.slice a ln cap) ∧ (w2.alloc (.cells #[.string nm, .slice a3 ln c3, .int .i64 sf] 63)).cell? ⟨fb, 1, none⟩ = some (.int .i64 sf) := by
  refine hcl.mono ?_
  rintro e w2 ⟨v2, rfl, hown2, hb2⟩
  rw [hln] at hown2
  obtain ⟨a3, c3, rfl⟩ := dv_form2 hown2
  have hb3 : Below wr.heap.size wr w2 := ⟨hb2.os, hb2.tape, hb2.output, hb2.size, hb2.block⟩
  have hfl2 := block_below hb3 hfl
  have hfl3 := (Below.heap_alloc w2 (.cells #[.string nm, .slice a3 ln c3, .int .i64 sf] 63) fb (lt_of_block hfl2)).trans hfl2
  exact ⟨a3, c3, rfl, Lib.hid hown2, Lib.hid hb3, (cell_of_block hfl2 0).trans rfl, (cell_of_block hfl2 1).trans rfl, (cell_of_block hfl3 0).trans rfl, (cell_of_block hfl3 1).trans rfl⟩

/-- The copy is put behind the files that are there. -/
theorem put_file {wr w2 : World} {a : Option Addr} {cap ln i : Nat} {sf : Int} {fb : Nat} {lst : Value} {cells : List Value} (hfl : wr.heap[fb]? = some (.cells #[.slice a ln cap, .int .i64 sf] 74 (0, 0))) (hown : wr.ownsRow 0 63 3 lst i cells) (hi : i ≤ 1000)
    (hb2 : Below wr.heap.size wr w2) (nm : ByteArray) (a3 : Option Addr) (c3 : Nat) :
    ∃ a4 c4 w3, (∀ ty, (Builtin.append_ #[22, 22] ty #[lst, .slice (some ⟨w2.heap.size, 0, none⟩) 1 1]).run Tryz.prog (w2.alloc (.cells #[.string nm, .slice a3 ln c3, .int .i64 sf] 63)) = .ok (.slice a4 (i + 1) c4) w3) ∧
      Hid (w3.ownsRow 0 63 3 (.slice a4 (i + 1) c4) (i + 1) (cells ++ [.string nm, .slice a3 ln c3, .int .i64 sf])) ∧ Hid ((w2.alloc (.cells #[.string nm, .slice a3 ln c3, .int .i64 sf] 63)).grownBy w3 lst.ownBlock) ∧
      Hid (∀ k, (Value.slice a4 (i + 1) c4).ownBlock = some k → lst.ownBlock = some k ∨ w2.heap.size + 1 ≤ k) ∧ w3.cell? ⟨fb, 0, none⟩ = some (.slice a ln cap) ∧ w3.cell? ⟨fb, 1, none⟩ = some (.int .i64 sf) := by
  obtain ⟨v3, w3, h1, h2, h3, h4⟩ := append_file (ownsRow_keep hown (keeps_below hb2 Non) (fun _ _ h => h)) hi nm a3 ln c3 sf
  obtain ⟨a4, c4, rfl⟩ := dv_form2 h2
  have hfl2 := block_below hb2 hfl
  have hfl3 := (Below.heap_alloc w2 (.cells #[.string nm, .slice a3 ln c3, .int .i64 sf] 63) fb (lt_of_block hfl2)).trans hfl2
  have hfl4 := (h3.block fb (lt_of_block hfl3) (fun e => other_elem_n hfl hown (by decide) e.symm)).trans hfl3
  exact ⟨a4, c4, w3, h1, Lib.hid h2, Lib.hid h3, Lib.hid h4, (cell_of_block hfl4 0).trans rfl, (cell_of_block hfl4 1).trans rfl⟩

/-- One file more. -/
theorem fcells_more {wr w2 w3 : World} {So : Nat → Prop} {lst v2 : Value} {i ln : Nat} {cells : List Value} {L : List FilI} {f : FilI} (hown : wr.ownsRow 0 63 3 lst i cells) (hfc : FCells wr So cells L) (_hSo : ∀ k, So k → k < wr.heap.size) (hlo : ∀ k, lst.ownBlock = some k → ¬ So k)
    (hb2 : Below wr.heap.size wr w2) (h2 : w2.ownsRow wr.heap.size 5 1 v2 ln (cellsN f.data)) (hb : ∀ c ∈ f.data, c < 256) (hln : f.data.length = ln) {o : Obj} (hg : (w2.alloc o).grownBy w3 lst.ownBlock) :
    FCells w3 (fun k => So k ∨ v2.ownBlock = some k) (cells ++ [.string f.name, v2, .int .i64 f.safe]) (L ++ [f]) := by
  have hk1 : Keeps (fun k => lst.ownBlock = some k) wr w3 := ((keeps_below hb2 _).alloc o).grown hg (fun k e => .inl e)
  have hk2 : Keeps (fun k => lst.ownBlock = some k) w2 w3 := ((Keeps.refl _ w2).alloc o).grown hg (fun k e => .inl e)
  have hby := row_of_own hb hln h2
  have hlt : ∀ k, lst.ownBlock = some k → k < wr.heap.size := fun k e => (hown.lt k e).2
  refine ((hfc.keep hk1 (fun k hs e => hlo k e hs)).mono (fun k h => .inl h)).app ((FCells.one (hby.keep hk2 (fun k hs e => ?_))).mono (fun k h => .inr h))
  have := (h2.lt k hs).1
  have := hlt k e
  omega

set_option maxRecDepth 100000 in
set_option maxHeartbeats 4000000 in
theorem files_calls (w : World) {S : Nat → Prop} {B : Nat} {d : Dsk} (hd : Disk w S B d) (hu : used d.L ≤ 1073741824) : Calls Tryz.prog 24 #[.pointer (some ⟨B, 0, none⟩)] w (FilesOut (d.L.map toI) w) := by
  obtain ⟨hi, _, F, T, cs, h⟩ := hd
  have hnm := names_calls w h hi
  have HNM := Lib.hid hnm
  have HD := Lib.hid h
  have HI := Lib.hid hi
  have hmost := hi.most
  have hlen : (d.L.map Fil.name).length = d.L.length := List.length_map _
  obtain ⟨n, hn⟩ : ∃ n, d.L.length = n := ⟨_, rfl⟩
  obtain ⟨names, hnames⟩ : ∃ l, d.L.map Fil.name = l := ⟨_, rfl⟩
  rw [hn] at hmost
  rw [hnames, hn] at hlen
  rw [hnames] at HNM
  have HN := Lib.hid hn
  have HNAMES := Lib.hid hnames
  have HU := Lib.hid hu
  have HLEN := Lib.hid hlen
  clear hnm h hi hn hnames hu hlen
  go_enter Tryz.func24, Tryz.ntmps24
  go_wp2_with fail
  with_reducible refine HNM.out.mono ?_
  rintro e w1 ⟨v1, rfl, hown1, hb1⟩
  obtain ⟨a1, cap1, rfl, hcells⟩ := names_cells hown1
  rw [HLEN.out]
  have HC := Lib.hid hcells
  have HB1 := Lib.hid hb1
  have hsz1 := hb1.size
  clear hown1 hb1 hcells
  go_wp2
  go_loopg [3, 5, 6, 10] n (fun g lst _ _ idx wr => ∃ (i : Nat) (cells : List Value) (So : Nat → Prop), idx = .int .i64 (i : Int) ∧ g + i = n ∧ wr.ownsRow 0 63 3 lst i cells ∧ FCells wr So cells ((d.L.take i).map toI) ∧
    (∀ k, So k → w.heap.size ≤ k ∧ k < wr.heap.size) ∧ (∀ k, lst.ownBlock = some k → w1.heap.size ≤ k ∧ ¬ So k) ∧ Below w1.heap.size w1 wr)
  case atStart => exact ⟨0, [], Non, rfl, rfl, World.ownsRow_nil _ _ _ _, FCells.nil _ _, fun _ h => h.elim, (fun k e => by cases e), Below.refl _ _⟩
  case round =>
    obtain ⟨i, cells, So, rfl, hg, hown, hfc, hSo, hlo, hb⟩ := hrel
    have HG := Lib.hid hg
    have HOWN := Lib.hid hown
    have HFC := Lib.hid hfc
    have HSO := Lib.hid hSo
    have HLO := Lib.hid hlo
    have HB := Lib.hid hb
    have hszr := hb.size
    obtain ⟨ao, co, hform⟩ := dv_form2 hown
    subst hform
    clear hg hown hfc hSo hlo hb
    by_cases hlt : i < n
    · obtain ⟨g', rfl⟩ : ∃ g', gk = g' + 1 := ⟨gk - 1, by have := HG.out; omega⟩
      have hd : decide ((i : Int) < (n : Int)) = true := by simp; omega
      have hcl : cs.length = n := by rw [← HN.out, ← HD.out.is, List.length_map]
      obtain ⟨c, hci⟩ : ∃ c, cs[i]? = some c := ⟨cs[i]'(by omega), List.getElem?_eq_getElem (by omega)⟩
      have hm : c ∈ cs := List.mem_of_getElem? hci
      have hfi : d.L[i]? = some c.f := by rw [← HD.out.is, List.getElem?_map, hci]; rfl
      have hni : names[i]? = some c.f.name := by rw [← HNAMES.out, List.getElem?_map, hfi]; rfl
      obtain ⟨gn, rfl, _, hcn⟩ : ∃ g, a1 = some ⟨g, 0, none⟩ ∧ w.heap.size ≤ g ∧ ∀ (i : Nat) (s : ByteArray), names[i]? = some s → w1.cell? ⟨g, i, none⟩ = some (.string s) := by
        rcases HC.out with h0 | h0
        · rw [h0] at hni; simp at hni
        · exact h0
      have hcw := hcn i c.f.name hni
      have hcr : wr.cell? ⟨gn, i, none⟩ = some (.string c.f.name) := (World.cell?_of_block (a := ⟨gn, i, none⟩) (HB.out.block gn (lt_of_cell hcw))).trans hcw
      have hDr : DiskAt wr S B d F T cs := (HD.out.below HB1.out).below HB.out
      have hB1 : wr.cell? ⟨B, 1, none⟩ = some (.map (some F)) := (cell_of_block hDr.blk 1).trans rfl
      have hlk := look_run hDr.map (s := c.f.name) (by
        have := HI.out.name c.f (by rw [← HD.out.is]; exact List.mem_map.2 ⟨c, hm, rfl⟩)
        unfold nmd at this
        simp only [Bool.and_eq_true, decide_eq_true_eq] at this
        unfold maxLen; omega)
      rw [cfnd_at (by rw [HD.out.is]; exact HI.out.srt) hci] at hlk
      dsimp only [ptr] at hlk
      obtain ⟨a, cap, hdv⟩ := dv_form (hDr.row c hm)
      have hfl := hDr.file c hm
      have hlenD : c.f.data.length ≤ 1073741824 := Nat.le_trans (used_mem (by rw [← HD.out.is]; exact List.mem_map.2 ⟨c, hm, rfl⟩)) HU.out
      have hby := row_of_own (HI.out.byte c.f (by rw [← HD.out.is]; exact List.mem_map.2 ⟨c, hm, rfl⟩)) rfl (hDr.row c hm)
      obtain ⟨a2, cap2, hv2, hrow, _⟩ := hby.is
      rw [hdv] at hv2
      obtain ⟨rfl, _, rfl⟩ := Value.slice.inj hv2
      have HCL := Lib.hid (clone_calls a cap c.f.data _ wr.drew hrow hlenD)
      rw [hdv] at hfl
      have HFL := Lib.hid hfl
      have f0 : wr.drew.cell? ⟨c.fb, 0, none⟩ = some (.slice a c.f.data.length cap) := (cell_of_block hfl 0).trans rfl
      have f1 : wr.drew.cell? ⟨c.fb, 1, none⟩ = some (.int .i64 (c.f.safe : Int)) := (cell_of_block hfl 1).trans rfl
      have HB8 := Lib.hid (HI.out.byte c.f (by rw [← HD.out.is]; exact List.mem_map.2 ⟨c, hm, rfl⟩))
      obtain ⟨nm, hnm⟩ : ∃ x, c.f.name = x := ⟨_, rfl⟩
      obtain ⟨dt, hdt⟩ : ∃ x, c.f.data = x := ⟨_, rfl⟩
      obtain ⟨sf, hsf⟩ : ∃ x : Int, (c.f.safe : Int) = x := ⟨_, rfl⟩
      obtain ⟨ln, hln⟩ : ∃ x, dt.length = x := ⟨_, rfl⟩
      obtain ⟨fb, hfb⟩ : ∃ x, c.fb = x := ⟨_, rfl⟩
      have HFI : Hid (toI c.f = ⟨nm, dt, sf⟩) := Lib.hid (by unfold toI; rw [hnm, hdt, hsf])
      have HFI2 := Lib.hid hfi
      rw [hdt, hln] at HCL
      rw [hnm] at hcr hlk
      rw [hfb] at hlk HFL f0 f1
      rw [hdt] at HFL f0 HB8
      rw [hln] at HFL f0
      rw [hsf] at HFL f1
      have HLN := Lib.hid hln
      have HCL2 := Lib.hid (clone_file nm HCL.out HLN.out HFL.out)
      have HPUT := Lib.hid (fun w2 hb2 a3 c3 => put_file (w2 := w2) HFL.out HOWN.out (by omega) hb2 nm a3 c3)
      clear hlenD hby hv2 hrow hdv hfl hcn hcw hDr hcl hci hm hfi hni hnm hdt hsf hln hfb
      go_wp2
      go_region_held3 (fun W => W.cell? ⟨fb, 0, none⟩ = some (.slice a ln cap) ∧ W.cell? ⟨fb, 1, none⟩ = some (.int .i64 sf))
        (first
          | exact ⟨f0, f1⟩
          | exact ⟨g0, g1⟩
          | exact ⟨h0, h1⟩
          | exact ⟨k0, k1⟩)
        (first
          | (refine HCL2.out.mono ?_
             rintro e w2 ⟨a3, c3, rfl, HO2, HB2, g0, g1, h0, h1⟩)
          | (obtain ⟨a4, c4, w3, hrun3, HO3, HG3, HF3, k0, k1⟩ := HPUT.out w2 HB2.out a3 c3
             refine step_append rfl _ _ 22 rfl _ _ _ rfl rfl hrun3 ?_))
      all_goals
        clear k0 k1 h0 h1 g0 g1 f0 f1 hrun3 hlk hcr hB1
        go_wp2
        go_roundg g'
        case measure => omega
        case rel =>
          have hsz2 : wr.heap.size ≤ w2.heap.size := HB2.out.size
          have hsz3 : w2.heap.size + 1 ≤ w3.heap.size := by have := HG3.out.size; simpa using this
          have hv2 := HO2.out.lt
          have hll := HOWN.out.lt
          have hmore := fcells_more (f := ⟨nm, dt, sf⟩) HOWN.out HFC.out (fun k e => (HSO.out k e).2) (fun k e => (HLO.out k e).2) HB2.out HO2.out HB8.out HLN.out HG3.out
          refine ⟨i + 1, _, fun k => So k ∨ (Value.slice a3 ln c3).ownBlock = some k, by go_num, by have := HG.out; omega, HO3.out, ?_, fun k hk => ?_, fun k hk => ?_, ?_⟩
          · have e : (d.L.take (i + 1)).map toI = (d.L.take i).map toI ++ [⟨nm, dt, sf⟩] := by
              rw [List.take_add_one, HFI2.out, List.map_append]
              show _ ++ [toI c.f] = _
              rw [HFI.out]
            rw [e]
            exact hmore
          · rcases hk with hk | hk
            · have := HSO.out k hk
              omega
            · have h1 := (hv2 k hk).1
              have h2 := (hv2 k hk).2
              omega
          · rcases HF3.out k hk with h1 | h1
            · refine ⟨(HLO.out k h1).1, fun e => ?_⟩
              rcases e with e | e
              · exact (HLO.out k h1).2 e
              · have h2 := (hll k h1).2
                have h3 := (hv2 k e).1
                omega
            · have h2 : w2.heap.size + 1 ≤ k := h1
              refine ⟨by omega, fun e => ?_⟩
              rcases e with e | e
              · have := (HSO.out k e).2
                omega
              · have := (hv2 k e).2
                omega
          · have hB2 : Below wr.heap.size wr w2 := HB2.out
            refine HB.out.trans (((hB2.mono (by omega)).alloc (by omega) _).grown HG3.out (by simp; omega) (fun k e => (HLO.out k e).1))
    · have hd : decide ((i : Int) < (n : Int)) = false := by simp; omega
      go_wp2
      go_ret
      have hin : i = n := by have := HG.out; omega
      have hall : d.L.take i = d.L := List.take_of_length_le (by rw [HN.out]; omega)
      have hfc := HFC.out
      rw [hall] at hfc
      have hlen : (d.L.map toI).length = i := by rw [List.length_map, HN.out, hin]
      have hown := HOWN.out
      rw [← hlen] at hown
      obtain ⟨a9, c9, h1, h2, h3, h4, h5⟩ := fils_of_owns (S := fun k => So k ∨ (Value.slice ao i co).ownBlock = some k) (hfc.mono (fun k h => .inl h)) hown (fun k e => .inr (by cases ao <;> exact e))
      rw [hlen] at h1 h4
      refine ⟨a9, c9, _, by rw [hlen, ← h1]; rfl, h2, h3, by rw [hlen]; exact h4, h5, fun k hk => ?_, below_then HB1.out HB.out⟩
      rcases hk with hk | hk
      · exact HSO.out k hk
      · have h6 := (HLO.out k hk).1
        have h7 := (HOWN.out.lt k hk).2
        omega

end Go.Proofs.YtacfcfbleogioaaGreatDoor

namespace Go.Proofs.YtacfcfbleogioaaGreatDoor
open Go.RowKit Go.Lib Go.Joins

/-- A slice leads to these troubles. -/
def RowT (w : World) (S : Nat → Prop) (a : Option Addr) (l : List Tro) : Prop :=
  l = [] ∨ ∃ b o, a = some ⟨b, o, none⟩ ∧ S b ∧ ∀ (i : Nat) (t : Tro), l[i]? = some t → w.cell? ⟨b, o + i * 3, none⟩ = some (.int .i64 t.at_) ∧ w.cell? ⟨b, o + i * 3 + 1, none⟩ = some (.int .i64 t.kind) ∧ w.cell? ⟨b, o + i * 3 + 2, none⟩ = some (.int .i64 t.part)
theorem RowT.keep {w w' : World} {S O a l} (h : RowT w S a l) (hb : Keeps O w w') (hO : ∀ k, S k → ¬ O k) : RowT w' S a l := by
  rcases h with h0 | ⟨b, o, ha, hS, hc⟩
  · exact Or.inl h0
  · refine Or.inr ⟨b, o, ha, hS, fun i t hi => ?_⟩
    obtain ⟨h1, h2, h3⟩ := hc i t hi
    have hk := hb.block b (lt_of_cell h1) (hO b hS)
    exact ⟨(World.cell?_of_block (a := ⟨b, _, none⟩) hk).trans h1, (World.cell?_of_block (a := ⟨b, _, none⟩) hk).trans h2, (World.cell?_of_block (a := ⟨b, _, none⟩) hk).trans h3⟩

/-- The map holds just the first trouble of each number. -/
def TroI (D : DataW Nat) (l : List Tro) : Prop := ∀ i : Int, match tro l i with
  | none => Maps.has D (.int .i64 i) = false
  | some x => Maps.has D (.int .i64 i) = true ∧ ∀ z, D.atKey (.int .i64 i) z = troD x

theorem tro_snoc (l : List Tro) (t : Tro) (i : Int) : tro (l ++ [t]) i = match tro l i with | some x => some x | none => if hits i t then some t else none := by
  unfold tro
  rw [List.find?_append]
  cases List.find? (hits i) l with
  | some x => rfl
  | none =>
    show List.find? (hits i) [t] = _
    rw [List.find?_cons, List.find?_nil]
    cases hits i t <;> rfl

theorem tld_zero {k : Int} : tld k = 0 ↔ ¬ (1 ≤ k ∧ k ≤ 3) := by
  unfold tld
  by_cases h1 : k = 1
  · subst h1; simp
  by_cases h2 : k = 2
  · subst h2; simp
  by_cases h3 : k = 3
  · subst h3; simp
  · rw [if_neg h1, if_neg h2, if_neg h3]; simp; omega

theorem TroI.nil : TroI (.map []) [] := fun _i => rfl
theorem TroI.skip {D : DataW Nat} {l : List Tro} {t : Tro} (h : TroI D l) (hs : Maps.has D (.int .i64 t.at_) = true ∨ tld t.kind = 0) : TroI D (l ++ [t]) := by
  intro i
  have hi := h i
  rw [tro_snoc]
  cases ht : tro l i with
  | some x => rw [ht] at hi; exact hi
  | none =>
    rw [ht] at hi
    have : hits i t = false := by
      unfold hits
      rcases hs with hs | hs
      · by_cases e : t.at_ = i
        · rw [e] at hs
          rw [hs] at hi
          cases hi
        · simp [e]
      · have := tld_zero.1 hs
        cases h1 : decide (t.at_ = i) <;> simp
        omega
    rw [this]
    exact hi
theorem TroI.put {D : DataW Nat} {l : List Tro} {t : Tro} (h : TroI D l) (hD : Maps.IsMap D) (hn : Maps.has D (.int .i64 t.at_) = false) (hk : tld t.kind ≠ 0) : TroI (D.put (.int .i64 t.at_) (troD t)) (l ++ [t]) := by
  intro i
  have hi := h i
  have hv : 1 ≤ t.kind ∧ t.kind ≤ 3 := by
    by_cases e : 1 ≤ t.kind ∧ t.kind ≤ 3
    · exact e
    · exact absurd (tld_zero.2 e) hk
  rw [tro_snoc]
  by_cases e : t.at_ = i
  · subst e
    cases ht : tro l t.at_ with
    | some x => rw [ht] at hi; rw [hn] at hi; cases hi.1
    | none =>
      have : hits t.at_ t = true := by unfold hits; simp [hv]
      rw [this]
      have hkl : WideAt.IsKeyLit (Lit.int .i64 t.at_) := trivial
      exact ⟨Maps.has_put_same hD hkl _, fun z => Maps.atKey_put_same hD hkl _ z⟩
  · have hne : (Lit.int .i64 i) ≠ (Lit.int .i64 t.at_) := fun e2 => e (by injection e2 with _ e3; exact e3.symm)
    have hh : hits i t = false := by unfold hits; simp [e]
    rw [hh, Maps.has_put_other hne]
    cases ht : tro l i with
    | some x =>
      rw [ht] at hi
      exact ⟨hi.1, fun z => by rw [Maps.atKey_put_other hne]; exact hi.2 z⟩
    | none => rw [ht] at hi; exact hi

/-- The map of troubles is another one. -/
theorem DiskAt.tro_changed {w w1 : World} {S : Nat → Prop} {B : Nat} {d : Dsk} {F T : Nat} {cs : List Cel} (h : DiskAt w S B d F (some T) cs) (hk : Keeps (One T) w w1) {tr' : List Tro} (ht : TroAt w1 (some T) tr') : DiskAt w1 S B { d with tr := tr' } F (some T) cs where
  blk := block_keep h.blk hk (fun e => h.tro.ne h.blk (by rw [show B = T from e]))
  map := ownsMap_keep h.map hk (fun e => h.mapT (by rw [show F = T from e]))
  tro := ht
  file := fun c hc => block_keep (h.file c hc) hk (fun e => h.tro.ne (h.file c hc) (by rw [show c.fb = T from e]))
  row := fun c hc => ownsRow_keep (h.row c hc) hk (fun k e hkT => by
    have hrc := h.row c hc
    rcases hrc.2 with ⟨h5, _⟩ | ⟨g, cap, cur, h5, _, hg, _⟩
    · rw [h5] at e; cases e
    · rw [h5] at e
      obtain rfl : g = k := Option.some.inj e
      exact h.tro.ne hg (by rw [show g = T from hkT]))
  is := h.is
  fbs := h.fbs
  dbs := h.dbs
  mapT := h.mapT
  sB := h.sB
  sF := h.sF
  sT := h.sT
  sfb := h.sfb
  sdb := h.sdb

/-- A new map of troubles. -/
theorem DiskAt.armed {w w1 : World} {S : Nat → Prop} {B : Nat} {d : Dsk} {F : Nat} {T0 : Option Nat} {cs : List Cel} (h : DiskAt w S B d F T0 cs) {T : Nat} {ops : Int} (hm : Mid w B d.room F (some T) ops d.down w1) (hT : w.heap.size ≤ T) (ht : TroAt w1 (some T) []) :
    DiskAt w1 (fun k => S k ∨ k = T) B { d with tr := [], ops := ops } F (some T) cs where
  blk := hm.1
  map := ownsMap_keep h.map hm.2 (map_ne h.map h.blk)
  tro := ht
  file := fun c hc => block_keep (h.file c hc) hm.2 (elem_ne (h.file c hc) h.blk (by decide))
  row := fun c hc => ownsRow_keep (h.row c hc) hm.2 (fun k e hk => other_elem h.blk (h.row c hc) (by decide) (by rw [e, hk]))
  is := h.is
  fbs := h.fbs
  dbs := h.dbs
  mapT := fun e => by have := h.map.lt; have := Option.some.inj e; omega
  sB := .inl h.sB
  sF := .inl h.sF
  sT := fun k e => .inr (Option.some.inj e).symm
  sfb := fun c hc => .inl (h.sfb c hc)
  sdb := fun c hc k e => .inl (h.sdb c hc k e)

theorem keyOf_wf {i : Int} (h : (Lit.int .i64 i).wf = true) : keyOf Tryz.prog 3 (.int .i64 i) = some (.int .i64 i) := Maps.keyOf_int_mk Tryz.underlying3 h
theorem Rt_mk (t : Tro) : Rt (troV t) = some (troD t, []) := rfl

/-- The look-up, whatever the number. -/
theorem look_any {T n : Nat} {D : DataW Nat} {l : List Tro} (ht : TroI D l) {i : Int} (hw : (Lit.int .i64 i).wf = true) :
    ∃ z : Tro, ∀ w : World, w.ownsMap Tryz.prog 3 Rt T n D → (Instr.lookup 76 (.map (some T)) (.int .i64 i) true).run Tryz.prog w = .ok (.tuple #[troV z, .bool (Maps.has D (.int .i64 i))]) w := by
  have hi := ht i
  cases hx : tro l i with
  | none =>
    rw [hx] at hi
    refine ⟨⟨0, 0, 0⟩, fun w h => ?_⟩
    obtain ⟨v, ps, hrun, hv⟩ := h.look_ok keyed3 Tryz.underlying76 (z := .agg #[.int .i64 0, .int .i64 0, .int .i64 0]) (Tryz.zeroValue95 w) Rt_zero (keyOf_wf hw)
    have hz : D.atKey (.int .i64 i) (troD ⟨0, 0, 0⟩) = troD ⟨0, 0, 0⟩ := by
      obtain ⟨es, clock, _, F, _, rfl⟩ := h
      exact Maps.atKey_of_not_has hi _
    rw [hz] at hv
    rw [Rt_inv hv] at hrun
    exact hrun
  | some x =>
    rw [hx] at hi
    refine ⟨x, fun w h => ?_⟩
    obtain ⟨v, ps, hrun, hv⟩ := h.look_ok keyed3 Tryz.underlying76 (z := .agg #[.int .i64 0, .int .i64 0, .int .i64 0]) (Tryz.zeroValue95 w) Rt_zero (keyOf_wf hw)
    rw [hi.2] at hv
    rw [Rt_inv hv] at hrun
    exact hrun

def ArmOut (w : World) (S : Nat → Prop) (B : Nat) (d' : Dsk) (e : Ending) (w' : World) : Prop := e = .returned (.tuple #[]) ∧ Turns w S B d' w'

set_option maxRecDepth 100000 in
set_option maxHeartbeats 4000000 in
theorem arm_calls (a0 : Option Addr) (l : List Tro) (cap0 n : Nat) (w : World) {S S0 : Nat → Prop} {B : Nat} {d : Dsk} (hd : Disk w S B d) (hr : RowT w S0 a0 l) (hn : l.length = n) (hS0 : ∀ k, S0 k → ¬ S k ∧ k < w.heap.size) (hcm : n ≤ 1048576) (hwf : ∀ t ∈ l, (Lit.int .i64 t.at_).wf = true) :
    Calls Tryz.prog 17 #[.pointer (some ⟨B, 0, none⟩), .slice a0 n cap0] w (ArmOut w S B (arm l d)) := by
  obtain ⟨hi, hSlt, F, T0, cs, h⟩ := hd
  have hmm := @run_makeMap Tryz.prog
  have h5 : Five w B d.room F T0 d.ops d.down := h.blk
  have hlt := lt_of_block h5
  have c2 := h5.c2
  have c3 := h5.c3
  have k2 := h5.fr 2
  have k3 := h5.fr 3
  obtain ⟨T, hT⟩ : ∃ T, w.heap.size = T := ⟨_, rfl⟩
  obtain ⟨W0, hW0⟩ : ∃ W0, ((w.setCell ⟨B, 3, none⟩ (.int .i64 0)).setCell ⟨B, 2, none⟩ (.map (some T))).alloc (.map #[] 0) = W0 := ⟨_, rfl⟩
  have hsz0 : (w.setCell ⟨B, 3, none⟩ (.int .i64 0)).heap.size = w.heap.size := by simp [World.setCell]
  have hsz1 : ((w.setCell ⟨B, 3, none⟩ (.int .i64 0)).setCell ⟨B, 2, none⟩ (.map (some T))).heap.size = T := by rw [← hT]; simp [World.setCell]
  have hmid : Mid w B d.room F (some T) 0 d.down W0 := by
    rw [← hW0]
    have hb := block_setCell (i := 2) (block_setCell (i := 3) h.blk (.int .i64 0)) (.map (some T))
    exact ⟨(Below.heap_alloc _ _ B (lt_of_block hb)).trans hb, (((Keeps.refl (One B) w).setCell (p := ⟨B, 3, none⟩) (.inl rfl) _).setCell (p := ⟨B, 2, none⟩) (.inl rfl) _).alloc _⟩
  have hown0 : W0.ownsMap Tryz.prog 3 Rt T 0 (.map []) := by
    rw [← hW0]
    have := World.ownsMap_made ((w.setCell ⟨B, 3, none⟩ (.int .i64 0)).setCell ⟨B, 2, none⟩ (.map (some T))) Tryz.prog 3 Rt
    rw [hsz1] at this
    exact this
  have hD0 := h.armed hmid (by omega) ⟨0, .map [], hown0, by omega, TroI.nil⟩
  have HD0 := Lib.hid hD0
  have HOWN0 := Lib.hid hown0
  have HMID := Lib.hid hmid
  have HSB := Lib.hid h.sB
  have HI := Lib.hid hi
  have HR := Lib.hid (hr.keep hmid.2 (fun k hk e => (hS0 k hk).1 (by rw [show k = B from e]; exact h.sB)))
  have HN := Lib.hid hn
  have HWF := Lib.hid hwf
  have HS0 := Lib.hid hS0
  have HTT := Lib.hid hT
  have hTl : T < W0.heap.size := hown0.lt
  rw [hT] at hlt
  clear hsz0 hsz1 hmid hown0 hD0 h5 h hi hr hn hwf hS0 hSlt
  go_enter Tryz.func17, Tryz.ntmps17
  go_wp2
  go_loopg [5, 6, 7, 17] n (fun g _ _ _ idx wr => ∃ (i : Nat) (D : DataW Nat), idx = .int .i64 (i : Int) ∧ g + i = n ∧ wr.ownsMap Tryz.prog 3 Rt T i D ∧ TroI D (l.take i) ∧ Keeps (One T) W0 wr)
  case atStart => exact ⟨0, _, rfl, rfl, HOWN0.out, TroI.nil, Keeps.refl _ _⟩
  case round =>
    obtain ⟨i, D, rfl, hg, hown, htro, hK⟩ := hrel
    have HG := Lib.hid hg
    have HOWN := Lib.hid hown
    have HTRO := Lib.hid htro
    have HK := Lib.hid hK
    have hszr := hK.size
    have HDr := Lib.hid (HD0.out.tro_changed hK ⟨i, D, hown, by omega, htro⟩)
    clear hg hown htro hK
    by_cases hlt2 : i < n
    · obtain ⟨g', rfl⟩ : ∃ g', gk = g' + 1 := ⟨gk - 1, by have := HG.out; omega⟩
      have hd : decide ((i : Int) < (n : Int)) = true := by simp; omega
      obtain ⟨t, ht⟩ : ∃ t, l[i]? = some t := ⟨l[i]'(by rw [HN.out]; omega), List.getElem?_eq_getElem _⟩
      have htm : t ∈ l := List.mem_of_getElem? ht
      have hwf := HWF.out t htm
      obtain ⟨b, o, rfl, hbS, hcl⟩ : ∃ b o, a0 = some ⟨b, o, none⟩ ∧ S0 b ∧ ∀ (i : Nat) (t : Tro), l[i]? = some t → W0.cell? ⟨b, o + i * 3, none⟩ = some (.int .i64 t.at_) ∧ W0.cell? ⟨b, o + i * 3 + 1, none⟩ = some (.int .i64 t.kind) ∧ W0.cell? ⟨b, o + i * 3 + 2, none⟩ = some (.int .i64 t.part) := by
        rcases HR.out with h0 | h0
        · rw [h0] at ht; simp at ht
        · exact h0
      obtain ⟨q0, q1, q2⟩ := hcl i t ht
      have hbT : ¬ One T b := fun e => by have := (HS0.out b hbS).2; have e2 : b = T := e; have := HTT.out; omega
      have hkb := HK.out.block b (lt_of_cell q0) hbT
      have r0 : wr.cell? ⟨b, o + i * 3, none⟩ = some (.int .i64 t.at_) := (World.cell?_of_block (a := ⟨b, _, none⟩) hkb).trans q0
      have r1 : wr.cell? ⟨b, o + i * 3 + 1, none⟩ = some (.int .i64 t.kind) := (World.cell?_of_block (a := ⟨b, _, none⟩) hkb).trans q1
      have r2 : wr.cell? ⟨b, o + i * 3 + 2, none⟩ = some (.int .i64 t.part) := (World.cell?_of_block (a := ⟨b, _, none⟩) hkb).trans q2
      have htake : Hid (l.take (i + 1) = l.take i ++ [t]) := Lib.hid (by rw [List.take_add_one, ht]; rfl)
      obtain ⟨ta, tk, tp⟩ := t
      dsimp only at r0 r1 r2 hwf
      obtain ⟨z, hz⟩ := look_any (T := T) (n := i) HTRO.out hwf
      obtain ⟨W, hW⟩ : ∃ W, (wr.alloc (.cells #[.int .i64 ta, .int .i64 tk, .int .i64 tp] 95)).drew = W := ⟨_, rfl⟩
      have hownW : W.ownsMap Tryz.prog 3 Rt T i D := by rw [← hW]; exact (HOWN.out.alloc _).drew
      have hKW : Keeps (One T) W0 W := by rw [← hW]; exact (HK.out.alloc _).drew
      have hszW : wr.heap.size < W.heap.size := by rw [← hW]; show _ < (wr.alloc _).heap.size; simp
      have hbW : W.heap[wr.heap.size]? = some (.cells #[.int .i64 ta, .int .i64 tk, .int .i64 tp] 95 (0, 0)) := by rw [← hW]; exact heap_alloc_new wr _
      have w0 : W.cell? ⟨wr.heap.size, 0, none⟩ = some (.int .i64 ta) := (cell_of_block hbW 0).trans rfl
      have w1 : W.cell? ⟨wr.heap.size, 1, none⟩ = some (.int .i64 tk) := (cell_of_block hbW 1).trans rfl
      have w2 : W.cell? ⟨wr.heap.size, 2, none⟩ = some (.int .i64 tp) := (cell_of_block hbW 2).trans rfl
      have h5 : Five W B d.room F (some T) 0 d.down := block_keep HMID.out.1 hKW (fun e => by have e2 : B = T := e; omega)
      have wB := h5.c2
      have hltW := lt_of_block h5
      have hlook := hz W hownW
      have hlook2 := hz _ (hownW.alloc (.cells #[.int .i64 0, .int .i64 0, .int .i64 0] 95))
      unfold troV at hlook hlook2
      have HT := fun w => told_calls tk w
      obtain ⟨KK, hKK⟩ : ∃ K, tld tk = K := ⟨_, rfl⟩
      simp only [hKK] at HT
      have HHT := Lib.hid HT
      have HKK := Lib.hid hKK
      have HKW := Lib.hid hKW
      have HOW := Lib.hid hownW
      have HWF2 := Lib.hid hwf
      clear q0 q1 q2 hkb hbT hcl htm ht hbS hbW h5 hownW hKW hz HT hKK hwf
      cases hhas : Maps.has D (.int .i64 ta) with
      | true =>
        rw [hhas] at hlook hlook2
        have HH := Lib.hid hhas
        clear hhas
        go_wp2
        go_region
        all_goals
          go_wp2
          go_roundg g'
          case measure => omega
          case rel => exact ⟨i + 1, D, by go_num, by have := HG.out; omega, (HOW.out.alloc _).mono (by omega), by rw [htake.out]; exact HTRO.out.skip (.inl HH.out), HKW.out.alloc _⟩
      | false =>
        rw [hhas] at hlook hlook2
        have HH := Lib.hid hhas
        clear hhas
        by_cases hk0 : KK = 0
        · subst hk0
          go_wp2
          go_region
          all_goals
            go_wp2_with (refine (HHT.out _).mono ?_; rintro e w' ⟨rfl, rfl⟩)
            go_roundg g'
            case measure => omega
            case rel => exact ⟨i + 1, D, by go_num, by have := HG.out; omega, (HOW.out.alloc _).mono (by omega), by rw [htake.out]; exact HTRO.out.skip (.inr HKK.out), HKW.out.alloc _⟩
        · have hk1 : (KK != 0) = true := by simpa using hk0
          have HK0 := Lib.hid hk0
          clear hk0
          obtain ⟨W2, hW2⟩ : ∃ W2, (W.alloc (.cells #[.int .i64 z.at_, .int .i64 z.kind, .int .i64 z.part] 95)).drew = W2 := ⟨_, rfl⟩
          have hown2 : W2.ownsMap Tryz.prog 3 Rt T i D := by rw [← hW2]; exact (HOW.out.alloc _).drew
          have hK2 : Keeps (One T) W W2 := by rw [← hW2]; exact ((Keeps.refl _ W).alloc _).drew
          obtain ⟨W3, hrun3, hown3, hturn3⟩ := hown2.store keyed3 Tryz.underlying76 (by unfold maxLen; omega) (keyOf_wf HWF2.out) (Rt_mk ⟨ta, tk, tp⟩)
          unfold troV at hrun3
          dsimp only at hrun3
          have HOWN3 := Lib.hid hown3
          have HK3 := Lib.hid ((HKW.out.trans hK2 (fresh_refl _ _)).grown hturn3.grown (fun k e => .inl (Option.some.inj e).symm))
          have hIM := Lib.hid hown2.isMap
          have x0 : W2.cell? ⟨wr.heap.size, 0, none⟩ = some (.int .i64 ta) := (World.cell?_of_block (a := ⟨wr.heap.size, 0, none⟩) (hK2.block wr.heap.size hszW (fun e => by have e2 : wr.heap.size = T := e; omega))).trans w0
          have x1 : W2.cell? ⟨wr.heap.size, 1, none⟩ = some (.int .i64 tk) := (World.cell?_of_block (a := ⟨wr.heap.size, 1, none⟩) (hK2.block wr.heap.size hszW (fun e => by have e2 : wr.heap.size = T := e; omega))).trans w1
          have x2 : W2.cell? ⟨wr.heap.size, 2, none⟩ = some (.int .i64 tp) := (World.cell?_of_block (a := ⟨wr.heap.size, 2, none⟩) (hK2.block wr.heap.size hszW (fun e => by have e2 : wr.heap.size = T := e; omega))).trans w2
          have xB : W2.cell? ⟨B, 2, none⟩ = some (.map (some T)) := (World.cell?_of_block (a := ⟨B, 2, none⟩) (hK2.block B hltW (fun e => by have e2 : B = T := e; omega))).trans wB
          have hsz3 := hturn3.grown.size
          clear hown2 hK2 hown3 hturn3
          go_wp2
          go_region
          all_goals
            go_wp2_with (refine (HHT.out _).mono ?_; rintro e w' ⟨rfl, rfl⟩)
            go_region
            all_goals
              go_wp2
              go_roundg g'
              case measure => omega
              case rel => exact ⟨i + 1, _, by go_num, by have := HG.out; omega, HOWN3.out, by rw [htake.out]; exact HTRO.out.put hIM.out HH.out (by show tld tk ≠ 0; rw [HKK.out]; exact HK0.out), HK3.out⟩
    · have hd : decide ((i : Int) < (n : Int)) = false := by simp; omega
      go_wp2
      go_end0
      have hin : i = n := by have := HG.out; omega
      have hall : l.take i = l := List.take_of_length_le (by rw [HN.out]; omega)
      have hDD := HDr.out
      rw [hall] at hDD
      refine ⟨rfl, _, ⟨inv_arm HI.out l, fun k e => e.2, F, some T, cs, hDD.tight⟩, fun k hk => ?_, ?_⟩
      · rcases hk.1 with e | e
        · exact .inl e
        · exact .inr (by have := HTT.out; omega)
      · exact (HMID.out.keeps HSB.out).trans HK.out (fun k e => .inr (by rw [show k = T from e, HTT.out]; exact Nat.le_refl _))

end Go.Proofs.YtacfcfbleogioaaGreatDoor

namespace Go.Proofs.YtacfcfbleogioaaGreatDoor
open Go.RowKit Go.Lib Go.Joins

/-- Whether a file can be loaded beside those that are there. -/
def takesB (d : Dsk) (f : FilI) : Bool := nmd f.name && !(fnd f.name d.L).isSome && decide (d.L.length < 64) && decide (0 ≤ f.safe) && decide (f.safe ≤ (f.data.length : Int)) && decide ((f.data.length : Int) ≤ d.room - (used d.L : Int))

set_option maxRecDepth 100000 in
set_option maxHeartbeats 4000000 in
theorem takes_calls (s : ByteArray) (a : Option Addr) (l : List Nat) (cap : Nat) (z : Int) (w : World) {S : Nat → Prop} {B : Nat} {d : Dsk} (hd : Disk w S B d) (hu : used d.L ≤ 1073741824) (hz : s.size ≤ 1099511627776) (_hl : l.length ≤ 1073741824) :
    Calls Tryz.prog 33 #[.pointer (some ⟨B, 0, none⟩), .agg #[.string s, .slice a l.length cap, .int .i64 z]] w (Leaves (.bool (takesB d ⟨s, l, z⟩)) w) := by
  obtain ⟨hi, _, F, T, cs, h⟩ := hd
  obtain ⟨len, hln⟩ : ∃ len, l.length = len := ⟨_, rfl⟩
  obtain ⟨W, hW⟩ : ∃ W, w.alloc (.cells #[.string s, .slice a len cap, .int .i64 z] 63) = W := ⟨_, rfl⟩
  have hbel : Below w.heap.size w W := by rw [← hW]; exact (Below.refl _ _).alloc (Nat.le_refl _) _
  have hx : W.heap[w.heap.size]? = some (.cells #[.string s, .slice a len cap, .int .i64 z] 63 (0, 0)) := by rw [← hW]; exact heap_alloc_new w _
  have hal := h.below hbel
  obtain ⟨V, hV⟩ := ptr_is (cfnd s cs)
  have hcf := fnd_cs h s
  have hcl : cs.length = d.L.length := by rw [← h.is, List.length_map]
  have hnm := fun w => named_calls s w hz
  have c0 : W.cell? ⟨w.heap.size, 0, none⟩ = some (.string s) := (cell_of_block hx 0).trans rfl
  have g0 : ∀ W', Below W.heap.size W W' → W'.cell? ⟨w.heap.size, 0, none⟩ = some (.string s) ∧ W'.cell? ⟨w.heap.size, 1, none⟩ = some (.slice a len cap) ∧ W'.cell? ⟨w.heap.size, 2, none⟩ = some (.int .i64 z) ∧ W'.cell? ⟨B, 1, none⟩ = some (.map (some F)) ∧
      W'.ownsMap Tryz.prog 9 Rp F cs.length (dat cs) := fun W' hb =>
    ⟨(cell_of_block (block_below hb hx) 0).trans rfl, (cell_of_block (block_below hb hx) 1).trans rfl, (cell_of_block (block_below hb hx) 2).trans rfl, (cell_of_block (hal.below hb).blk 1).trans rfl, (hal.below hb).map⟩
  have hlk : ∀ W', W'.ownsMap Tryz.prog 9 Rp F cs.length (dat cs) → (Instr.lookup 75 (.map (some F)) (.string s) false).run Tryz.prog W' = .ok (.pointer V) W' := fun W' ho => by
    rw [← hV]
    exact look_run ho (by unfold maxLen; omega)
  have HLF : ∀ W', Below W.heap.size W W' → Calls Tryz.prog 82 #[.pointer (some ⟨B, 0, none⟩)] W' (Leaves (.int .i64 (d.room - (used d.L : Int))) W') := fun W' hb => left_calls W' (hal.below hb) hi hu
  have G0 := Lib.hid g0
  have HLK := Lib.hid hlk
  obtain ⟨Q, hQ⟩ : ∃ Q, d.room - (used d.L : Int) = Q := ⟨_, rfl⟩
  rw [hQ] at HLF
  have HLFF := Lib.hid HLF
  have HBEL := Lib.hid hbel
  have hmost := hi.most
  unfold takesB
  dsimp only
  rw [hln, hQ, ← hcl]
  rw [← hcl] at hmost
  have hsd := size_dat cs
  obtain ⟨N, hN⟩ : ∃ N, cs.length = N := ⟨_, rfl⟩
  rw [hN] at hsd hmost ⊢
  simp only [hN] at G0 HLK
  rw [hcf]
  have HSD := Lib.hid hsd
  cases hn : nmd s with
  | false =>
    rw [hn] at hnm
    have HNM := Lib.hid hnm
    rw [show (false && !(Option.map Cel.f (cfnd s cs)).isSome && decide (N < 64) && decide (0 ≤ z) && decide (z ≤ (len : Int)) && decide ((len : Int) ≤ Q)) = false from rfl]
    clear hV hal hz hi h hx hbel hcf hcl hnm hlk g0 HLF hu hQ hln hsd hN
    go_enter Tryz.func33, Tryz.ntmps33
    go_wp2_with fail
    with_reducible refine (HNM.out _).mono ?_
    rintro e w3 ⟨rfl, hb3⟩
    obtain ⟨k0, k1, k2, kB, k3⟩ := G0.out w3 hb3
    have HB3 := Lib.hid (HBEL.out.trans (hb3.mono HBEL.out.size))
    clear hb3 k3
    go_wp2
    go_ret
    exact ⟨rfl, HB3.out⟩
  | true =>
    rw [hn] at hnm
    have HNM := Lib.hid hnm
    cases hc : cfnd s cs with
    | some c =>
      rw [hc] at hV
      have hVe : V = some ⟨c.fb, 0, none⟩ := (Value.pointer.inj hV).symm
      subst hVe
      rw [show (true && !(Option.map Cel.f (some c)).isSome && decide (N < 64) && decide (0 ≤ z) && decide (z ≤ (len : Int)) && decide ((len : Int) ≤ Q)) = false from rfl]
      clear hc hn hV hal hz hi h hx hbel hcf hcl hnm hlk g0 HLF hu hQ hln hsd hN
      go_enter Tryz.func33, Tryz.ntmps33
      go_wp2_with fail
      with_reducible refine (HNM.out _).mono ?_
      rintro e w3 ⟨rfl, hb3⟩
      obtain ⟨k0, k1, k2, kB, k3⟩ := G0.out w3 hb3
      have HB3 := Lib.hid (HBEL.out.trans (hb3.mono HBEL.out.size))
      have hlook := fun n => HLK.out (w3.drewN n) k3
      clear hb3 k3
      go_wp2
      go_quiet (fail)
      go_wp2
      go_ret
      exact ⟨rfl, HB3.out.trans (below_draws _ _ _)⟩
    | none =>
      rw [hc] at hV
      have hVe : V = none := (Value.pointer.inj hV).symm
      subst hVe
      rw [show (true && !(Option.map Cel.f (none : Option Cel)).isSome && decide (N < 64) && decide (0 ≤ z) && decide (z ≤ (len : Int)) && decide ((len : Int) ≤ Q)) = (decide (N < 64) && decide (0 ≤ z) && decide (z ≤ (len : Int)) && decide ((len : Int) ≤ Q)) by simp]
      clear hc hn hV hal hz hi h hx hbel hcf hcl hnm hlk g0 HLF hu hQ hln hsd hN
      by_cases h64 : 64 ≤ N
      · have hd64 : decide ((64 : Int) ≤ (N : Int)) = true := by simp; omega
        have HE : Hid ((decide (N < 64) && decide (0 ≤ z) && decide (z ≤ (len : Int)) && decide ((len : Int) ≤ Q)) = false) := Lib.hid (by rw [decide_eq_false (by omega : ¬ N < 64)]; simp)
        go_enter Tryz.func33, Tryz.ntmps33
        go_wp2_with fail
        with_reducible refine (HNM.out _).mono ?_
        rintro e w3 ⟨rfl, hb3⟩
        obtain ⟨k0, k1, k2, kB, k3⟩ := G0.out w3 hb3
        have HB3 := Lib.hid (HBEL.out.trans (hb3.mono HBEL.out.size))
        have hlook := fun n => HLK.out (w3.drewN n) k3
        have HK3 := Lib.hid k3
        have HB33 := Lib.hid hb3
        clear hb3 k3
        go_wp2
        go_quiet (fail)
        have k4 : (w3.drewN nq).ownsMap Tryz.prog 9 Rp F N (dat cs) := HK3.out
        go_wp2_with (first | (at_len; refine wpList_len_own _ rfl _ 75 rfl 9 71 Tryz.underlying75 Rp F N (dat cs) rfl k4 ?_; rw [HSD.out]) | fail)
        go_ret
        exact ⟨by rw [HE.out]; rfl, HB3.out.trans (below_draws _ _ _)⟩
      · have hd64 : decide ((64 : Int) ≤ (N : Int)) = false := by simp; omega
        have hN64 : decide (N < 64) = true := by simp; omega
        by_cases hz0 : z < 0
        · have dz : decide (z < 0) = true := by simpa using hz0
          have HE : Hid ((decide (N < 64) && decide (0 ≤ z) && decide (z ≤ (len : Int)) && decide ((len : Int) ≤ Q)) = false) := Lib.hid (by rw [decide_eq_false (by omega : ¬ 0 ≤ z)]; simp)
          go_enter Tryz.func33, Tryz.ntmps33
          go_wp2_with fail
          with_reducible refine (HNM.out _).mono ?_
          rintro e w3 ⟨rfl, hb3⟩
          obtain ⟨k0, k1, k2, kB, k3⟩ := G0.out w3 hb3
          have HB3 := Lib.hid (HBEL.out.trans (hb3.mono HBEL.out.size))
          have hlook := fun n => HLK.out (w3.drewN n) k3
          have HK3 := Lib.hid k3
          have HB33 := Lib.hid hb3
          clear hb3 k3
          go_wp2
          go_quiet (fail)
          have k4 : (w3.drewN nq).ownsMap Tryz.prog 9 Rp F N (dat cs) := HK3.out
          go_wp2_with (first | (at_len; refine wpList_len_own _ rfl _ 75 rfl 9 71 Tryz.underlying75 Rp F N (dat cs) rfl k4 ?_; rw [HSD.out]) | fail)
          go_ret
          exact ⟨by rw [HE.out]; rfl, HB3.out.trans (below_draws _ _ _)⟩
        · have dz : decide (z < 0) = false := by simpa using hz0
          have dz1 : decide (0 ≤ z) = true := by simp; omega
          by_cases hz1 : (len : Int) < z
          · have dl : decide ((len : Int) < z) = true := by simpa using hz1
            have HE : Hid ((decide (N < 64) && decide (0 ≤ z) && decide (z ≤ (len : Int)) && decide ((len : Int) ≤ Q)) = false) := Lib.hid (by rw [decide_eq_false (by omega : ¬ z ≤ (len : Int))]; simp)
            go_enter Tryz.func33, Tryz.ntmps33
            go_wp2_with fail
            with_reducible refine (HNM.out _).mono ?_
            rintro e w3 ⟨rfl, hb3⟩
            obtain ⟨k0, k1, k2, kB, k3⟩ := G0.out w3 hb3
            have HB3 := Lib.hid (HBEL.out.trans (hb3.mono HBEL.out.size))
            have hlook := fun n => HLK.out (w3.drewN n) k3
            have HK3 := Lib.hid k3
            have HB33 := Lib.hid hb3
            clear hb3 k3
            go_wp2
            go_quiet (fail)
            have k4 : (w3.drewN nq).ownsMap Tryz.prog 9 Rp F N (dat cs) := HK3.out
            go_wp2_with (first | (at_len; refine wpList_len_own _ rfl _ 75 rfl 9 71 Tryz.underlying75 Rp F N (dat cs) rfl k4 ?_; rw [HSD.out]) | fail)
            go_ret
            exact ⟨by rw [HE.out]; rfl, HB3.out.trans (below_draws _ _ _)⟩
          · have dl : decide ((len : Int) < z) = false := by simpa using hz1
            have HE : Hid ((decide (N < 64) && decide (0 ≤ z) && decide (z ≤ (len : Int)) && decide ((len : Int) ≤ Q)) = decide ((len : Int) ≤ Q)) := Lib.hid (by rw [hN64, dz1, decide_eq_true (by omega : z ≤ (len : Int))]; simp)
            clear hN64 dz1
            go_enter Tryz.func33, Tryz.ntmps33
            go_wp2_with fail
            with_reducible refine (HNM.out _).mono ?_
            rintro e w3 ⟨rfl, hb3⟩
            obtain ⟨k0, k1, k2, kB, k3⟩ := G0.out w3 hb3
            have HB3 := Lib.hid (HBEL.out.trans (hb3.mono HBEL.out.size))
            have hlook := fun n => HLK.out (w3.drewN n) k3
            have HK3 := Lib.hid k3
            have HB33 := Lib.hid hb3
            clear hb3 k3
            go_wp2
            go_quiet (fail)
            have k4 : (w3.drewN nq).ownsMap Tryz.prog 9 Rp F N (dat cs) := HK3.out
            go_wp2_with (first | (at_len; refine wpList_len_own _ rfl _ 75 rfl 9 71 Tryz.underlying75 Rp F N (dat cs) rfl k4 ?_; rw [HSD.out]) | fail)
            obtain ⟨j0, j1, j2, jB, j3⟩ := G0.out (w3.drewN nq) (HB33.out.trans (below_draws _ _ _))
            have cU := fun dq os => Calls.regrown_of (HLFF.out _ ((HB33.out.trans (below_draws _ _ _)).trans ((below_regrown (w3.drewN nq) dq os).mono HB33.out.size)))
            have c1 := fun dq os => cell_regrown j1 dq os
            clear j0 j1 j2 jB j3
            refine wp_region_quiet_below (by kernel_rfl) (by kernel_rfl) ?_
            repeat (quiet_step (exact cU _ _))
            refine wpQuiet_nil ?_
            intro _ hw'
            obtain ⟨⟨dq, osq⟩, hw''⟩ := hw'
            subst hw''
            go_wp2
            go_ret
            exact ⟨by rw [HE.out]; rfl, (HB3.out.trans (below_draws _ _ _)).trans ((below_regrown (w3.drewN nq) dq osq).mono HB3.out.size)⟩

end Go.Proofs.YtacfcfbleogioaaGreatDoor

namespace Go.Proofs.YtacfcfbleogioaaGreatDoor
open Go.RowKit Go.Lib Go.Joins

def fil (f : FilI) : Fil := ⟨f.name, f.data, f.safe.toNat⟩
def addF (f : FilI) (d : Dsk) : Dsk := { d with L := ins (fil f) d.L }
/-- A disk is loaded, file by file. -/
def loadS : List FilI → Dsk → Option Dsk
  | [], d => some d
  | f :: L, d => if takesB d f then loadS L (addF f d) else none
def total (L : List FilI) : Nat := (L.map (fun f => f.data.length)).sum

theorem takes_inv {d : Dsk} (hi : Inv d) {f : FilI} (ht : takesB d f = true) (hb : ∀ c ∈ f.data, c < 256) : Inv (addF f d) ∧ fnd f.name d.L = none ∧ 0 ≤ f.safe := by
  unfold takesB at ht
  simp only [Bool.and_eq_true, decide_eq_true_eq, Bool.not_eq_true'] at ht
  obtain ⟨⟨⟨⟨⟨h1, h2⟩, h3⟩, h4⟩, h5⟩, h6⟩ := ht
  have hn := fnd_is.1 h2
  exact ⟨inv_ins (f := fil f) hi h1 (by show f.safe.toNat ≤ _; show f.safe.toNat ≤ f.data.length; omega) hb (fnd_none hn) h3 (by show (used d.L : Int) + (f.data.length : Int) ≤ d.room; omega) d.ops d.tr d.down, hn, h4⟩

/-- What Load answers. -/
def LoadOut (q : Option Dsk) (w : World) (e : Ending) (w' : World) : Prop :=
  match q with
  | none => e = .returned (.tuple #[.pointer none, .int .i64 80]) ∧ Below w.heap.size w w'
  | some d => ∃ B S, e = .returned (.tuple #[.pointer (some ⟨B, 0, none⟩), .int .i64 0]) ∧ Disk w' S B d ∧ Fresh Non w.heap.size S ∧ Below w.heap.size w w'

/-- Where the four cells lie that the loading looks at. -/
def Four (W : World) (B F x : Nat) (nm : ByteArray) (a : Option Addr) (len cap : Nat) (z : Int) : Prop :=
  W.cell? ⟨B, 1, none⟩ = some (.map (some F)) ∧ W.cell? ⟨x, 0, none⟩ = some (.string nm) ∧ W.cell? ⟨x, 1, none⟩ = some (.slice a len cap) ∧ W.cell? ⟨x, 2, none⟩ = some (.int .i64 z)

theorem four_of {W : World} {S : Nat → Prop} {B : Nat} {d : Dsk} {F : Nat} {T : Option Nat} {cs : List Cel} (h : DiskAt W S B d F T cs) {x : Nat} {nm : ByteArray} {a : Option Addr} {len cap : Nat} {z : Int} (hx : W.heap[x]? = some (.cells #[.string nm, .slice a len cap, .int .i64 z] 63 (0, 0))) : Four W B F x nm a len cap z :=
  ⟨(cell_of_block h.blk 1).trans rfl, (cell_of_block hx 0).trans rfl, (cell_of_block hx 1).trans rfl, (cell_of_block hx 2).trans rfl⟩

theorem load_clone {w3 : World} {S S1 : Nat → Prop} {B : Nat} {d : Dsk} {F : Nat} {T : Option Nat} {cs : List Cel} (h : DiskAt w3 S B d F T cs) (hi : Inv d) {f : FilI} {a : Option Addr} {cap x : Nat} (hr : Row w3 S1 a f.data) (hl : f.data.length ≤ 1073741824)
    (hx : w3.heap[x]? = some (.cells #[.string f.name, .slice a f.data.length cap, .int .i64 f.safe] 63 (0, 0))) (hn : fnd f.name d.L = none) (hs0 : 0 ≤ f.safe) (hz : f.name.size ≤ 1099511627776) :
    Calls Tryz.prog 34 #[.slice a f.data.length cap] w3.drew fun e w4 => ∃ a3 c3 w6, e = .returned (.slice a3 f.data.length c3) ∧ Four w4 B F x f.name a f.data.length cap f.safe ∧ Four (w4.alloc (.cells #[.slice a3 f.data.length c3, .int .i64 f.safe] 74)) B F x f.name a f.data.length cap f.safe ∧
      (Instr.mapUpdate 75 (.map (some F)) (.string f.name) (.pointer (some ⟨w4.heap.size, 0, none⟩))).run Tryz.prog (w4.alloc (.cells #[.slice a3 f.data.length c3, .int .i64 f.safe] 74)) = .ok () w6 ∧ Four w6 B F x f.name a f.data.length cap f.safe ∧
      Hid (Half w3 S B (addF f d) w6) ∧ Hid (w3.heap.size ≤ w6.heap.size) := by
  refine (clone_calls a cap f.data S1 w3.drew hr hl).mono ?_
  rintro e w4 ⟨v, rfl, hown, hb⟩
  obtain ⟨a3, c3, rfl⟩ := dv_form2 hown
  have hb4 : Below w3.heap.size w3 w4 := ⟨hb.os, hb.tape, hb.output, hb.size, hb.block⟩
  have hown' : w4.ownsRow w3.heap.size 5 1 (.slice a3 f.data.length c3) f.data.length (cellsN f.data) := hown
  have h4 := h.below hb4
  have hx4 := block_below hb4 hx
  have hbel5 : Below w4.heap.size w4 (w4.alloc (.cells #[.slice a3 f.data.length c3, .int .i64 f.safe] 74)) := (Below.refl _ _).alloc (Nat.le_refl _) _
  have h5 := h4.below hbel5
  have hx5 := block_below hbel5 hx4
  have hcl : cs.length ≤ 64 := by have := hi.most; rw [← h.is, List.length_map] at this; exact this
  obtain ⟨w6, hrun, hown6, hturn⟩ := h5.map.store keyed9 Tryz.underlying75 (by unfold maxLen; omega) (keyOf_name (s := f.name) (by unfold maxLen; omega)) (Rp_mk w4.heap.size)
  have hg := hturn.grown
  have hk56 : Keeps (One F) (w4.alloc (.cells #[.slice a3 f.data.length c3, .int .i64 f.safe] 74)) w6 := (Keeps.refl (One F) _).grown hg (fun k e => .inl (Option.some.inj e).symm)
  have hk36 : Keeps (One F) w3 w6 := ((keeps_below hb4 (One F)).alloc _).trans hk56 (fun k e => .inl e)
  have hFl := h5.map.lt
  have hfb : w6.heap[w4.heap.size]? = some (.cells #[.slice a3 f.data.length c3, .int .i64 f.safe] 74 (0, 0)) := block_keep (heap_alloc_new w4 _) hk56 (fun e => by have h1 := h4.map.lt; have h2 : w4.heap.size = F := e; omega)
  have hsn : ((f.safe.toNat : Nat) : Int) = f.safe := by omega
  have hrow6 : w6.ownsRow w3.heap.size 5 1 (.slice a3 f.data.length c3) f.data.length (cellsN f.data) := by
    refine ownsRow_keep (hown'.alloc _) hk56 (fun k e hkF => ?_)
    have h1 := (hown'.lt k e).1
    have h2 := h.map.lt
    have h3 : k = F := hkF
    omega
  have hB6 : w6.cell? ⟨B, 1, none⟩ = some (.map (some F)) := (cell_of_block (block_keep h5.blk hk56 (fun e => map_ne h5.map h5.blk (by rw [show B = F from e]))) 1).trans rfl
  have hx6 := block_keep hx5 hk56 (fun e => map_ne h5.map hx5 (by rw [show x = F from e]))
  refine ⟨a3, c3, w6, rfl, four_of h4 hx4, four_of h5 hx5, hrun, ⟨hB6, (cell_of_block hx6 0).trans rfl, (cell_of_block hx6 1).trans rfl, (cell_of_block hx6 2).trans rfl⟩, Lib.hid ⟨⟨F, T, ?_⟩, ?_⟩, Lib.hid hk36.size⟩
  · refine h.created (f := fil f) hn hk36 (fb := w4.heap.size) hown6 ?_ (ownsRow_base0 hrow6) hb4.size (fun k e => (hrow6.lt k e).1)
    show w6.heap[w4.heap.size]? = some (.cells #[.slice a3 f.data.length c3, .int .i64 ((f.safe.toNat : Nat) : Int)] 74 (0, 0))
    rw [hsn]
    exact hfb
  · exact hk36.mono (fun k _ e => by rw [show k = F from e]; exact h.sF)

theorem fils_at {w : World} {S : Nat → Prop} {a : Option Addr} {L : List FilI} (h : Fils w S a L) {i : Nat} {f : FilI} (hi : L[i]? = some f) :
    ∃ b o da dc, a = some ⟨b, o, none⟩ ∧ S b ∧ w.cell? ⟨b, o + i * 3, none⟩ = some (.string f.name) ∧ w.cell? ⟨b, o + i * 3 + 1, none⟩ = some (.slice da f.data.length dc) ∧ w.cell? ⟨b, o + i * 3 + 2, none⟩ = some (.int .i64 f.safe) ∧ Row w S da f.data ∧ (da = none → dc = 0) ∧ f.data.length ≤ dc ∧ dc ≤ maxLen := by
  obtain ⟨cells, hc, h2⟩ := h
  obtain ⟨h3, ⟨dv, h4, h5⟩, h6⟩ := hc.at_ i f hi
  rcases h2 with h0 | ⟨b, o, h7, h8, h9⟩
  · rw [h0] at hi; simp at hi
  · obtain ⟨da, dc, hd, hr, hx⟩ := h5.is
    rw [hd] at h4
    exact ⟨b, o, da, dc, h7, h8, h9 _ _ h3, h9 _ _ h4, h9 _ _ h6, hr, hx⟩

theorem total_drop {L : List FilI} {i : Nat} {f : FilI} (hi : L[i]? = some f) : total (L.drop i) = f.data.length + total (L.drop (i + 1)) := by
  have hlt : i < L.length := (List.getElem?_eq_some_iff.1 hi).1
  have e : L[i] = f := by rw [List.getElem?_eq_getElem hlt] at hi; exact Option.some.inj hi
  rw [List.drop_eq_getElem_cons hlt, e]
  unfold total
  rw [List.map_cons, List.sum_cons]
theorem loadS_drop {L : List FilI} {i : Nat} {f : FilI} (hi : L[i]? = some f) (d : Dsk) : loadS (L.drop i) d = if takesB d f then loadS (L.drop (i + 1)) (addF f d) else none := by
  have hlt : i < L.length := (List.getElem?_eq_some_iff.1 hi).1
  have e : L[i] = f := by rw [List.getElem?_eq_getElem hlt] at hi; exact Option.some.inj hi
  rw [List.drop_eq_getElem_cons hlt, e]
  rfl

set_option maxRecDepth 100000 in
set_option maxHeartbeats 8000000 in
theorem load_calls (a0 : Option Addr) (L : List FilI) (cap0 n : Nat) (room : Int) (w : World) {S0 : Nat → Prop} (hr : Fils w S0 a0 L) (hn : L.length = n) (ht : total L ≤ 1073741824) (hnm : ∀ f ∈ L, f.name.size ≤ 1099511627776) (hcm : n ≤ 1048576) (hroom : room ≤ 9223372036854775807) :
    Calls Tryz.prog 9 #[.slice a0 n cap0, .int .i64 room] w (LoadOut (loadS L (dsk0 room)) w) := by
  obtain ⟨q, hq⟩ : ∃ q, loadS L (dsk0 room) = q := ⟨_, rfl⟩
  rw [hq]
  have HQ := Lib.hid hq
  have HNEW := Lib.hid (new_calls room w hroom)
  have HR := Lib.hid hr
  have HN := Lib.hid hn
  have HT := Lib.hid ht
  have HNM := Lib.hid hnm
  clear hq hr hn ht hnm hroom
  go_enter Tryz.func9, Tryz.ntmps9
  go_wp2_with fail
  with_reducible refine HNEW.out.mono ?_
  rintro e w1 ⟨B, S, rfl, hd1, hf1, hb1⟩
  have HD1 := Lib.hid hd1
  have HF1 := Lib.hid hf1
  have HB1 := Lib.hid hb1
  clear hd1 hf1 hb1
  go_wp2
  go_loopg [4, 5, 8, 13] n (fun g _ _ _ idx wr => ∃ (i : Nat) (d : Dsk) (S : Nat → Prop), idx = .int .i64 (i : Int) ∧ g + i = n ∧ Disk wr S B d ∧ (∀ k, S k → w.heap.size ≤ k) ∧ loadS (L.drop i) d = q ∧ used d.L + total (L.drop i) ≤ 1073741824 ∧ Below w.heap.size w wr)
  case atStart => exact ⟨0, _, S, rfl, rfl, HD1.out, fun k e => by rcases HF1.out k e with h | h; exact h.elim; exact h, HQ.out, by show used [] + total L ≤ _; have := HT.out; simp [used]; omega, HB1.out⟩
  case round =>
    obtain ⟨i, d, Si, rfl, hg, hD, hS, hld, hus, hb⟩ := hrel
    have HG := Lib.hid hg
    have HD := Lib.hid hD
    have HS := Lib.hid hS
    have HLD := Lib.hid hld
    have HUS := Lib.hid hus
    have HB := Lib.hid hb
    clear hg hD hS hld hus hb
    by_cases hlt : i < n
    · obtain ⟨g', rfl⟩ : ∃ g', gk = g' + 1 := ⟨gk - 1, by have := HG.out; omega⟩
      have hd : decide ((i : Int) < (n : Int)) = true := by simp; omega
      obtain ⟨f, hfi⟩ : ∃ f, L[i]? = some f := ⟨L[i]'(by rw [HN.out]; omega), List.getElem?_eq_getElem _⟩
      have hfm : f ∈ L := List.mem_of_getElem? hfi
      obtain ⟨b, o, da, dc, rfl, hSb, r0, r1, r2, hrow, hac, hlc, hcm2⟩ := fils_at (HR.out.below HB.out) hfi
      have htd := total_drop hfi
      have hld := loadS_drop hfi d
      have hlenD : f.data.length ≤ 1073741824 := by have := HUS.out; omega
      have hnz := HNM.out f hfm
      have hud : used d.L ≤ 1073741824 := by have := HUS.out; omega
      have huadd : used (addF f d).L + total (L.drop (i + 1)) ≤ 1073741824 := by
        have h1 : used (addF f d).L = used d.L + f.data.length := used_ins (fil f) d.L
        have := HUS.out
        omega
      obtain ⟨W, hW⟩ : ∃ W, wr.alloc (.cells #[.string f.name, .slice da f.data.length dc, .int .i64 f.safe] 63) = W := ⟨_, rfl⟩
      have hbel : Below wr.heap.size wr W := by rw [← hW]; exact (Below.refl _ _).alloc (Nat.le_refl _) _
      have hx : W.heap[wr.heap.size]? = some (.cells #[.string f.name, .slice da f.data.length dc, .int .i64 f.safe] 63 (0, 0)) := by rw [← hW]; exact heap_alloc_new wr _
      have w0 : W.cell? ⟨wr.heap.size, 0, none⟩ = some (.string f.name) := (cell_of_block hx 0).trans rfl
      have w1c : W.cell? ⟨wr.heap.size, 1, none⟩ = some (.slice da f.data.length dc) := (cell_of_block hx 1).trans rfl
      have w2c : W.cell? ⟨wr.heap.size, 2, none⟩ = some (.int .i64 f.safe) := (cell_of_block hx 2).trans rfl
      have HTK := Lib.hid (takes_calls f.name da f.data dc f.safe W (HD.out.below hbel) hud hnz hlenD)
      have HBW := Lib.hid hbel
      have HX := Lib.hid hx
      have HROW := Lib.hid hrow
      have HLEN := Lib.hid hlenD
      have HLD2 := Lib.hid hld
      have HUADD := Lib.hid huadd
      have HNZ := Lib.hid hnz
      have hfe : (⟨f.name, f.data, f.safe⟩ : FilI) = f := rfl
      rw [hfe] at HTK
      clear hfi hfm hrow htd hld hlenD hnz hud huadd hbel hx hfe hSb hac hlc hcm2
      cases htk : takesB d f with
      | false =>
        rw [htk] at HTK HLD2
        have HQN : Hid (q = none) := Lib.hid (by rw [← HLD.out, HLD2.out]; rfl)
        clear htk
        go_wp2_with fail
        with_reducible refine HTK.out.mono ?_
        rintro e w3 ⟨rfl, hb3⟩
        have HB3 := Lib.hid (HB.out.trans (below_then HBW.out hb3 |>.mono HB.out.size))
        clear hb3
        go_wp2
        go_ret2
        rw [HQN.out]
        exact ⟨rfl, HB3.out⟩
      | true =>
        rw [htk] at HTK HLD2
        have HTKB := Lib.hid htk
        clear htk
        go_wp2_with fail
        with_reducible refine HTK.out.mono ?_
        rintro e w3 ⟨rfl, hb3⟩
        have hb03 := below_then HBW.out hb3
        obtain ⟨hi3, hlt3, F, T, cs, h3⟩ := HD.out.below hb03
        have hrow3 : Row w3 S0 da f.data := Row.keep HROW.out (keeps_below hb03 Non) (fun _ _ h => h)
        obtain ⟨hinv, hnone, hs0⟩ := takes_inv hi3 HTKB.out hrow3.1
        have hx3 := block_below hb3 HX.out
        have HLC := Lib.hid (load_clone h3 hi3 hrow3 HLEN.out hx3 hnone hs0 HNZ.out)
        obtain ⟨p0, p1, p2, p3⟩ : Four w3.drew B F wr.heap.size f.name da f.data.length dc f.safe := four_of h3 hx3
        have HB3 := Lib.hid (HB.out.trans (hb03.mono HB.out.size))
        have HINV := Lib.hid hinv
        have HLT3 := Lib.hid hlt3
        clear hb3 hb03 hi3 hlt3 h3 hrow3 hinv hnone hs0 hx3
        go_wp2
        go_region_held3 (fun W => W.cell? ⟨B, 1, none⟩ = some (.map (some F)) ∧ W.cell? ⟨wr.heap.size, 0, none⟩ = some (.string f.name) ∧ W.cell? ⟨wr.heap.size, 1, none⟩ = some (.slice da f.data.length dc) ∧ W.cell? ⟨wr.heap.size, 2, none⟩ = some (.int .i64 f.safe))
          (first
            | exact ⟨p0, p1, p2, p3⟩
            | exact ⟨q0, q1, q2, q3⟩
            | exact ⟨s0, s1, s2, s3⟩
            | exact ⟨t0, t1, t2, t3⟩)
          (first
            | (refine HLC.out.mono ?_
               rintro e w4 ⟨a3, c3, w6, rfl, ⟨q0, q1, q2, q3⟩, ⟨s0, s1, s2, s3⟩, hrun, ⟨t0, t1, t2, t3⟩, HH, HSZ⟩))
        all_goals
          clear p0 p1 p2 p3 q0 q1 q2 q3 s0 s1 s2 s3 t0 t1 t2 t3 hrun
          go_wp2
          go_roundg g'
          case measure => omega
          case rel =>
            obtain ⟨S', h1, h2, h3⟩ := turns_of (Keeps.refl _ w3) HH.out HINV.out
            refine ⟨i + 1, addF f d, S', by go_num, by have := HG.out; omega, h1, fun k e => ?_, ?_, HUADD.out, HB3.out.trans (h3.toBelow (by have := HB3.out.size; omega) HS.out)⟩
            · rcases h2 k e with h4 | h4
              · exact HS.out k h4
              · have := HB3.out.size; omega
            · rw [← HLD.out, HLD2.out]
              rfl
    · have hd : decide ((i : Int) < (n : Int)) = false := by simp; omega
      have hin : i = n := by have := HG.out; omega
      have HQS : Hid (q = some d) := Lib.hid (by
        rw [← HLD.out, List.drop_eq_nil_of_le (by rw [HN.out]; omega)]
        rfl)
      go_wp2
      go_ret2
      rw [HQS.out]
      exact ⟨B, Si, rfl, HD.out, fun k e => .inr (HS.out k e), HB.out⟩

end Go.Proofs.YtacfcfbleogioaaGreatDoor

namespace Go.Proofs.YtacfcfbleogioaaGreatDoor
open Go.RowKit Go.Lib Go.Joins

/-- A call that only reads. -/
def Tells (v : Value) (w : World) (e : Ending) (w' : World) : Prop := e = .returned v ∧ ∃ n, w' = w.drewN n

/-- Same from a place on. -/
def eqFrom (l m : List Nat) (i : Nat) : Bool := decide (l.drop i = m.drop i)
theorem eqFrom_step {l m : List Nat} {i x y : Nat} (hx : l[i]? = some x) (hy : m[i]? = some y) : eqFrom l m i = (decide (x = y) && eqFrom l m (i + 1)) := by
  obtain ⟨h1, rfl⟩ := List.getElem?_eq_some_iff.1 hx
  obtain ⟨h2, rfl⟩ := List.getElem?_eq_some_iff.1 hy
  unfold eqFrom
  rw [List.drop_eq_getElem_cons h1, List.drop_eq_getElem_cons h2, Bool.eq_iff_iff]
  simp only [List.cons.injEq, decide_eq_true_eq, Bool.and_eq_true]

theorem row_at {w : World} {S : Nat → Prop} {a : Option Addr} {l : List Nat} (h : Row w S a l) {i x : Nat} (hi : l[i]? = some x) : ∃ b o, a = some ⟨b, o, none⟩ ∧ w.cell? ⟨b, o + i, none⟩ = some (.int .u8 (x : Int)) := by
  rcases h.2 with h0 | ⟨b, o, ha, _, hc⟩
  · rw [h0] at hi; simp at hi
  · exact ⟨b, o, ha, hc i x hi⟩

set_option maxRecDepth 100000 in
set_option maxHeartbeats 4000000 in
theorem bytes_calls (a a' : Option Addr) (l m : List Nat) (c c' n n' : Nat) (w : World) {S S' : Nat → Prop} (h : Row w S a l) (h' : Row w S' a' m) (hn : l.length = n) (hn' : m.length = n') (hb : n ≤ 1073741824) (hb' : n' ≤ 1073741824) :
    Calls Tryz.prog 69 #[.slice a n c, .slice a' n' c'] w (Tells (.bool (decide (l = m))) w) := by
  by_cases hnn : n = n'
  · subst hnn
    have he : decide (l = m) = eqFrom l m 0 := rfl
    rw [he]
    obtain ⟨q, hq⟩ : ∃ q, eqFrom l m 0 = q := ⟨_, rfl⟩
    rw [hq]
    have HQ := Lib.hid hq
    have HR := Lib.hid h
    have HR' := Lib.hid h'
    have HN := Lib.hid hn
    have HN' := Lib.hid hn'
    clear h h' hn hn' he hq
    go_enter Tryz.func69, Tryz.ntmps69
    go_wp2
    go_loopg [5] n (fun g idx wr => ∃ (i k : Nat), idx = .int .i64 (i : Int) ∧ g + i = n ∧ eqFrom l m i = q ∧ wr = w.drewN k)
    case atStart => exact ⟨0, 0, rfl, rfl, HQ.out, rfl⟩
    case round =>
      obtain ⟨i, k, rfl, hg, hq, rfl⟩ := hrel
      have HG := Lib.hid hg
      have HE := Lib.hid hq
      clear hg hq HQ
      by_cases hlt : i < n
      · obtain ⟨g', rfl⟩ : ∃ g', gk = g' + 1 := ⟨gk - 1, by have := HG.out; omega⟩
        have hd : decide ((i : Int) < (n : Int)) = true := by simp; omega
        obtain ⟨x, hx⟩ : ∃ x, l[i]? = some x := ⟨l[i]'(by rw [HN.out]; exact hlt), List.getElem?_eq_getElem _⟩
        obtain ⟨y, hy⟩ : ∃ y, m[i]? = some y := ⟨m[i]'(by rw [HN'.out]; exact hlt), List.getElem?_eq_getElem _⟩
        have hst := eqFrom_step hx hy
        rw [HE.out] at hst
        have HST := Lib.hid hst
        obtain ⟨b, o, rfl, hc⟩ := row_at HR.out hx
        obtain ⟨b', o', rfl, hc'⟩ := row_at HR'.out hy
        clear hst hx hy
        by_cases hxy : x = y
        · subst hxy
          have HN2 : Hid (eqFrom l m (i + 1) = q) := Lib.hid (by have := HST.out; simp at this; exact this.symm)
          go_wp2
          go_quiet (fail)
          go_wp2
          go_roundg g'
          case measure => omega
          case rel => exact ⟨i + 1, _, by go_num, by have := HG.out; omega, HN2.out, rfl⟩
        · have HF : Hid (q = false) := Lib.hid (by rw [HST.out, decide_eq_false hxy]; rfl)
          have hne : ((x : Int) != (y : Int)) = true := by simp; omega
          have hne2 : ((x : Int) == (y : Int)) = false := by simp; omega
          clear HST
          go_wp2
          go_quiet (fail)
          go_wp2
          go_ret
          exact ⟨by rw [HF.out]; rfl, _, World.drewN_drewN w k nq⟩
      · have hd : decide ((i : Int) < (n : Int)) = false := by simp; omega
        have HT : Hid (q = true) := Lib.hid (by
          rw [← HE.out]
          unfold eqFrom
          rw [List.drop_eq_nil_of_le (by rw [HN.out]; omega), List.drop_eq_nil_of_le (by rw [HN'.out]; omega)]
          rfl)
        go_wp2
        go_ret
        exact ⟨by rw [HT.out]; rfl, k, rfl⟩
  · have he : decide (l = m) = false := by
      simp only [decide_eq_false_iff_not]
      intro e
      rw [← hn, ← hn', e] at hnn
      exact hnn rfl
    rw [he]
    have hne : ((n : Int) != (n' : Int)) = true := by simp; omega
    clear h h' he hn hn'
    go_enter Tryz.func69, Tryz.ntmps69
    go_wp2
    go_ret
    exact ⟨rfl, 0, rfl⟩

set_option maxRecDepth 100000 in
set_option maxHeartbeats 4000000 in
theorem may_calls (s : ByteArray) (w : World) (hs : s.size ≤ 1099511627776) : Calls Tryz.prog 37 #[.string s] w fun e w' => e = .returned (.bool (nmd s)) ∧ w = w' := by
  obtain ⟨q, hq⟩ : ∃ q, s.data.toList.all okc = q := ⟨_, rfl⟩
  have HQ := Lib.hid hq
  have hn : nmd s = (q && decide (1 ≤ s.size) && decide (s.size ≤ 40)) := by unfold nmd; rw [hq]
  rw [hn]
  obtain ⟨z, hz⟩ : ∃ z, (q && decide (1 ≤ s.size) && decide (s.size ≤ 40)) = z := ⟨_, rfl⟩
  rw [hz]
  have HZ := Lib.hid hz
  clear hn hq hz
  go_enter Tryz.func37, Tryz.ntmps37
  go_wp2
  go_loopg [3, 4] s.size (fun g idx _ wr => ∃ (p : Nat), idx = .int .i64 (p : Int) ∧ g + p = s.size ∧ (s.data.toList.drop p).all okc = q ∧ wr = w)
  case atStart => exact ⟨0, rfl, rfl, HQ.out, rfl⟩
  case round =>
    obtain ⟨p, rfl, hg, hall, rfl⟩ := hrel
    have HG := Lib.hid hg
    have HA := Lib.hid hall
    clear hg hall HQ
    by_cases hlt : p < s.size
    · obtain ⟨g', rfl⟩ : ∃ g', gk = g' + 1 := ⟨gk - 1, by have := HG.out; omega⟩
      have hdd : decide ((p : Int) < (s.size : Int)) = true := by simp; omega
      have hd := drop_at hlt
      obtain ⟨c, hc⟩ : ∃ c, s[p] = c := ⟨_, rfl⟩
      have HA2 : Hid ((okc c && (s.data.toList.drop (p + 1)).all okc) = q) := Lib.hid (by
        have := HA.out
        rw [hd, hc, List.all_cons] at this
        exact this)
      clear hd HA
      have hok : okc c = (decide (97 ≤ (c.toNat : Int) ∧ (c.toNat : Int) ≤ 122) || decide (48 ≤ (c.toNat : Int) ∧ (c.toNat : Int) ≤ 57) || decide ((c.toNat : Int) = 46) || decide ((c.toNat : Int) = 45)) := by
        unfold okc
        rw [Bool.eq_iff_iff]
        simp
        omega
      have HOK := Lib.hid hok
      have hr0 : (0 : Int) ≤ (c.toNat : Int) := by omega
      have hr1 : (c.toNat : Int) ≤ 255 := by have := c.toNat_lt; omega
      obtain ⟨r, hr⟩ : ∃ r : Int, (c.toNat : Int) = r := ⟨_, rfl⟩
      rw [hr] at HOK hr0 hr1
      clear hok
      by_cases k1 : 97 ≤ r ∧ r ≤ 122
      · have H : Hid ((s.data.toList.drop (p + 1)).all okc = q) := Lib.hid (by have := HA2.out; rw [HOK.out, decide_eq_true k1] at this; simpa using this)
        obtain ⟨ka, kb⟩ := k1
        clear HA2 HOK
        go_wp2
        go_roundg g'
        case measure => omega
        case rel => exact ⟨p + 1, by go_num, by have := HG.out; omega, H.out, rfl⟩
      by_cases k2 : 48 ≤ r ∧ r ≤ 57
      · have H : Hid ((s.data.toList.drop (p + 1)).all okc = q) := Lib.hid (by have := HA2.out; rw [HOK.out, decide_eq_true k2] at this; simpa using this)
        obtain ⟨ka, kb⟩ := k2
        have kc : r < 97 := by omega
        clear HA2 HOK k1
        go_wp2
        go_roundg g'
        case measure => omega
        case rel => exact ⟨p + 1, by go_num, by have := HG.out; omega, H.out, rfl⟩
      by_cases k3 : r = 46
      · have H : Hid ((s.data.toList.drop (p + 1)).all okc = q) := Lib.hid (by have := HA2.out; rw [HOK.out, k3] at this; simpa using this)
        subst k3
        clear HA2 HOK k1 k2
        go_wp2
        go_roundg g'
        case measure => omega
        case rel => exact ⟨p + 1, by go_num, by have := HG.out; omega, H.out, rfl⟩
      by_cases k4 : r = 45
      · have H : Hid ((s.data.toList.drop (p + 1)).all okc = q) := Lib.hid (by have := HA2.out; rw [HOK.out, k4] at this; simpa using this)
        subst k4
        clear HA2 HOK k1 k2 k3
        go_wp2
        go_roundg g'
        case measure => omega
        case rel => exact ⟨p + 1, by go_num, by have := HG.out; omega, H.out, rfl⟩
      · have H : Hid (z = false) := Lib.hid (by
          have := HA2.out
          rw [HOK.out, decide_eq_false k1, decide_eq_false k2, decide_eq_false k3, decide_eq_false k4] at this
          rw [← HZ.out, ← this]
          rfl)
        have d1 : (r != 46) = true := by simpa using k3
        have d2 : (r != 45) = true := by simpa using k4
        clear HA2 HOK
        by_cases e1 : r < 97
        · by_cases e2 : r < 48
          · go_wp2
            go_ret
            exact ⟨by rw [H.out]; rfl, rfl⟩
          · have e3 : 57 < r := by omega
            go_wp2
            go_ret
            exact ⟨by rw [H.out]; rfl, rfl⟩
        · have e3 : 122 < r := by omega
          have e4 : 57 < r := by omega
          have e5 : ¬ r < 48 := by omega
          go_wp2
          go_ret
          exact ⟨by rw [H.out]; rfl, rfl⟩
    · have hdd : decide ((p : Int) < (s.size : Int)) = false := by simp; omega
      have H : Hid (z = (decide (1 ≤ s.size) && decide (s.size ≤ 40))) := Lib.hid (by
        have := HA.out
        rw [List.drop_eq_nil_of_le (by rw [Array.length_toList]; exact Nat.le_of_not_lt hlt)] at this
        rw [← HZ.out, ← this]
        rfl)
      clear HA
      by_cases k1 : 1 ≤ s.size
      · by_cases k2 : s.size ≤ 40
        · have e1 : Hid (z = true) := Lib.hid (by rw [H.out, decide_eq_true k1, decide_eq_true k2]; rfl)
          have d1 : decide ((1 : Int) ≤ (s.size : Int)) = true := by simp; omega
          have d2 : decide ((s.size : Int) ≤ 40) = true := by simp; omega
          go_wp2
          all_goals (go_ret; exact ⟨by rw [e1.out]; rfl, rfl⟩)
        · have e1 : Hid (z = false) := Lib.hid (by rw [H.out, decide_eq_true k1, decide_eq_false k2]; rfl)
          have d1 : decide ((1 : Int) ≤ (s.size : Int)) = true := by simp; omega
          have d2 : decide ((s.size : Int) ≤ 40) = false := by simp; omega
          go_wp2
          all_goals (go_ret; exact ⟨by rw [e1.out]; rfl, rfl⟩)
      · have e1 : Hid (z = false) := Lib.hid (by rw [H.out, decide_eq_false k1]; rfl)
        have d1 : decide ((1 : Int) ≤ (s.size : Int)) = false := by simp; omega
        go_wp2
        all_goals (go_ret; exact ⟨by rw [e1.out]; rfl, rfl⟩)

end Go.Proofs.YtacfcfbleogioaaGreatDoor
namespace Go.Proofs.YtacfcfbleogioaaGreatDoor
open Go.RowKit Go.Lib Go.Joins

def same1 (f g : FilI) : Bool := decide (f.name = g.name) && decide (f.safe = g.safe) && decide (f.data = g.data)
def sameB : List FilI → List FilI → Bool
  | [], [] => true
  | f :: L, g :: M => same1 f g && sameB L M
  | _, _ => false
theorem same1_eq {f g : FilI} : same1 f g = true ↔ f = g := by
  obtain ⟨n, d, s⟩ := f
  obtain ⟨n', d', s'⟩ := g
  unfold same1
  simp only [Bool.and_eq_true, decide_eq_true_eq, FilI.mk.injEq]
  constructor
  · rintro ⟨⟨h1, h2⟩, h3⟩; exact ⟨h1, h3, h2⟩
  · rintro ⟨h1, h3, h2⟩; exact ⟨⟨h1, h2⟩, h3⟩
theorem sameB_eq : ∀ {L M : List FilI}, sameB L M = true ↔ L = M
  | [], [] => by simp [sameB]
  | [], _ :: _ => by simp [sameB]
  | _ :: _, [] => by simp [sameB]
  | f :: L, g :: M => by
    unfold sameB
    rw [Bool.and_eq_true, same1_eq, sameB_eq, List.cons.injEq]
theorem sameB_len {L M : List FilI} (h : L.length ≠ M.length) : sameB L M = false := by
  cases hs : sameB L M
  · rfl
  · exact absurd (congrArg List.length (sameB_eq.1 hs)) h
theorem sameB_drop {L M : List FilI} {i : Nat} {f g : FilI} (hf : L[i]? = some f) (hg : M[i]? = some g) : sameB (L.drop i) (M.drop i) = (same1 f g && sameB (L.drop (i + 1)) (M.drop (i + 1))) := by
  obtain ⟨h1, rfl⟩ := List.getElem?_eq_some_iff.1 hf
  obtain ⟨h2, rfl⟩ := List.getElem?_eq_some_iff.1 hg
  rw [List.drop_eq_getElem_cons h1, List.drop_eq_getElem_cons h2]
  rfl

theorem quiet_add {P : Program} {f : FuncId} {args : Array Value} {w : World} {a n : Nat} {v : Value} (h : Calls P f args (w.drewN (a + n)) (Tells v (w.drewN (a + n)))) :
    Calls P f args (w.drewN (a + n)) fun e w'' => e = .returned v ∧ ∃ m, w'' = w.drewN (a + m) :=
  h.mono fun _ _ ⟨he, m, hm⟩ => ⟨he, n + m, by rw [hm, World.drewN_drewN, Nat.add_assoc]⟩

set_option maxRecDepth 100000 in
set_option maxHeartbeats 8000000 in
theorem same_calls (a a' : Option Addr) (L M : List FilI) (c c' n n' : Nat) (w : World) {S S' : Nat → Prop} (h : Fils w S a L) (h' : Fils w S' a' M) (hn : L.length = n) (hn' : M.length = n') (hb : n ≤ 1073741824) (hb' : n' ≤ 1073741824) (hd : ∀ f ∈ L, f.data.length ≤ 1073741824) (hd' : ∀ f ∈ M, f.data.length ≤ 1073741824) :
    Calls Tryz.prog 23 #[.slice a n c, .slice a' n' c'] w (Tells (.bool (sameB L M)) w) := by
  by_cases hnn : n = n'
  · subst hnn
    obtain ⟨q, hq⟩ : ∃ q, sameB L M = q := ⟨_, rfl⟩
    rw [hq]
    have HQ := Lib.hid hq
    have HR := Lib.hid h
    have HR' := Lib.hid h'
    have HN := Lib.hid hn
    have HN' := Lib.hid hn'
    have HD := Lib.hid hd
    have HD' := Lib.hid hd'
    clear h h' hn hn' hq hd hd'
    go_enter Tryz.func23, Tryz.ntmps23
    go_wp2
    go_loopg [5] n (fun g idx wr => ∃ (i k : Nat), idx = .int .i64 (i : Int) ∧ g + i = n ∧ sameB (L.drop i) (M.drop i) = q ∧ wr = w.drewN k)
    case atStart => exact ⟨0, 0, rfl, rfl, HQ.out, rfl⟩
    case round =>
      obtain ⟨i, k, rfl, hg, hq, rfl⟩ := hrel
      have HG := Lib.hid hg
      have HE := Lib.hid hq
      clear hg hq HQ
      by_cases hlt : i < n
      · obtain ⟨g', rfl⟩ : ∃ g', gk = g' + 1 := ⟨gk - 1, by have := HG.out; omega⟩
        have hdd : decide ((i : Int) < (n : Int)) = true := by simp; omega
        obtain ⟨f, hf⟩ : ∃ x, L[i]? = some x := ⟨L[i]'(by rw [HN.out]; exact hlt), List.getElem?_eq_getElem _⟩
        obtain ⟨g, hg⟩ : ∃ y, M[i]? = some y := ⟨M[i]'(by rw [HN'.out]; exact hlt), List.getElem?_eq_getElem _⟩
        have hst := sameB_drop hf hg
        rw [HE.out] at hst
        have HST := Lib.hid hst
        obtain ⟨b, o, da, dc, rfl, _, r0, r1, r2, hrow, _⟩ := fils_at HR.out hf
        obtain ⟨b', o', da', dc', rfl, _, s0, s1, s2, hrow', _⟩ := fils_at HR'.out hg
        have HBY := Lib.hid (fun W (hW : Row W S da f.data) (hW' : Row W S' da' g.data) => bytes_calls da da' f.data g.data dc dc' f.data.length g.data.length W hW hW' rfl rfl (HD.out f (List.mem_of_getElem? hf)) (HD'.out g (List.mem_of_getElem? hg)))
        have HROW := Lib.hid hrow
        have HROW' := Lib.hid hrow'
        clear hst hf hg hrow hrow'
        by_cases hnm : f.name = g.name
        · by_cases hsf : f.safe = g.safe
          · obtain ⟨bq, hbq⟩ : ∃ bq, decide (f.data = g.data) = bq := ⟨_, rfl⟩
            rw [hbq] at HBY
            have HBQ := Lib.hid hbq
            have HST2 : Hid (q = (bq && sameB (L.drop (i + 1)) (M.drop (i + 1)))) := Lib.hid (by
              have := HST.out
              unfold same1 at this
              rw [decide_eq_true hnm, decide_eq_true hsf, hbq] at this
              simpa using this)
            rw [hnm] at r0
            rw [hsf] at r2
            clear hbq hnm hsf HST
            cases bq with
            | true =>
              have HN2 : Hid (sameB (L.drop (i + 1)) (M.drop (i + 1)) = q) := Lib.hid (by have := HST2.out; simp at this; exact this.symm)
              go_wp2
              go_quiet ((exact quiet_add (HBY.out _ (HROW.out.keep ((Keeps.refl Non _).drewN _) (fun _ _ h => h)) (HROW'.out.keep ((Keeps.refl Non _).drewN _) (fun _ _ h => h)))))
              go_wp2
              go_roundg g'
              case measure => omega
              case rel => exact ⟨i + 1, _, by go_num, by have := HG.out; omega, HN2.out, rfl⟩
            | false =>
              have HF : Hid (q = false) := Lib.hid (by rw [HST2.out]; rfl)
              go_wp2
              go_quiet ((exact quiet_add (HBY.out _ (HROW.out.keep ((Keeps.refl Non _).drewN _) (fun _ _ h => h)) (HROW'.out.keep ((Keeps.refl Non _).drewN _) (fun _ _ h => h)))))
              go_wp2
              go_ret
              exact ⟨by rw [HF.out]; rfl, _, World.drewN_drewN w k nq⟩
          · have HF : Hid (q = false) := Lib.hid (by
              have := HST.out
              unfold same1 at this
              rw [decide_eq_false hsf] at this
              simpa using this)
            rw [hnm] at r0
            have hne : (f.safe != g.safe) = true := by simpa using hsf
            clear hnm hsf HST
            go_wp2
            go_quiet (fail)
            go_wp2
            go_ret
            exact ⟨by rw [HF.out]; rfl, _, World.drewN_drewN w k nq⟩
        · have HF : Hid (q = false) := Lib.hid (by
            have := HST.out
            unfold same1 at this
            rw [decide_eq_false hnm] at this
            simpa using this)
          have hne : (f.name.toList == g.name.toList) = false := by
            rw [ByteArray.toList_eq, ByteArray.toList_eq]
            have := same_is f.name g.name
            rw [decide_eq_false hnm] at this
            exact this
          clear HST
          go_wp2
          go_quiet (fail)
          go_wp2
          go_ret
          exact ⟨by rw [HF.out]; rfl, _, World.drewN_drewN w k nq⟩
      · have hdd : decide ((i : Int) < (n : Int)) = false := by simp; omega
        have HT : Hid (q = true) := Lib.hid (by
          rw [← HE.out, List.drop_eq_nil_of_le (by rw [HN.out]; omega), List.drop_eq_nil_of_le (by rw [HN'.out]; omega)]
          rfl)
        go_wp2
        go_ret
        exact ⟨by rw [HT.out]; rfl, k, rfl⟩
  · have he : sameB L M = false := sameB_len (by rw [hn, hn']; exact hnn)
    rw [he]
    have hne : ((n : Int) != (n' : Int)) = true := by simp; omega
    clear h h' he hn hn' hd hd'
    go_enter Tryz.func23, Tryz.ntmps23
    go_wp2
    go_ret
    exact ⟨rfl, 0, rfl⟩

end Go.Proofs.YtacfcfbleogioaaGreatDoor
namespace Go.Proofs.YtacfcfbleogioaaGreatDoor
open Go.RowKit Go.Lib Go.Joins

def smallF : List FilI → Nat → Nat → Bool
  | [], _, n => decide (n ≤ 16384)
  | f :: L, i, n => if i < 100 ∧ f.name.size ≤ 1000 then smallF L (i + 1) (n + f.data.length) else false
theorem smallF_total : ∀ (L : List FilI) (i n : Nat), smallF L i n = true → n + total L ≤ 16384 ∧ (∀ f ∈ L, f.name.size ≤ 1000) ∧ (i + L.length ≤ 100 ∨ L = [])
  | [], i, n, h => ⟨by simpa [smallF, total] using h, (fun _ hf => by cases hf), Or.inr rfl⟩
  | f :: L, i, n, h => by
    unfold smallF at h
    split at h
    · next hc =>
      obtain ⟨h1, h2, h3⟩ := smallF_total L (i + 1) (n + f.data.length) h
      refine ⟨?_, ?_, ?_⟩
      · unfold total at h1 ⊢
        simp only [List.map_cons, List.sum_cons]
        omega
      · intro g hg
        rcases List.mem_cons.1 hg with rfl | hg
        · exact hc.2
        · exact h2 g hg
      · rcases h3 with h3 | rfl
        · left; simp only [List.length_cons]; omega
        · left; simp only [List.length_cons, List.length_nil]; omega
    · cases h
theorem smallF_drop {L : List FilI} {i n : Nat} {f : FilI} (hf : L[i]? = some f) : smallF (L.drop i) i n = if i < 100 ∧ f.name.size ≤ 1000 then smallF (L.drop (i + 1)) (i + 1) (n + f.data.length) else false := by
  obtain ⟨h1, rfl⟩ := List.getElem?_eq_some_iff.1 hf
  rw [List.drop_eq_getElem_cons h1]
  rfl

set_option maxRecDepth 100000 in
set_option maxHeartbeats 8000000 in
theorem small_calls (a : Option Addr) (L : List FilI) (c n : Nat) (w : World) {S : Nat → Prop} (h : Fils w S a L) (hn : L.length = n) (_hb : n ≤ 281474976710656) (hd : ∀ f ∈ L, f.data.length ≤ 281474976710656) :
    Calls Tryz.prog 8 #[.slice a n c] w (Tells (.bool (smallF L 0 0)) w) := by
  obtain ⟨q, hq⟩ : ∃ q, smallF L 0 0 = q := ⟨_, rfl⟩
  rw [hq]
  have HQ := Lib.hid hq
  have HR := Lib.hid h
  have HN := Lib.hid hn
  have HD := Lib.hid hd
  clear h hn hq hd
  go_enter Tryz.func8, Tryz.ntmps8
  go_wp2
  go_loopg [4, 3] n (fun g idx acc wr => ∃ (i m k : Nat), idx = .int .i64 (i : Int) ∧ acc = .int .i64 (m : Int) ∧ g + i = n ∧ i ≤ 100 ∧ m ≤ i * 281474976710656 ∧ smallF (L.drop i) i m = q ∧ wr = w.drewN k)
  case atStart => exact ⟨0, 0, 0, rfl, rfl, rfl, by omega, by omega, HQ.out, rfl⟩
  case round =>
    obtain ⟨i, m, k, rfl, rfl, hg, hi, hm, hq, rfl⟩ := hrel
    have HG := Lib.hid hg
    have HE := Lib.hid hq
    have HI := Lib.hid hi
    have HM := Lib.hid hm
    clear hg hq HQ hi hm
    by_cases hlt : i < n
    · obtain ⟨g', rfl⟩ : ∃ g', gk = g' + 1 := ⟨gk - 1, by have := HG.out; omega⟩
      have hdd : decide ((i : Int) < (n : Int)) = true := by simp; omega
      obtain ⟨f, hf⟩ : ∃ x, L[i]? = some x := ⟨L[i]'(by rw [HN.out]; exact hlt), List.getElem?_eq_getElem _⟩
      have hst := smallF_drop (n := m) hf
      rw [HE.out] at hst
      have HST := Lib.hid hst
      have HDF := Lib.hid (HD.out f (List.mem_of_getElem? hf))
      obtain ⟨b, o, da, dc, rfl, _, r0, r1, r2, hrow, _⟩ := fils_at HR.out hf
      clear hst hf hrow
      by_cases h1 : i < 100
      · have hd1 : decide ((100 : Int) ≤ (i : Int)) = false := by simp; omega
        by_cases h2 : f.name.size ≤ 1000
        · have hd2 : decide ((1000 : Int) < (f.name.size : Int)) = false := by simp; omega
          have HN2 : Hid (smallF (L.drop (i + 1)) (i + 1) (m + f.data.length) = q) := Lib.hid (by
            have := HST.out
            rw [if_pos ⟨h1, h2⟩] at this
            exact this.symm)
          obtain ⟨z, hz⟩ : ∃ z, f.data.length = z := ⟨_, rfl⟩
          rw [hz] at r1 HN2 HDF
          have hz1 : z ≤ 281474976710656 := HDF.out
          have hm1 : m ≤ 28147497671065600 := by have := HM.out; have := HI.out; omega
          clear HST h2
          go_wp2
          go_roundg g'
          case measure => omega
          case rel => exact ⟨i + 1, m + z, k, by go_num, by go_num, by have := HG.out; omega, by omega, by have := HM.out; omega, HN2.out, rfl⟩
        · have hd2 : decide ((1000 : Int) < (f.name.size : Int)) = true := by simp; omega
          have HF : Hid (q = false) := Lib.hid (by
            have := HST.out
            rw [if_neg (fun h => h2 h.2)] at this
            exact this)
          clear HST
          go_wp2
          go_ret
          exact ⟨by rw [HF.out]; rfl, k, rfl⟩
      · have hd1 : decide ((100 : Int) ≤ (i : Int)) = true := by simp; omega
        have HF : Hid (q = false) := Lib.hid (by
          have := HST.out
          rw [if_neg (fun h => h1 h.1)] at this
          exact this)
        clear HST
        go_wp2
        go_ret
        exact ⟨by rw [HF.out]; rfl, k, rfl⟩
    · have hdd : decide ((i : Int) < (n : Int)) = false := by simp; omega
      have HT : Hid (q = decide (m ≤ 16384)) := Lib.hid (by
        rw [← HE.out, List.drop_eq_nil_of_le (by rw [HN.out]; omega)]
        rfl)
      have hdm : decide ((m : Int) ≤ 16384) = decide (m ≤ 16384) := by
        rw [Bool.eq_iff_iff]; simp; omega
      go_wp2
      go_ret
      exact ⟨by rw [HT.out, ← hdm]; rfl, k, rfl⟩

end Go.Proofs.YtacfcfbleogioaaGreatDoor

namespace Go.Proofs.YtacfcfbleogioaaGreatDoor
open Go.RowKit Go.Lib Go.Joins

/-- A disk in blocks of its own; else nothing has turned. -/
structure Live (w0 w : World) (S : Nat → Prop) (B : Nat) (d : Dsk) : Prop where
  disk : Disk w S B d
  own : ∀ k, S k → w0.heap.size ≤ k
  bel : Below w0.heap.size w0 w

theorem Live.turns {w0 w w' : World} {S : Nat → Prop} {B : Nat} {d d' : Dsk} (h : Live w0 w S B d) (ht : Turns w S B d' w') : ∃ S', Live w0 w' S' B d' ∧ Fresh S w.heap.size S' ∧ Keeps S w w' := by
  obtain ⟨S', h1, h2, h3⟩ := ht
  refine ⟨S', ⟨h1, fun k hk => ?_, h.bel.trans (h3.toBelow h.bel.size h.own)⟩, h2, h3⟩
  rcases h2 k hk with h4 | h4
  · exact h.own k h4
  · exact Nat.le_trans h.bel.size h4
theorem Live.quiet {w0 w w' : World} {S : Nat → Prop} {B : Nat} {d : Dsk} (h : Live w0 w S B d) (hb : Below w.heap.size w w') : Live w0 w' S B d := ⟨h.disk.below hb, h.own, below_then h.bel hb⟩
theorem below_drewN (w : World) (n : Nat) : Below w.heap.size w (w.drewN n) := ((Keeps.refl Non w).drewN n).toBelow (Nat.le_refl _) (fun _ h => h.elim)
theorem Live.drewN {w0 w : World} {S : Nat → Prop} {B : Nat} {d : Dsk} (h : Live w0 w S B d) (n : Nat) : Live w0 (w.drewN n) S B d := h.quiet (below_drewN w n)
theorem Live.born {w0 w w' : World} {S : Nat → Prop} {B : Nat} {d : Dsk} (h0 : Below w0.heap.size w0 w) (hd : Disk w' S B d) (hf : Fresh Non w.heap.size S) (hb : Below w.heap.size w w') : Live w0 w' S B d :=
  ⟨hd, fun k e => by rcases hf k e with h | h; exact h.elim; exact Nat.le_trans h0.size h, below_then h0 hb⟩

/-- Blocks beside a disk's. -/
def Off (S : Nat → Prop) (w : World) (O : Nat → Prop) : Prop := ∀ k, O k → k < w.heap.size ∧ ¬ S k
theorem Off.turn {S S' O : Nat → Prop} {w w' : World} (h : Off S w O) (hf : Fresh S w.heap.size S') (hk : Keeps S w w') : Off S' w' O := fun k hO =>
  ⟨Nat.lt_of_lt_of_le (h k hO).1 hk.size, fun e => by rcases hf k e with h1 | h1; exact (h k hO).2 h1; have := (h k hO).1; omega⟩
theorem Off.below {S O : Nat → Prop} {w w' : World} (h : Off S w O) (hb : Below w.heap.size w w') : Off S w' O := fun k hO => ⟨Nat.lt_of_lt_of_le (h k hO).1 hb.size, (h k hO).2⟩
theorem Off.new {w0 w w' : World} {S O : Nat → Prop} {B : Nat} {d : Dsk} (h : Live w0 w S B d) (hO : ∀ k, O k → w.heap.size ≤ k ∧ k < w'.heap.size) : Off S w' O := fun k e => ⟨(hO k e).2, fun hs => by have := h.disk.2.1 k hs; have := (hO k e).1; omega⟩

theorem Row.below {w w' : World} {S : Nat → Prop} {a l} (h : Row w S a l) (hb : Below w.heap.size w w') : Row w' S a l := h.keep (keeps_below hb Non) (fun _ _ h => h)

/-- A row of constants. -/
theorem row_new (w : World) (l : List Nat) (hb : ∀ c ∈ l, c < 256) (fr : Nat × Nat) : Row (w.alloc (.cells (cellsN l).toArray 5 fr)) (One w.heap.size) (some ⟨w.heap.size, 0, none⟩) l := by
  refine ⟨hb, Or.inr ⟨_, _, rfl, rfl, fun i c hi => ?_⟩⟩
  rw [Nat.zero_add, World.cell?_alloc_mark w _ 5 fr i]
  rw [List.getElem?_toArray, cellsN, List.getElem?_map, hi]
  rfl

end Go.Proofs.YtacfcfbleogioaaGreatDoor
