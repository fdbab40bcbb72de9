/-
  What the laws need of disks as lists: loading, a step without troubles, a new name. Of no program. No condition.
  The reference's disk in memory; its New, at, Used. Conditions: the disk lies in memory; it has few files and few bytes.
  The reference's Less. Condition: names are small.
  The reference's Read. Conditions: the disk lies in memory; it has few bytes.
  The reference's Arm. Conditions: the disk lies in memory; the troubles lie beside it and are few.
  The reference's drop. Conditions: the disk lies in memory; it has few files.
  A law for a region that draws its order and of which the last operation waits for all others: loads are taken first, although that operation stores into a cell that they read. Of no program. No condition.
  One cell of a file of the reference's disk turns; copies of bytes in a drawn region. Conditions: the disk lies in memory; few bytes.
-/
import Derived.Test.YtacfcfbleogioaaGreatDoorLiveB
import Derived.Deep.RegionHeld
namespace Go.Proofs.YtacfcfbleogioaaGreatDoor
open Go.RowKit Go.Lib Go.Joins

/-! ### a new name -/
/-- What is read of a file, or of none. -/
def dataO (o : Option Fil) : List Nat := match o with | none => [] | some f => f.data
def codeO (o : Option Fil) : Int := match o with | none => 42 | some _ => 0
def ReadAny (o : Option Fil) (w : World) (e : Ending) (w' : World) : Prop :=
  ∃ a c S', e = .returned (.tuple #[.slice a (dataO o).length c, .int .i64 (codeO o)]) ∧ Row w' S' a (dataO o) ∧ (∀ k, S' k → w.heap.size ≤ k ∧ k < w'.heap.size) ∧ Below w.heap.size w w'
end Go.Proofs.YtacfcfbleogioaaGreatDoor

namespace Go.Proofs.YtacfcfbleogioaaGreatDoor
open Go.RowKit Go.Lib Go.Joins

/-- The reference's disk: its block, its row of files, its troubles. -/
structure RefAt (w : World) (S : Nat → Prop) (B : Nat) (d : Dsk) (lv : Value) (ta : Option Addr) (tn tc : Nat) (Sd St : Nat → Prop) : Prop where
  blk : w.heap[B]? = some (.cells #[.int .i64 d.room, lv, .slice ta tn tc, .int .i64 d.ops, .bool d.down] 54 (0, 0))
  row : ∃ cells, w.ownsRow 0 63 3 lv d.L.length cells ∧ FCells w Sd cells (d.L.map toI)
  tro : RowT w St ta d.tr
  trn : d.tr.length = tn
  sB : S B
  sR : ∀ k, lv.ownBlock = some k → S k
  sD : ∀ k, Sd k → S k ∧ k ≠ B ∧ lv.ownBlock ≠ some k
  sT : ∀ k, St k → S k ∧ k ≠ B ∧ lv.ownBlock ≠ some k

/-- It lies in memory, whatever holds of it. -/
def RHas (w : World) (S : Nat → Prop) (B : Nat) (d : Dsk) : Prop := (∀ k, S k → k < w.heap.size) ∧ ∃ lv ta tn tc Sd St, RefAt w S B d lv ta tn tc Sd St
def RefD (w : World) (S : Nat → Prop) (B : Nat) (d : Dsk) : Prop := Inv d ∧ RHas w S B d

theorem RefAt.keep {w w' : World} {S O : Nat → Prop} {B : Nat} {d : Dsk} {lv : Value} {ta : Option Addr} {tn tc : Nat} {Sd St : Nat → Prop} (h : RefAt w S B d lv ta tn tc Sd St) (hk : Keeps O w w') (hO : ∀ k, S k → ¬ O k) : RefAt w' S B d lv ta tn tc Sd St where
  blk := block_keep h.blk hk (hO B h.sB)
  row := by
    obtain ⟨cells, h1, h2⟩ := h.row
    exact ⟨cells, ownsRow_keep h1 hk (fun k e => hO k (h.sR k e)), h2.keep hk (fun k e => hO k (h.sD k e).1)⟩
  tro := h.tro.keep hk (fun k e => hO k (h.sT k e).1)
  trn := h.trn
  sB := h.sB
  sR := h.sR
  sD := h.sD
  sT := h.sT
theorem RHas.keep {w w' : World} {S O : Nat → Prop} {B : Nat} {d : Dsk} (h : RHas w S B d) (hk : Keeps O w w') (hO : ∀ k, S k → ¬ O k) : RHas w' S B d := by
  obtain ⟨hS, lv, ta, tn, tc, Sd, St, hd⟩ := h
  exact ⟨fun k e => Nat.lt_of_lt_of_le (hS k e) hk.size, lv, ta, tn, tc, Sd, St, hd.keep hk hO⟩
theorem RHas.below {w w' : World} {S : Nat → Prop} {B : Nat} {d : Dsk} (h : RHas w S B d) (hb : Below w.heap.size w w') : RHas w' S B d := h.keep (keeps_below hb Non) (fun _ _ h => h)
theorem RefD.keep {w w' : World} {S O : Nat → Prop} {B : Nat} {d : Dsk} (h : RefD w S B d) (hk : Keeps O w w') (hO : ∀ k, S k → ¬ O k) : RefD w' S B d := by
  obtain ⟨hi, hS, lv, ta, tn, tc, Sd, St, hd⟩ := h
  exact ⟨hi, fun k e => Nat.lt_of_lt_of_le (hS k e) hk.size, lv, ta, tn, tc, Sd, St, hd.keep hk hO⟩
theorem RefD.below {w w' : World} {S : Nat → Prop} {B : Nat} {d : Dsk} (h : RefD w S B d) (hb : Below w.heap.size w w') : RefD w' S B d := h.keep (keeps_below hb Non) (fun _ _ h => h)
def RMoves (w : World) (S : Nat → Prop) (B : Nat) (d' : Dsk) (w' : World) : Prop := ∃ S', RHas w' S' B d' ∧ Fresh S w.heap.size S' ∧ Keeps S w w'
def RTurns (w : World) (S : Nat → Prop) (B : Nat) (d' : Dsk) (w' : World) : Prop := ∃ S', RefD w' S' B d' ∧ Fresh S w.heap.size S' ∧ Keeps S w w'

theorem RMoves.turns {w w' : World} {S : Nat → Prop} {B : Nat} {d' : Dsk} (h : RMoves w S B d' w') (hi : Inv d') : RTurns w S B d' w' := by
  obtain ⟨S', h1, h2⟩ := h
  exact ⟨S', ⟨hi, h1⟩, h2⟩
theorem RMoves.trans {w w1 w2 : World} {S S1 : Nat → Prop} {B : Nat} {d2 : Dsk} (hf : Fresh S w.heap.size S1) (hk : Keeps S w w1) (h : RMoves w1 S1 B d2 w2) : RMoves w S B d2 w2 := by
  obtain ⟨S2, h1, h2, h3⟩ := h
  exact ⟨S2, h1, fresh_trans hf h2 hk.size, hk.trans h3 hf⟩

/-- Its row of files as the walks read it. -/
theorem RefAt.fils {w : World} {S : Nat → Prop} {B : Nat} {d : Dsk} {lv : Value} {ta : Option Addr} {tn tc : Nat} {Sd St : Nat → Prop} (h : RefAt w S B d lv ta tn tc Sd St) :
    ∃ a c, lv = .slice a d.L.length c ∧ Fils w S a (d.L.map toI) ∧ (a = none → c = 0) ∧ d.L.length ≤ c ∧ c ≤ maxLen := by
  obtain ⟨cells, h1, h2⟩ := h.row
  have hl : (d.L.map toI).length = d.L.length := List.length_map _
  obtain ⟨a, c, h3, h4, h5, h6, h7⟩ := fils_of_owns (S := S) (base := 0) (v := lv) (L := d.L.map toI) (cells := cells) (h2.mono (fun k e => (h.sD k e).1)) (by rw [hl]; exact h1) h.sR
  rw [hl] at h3 h6
  exact ⟨a, c, h3, h4, h5, h6, h7⟩

/-! ### where a file stands -/
def ixF (n : ByteArray) : List Fil → Nat → Int
  | [], _ => -1
  | f :: L, i => if f.name = n then (i : Int) else ixF n L (i + 1)
theorem ixF_drop {n : ByteArray} {L : List Fil} {i : Nat} {f : Fil} (hf : L[i]? = some f) : ixF n (L.drop i) i = if f.name = n then (i : Int) else ixF n (L.drop (i + 1)) (i + 1) := by
  obtain ⟨h1, rfl⟩ := List.getElem?_eq_some_iff.1 hf
  rw [List.drop_eq_getElem_cons h1]
  rfl
theorem ixF_none {n : ByteArray} : ∀ {L : List Fil} {i : Nat}, fnd n L = none → ixF n L i = -1
  | [], _, _ => rfl
  | f :: L, i, h => by
    have hn := fnd_none h
    unfold ixF
    rw [if_neg (hn f (List.mem_cons_self ..))]
    refine ixF_none ?_
    unfold fnd at h ⊢
    rw [List.find?_cons, decide_eq_false (hn f (List.mem_cons_self ..))] at h
    exact h
theorem ixF_some {n : ByteArray} : ∀ {L : List Fil} {i : Nat} {f : Fil}, fnd n L = some f → ∃ j : Nat, ixF n L i = ((i + j : Nat) : Int) ∧ L[j]? = some f
  | [], _, f, h => by simp [fnd] at h
  | g :: L, i, f, h => by
    unfold ixF
    by_cases hg : g.name = n
    · rw [if_pos hg]
      unfold fnd at h
      rw [List.find?_cons, decide_eq_true hg] at h
      exact ⟨0, rfl, by simpa using h⟩
    · rw [if_neg hg]
      unfold fnd at h
      rw [List.find?_cons, decide_eq_false hg] at h
      obtain ⟨j, h1, h2⟩ := ixF_some (i := i + 1) (show fnd n L = some f from h)
      exact ⟨j + 1, by rw [h1]; congr 1; omega, by simpa using h2⟩

set_option maxRecDepth 100000 in
set_option maxHeartbeats 4000000 in
theorem rat_any (s : ByteArray) (w : World) {S : Nat → Prop} {B : Nat} {d : Dsk} (hd : RHas w S B d) (hmost : d.L.length ≤ 1000) : Calls Tryz.prog 36 #[.pointer (some ⟨B, 0, none⟩), .string s] w fun e w' => e = .returned (.int .i64 (ixF s d.L 0)) ∧ w = w' := by
  obtain ⟨_, lv, ta, tn, tc, Sd, St, h⟩ := hd
  obtain ⟨la, lc, rfl, hf, _, _, _⟩ := h.fils
  obtain ⟨n, hn⟩ : ∃ n, d.L.length = n := ⟨_, rfl⟩
  obtain ⟨q, hq⟩ : ∃ q, ixF s d.L 0 = q := ⟨_, rfl⟩
  have b1 : w.cell? ⟨B, 1, none⟩ = some (.slice la d.L.length lc) := (cell_of_block h.blk 1).trans rfl
  rw [hn] at hmost b1
  rw [hq]
  have HN := Lib.hid hn
  have HQ := Lib.hid hq
  have HF := Lib.hid hf
  clear h hn hq hf
  go_enter Tryz.func36, Tryz.ntmps36
  go_wp2
  go_loopg [5] n (fun g idx wr => ∃ (i : Nat), idx = .int .i64 (i : Int) ∧ g + i = n ∧ ixF s (d.L.drop i) i = q ∧ wr = w)
  case atStart => exact ⟨0, rfl, rfl, HQ.out, rfl⟩
  case round =>
    obtain ⟨i, rfl, hg, hq, rfl⟩ := hrel
    have HG := Lib.hid hg
    have HE := Lib.hid hq
    clear hg hq HQ
    by_cases hlt : i < n
    · obtain ⟨g', rfl⟩ : ∃ g', gk = g' + 1 := ⟨gk - 1, by have := HG.out; omega⟩
      have hdd : decide ((i : Int) < (n : Int)) = true := by simp; omega
      obtain ⟨f, hf⟩ : ∃ x, d.L[i]? = some x := ⟨d.L[i]'(by rw [HN.out]; exact hlt), List.getElem?_eq_getElem _⟩
      have hst := ixF_drop (n := s) hf
      rw [HE.out] at hst
      have hfi : (d.L.map toI)[i]? = some (toI f) := by rw [List.getElem?_map, hf]; rfl
      obtain ⟨b, o, da, dc, rfl, _, r0, _⟩ := fils_at HF.out hfi
      have r0' : wr.cell? ⟨b, o + i * 3, none⟩ = some (.string f.name) := r0
      have HST := Lib.hid hst
      clear r0 hst hf hfi
      by_cases hnm : f.name = s
      · have H : Hid (q = (i : Int)) := Lib.hid (by have := HST.out; rw [if_pos hnm] at this; exact this)
        rw [hnm] at r0'
        have hee : (s.toList == s.toList) = true := by simp
        clear hnm HST
        go_wp2
        go_ret
        exact ⟨by rw [H.out]; rfl, rfl⟩
      · have H : Hid (ixF s (d.L.drop (i + 1)) (i + 1) = q) := Lib.hid (by have := HST.out; rw [if_neg hnm] at this; exact this.symm)
        have hne : (f.name.toList == s.toList) = false := by
          rw [ByteArray.toList_eq, ByteArray.toList_eq]
          have := same_is f.name s
          rw [decide_eq_false hnm] at this
          exact this
        clear hnm HST
        go_wp2
        go_roundg g'
        case measure => omega
        case rel => exact ⟨i + 1, by go_num, by have := HG.out; omega, H.out, rfl⟩
    · have hdd : decide ((i : Int) < (n : Int)) = false := by simp; omega
      have H : Hid (q = -1) := Lib.hid (by
        rw [← HE.out, List.drop_eq_nil_of_le (by rw [HN.out]; omega)]
        rfl)
      go_wp2
      go_ret
      exact ⟨by rw [H.out]; rfl, rfl⟩

theorem rat_calls (s : ByteArray) (w : World) {S : Nat → Prop} {B : Nat} {d : Dsk} (hd : RefD w S B d) : Calls Tryz.prog 36 #[.pointer (some ⟨B, 0, none⟩), .string s] w fun e w' => e = .returned (.int .i64 (ixF s d.L 0)) ∧ w = w' :=
  rat_any s w hd.2 (by have := hd.1.most; omega)

theorem used_drop {L : List Fil} {i : Nat} {f : Fil} (hi : L[i]? = some f) : used (L.drop i) = f.data.length + used (L.drop (i + 1)) := by
  obtain ⟨h1, rfl⟩ := List.getElem?_eq_some_iff.1 hi
  rw [List.drop_eq_getElem_cons h1]
  rfl

set_option maxRecDepth 100000 in
set_option maxHeartbeats 4000000 in
theorem rused_any (w : World) {S : Nat → Prop} {B : Nat} {d : Dsk} (hd : RHas w S B d) (hmost : d.L.length ≤ 1000) (hu : used d.L ≤ 1073741824) : Calls Tryz.prog 39 #[.pointer (some ⟨B, 0, none⟩)] w fun e w' => e = .returned (.int .i64 (used d.L : Int)) ∧ w = w' := by
  obtain ⟨_, lv, ta, tn, tc, Sd, St, h⟩ := hd
  obtain ⟨la, lc, rfl, hf, _, _, _⟩ := h.fils
  obtain ⟨n, hn⟩ : ∃ n, d.L.length = n := ⟨_, rfl⟩
  obtain ⟨q, hq⟩ : ∃ q, used d.L = q := ⟨_, rfl⟩
  have b1 : w.cell? ⟨B, 1, none⟩ = some (.slice la d.L.length lc) := (cell_of_block h.blk 1).trans rfl
  rw [hn] at hmost b1
  rw [hq] at hu ⊢
  have HN := Lib.hid hn
  have HQ := Lib.hid hq
  have HF := Lib.hid hf
  clear h hn hq hf
  go_enter Tryz.func39, Tryz.ntmps39
  go_wp2
  go_loopg [3, 4] n (fun g acc idx wr => ∃ (i m : Nat), idx = .int .i64 (i : Int) ∧ acc = .int .i64 (m : Int) ∧ g + i = n ∧ m + used (d.L.drop i) = q ∧ wr = w)
  case atStart => exact ⟨0, 0, rfl, rfl, rfl, by rw [Nat.zero_add]; exact HQ.out, rfl⟩
  case round =>
    obtain ⟨i, m, rfl, rfl, hg, hq, rfl⟩ := hrel
    have HG := Lib.hid hg
    have HE := Lib.hid hq
    clear hg hq HQ
    by_cases hlt : i < n
    · obtain ⟨g', rfl⟩ : ∃ g', gk = g' + 1 := ⟨gk - 1, by have := HG.out; omega⟩
      have hdd : decide ((i : Int) < (n : Int)) = true := by simp; omega
      obtain ⟨f, hf⟩ : ∃ x, d.L[i]? = some x := ⟨d.L[i]'(by rw [HN.out]; exact hlt), List.getElem?_eq_getElem _⟩
      have hst := used_drop hf
      have hfi : (d.L.map toI)[i]? = some (toI f) := by rw [List.getElem?_map, hf]; rfl
      obtain ⟨b, o, da, dc, rfl, _, _, r1, _⟩ := fils_at HF.out hfi
      have r1' : wr.cell? ⟨b, o + i * 3 + 1, none⟩ = some (.slice da f.data.length dc) := r1
      obtain ⟨z, hz⟩ : ∃ z, f.data.length = z := ⟨_, rfl⟩
      rw [hz] at r1' hst
      have hmz : m + z ≤ 1073741824 := by have := HE.out; omega
      have HST := Lib.hid hst
      clear r1 hst hf hfi hz
      go_wp2
      go_roundg g'
      case measure => omega
      case rel => exact ⟨i + 1, m + z, by go_num, by go_num, by have := HG.out; omega, by have := HE.out; have := HST.out; omega, rfl⟩
    · have hdd : decide ((i : Int) < (n : Int)) = false := by simp; omega
      have H : Hid (m = q) := Lib.hid (by
        have := HE.out
        rw [List.drop_eq_nil_of_le (by rw [HN.out]; omega)] at this
        simpa [used] using this)
      go_wp2
      go_ret
      exact ⟨by rw [← H.out]; rfl, rfl⟩

theorem rused_calls (w : World) {S : Nat → Prop} {B : Nat} {d : Dsk} (hd : RefD w S B d) (hu : used d.L ≤ 1073741824) : Calls Tryz.prog 39 #[.pointer (some ⟨B, 0, none⟩)] w fun e w' => e = .returned (.int .i64 (used d.L : Int)) ∧ w = w' :=
  rused_any w hd.2 (by have := hd.1.most; omega) hu

def RBorn (d : Dsk) (w : World) (e : Ending) (w' : World) : Prop := ∃ B S, e = .returned (.pointer (some ⟨B, 0, none⟩)) ∧ RefD w' S B d ∧ Fresh Non w.heap.size S ∧ Below w.heap.size w w'

theorem inv_dsk0 {room : Int} (h1 : room ≤ 9223372036854775807) : Inv (dsk0 room) :=
  ⟨by show 0 ≤ max room 0; omega, by show max room 0 ≤ _; omega, List.Pairwise.nil, Nat.zero_le _, (fun f hf => by cases hf), (fun f hf => by cases hf), (fun f hf => by cases hf), by show ((0 : Nat) : Int) ≤ max room 0; omega⟩

set_option maxRecDepth 100000 in
theorem rnew_calls (room : Int) (w : World) (h1 : room ≤ 9223372036854775807) : Calls Tryz.prog 35 #[.int .i64 room] w (RBorn (dsk0 room) w) := by
  have hi := inv_dsk0 h1
  obtain ⟨R, hR⟩ : ∃ R, max room 0 = R := ⟨_, rfl⟩
  have H : Hid (RBorn (dsk0 room) w (.returned (.pointer (some ⟨w.heap.size, 0, none⟩))) (w.alloc (.cells #[.int .i64 R, .slice none 0 0, .slice none 0 0, .int .i64 0, .bool false] 54))) := Lib.hid (by
    refine ⟨w.heap.size, One w.heap.size, rfl, ⟨hi, fun k e => by rw [show k = w.heap.size from e]; simp, .slice none 0 0, none, 0, 0, Non, Non, ?_⟩, fun k hk => .inr (Nat.le_of_eq (show k = w.heap.size from hk).symm), (Below.refl _ w).alloc (Nat.le_refl _) _⟩
    exact {
      blk := by rw [heap_alloc_new, ← hR]; rfl
      row := ⟨[], World.ownsRow_nil _ _ _ _, FCells.nil _ _⟩
      tro := .inl rfl
      trn := rfl
      sB := rfl
      sR := fun k e => by cases e
      sD := fun k e => e.elim
      sT := fun k e => e.elim })
  clear hi h1
  by_cases hr : room < 0
  · have hd : decide (room < 0) = true := by simpa using hr
    obtain rfl : 0 = R := by omega
    clear hr hR
    go_enter Tryz.func35, Tryz.ntmps35
    go_wp2
    go_ret
    exact H.out
  · have hd : decide (room < 0) = false := by simpa using hr
    obtain rfl : room = R := by omega
    clear hr hR
    go_enter Tryz.func35, Tryz.ntmps35
    go_wp2
    go_ret
    exact H.out

end Go.Proofs.YtacfcfbleogioaaGreatDoor

namespace Go.Proofs.YtacfcfbleogioaaGreatDoor
open Go.RowKit Go.Lib Go.Joins

def ltF (a b : ByteArray) (i : Nat) : Bool := decide (a.data.toList.drop i < b.data.toList.drop i)
theorem ltF_step {a b : ByteArray} {i : Nat} (ha : i < a.size) (hb : i < b.size) : ltF a b i = if a[i] = b[i] then ltF a b (i + 1) else decide (a[i].toNat < b[i].toNat) := by
  unfold ltF
  rw [drop_at ha, drop_at hb]
  split
  · next h =>
    rw [Bool.eq_iff_iff, h]
    simp
  · next h =>
    rw [Bool.eq_iff_iff]
    simp [List.cons_lt_cons_iff, h, UInt8.lt_iff_toNat_lt]
theorem ltF_end {a b : ByteArray} {i : Nat} (ha : i ≤ a.size) (hb : i ≤ b.size) (h : i = a.size ∨ i = b.size) : ltF a b i = decide (a.size < b.size) := by
  unfold ltF
  by_cases h1 : i = a.size
  · rw [List.drop_eq_nil_of_le (by rw [Array.length_toList]; exact Nat.le_of_eq h1.symm)]
    by_cases h2 : i < b.size
    · rw [drop_at h2, Bool.eq_iff_iff]
      simp
      omega
    · rw [List.drop_eq_nil_of_le (by rw [Array.length_toList]; exact Nat.le_of_not_lt h2), Bool.eq_iff_iff]
      simp
      omega
  · have h2 : i = b.size := by rcases h with h | h; exact absurd h h1; exact h
    have hbn : b.data.toList.drop i = [] := List.drop_eq_nil_of_le (by rw [Array.length_toList]; exact Nat.le_of_eq h2.symm)
    rw [hbn, Bool.eq_iff_iff]
    simp
    omega

set_option maxRecDepth 100000 in
set_option maxHeartbeats 4000000 in
theorem rless_calls (a b : ByteArray) (w : World) (ha : a.size ≤ 1099511627776) (_hb : b.size ≤ 1099511627776) : Calls Tryz.prog 83 #[.string a, .string b] w (Tells (.bool (nlt a b)) w) := by
  obtain ⟨q, hq⟩ : ∃ q, nlt a b = q := ⟨_, rfl⟩
  rw [hq]
  have HQ : Hid (ltF a b 0 = q) := Lib.hid hq
  clear hq
  go_enter Tryz.func83, Tryz.ntmps83
  go_wp2
  go_loopg [5] a.size (fun g idx wr => ∃ (i k : Nat), idx = .int .i64 (i : Int) ∧ g + i = a.size ∧ i ≤ b.size ∧ ltF a b i = q ∧ wr = w.drewN k)
  case atStart => exact ⟨0, 0, rfl, rfl, Nat.zero_le _, HQ.out, rfl⟩
  case round =>
    obtain ⟨i, k, rfl, hg, hib, hq, rfl⟩ := hrel
    have HG := Lib.hid hg
    have HE := Lib.hid hq
    have HIB := Lib.hid hib
    clear hg hq HQ hib
    by_cases hla : i < a.size
    · have hda : decide ((i : Int) < (a.size : Int)) = true := by simp; omega
      by_cases hlb : i < b.size
      · have hdb : decide ((i : Int) < (b.size : Int)) = true := by simp; omega
        obtain ⟨g', rfl⟩ : ∃ g', gk = g' + 1 := ⟨gk - 1, by have := HG.out; omega⟩
        have hst := ltF_step hla hlb
        rw [HE.out] at hst
        obtain ⟨x, hx⟩ : ∃ x, a[i] = x := ⟨_, rfl⟩
        obtain ⟨y, hy⟩ : ∃ y, b[i] = y := ⟨_, rfl⟩
        rw [hx, hy] at hst
        by_cases hxy : x = y
        · have H : Hid (ltF a b (i + 1) = q) := Lib.hid (by rw [if_pos hxy] at hst; exact hst.symm)
          subst hxy
          clear hst
          go_wp2
          go_quiet (fail)
          go_wp2
          go_roundg g'
          case measure => omega
          case rel => exact ⟨i + 1, _, by go_num, by have := HG.out; omega, by omega, H.out, rfl⟩
        · have hne : ((x.toNat : Int) != (y.toNat : Int)) = true := by
            have : x.toNat ≠ y.toNat := fun e => hxy (UInt8.toNat_inj.1 e)
            simp; omega
          have hne2 : ((x.toNat : Int) == (y.toNat : Int)) = false := by
            have : x.toNat ≠ y.toNat := fun e => hxy (UInt8.toNat_inj.1 e)
            simp; omega
          have H : Hid (q = decide (x.toNat < y.toNat)) := Lib.hid (by rw [if_neg hxy] at hst; exact hst)
          clear hst
          go_wp2
          go_quiet (fail)
          go_wp2
          go_quiet (fail)
          go_wp2
          go_ret
          exact ⟨by rw [H.out]; rfl, _, by rw [World.drewN_drewN, World.drewN_drewN]⟩
      · have hdb : decide ((i : Int) < (b.size : Int)) = false := by simp; omega
        have hend := ltF_end (i := i) (a := a) (b := b) (by omega) HIB.out (.inr (by have := HIB.out; omega))
        have H : Hid (q = decide (a.size < b.size)) := Lib.hid (by rw [← hend]; exact HE.out.symm)
        clear hend
        go_wp2
        go_ret
        exact ⟨by rw [H.out]; rfl, k, rfl⟩
    · have hda : decide ((i : Int) < (a.size : Int)) = false := by simp; omega
      have hend := ltF_end (i := i) (a := a) (b := b) (by have := HG.out; omega) HIB.out (.inl (by have := HG.out; omega))
      have H : Hid (q = decide (a.size < b.size)) := Lib.hid (by rw [← hend]; exact HE.out.symm)
      clear hend
      go_wp2
      go_ret
      exact ⟨by rw [H.out]; rfl, k, rfl⟩

end Go.Proofs.YtacfcfbleogioaaGreatDoor
namespace Go.Proofs.YtacfcfbleogioaaGreatDoor
open Go.RowKit Go.Lib Go.Joins

/-- A copy of bytes: append to an empty row. -/
theorem copy_row {W : World} {S : Nat → Prop} {a : Option Addr} {l : List Nat} {c : Nat} (hr : Row W S a l) (hc : a = none → c = 0) (hl : l.length ≤ 1073741824) {N : Nat} (hN : W.heap.size = N) :
    ∃ v' w', (∀ ty, (Builtin.append_ #[61, 61] ty #[.slice (some ⟨N, 0, none⟩) 0 0, .slice a l.length c]).run Tryz.prog (W.alloc (.cells #[] 5)) = .ok v' w') ∧ w'.ownsRow 0 5 1 v' l.length (cellsN l) ∧ (∀ k, v'.ownBlock = some k → W.heap.size ≤ k) ∧ Below W.heap.size W w' := by
  subst hN
  have hb : Below W.heap.size W (W.alloc (.cells #[] 5)) := (Below.refl _ W).alloc (Nat.le_refl _) _
  have hown : (W.alloc (.cells #[] 5)).ownsRow 0 5 1 (.slice (some ⟨W.heap.size, 0, none⟩) 0 0) 0 [] := World.ownsRow_lit W #[] 0 (Nat.zero_le _) (Nat.zero_le _) rfl
  obtain ⟨v', w', h1, h2, h3, h4⟩ := append_run hown rfl (hr.below hb) hc (by omega)
  refine ⟨v', w', h1, by rw [Nat.zero_add, List.nil_append] at h2; exact h2, fun k e => ?_, ?_⟩
  · rcases h4 k e with h5 | h5
    · have : W.heap.size = k := Option.some.inj h5
      omega
    · simp at h5; omega
  · have hk : Keeps Non W w' := ((Keeps.refl Non W).alloc _).grown h3 (fun k e => .inr (by have : W.heap.size = k := Option.some.inj e; omega))
    exact hk.toBelow (Nat.le_refl _) (fun _ h => h.elim)

set_option maxRecDepth 100000 in
set_option maxHeartbeats 4000000 in
theorem rread_calls (s : ByteArray) (w : World) {S : Nat → Prop} {B : Nat} {d : Dsk} (hd : RefD w S B d) (hu : used d.L ≤ 1073741824) : Calls Tryz.prog 65 #[.pointer (some ⟨B, 0, none⟩), .string s] w (ReadAny (fnd s d.L) w) := by
  have HAT := Lib.hid (rat_calls s w hd)
  obtain ⟨hi, _, lv, ta, tn, tc, Sd, St, h⟩ := hd
  obtain ⟨la, lc, rfl, hf, _, _, _⟩ := h.fils
  have hmost := hi.most
  cases hfn : fnd s d.L with
  | none =>
    rw [ixF_none hfn] at HAT
    clear h hi hf hmost
    go_enter Tryz.func65, Tryz.ntmps65
    go_wp2_with fail
    with_reducible refine HAT.out.mono ?_
    rintro e w1 ⟨rfl, rfl⟩
    go_wp2
    go_ret2
    exact ⟨none, 0, Non, rfl, ⟨(fun c hc => by cases hc), Or.inl rfl⟩, fun k hk => hk.elim, Below.refl _ _⟩
  | some f =>
    obtain ⟨j, hj, hfj⟩ := ixF_some (i := 0) hfn
    rw [hj, Nat.zero_add] at HAT
    have hjl : j < d.L.length := (List.getElem?_eq_some_iff.1 hfj).1
    have hfi : (d.L.map toI)[j]? = some (toI f) := by rw [List.getElem?_map, hfj]; rfl
    obtain ⟨b, o, da, dc, rfl, _, _, r1, _, hrow, hn0, _, _⟩ := fils_at hf hfi
    have hlen : f.data.length ≤ 1073741824 := Nat.le_trans (used_mem (fnd_some hfn).1) hu
    have hrow' : Row w S da f.data := hrow
    obtain ⟨W1, hW1⟩ : ∃ W1, w.alloc (.cells #[] 5) = W1 := ⟨_, rfl⟩
    have hbW : Below w.heap.size w W1 := by rw [← hW1]; exact (Below.refl _ w).alloc (Nat.le_refl _) _
    obtain ⟨v', w', hrun, hown, hnew, hbel⟩ := copy_row hrow' hn0 hlen (N := w.heap.size) rfl
    rw [hW1] at hrun
    have b1 : w.cell? ⟨B, 1, none⟩ = some (.slice (some ⟨b, o, none⟩) d.L.length lc) := (cell_of_block h.blk 1).trans rfl
    have b2 : W1.cell? ⟨B, 1, none⟩ = some (.slice (some ⟨b, o, none⟩) d.L.length lc) := (cell_of_block (block_below hbW h.blk) 1).trans rfl
    have r1' : w.cell? ⟨b, o + j * 3 + 1, none⟩ = some (.slice da f.data.length dc) := r1
    have r2 : W1.cell? ⟨b, o + j * 3 + 1, none⟩ = some (.slice da f.data.length dc) := (World.cell?_of_block (a := ⟨b, o + j * 3 + 1, none⟩) (hbW.block b (lt_of_cell r1'))).trans r1'
    obtain ⟨a2, c2, hv2, hrow2, _⟩ := (row_of_own (hi.byte f (fnd_some hfn).1) rfl hown).is
    have hlt2 : ∀ k, v'.ownBlock = some k → w.heap.size ≤ k ∧ k < w'.heap.size := fun k e => ⟨hnew k e, (hown.lt k e).2⟩
    have HOUT : Hid (ReadAny (some f) w (.returned (.tuple #[v', .int .i64 0])) w') := Lib.hid ⟨a2, c2, _, by rw [hv2]; rfl, hrow2, hlt2, hbel⟩
    subst hv2
    have HRUN := Lib.hid hrun
    obtain ⟨n, hn⟩ : ∃ n, d.L.length = n := ⟨_, rfl⟩
    obtain ⟨fl, hfl⟩ : ∃ fl, f.data.length = fl := ⟨_, rfl⟩
    rw [hn] at b1 b2 hmost hjl
    rw [hfl] at r1' r2 HRUN HOUT
    clear h hi hf hfn hfj hfi hrow hrow' hown hnew hbel hrow2 hlt2 hrun hbW hlen r1 hj
    go_enter Tryz.func65, Tryz.ntmps65
    go_wp2_with fail
    with_reducible refine HAT.out.mono ?_
    rintro e w1 ⟨rfl, rfl⟩
    go_wp2_with (at_builtin; refine wpList_step (fun K hK => step_append rfl _ _ 61 rfl _ _ _ rfl rfl HRUN.out (hK _ _ ?_)))
    go_ret2
    exact HOUT.out

end Go.Proofs.YtacfcfbleogioaaGreatDoor
namespace Go.Proofs.YtacfcfbleogioaaGreatDoor
open Go.RowKit Go.Lib Go.Joins

/-- Troubles as cells. -/
def cellsT (l : List Tro) : List Value := l.flatMap (fun t => [.int .i64 t.at_, .int .i64 t.kind, .int .i64 t.part])
theorem cellsT_len (l : List Tro) : (cellsT l).length = l.length * 3 := by
  induction l with
  | nil => rfl
  | cons t l ih =>
    unfold cellsT at ih ⊢
    rw [List.flatMap_cons, List.length_append, ih, List.length_cons]
    simp only [List.length_cons, List.length_nil]
    omega
theorem cellsT_at : ∀ (l : List Tro) (i : Nat) (t : Tro), l[i]? = some t → (cellsT l)[i * 3]? = some (.int .i64 t.at_) ∧ (cellsT l)[i * 3 + 1]? = some (.int .i64 t.kind) ∧ (cellsT l)[i * 3 + 2]? = some (.int .i64 t.part)
  | u :: l, 0, t, h => by
    obtain rfl : u = t := by simpa using h
    exact ⟨rfl, rfl, rfl⟩
  | u :: l, i + 1, t, h => by
    obtain ⟨h0, h1, h2⟩ := cellsT_at l i t (by simpa using h)
    refine ⟨?_, ?_, ?_⟩
    · show (_ :: _ :: _ :: cellsT l)[(i + 1) * 3]? = _
      rw [show (i + 1) * 3 = i * 3 + 1 + 1 + 1 by omega, List.getElem?_cons_succ, List.getElem?_cons_succ, List.getElem?_cons_succ]
      exact h0
    · show (_ :: _ :: _ :: cellsT l)[(i + 1) * 3 + 1]? = _
      rw [show (i + 1) * 3 + 1 = (i * 3 + 1) + 1 + 1 + 1 by omega, List.getElem?_cons_succ, List.getElem?_cons_succ, List.getElem?_cons_succ]
      exact h1
    · show (_ :: _ :: _ :: cellsT l)[(i + 1) * 3 + 2]? = _
      rw [show (i + 1) * 3 + 2 = (i * 3 + 2) + 1 + 1 + 1 by omega, List.getElem?_cons_succ, List.getElem?_cons_succ, List.getElem?_cons_succ]
      exact h2
  | [], i, t, h => by simp at h
theorem cellsT_mem {l : List Tro} {u : Value} (h : u ∈ cellsT l) : u.oneCell' = true := by
  unfold cellsT at h
  obtain ⟨t, _, ht⟩ := List.mem_flatMap.1 h
  simp at ht
  rcases ht with rfl | rfl | rfl <;> rfl
theorem rowT_cells {w : World} {S : Nat → Prop} {b : Addr} {l : List Tro} (hr : RowT w S (some b) l) : ∀ j u, (cellsT l)[j]? = some u → w.cell? (b.add j) = some u := by
  intro j u hj
  have hjl : j < l.length * 3 := by rw [← cellsT_len]; exact (List.getElem?_eq_some_iff.1 hj).1
  rcases hr with h0 | ⟨b2, o2, he, _, hcell⟩
  · rw [h0] at hjl; simp at hjl
  · obtain rfl := Option.some.inj he
    rw [Addr.add_mid]
    have hi : j / 3 < l.length := by omega
    obtain ⟨e0, e1, e2⟩ := cellsT_at l (j / 3) l[j / 3] (List.getElem?_eq_getElem hi)
    obtain ⟨c0, c1, c2⟩ := hcell (j / 3) l[j / 3] (List.getElem?_eq_getElem hi)
    rcases (show j = j / 3 * 3 ∨ j = j / 3 * 3 + 1 ∨ j = j / 3 * 3 + 2 by omega) with e | e | e
    · rw [e] at hj ⊢
      rw [e0] at hj
      rw [← hj]; exact c0
    · rw [e] at hj ⊢
      rw [e1] at hj
      rw [← hj, ← Nat.add_assoc]; exact c1
    · rw [e] at hj ⊢
      rw [e2] at hj
      rw [← hj, ← Nat.add_assoc]; exact c2

theorem append_any_none0 {w : World} {t e size : Nat} {z : Value} {bytes : Nat} (ht : Tryz.prog.underlying t = some (.slice e)) (hinfo : (Tryz.prog.info? e).map (fun i => (i.zero, i.size, i.bytes)) = some (some z, size, bytes))
    {v : Value} {n : Nat} {xs : List Value} (hown : w.ownsRow 0 e size v n xs) (c : Nat) : ∀ ty, (Builtin.append_ #[t, t] ty #[v, .slice none 0 c]).run Tryz.prog w = .ok v w := by
  obtain ⟨i5, hi5, hj50, hj51, hj52⟩ := info_parts hinfo
  intro ty
  rcases hown.2 with ⟨rfl, rfl⟩ | ⟨g, cap, cur, rfl, _, _, hnc, _⟩
  · simp [Builtin.append_, run_underlying ht, sizeOf, typeInfo, hi5, Builtin.lenOf, Builtin.firstCells]
  · simp [Builtin.append_, run_underlying ht, sizeOf, typeInfo, hi5, Builtin.lenOf, Builtin.firstCells, hnc, storeCells]

/-- A copy of troubles: append to an empty row. -/
theorem copy_tro {W : World} {S : Nat → Prop} {a : Option Addr} {l : List Tro} {c : Nat} (hr : RowT W S a l) (hl : l.length ≤ 1048576) {N : Nat} (hN : W.heap.size = N) :
    ∃ a' c' S' w', (∀ ty, (Builtin.append_ #[26, 26] ty #[.slice (some ⟨N, 0, none⟩) 0 0, .slice a l.length c]).run Tryz.prog (W.alloc (.cells #[] 95)) = .ok (.slice a' l.length c') w') ∧ RowT w' S' a' l ∧ (∀ k, S' k → W.heap.size ≤ k ∧ k < w'.heap.size) ∧ Below W.heap.size W w' := by
  subst hN
  have hb : Below W.heap.size W (W.alloc (.cells #[] 95)) := (Below.refl _ W).alloc (Nat.le_refl _) _
  have hown : (W.alloc (.cells #[] 95)).ownsRow 0 95 3 (.slice (some ⟨W.heap.size, 0, none⟩) 0 0) 0 [] := World.ownsRow_lit W #[] 0 (Nat.zero_le _) (Nat.zero_le _) rfl
  cases a with
  | none =>
    obtain rfl : l = [] := by
      rcases hr with h | ⟨b, o, h, _⟩
      · exact h
      · cases h
    exact ⟨some ⟨W.heap.size, 0, none⟩, 0, Non, _, append_any_none0 Tryz.underlying26 info92 hown c, .inl rfl, fun k h => h.elim, hb⟩
  | some b =>
    have hr' : RowT (W.alloc (.cells #[] 95)) S (some b) l := hr.keep (keeps_below hb Non) (fun _ _ h => h)
    obtain ⟨v', w', h1, h2, h3, h4⟩ := append_any (m := l.length) (c := c) (news := cellsT l) Tryz.underlying26 info92 rfl (by decide) hown (cellsT_len l) (rowT_cells hr') (fun u hu => cellsT_mem hu) (by unfold maxLen; omega) (by omega)
    rw [Nat.zero_add, List.nil_append] at h2
    obtain ⟨a', c', rfl⟩ := dv_form2 h2
    have hnew : ∀ k, (Value.slice a' (0 + l.length) c').ownBlock = some k → W.heap.size ≤ k := fun k e => by
      rcases h4 k (by rw [Nat.zero_add] at e; exact e) with h5 | h5
      · have : W.heap.size = k := Option.some.inj h5
        omega
      · simp at h5; omega
    rw [Nat.zero_add] at hnew
    refine ⟨a', c', fun k => (Value.slice a' l.length c').ownBlock = some k, w', h1, ?_, fun k e => ⟨hnew k e, (h2.lt k e).2⟩, ?_⟩
    · rcases h2.2 with ⟨e1, e0⟩ | ⟨g, cap, cur, e1, _⟩
      · exact .inl (List.length_eq_zero_iff.1 e0)
      · obtain ⟨rfl, _, _⟩ := Value.slice.inj e1
        refine .inr ⟨g, 0, rfl, rfl, fun i t hi => ?_⟩
        obtain ⟨q0, q1, q2⟩ := cellsT_at l i t hi
        have p0 := h2.cells (g := g) rfl _ _ q0
        have p1 := h2.cells (g := g) rfl _ _ q1
        have p2 := h2.cells (g := g) rfl _ _ q2
        rw [Addr.add_mid] at p0 p1 p2
        exact ⟨p0, by rw [Nat.add_assoc]; exact p1, by rw [Nat.add_assoc]; exact p2⟩
    · have hk : Keeps Non W w' := ((Keeps.refl Non W).alloc _).grown h3 (fun k e => .inr (by have : W.heap.size = k := Option.some.inj e; omega))
      exact hk.toBelow (Nat.le_refl _) (fun _ h => h.elim)

def RArmOut (w : World) (S : Nat → Prop) (B : Nat) (d' : Dsk) (e : Ending) (w' : World) : Prop := e = .returned (.tuple #[]) ∧ RTurns w S B d' w'

set_option maxRecDepth 100000 in
set_option maxHeartbeats 4000000 in
theorem rarm_calls (a : Option Addr) (l : List Tro) (c : Nat) (w : World) {S S0 : Nat → Prop} {B : Nat} {d : Dsk} (hd : RefD w S B d) (hr : RowT w S0 a l) (hl : l.length ≤ 1048576) :
    Calls Tryz.prog 18 #[.pointer (some ⟨B, 0, none⟩), .slice a l.length c] w (RArmOut w S B (arm l d)) := by
  obtain ⟨hi, hSlt, lv, ta, tn, tc, Sd, St, h⟩ := hd
  obtain ⟨a', c', S', w', hrun, hT, hS', hbel⟩ := copy_tro (c := c) hr hl (N := w.heap.size) rfl
  have hblk := block_below hbel h.blk
  have hblt := lt_of_block h.blk
  have k2 := unfrozen_of_block hblk 2
  have k3 := unfrozen_of_block hblk 3
  have c2 : w'.cell? ⟨B, 2, none⟩ = some (.slice ta tn tc) := (cell_of_block hblk 2).trans rfl
  have c3 : w'.cell? ⟨B, 3, none⟩ = some (.int .i64 d.ops) := (cell_of_block hblk 3).trans rfl
  obtain ⟨n, hn⟩ : ∃ n, l.length = n := ⟨_, rfl⟩
  rw [hn] at hrun ⊢
  have hk2 : Keeps (One B) w' ((w'.setCell ⟨B, 2, none⟩ (.slice a' n c')).setCell ⟨B, 3, none⟩ (.int .i64 0)) := ((Keeps.refl (One B) w').setCell (p := ⟨B, 2, none⟩) (.inl rfl) _).setCell (p := ⟨B, 3, none⟩) (.inl rfl) _
  have hk : Keeps (One B) w ((w'.setCell ⟨B, 2, none⟩ (.slice a' n c')).setCell ⟨B, 3, none⟩ (.int .i64 0)) := ((keeps_below hbel (One B)).setCell (p := ⟨B, 2, none⟩) (.inl rfl) _).setCell (p := ⟨B, 3, none⟩) (.inl rfl) _
  have H : Hid (RTurns w S B (arm l d) ((w'.setCell ⟨B, 2, none⟩ (.slice a' n c')).setCell ⟨B, 3, none⟩ (.int .i64 0))) := Lib.hid (by
    obtain ⟨cells, ho, hfc⟩ := h.row
    have hbr : lv.ownBlock ≠ some B := other_elem_n h.blk ho (by decide)
    refine ⟨fun k => S k ∨ S' k, ⟨inv_arm hi l, fun k e => ?_, lv, a', n, c', Sd, S', ?_⟩, fun k e => ?_, hk.mono (fun k _ e => by rw [show k = B from e]; exact h.sB)⟩
    · rcases e with e | e
      · exact Nat.lt_of_lt_of_le (hSlt k e) hk.size
      · exact Nat.lt_of_lt_of_le (hS' k e).2 hk2.size
    · exact {
        blk := block_setCell (i := 3) (block_setCell (i := 2) hblk (.slice a' n c')) (.int .i64 0)
        row := ⟨cells, ownsRow_keep ho hk (fun k e hkB => hbr (by rw [e, show k = B from hkB])), hfc.keep hk (fun k e hkB => (h.sD k e).2.1 hkB)⟩
        tro := hT.keep hk2 (fun k e hkB => by have := (hS' k e).1; rw [show k = B from hkB] at this; omega)
        trn := hn
        sB := .inl h.sB
        sR := fun k e => .inl (h.sR k e)
        sD := fun k e => ⟨.inl (h.sD k e).1, (h.sD k e).2⟩
        sT := fun k e => ⟨.inr e, fun hkB => by have := (hS' k e).1; omega, fun hkr => by have := (hS' k e).1; have := (ho.lt k hkr).2; omega⟩ }
    · rcases e with e | e
      · exact .inl e
      · exact .inr (hS' k e).1)
  have HRUN := Lib.hid hrun
  clear h hi hSlt hT hS' hbel hblk hblt hk hk2 hrun hr hl hn
  go_enter Tryz.func18, Tryz.ntmps18
  go_wp2_with (at_builtin; refine wpList_step (fun K hK => step_append rfl _ _ 26 rfl _ _ _ rfl rfl HRUN.out (hK _ _ ?_)))
  go_end0
  exact ⟨rfl, H.out⟩

end Go.Proofs.YtacfcfbleogioaaGreatDoor
namespace Go.Proofs.YtacfcfbleogioaaGreatDoor
open Go.RowKit Go.Lib Go.Joins

theorem FCells.take {w : World} {S : Nat → Prop} {cells : List Value} {L : List FilI} (h : FCells w S cells L) (i : Nat) : FCells w S (cells.take (i * 3)) (L.take i) := by
  refine ⟨by rw [List.length_take, List.length_take, h.len]; omega, fun j f hj => ?_⟩
  have hji : j < i := by
    have := (List.getElem?_eq_some_iff.1 hj).1
    rw [List.length_take] at this
    omega
  rw [List.getElem?_take_of_lt hji] at hj
  rw [List.getElem?_take_of_lt (by omega), List.getElem?_take_of_lt (by omega), List.getElem?_take_of_lt (by omega)]
  exact h.at_ j f hj
theorem FCells.drop {w : World} {S : Nat → Prop} {cells : List Value} {L : List FilI} (h : FCells w S cells L) (i : Nat) : FCells w S (cells.drop (i * 3)) (L.drop i) := by
  refine ⟨by rw [List.length_drop, List.length_drop, h.len]; omega, fun j f hj => ?_⟩
  rw [List.getElem?_drop] at hj
  rw [List.getElem?_drop, List.getElem?_drop, List.getElem?_drop, show i * 3 + j * 3 = (i + j) * 3 by omega, show i * 3 + (j * 3 + 1) = (i + j) * 3 + 1 by omega, show i * 3 + (j * 3 + 2) = (i + j) * 3 + 2 by omega]
  exact h.at_ (i + j) f hj
theorem FCells.one' {w : World} {S : Nat → Prop} {cells : List Value} {L : List FilI} (h : FCells w S cells L) : ∀ u ∈ cells, u.oneCell' = true := by
  intro u hu
  obtain ⟨j, hj⟩ := List.mem_iff_getElem?.1 hu
  have hjl : j < L.length * 3 := by rw [← h.len]; exact (List.getElem?_eq_some_iff.1 hj).1
  obtain ⟨e0, ⟨dv, e1, ⟨a, c, hd, _⟩⟩, e2⟩ := h.at_ (j / 3) L[j / 3] (List.getElem?_eq_getElem (by omega))
  rcases (show j = j / 3 * 3 ∨ j = j / 3 * 3 + 1 ∨ j = j / 3 * 3 + 2 by omega) with e | e | e
  · rw [e, e0] at hj
    rw [← Option.some.inj hj]; rfl
  · rw [e, e1, hd] at hj
    rw [← Option.some.inj hj]; rfl
  · rw [e, e2] at hj
    rw [← Option.some.inj hj]; rfl

/-- All files but one, in a new row. -/
theorem drop_rows {w : World} {g len lc i : Nat} {cells : List Value} (ho : w.ownsRow 0 63 3 (.slice (some ⟨g, 0, none⟩) len lc) len cells) (h1 : ∀ u ∈ cells, u.oneCell' = true) (hi : i < len) (hlen : len ≤ 1000) {N : Nat} (hN : w.heap.size = N) {X : Addr} (hX : X = ⟨g, (i + 1) * 3, none⟩ ∨ len = i + 1) :
    ∃ a1 c1 w1 a2 c2 w2, (∀ ty, (Builtin.append_ #[22, 22] ty #[.slice (some ⟨N, 0, none⟩) 0 0, .slice (some ⟨g, 0, none⟩) i lc]).run Tryz.prog (w.alloc (.cells #[] 63)) = .ok (.slice a1 i c1) w1) ∧
      (∀ ty, (Builtin.append_ #[22, 22] ty #[.slice a1 i c1, .slice (some X) (len - (i + 1)) (lc - (i + 1))]).run Tryz.prog w1 = .ok (.slice a2 (len - 1) c2) w2) ∧
      w2.ownsRow 0 63 3 (.slice a2 (len - 1) c2) (len - 1) (cells.take (i * 3) ++ cells.drop ((i + 1) * 3)) ∧ (∀ k, (Value.slice a2 (len - 1) c2).ownBlock = some k → w.heap.size ≤ k) ∧ Below w.heap.size w w1 ∧ Below w.heap.size w w2 := by
  subst hN
  have hcl : cells.length = len * 3 := ho.1
  have hb : Below w.heap.size w (w.alloc (.cells #[] 63)) := (Below.refl _ w).alloc (Nat.le_refl _) _
  have hown : (w.alloc (.cells #[] 63)).ownsRow 0 63 3 (.slice (some ⟨w.heap.size, 0, none⟩) 0 0) 0 [] := World.ownsRow_lit w #[] 0 (Nat.zero_le _) (Nat.zero_le _) rfl
  have ho1 := ownsRow_keep ho (keeps_below hb Non) (fun _ _ h => h)
  obtain ⟨v1, w1, r1, o1, g1, n1⟩ := append_any (m := i) (c := lc) (b := ⟨g, 0, none⟩) (news := cells.take (i * 3)) Tryz.underlying22 info52 rfl (by decide) hown (by rw [List.length_take]; omega)
    (fun j u hu => ho1.cells (g := g) rfl j u (by
      have hj : j < i * 3 := by
        have := (List.getElem?_eq_some_iff.1 hu).1
        rw [List.length_take] at this
        omega
      rw [List.getElem?_take_of_lt hj] at hu
      exact hu)) (fun u hu => h1 u (List.mem_of_mem_take hu)) (by unfold maxLen; omega) (by omega)
  rw [Nat.zero_add, List.nil_append] at o1
  obtain ⟨a1, c1, rfl⟩ := dv_form2 o1
  have hnew1 : ∀ k, (Value.slice a1 i c1).ownBlock = some k → w.heap.size ≤ k := fun k e => by
    rcases n1 k e with h5 | h5
    · have : w.heap.size = k := Option.some.inj h5
      omega
    · simp at h5; omega
  have k1 : Keeps Non w w1 := ((Keeps.refl Non w).alloc _).grown g1 (fun k e => .inr (by have : w.heap.size = k := Option.some.inj e; omega))
  have b1 : Below w.heap.size w w1 := k1.toBelow (Nat.le_refl _) (fun _ h => h.elim)
  have ho2 := ownsRow_keep ho (keeps_below b1 Non) (fun _ _ h => h)
  obtain ⟨v2, w2, r2, o2, g2, n2⟩ := append_any (m := len - (i + 1)) (c := lc - (i + 1)) (b := X) (news := cells.drop ((i + 1) * 3)) Tryz.underlying22 info52 rfl (by decide) o1 (by rw [List.length_drop]; omega)
    (fun j u hu => by
      rcases hX with rfl | hX
      · rw [List.getElem?_drop] at hu
        have := ho2.cells (g := g) rfl _ u hu
        rw [Addr.add_mid] at this ⊢
        rw [Nat.zero_add] at this
        exact this
      · have := (List.getElem?_eq_some_iff.1 hu).1
        rw [List.length_drop] at this
        omega) (fun u hu => h1 u (List.mem_of_mem_drop hu)) (by unfold maxLen; omega) (by omega)
  rw [show i + (len - (i + 1)) = len - 1 by omega] at o2
  obtain ⟨a2, c2, rfl⟩ := dv_form2 o2
  have k2 : Keeps Non w w2 := k1.grown g2 (fun k e => .inr (hnew1 k e))
  refine ⟨a1, c1, w1, a2, c2, w2, r1, r2, o2, fun k e => ?_, b1, k2.toBelow (Nat.le_refl _) (fun _ h => h.elim)⟩
  rcases n2 k e with h5 | h5
  · exact hnew1 k h5
  · have := b1.size; omega

theorem dro_erase {n : ByteArray} : ∀ {L : List Fil}, Srt L → ∀ {i : Nat} {f : Fil}, L[i]? = some f → f.name = n → dro n L = L.take i ++ L.drop (i + 1)
  | g :: L, hs, 0, f, hi, hn => by
    obtain rfl : g = f := by simpa using hi
    obtain ⟨h1, _⟩ := List.pairwise_cons.1 hs
    unfold dro
    rw [List.filter_cons, hn]
    simp only [decide_true, Bool.not_true, Bool.false_eq_true, if_false, List.take_zero, List.nil_append, Nat.zero_add, List.drop_succ_cons, List.drop_zero]
    refine List.filter_eq_self.2 (fun x hx => ?_)
    have : x.name ≠ n := by rw [← hn]; exact (nlt_ne (h1 x hx)).symm
    simp [this]
  | g :: L, hs, i + 1, f, hi, hn => by
    obtain ⟨h1, h2⟩ := List.pairwise_cons.1 hs
    have hi' : L[i]? = some f := by simpa using hi
    have hg : g.name ≠ n := by rw [← hn]; exact nlt_ne (h1 f (List.mem_of_getElem? hi'))
    have ih := dro_erase h2 hi' hn
    unfold dro at ih ⊢
    rw [List.filter_cons, decide_eq_false hg]
    simp only [Bool.not_false, if_true, List.take_succ_cons, List.cons_append, List.drop_succ_cons]
    rw [ih]
  | [], _, i, f, hi, _ => by simp at hi

def RDropT (w : World) (S : Nat → Prop) (B : Nat) (d' : Dsk) (w' : World) : Prop := RTurns w S B d' w' ∧ Keeps (One B) w w'
def RDropOut (w : World) (S : Nat → Prop) (B : Nat) (d' : Dsk) (e : Ending) (w' : World) : Prop := e = .returned (.tuple #[]) ∧ RDropT w S B d' w'

/-- What a new row of files leaves. -/
theorem RefAt.newRow {w w2 : World} {S : Nat → Prop} {B : Nat} {d : Dsk} {lv v2 : Value} {ta : Option Addr} {tn tc : Nat} {Sd St Sn : Nat → Prop} (h : RefAt w S B d lv ta tn tc Sd St) (hS : ∀ k, S k → k < w.heap.size) {L' : List Fil} {cells : List Value} (hb : Below w.heap.size w w2)
    (ho : w2.ownsRow 0 63 3 v2 L'.length cells) (hfc : FCells w2 Sn cells (L'.map toI)) (hv : ∀ k, v2.ownBlock = some k → w.heap.size ≤ k) (hSn : ∀ k, Sn k → Sd k ∨ (w.heap.size ≤ k ∧ k < w2.heap.size ∧ v2.ownBlock ≠ some k)) :
    RMoves w S B { d with L := L' } (w2.setCell ⟨B, 1, none⟩ v2) := by
  have hblt := lt_of_block h.blk
  have hblk := block_below hb h.blk
  have hk2 : Keeps (One B) w2 (w2.setCell ⟨B, 1, none⟩ v2) := (Keeps.refl (One B) w2).setCell (p := ⟨B, 1, none⟩) (.inl rfl) _
  have hk : Keeps (One B) w (w2.setCell ⟨B, 1, none⟩ v2) := (keeps_below hb (One B)).setCell (p := ⟨B, 1, none⟩) (.inl rfl) _
  have hnB : ∀ k, Sn k → k ≠ B := fun k e hkB => by
    rcases hSn k e with e1 | ⟨e1, _⟩
    · exact (h.sD k e1).2.1 hkB
    · omega
  refine ⟨fun k => S k ∨ (w.heap.size ≤ k ∧ k < w2.heap.size), ⟨fun k e => ?_, v2, ta, tn, tc, Sn, St, ?_⟩, fun k e => ?_, hk.mono (fun k _ e => by rw [show k = B from e]; exact h.sB)⟩
  · rcases e with e | e
    · exact Nat.lt_of_lt_of_le (hS k e) hk.size
    · exact Nat.lt_of_lt_of_le e.2 hk2.size
  · exact {
      blk := block_setCell (i := 1) hblk v2
      row := ⟨cells, ownsRow_keep ho hk2 (fun k e hkB => by have := hv k e; rw [show k = B from hkB] at this; omega), hfc.keep hk2 (fun k e hkB => hnB k e hkB)⟩
      tro := h.tro.keep hk (fun k e hkB => (h.sT k e).2.1 hkB)
      trn := h.trn
      sB := .inl h.sB
      sR := fun k e => .inr ⟨hv k e, (ho.lt k e).2⟩
      sD := fun k e => ⟨by
        rcases hSn k e with e1 | ⟨e1, e2, _⟩
        · exact .inl (h.sD k e1).1
        · exact .inr ⟨e1, e2⟩, hnB k e, by
        rcases hSn k e with e1 | ⟨_, _, e3⟩
        · intro hkr
          have := hv k hkr
          have := hS k (h.sD k e1).1
          omega
        · exact e3⟩
      sT := fun k e => ⟨.inl (h.sT k e).1, (h.sT k e).2.1, fun hkr => by have := hv k hkr; have := hS k (h.sT k e).1; omega⟩ }
  · rcases e with e | e
    · exact .inl e
    · exact .inr e.1

theorem RMoves.of_drew {w : World} {S : Nat → Prop} {B : Nat} {d : Dsk} {w' : World} (h : RMoves w.drew S B d w') : RMoves w S B d w' := by
  obtain ⟨S', h1, h2, h3⟩ := h
  exact ⟨S', h1, h2, ⟨h3.os, h3.tape, h3.output, h3.size, h3.block⟩⟩
theorem RTurns.of_drew {w : World} {S : Nat → Prop} {B : Nat} {d : Dsk} {w' : World} (h : RTurns w.drew S B d w') : RTurns w S B d w' := by
  obtain ⟨S', h1, h2, h3⟩ := h
  exact ⟨S', h1, h2, ⟨h3.os, h3.tape, h3.output, h3.size, h3.block⟩⟩

end Go.Proofs.YtacfcfbleogioaaGreatDoor

namespace Go.Proofs.YtacfcfbleogioaaGreatDoor
open Go

section
variable {P : Program} {ops : Array Oper} {Q : Exit → Act → World → Prop} {md : Region.Mode} {S : World → Prop} {z : Nat}

/-- Whatever order is picked from here on, and S holds behind every operation but number z. -/
def wpAnyZ (P : Program) (md : Region.Mode) (ops : Array Oper) (Q : Exit → Act → World → Prop) (S : World → Prop) (z : Nat) : Nat → Array Bool → Act → World → Prop
  | 0, listed, a, w => Region.ready md ops listed = [] ∧ Q .normal a w
  | fuel + 1, listed, a, w =>
    (Region.ready md ops listed = [] → Q .normal a w) ∧
    ∀ i ∈ Region.ready md ops listed, wpOp P ops Q i (fun a' w' => (i = z ∨ S w') ∧ wpAnyZ P md ops Q S z fuel (listed.setIfInBounds i true) a' w') a w

theorem wpAny_of_z : ∀ (fuel : Nat) (listed : Array Bool) (a : Act) (w : World), wpAnyZ P md ops Q S z fuel listed a w → wpAny P md ops Q fuel listed a w
  | 0, _, _, _, h => h
  | fuel + 1, _, _, _, h => ⟨h.1, fun i hi => wpOp_mono (fun a' w' h' => wpAny_of_z fuel _ a' w' h'.2) (h.2 i hi)⟩

/-- Whatever is listed has all listed that it waits for. -/
def Closed (md : Region.Mode) (ops : Array Oper) (listed : Array Bool) : Prop :=
  ∀ j o, ops[j]? = some o → listed.getD j false = true → ∀ e ∈ o.after, Region.binds md e = true → listed.getD e.on false = true
def closedB (md : Region.Mode) (ops : Array Oper) (listed : Array Bool) : Bool :=
  (List.range ops.size).all fun j => !listed.getD j false || ((ops[j]?).map (·.after.toList.all fun e => !Region.binds md e || listed.getD e.on false)).getD true
theorem closedB_spec {listed : Array Bool} (h : closedB md ops listed = true) : Closed md ops listed := by
  intro j o ho hj e he hb
  unfold closedB at h
  have hlt : j < ops.size := (Array.getElem?_eq_some_iff.1 ho).1
  have h1 := List.all_eq_true.1 h j (List.mem_range.2 hlt)
  rw [hj, ho] at h1
  simp only [Bool.not_true, Bool.false_or, Option.map_some, Option.getD_some] at h1
  have h2 := List.all_eq_true.1 h1 e (Array.mem_toList_iff.2 he)
  rw [hb] at h2
  simpa using h2
theorem getD_set {listed : Array Bool} {i j : Nat} (h : listed.getD j false = true) : (listed.setIfInBounds i true).getD j false = true := by
  by_cases hij : i = j
  · subst hij
    rcases Nat.lt_or_ge i listed.size with h' | h'
    · simp [h']
    · simp [Array.getElem?_eq_none h'] at h
  · rw [getD_set_ne false hij]; exact h
theorem Closed.step {listed : Array Bool} (h : Closed md ops listed) {i : Nat} (hi : i ∈ Region.ready md ops listed) : Closed md ops (listed.setIfInBounds i true) := by
  intro j o ho hj e he hb
  by_cases hij : i = j
  · subst hij
    obtain ⟨_, o', ho', hall⟩ := mem_ready.1 hi
    rw [ho] at ho'
    obtain rfl := Option.some.inj ho'
    exact getD_set (hall e he hb)
  · rw [getD_set_ne false hij] at hj
    exact getD_set (h j o ho hj e he hb)

/-- Number n waits for number i, through others. -/
def waits (md : Region.Mode) (ops : Array Oper) : Nat → Nat → Nat → Bool
  | 0, _, _ => false
  | fuel + 1, n, i => match ops[n]? with
    | none => false
    | some o => o.after.toList.any fun e => Region.binds md e && (e.on == i || waits md ops fuel e.on i)
theorem waits_spec {listed : Array Bool} (hc : Closed md ops listed) {i : Nat} : ∀ (fuel n : Nat) (o : Oper), ops[n]? = some o → waits md ops fuel n i = true →
    (∀ e ∈ o.after, Region.binds md e = true → listed.getD e.on false = true) → listed.getD i false = true
  | 0, n, o, _, h, _ => by cases h
  | fuel + 1, n, o, ho, h, hall => by
    unfold waits at h
    rw [ho] at h
    obtain ⟨e, he, h2⟩ := List.any_eq_true.1 h
    rw [Bool.and_eq_true, Bool.or_eq_true] at h2
    obtain ⟨hb, h3⟩ := h2
    have hl := hall e (Array.mem_toList_iff.1 he) hb
    rcases h3 with h3 | h3
    · rw [← beq_iff_eq.1 h3]; exact hl
    · cases fuel with
      | zero => cases h3
      | succ fuel =>
        cases hoe : ops[e.on]? with
        | none => unfold waits at h3; rw [hoe] at h3; cases h3
        | some oe => exact waits_spec hc (fuel + 1) e.on oe hoe h3 (hc e.on oe hoe hl)

theorem wpAnyZ_first {i f : Nat} {oi : Oper} {v : Value} (hi : ops[i]? = some oi) (hsel : ∀ (j : Nat) (o : Oper) cs b, ops[j]? = some o → o.op ≠ .select cs b)
    (hQ : ∀ c a w, Q (.panic c) (a.put oi.dst v) w → Q (.panic c) a w) (hz : waits md ops f z i = true) :
    ∀ (fuel : Nat) (listed : Array Bool) (a : Act) (w : World), Closed md ops listed →
      (∀ j oj, ops[j]? = some oj → j ≠ i → listed.getD j true = false → (∀ e ∈ oj.after, Region.binds md e = true → e.on ≠ i) → oi.apart ops oj = true) →
      i ∈ Region.ready md ops listed → YieldsIf P ops S oi v a → S w →
      wpAnyZ P md ops Q S z fuel (listed.setIfInBounds i true) (a.put oi.dst v) w → wpAnyZ P md ops Q S z (fuel + 1) listed a w := by
  intro fuel
  induction fuel with
  | zero =>
    intro listed a w _ _ hr hy hS H
    refine ⟨fun h => (by rw [h] at hr; cases hr), fun j hj => ?_⟩
    by_cases hji : j = i
    · subst hji; exact hy.wpOp hi hS ⟨.inr hS, H⟩
    · have := ready_mono hj hji
      rw [H.1] at this
      cases this
  | succ fuel ih =>
    intro listed a w hcl hfree hr hy hS H
    refine ⟨fun h => (by rw [h] at hr; cases hr), fun j hj => ?_⟩
    by_cases hji : j = i
    · subst hji; exact hy.wpOp hi hS ⟨.inr hS, H⟩
    · have h1 := H.2 j (ready_mono hj hji)
      obtain ⟨hjun, oj, hoj, hall⟩ := mem_ready.1 hj
      have hiun : listed.getD i false = false := by
        have h0 := (mem_ready.1 hr).1
        rcases Nat.lt_or_ge i listed.size with h' | h'
        · simp [h'] at h0 ⊢; exact h0
        · simp [Array.getElem?_eq_none h'] at h0
      have hjz : j ≠ z := by
        rintro rfl
        have := waits_spec hcl f j oj hoj hz hall
        rw [hiun] at this
        cases this
      have hnot : ∀ e ∈ oj.after, Region.binds md e = true → e.on ≠ i := fun e he hb heq => by
        have h1 := hall e he hb
        rw [heq, hiun] at h1
        cases h1
      have h2 := wpOp_putIf hoj (hfree j oj hoj hji hjun hnot) (fun cs b => hsel i oi cs b hi) (fun cs b => hsel j oj cs b hoj) hQ hy h1
      have hfree' : ∀ k ok, ops[k]? = some ok → k ≠ i → (listed.setIfInBounds j true).getD k true = false →
          (∀ e ∈ ok.after, Region.binds md e = true → e.on ≠ i) → oi.apart ops ok = true := fun k ok hk hki hun hno => by
        refine hfree k ok hk hki ?_ hno
        by_cases hjk : j = k
        · subst hjk; exact hjun
        · rw [getD_set_ne true hjk] at hun; exact hun
      refine wpOp_mono (fun a' w' h3 => ?_) h2
      have hS' : S w' := h3.2.1.resolve_left hjz
      refine ⟨.inr hS', ih (listed.setIfInBounds j true) a' w' (hcl.step hj) hfree' (ready_mono hr (Ne.symm hji)) h3.1 hS' ?_⟩
      rw [Array.setIfInBounds_comm _ _ hji]
      exact h3.2.2

/-- Take number i first. -/
theorem wpAnyZ_take {i f : Nat} {oi : Oper} {v : Value} {fuel : Nat} {listed : Array Bool} {a : Act} {w : World} (hi : ops[i]? = some oi)
    (hs : Region.noSelect ops = true) (hf : Region.free md ops listed i = true) (hr : (Region.ready md ops listed).contains i = true) (hz : waits md ops f z i = true) (hc : closedB md ops listed = true)
    (hQ : ∀ c a w, Q (.panic c) (a.put oi.dst v) w → Q (.panic c) a w) (hy : YieldsIf P ops S oi v a) (hS : S w)
    (h : wpAnyZ P md ops Q S z fuel (listed.setIfInBounds i true) (a.put oi.dst v) w) : wpAnyZ P md ops Q S z (fuel + 1) listed a w :=
  wpAnyZ_first hi (Region.noSelect_spec hs) hQ hz fuel listed a w (closedB_spec hc) (Region.free_spec hi hf) (by simpa using hr) hy hS h

/-- wpAnyZ_take where the operation is wanted; what is to be computed is asked by itself. -/
theorem tkZ (i f : Nat) {oi : Oper} {v : Value} {fuel : Nat} {listed : Array Bool} {a : Act} {w : World} (hi : ops[i]? = some oi)
    (hy : ∀ w, S w → (execOp a.eval oi).run P w = .ok (.value v) w) (h : wpAnyZ P md ops Q S z fuel (listed.setIfInBounds i true) (a.put oi.dst v) w)
    (hk : (Region.noSelect ops && Region.free md ops listed i && (Region.ready md ops listed).contains i && waits md ops f z i && closedB md ops listed) = true)
    (hQ : ∀ c a w, Q (.panic c) (a.put oi.dst v) w → Q (.panic c) a w) (hg : Region.wanted oi (yielded ops a.tmps) = true) (hS : S w) : wpAnyZ P md ops Q S z (fuel + 1) listed a w := by
  rw [Bool.and_eq_true, Bool.and_eq_true, Bool.and_eq_true, Bool.and_eq_true] at hk
  exact wpAnyZ_take hi hk.1.1.1.1 hk.1.1.1.2 hk.1.1.2 hk.1.2 hk.2 hQ (.inl ⟨hg, hy⟩) hS h

/-- One operation alone may come up. -/
theorem wpAnyZ_one {i : Nat} {o : Oper} {fuel : Nat} {listed : Array Bool} {a : Act} {w : World} (hr : Region.ready md ops listed = [i]) (ho : ops[i]? = some o)
    (h : ∀ K' : Act → World → Prop, Shut (∀ a w, S w → (S w → wpAnyZ P md ops Q S z fuel (listed.setIfInBounds i true) a w) → K' a w) → if Region.wanted o (yielded ops a.tmps) = true then Oper.wp P o a w K' Q else K' (a.put o.dst undef) w) :
    wpAnyZ P md ops Q S z (fuel + 1) listed a w := by
  refine ⟨fun h0 => (by rw [hr] at h0; cases h0), fun j hj => ?_⟩
  rw [hr] at hj
  obtain rfl := List.mem_singleton.1 hj
  exact wpOp_step ho (fun K' hK => h K' (fun a w hS hW => hK a w ⟨.inr hS, hW hS⟩))
/-- Two may come up. -/
theorem wpAnyZ_two {i j : Nat} {oi oj : Oper} {fuel : Nat} {listed : Array Bool} {a : Act} {w : World} (hr : Region.ready md ops listed = [i, j]) (hoi : ops[i]? = some oi) (hoj : ops[j]? = some oj)
    (h1 : ∀ K' : Act → World → Prop, Shut (∀ a w, S w → (S w → wpAnyZ P md ops Q S z fuel (listed.setIfInBounds i true) a w) → K' a w) → if Region.wanted oi (yielded ops a.tmps) = true then Oper.wp P oi a w K' Q else K' (a.put oi.dst undef) w)
    (h2 : ∀ K' : Act → World → Prop, Shut (∀ a w, S w → (S w → wpAnyZ P md ops Q S z fuel (listed.setIfInBounds j true) a w) → K' a w) → if Region.wanted oj (yielded ops a.tmps) = true then Oper.wp P oj a w K' Q else K' (a.put oj.dst undef) w) :
    wpAnyZ P md ops Q S z (fuel + 1) listed a w := by
  refine ⟨fun h0 => (by rw [hr] at h0; cases h0), fun k hk => ?_⟩
  rw [hr] at hk
  rcases List.mem_cons.1 hk with rfl | hk
  · exact wpOp_step hoi (fun K' hK => h1 K' (fun a w hS hW => hK a w ⟨.inr hS, hW hS⟩))
  · obtain rfl := List.mem_singleton.1 hk
    exact wpOp_step hoj (fun K' hK => h2 K' (fun a w hS hW => hK a w ⟨.inr hS, hW hS⟩))
/-- The last one. -/
theorem wpAnyZ_last {o : Oper} {fuel : Nat} {listed : Array Bool} {a : Act} {w : World} (hr : Region.ready md ops listed = [z]) (ho : ops[z]? = some o) (hd : Region.ready md ops (listed.setIfInBounds z true) = [])
    (h : ∀ K' : Act → World → Prop, Shut (∀ a w, Q .normal a w → K' a w) → if Region.wanted o (yielded ops a.tmps) = true then Oper.wp P o a w K' Q else K' (a.put o.dst undef) w) :
    wpAnyZ P md ops Q S z (fuel + 1) listed a w := by
  refine ⟨fun h0 => (by rw [hr] at h0; cases h0), fun j hj => ?_⟩
  rw [hr] at hj
  obtain rfl := List.mem_singleton.1 hj
  refine wpOp_step ho (fun K' hK => h K' (fun a w hq => hK a w ⟨.inl rfl, ?_⟩))
  cases fuel with
  | zero => exact ⟨hd, hq⟩
  | succ fuel => exact ⟨fun _ => hq, fun i hi => by rw [hd] at hi; cases hi⟩
/-- The beginning. -/
theorem wp_region_z {id : Nat} {a : Act} {w : World} (z : Nat) (hm : P.follows .mixedOrders = true) (hS : S w.drew)
    (h : S w.drew → wpAnyZ P .any ops Q S z ops.size (Array.replicate ops.size false) a w.drew) : (Code.region id ops true).wp P Q a w :=
  wp_region_any hm (wpAny_of_z _ _ _ _ (h hS))

end
end Go.Proofs.YtacfcfbleogioaaGreatDoor

namespace Go.Proofs.YtacfcfbleogioaaGreatDoor
open Go.RowKit Go.Lib Go.Joins

theorem FCells.set1 {w : World} {S : Nat → Prop} {cells : List Value} {L : List FilI} (h : FCells w S cells L) {i : Nat} {f : FilI} (hi : L[i]? = some f) {v : Value} {l : List Nat} (hv : Byt w S v l) :
    FCells w S (cells.set (i * 3 + 1) v) (L.set i { f with data := l }) := by
  have hil : i < L.length := (List.getElem?_eq_some_iff.1 hi).1
  have hcl := h.len
  refine ⟨by rw [List.length_set, List.length_set, hcl], fun j g hj => ?_⟩
  rw [List.getElem?_set_ne (by omega), List.getElem?_set_ne (by omega : i * 3 + 1 ≠ j * 3 + 2)]
  by_cases hij : i = j
  · subst hij
    rw [List.getElem?_set_self hil] at hj
    obtain rfl := Option.some.inj hj
    obtain ⟨h0, _, h2⟩ := h.at_ i f hi
    exact ⟨h0, ⟨v, by rw [List.getElem?_set_self (by omega)], hv⟩, h2⟩
  · rw [List.getElem?_set_ne hij] at hj
    rw [List.getElem?_set_ne (by omega)]
    exact h.at_ j g hj
theorem FCells.set2 {w : World} {S : Nat → Prop} {cells : List Value} {L : List FilI} (h : FCells w S cells L) {i : Nat} {f : FilI} (hi : L[i]? = some f) (z : Int) :
    FCells w S (cells.set (i * 3 + 2) (.int .i64 z)) (L.set i { f with safe := z }) := by
  have hil : i < L.length := (List.getElem?_eq_some_iff.1 hi).1
  have hcl := h.len
  refine ⟨by rw [List.length_set, List.length_set, hcl], fun j g hj => ?_⟩
  rw [List.getElem?_set_ne (by omega), List.getElem?_set_ne (by omega : i * 3 + 2 ≠ j * 3 + 1)]
  by_cases hij : i = j
  · subst hij
    rw [List.getElem?_set_self hil] at hj
    obtain rfl := Option.some.inj hj
    obtain ⟨h0, h1, _⟩ := h.at_ i f hi
    exact ⟨h0, h1, by rw [List.getElem?_set_self (by omega)]⟩
  · rw [List.getElem?_set_ne hij] at hj
    rw [List.getElem?_set_ne (by omega)]
    exact h.at_ j g hj

/-- What a store into the row of files leaves. -/
theorem RefAt.stored {w w2 : World} {S : Nat → Prop} {B : Nat} {d : Dsk} {g lc : Nat} {ta : Option Addr} {tn tc : Nat} {Sd St Sn : Nat → Prop} (h : RefAt w S B d (.slice (some ⟨g, 0, none⟩) d.L.length lc) ta tn tc Sd St) (hS : ∀ k, S k → k < w.heap.size) (hb : Below w.heap.size w w2)
    {j : Nat} {v : Value} {L' : List Fil} (hl : L'.length = d.L.length) (hfc : ∀ cells, FCells w2 Sd cells (d.L.map toI) → FCells w2 (fun k => Sd k ∨ Sn k) (cells.set j v) (L'.map toI)) (hSn : ∀ k, Sn k → w.heap.size ≤ k ∧ k < w2.heap.size) :
    RMoves w S B { d with L := L' } (w2.setCell ⟨g, j, none⟩ v) := by
  obtain ⟨cells, ho, hc⟩ := h.row
  have hgs : S g := h.sR g rfl
  have hgl := hS g hgs
  have hBg : B ≠ g := fun e => other_elem_n h.blk ho (by decide) (by rw [e]; rfl)
  have hk2 : Keeps (One g) w2 (w2.setCell ⟨g, j, none⟩ v) := (Keeps.refl (One g) w2).setCell (p := ⟨g, j, none⟩) (.inl rfl) _
  have hk : Keeps (One g) w (w2.setCell ⟨g, j, none⟩ v) := (keeps_below hb (One g)).setCell (p := ⟨g, j, none⟩) (.inl rfl) _
  have ho2 := ownsRow_keep ho (keeps_below hb Non) (fun _ _ h => h)
  have hst := (ho2.stored (g := g) j v).1
  have hc2 := hfc cells (hc.keep (keeps_below hb Non) (fun _ _ h => h))
  refine ⟨fun k => S k ∨ Sn k, ⟨fun k e => ?_, .slice (some ⟨g, 0, none⟩) d.L.length lc, ta, tn, tc, fun k => Sd k ∨ Sn k, St, ?_⟩, fun k e => ?_, hk.mono (fun k _ e => by rw [show k = g from e]; exact hgs)⟩
  · rcases e with e | e
    · exact Nat.lt_of_lt_of_le (hS k e) hk.size
    · exact Nat.lt_of_lt_of_le (hSn k e).2 hk2.size
  · exact {
      blk := block_keep h.blk hk (fun e => hBg e)
      row := ⟨_, by rw [← hl] at hst; rw [show ({ d with L := L' } : Dsk).L.length = L'.length from rfl, ← hl]; exact hst, hc2.keep hk2 (fun k e hkg => by
        rcases e with e | e
        · exact (h.sD k e).2.2 (by rw [show k = g from hkg]; rfl)
        · have := (hSn k e).1; have : k = g := hkg; omega)⟩
      tro := h.tro.keep hk (fun k e hkg => (h.sT k e).2.2 (by rw [show k = g from hkg]; rfl))
      trn := h.trn
      sB := .inl h.sB
      sR := fun k e => .inl (h.sR k e)
      sD := fun k e => by
        rcases e with e | e
        · exact ⟨.inl (h.sD k e).1, (h.sD k e).2⟩
        · have h1 := (hSn k e).1
          have h2 := hS B h.sB
          exact ⟨.inr e, by omega, fun he => by have : g = k := Option.some.inj he; omega⟩
      sT := fun k e => ⟨.inl (h.sT k e).1, (h.sT k e).2⟩ }
  · rcases e with e | e
    · exact .inl e
    · exact .inr (hSn k e).1

theorem map_set (L : List Fil) (i : Nat) (f : Fil) : (L.set i f).map toI = (L.map toI).set i (toI f) := List.map_set

/-- Its data is another row. -/
theorem RefAt.data {w w2 : World} {S : Nat → Prop} {B : Nat} {d : Dsk} {g lc : Nat} {ta : Option Addr} {tn tc : Nat} {Sd St : Nat → Prop} (h : RefAt w S B d (.slice (some ⟨g, 0, none⟩) d.L.length lc) ta tn tc Sd St) (hS : ∀ k, S k → k < w.heap.size) (hb : Below w.heap.size w w2)
    {i : Nat} {f : Fil} (hi : d.L[i]? = some f) {v : Value} {l : List Nat} (hbt : ∀ c ∈ l, c < 256) {n : Nat} (hn : l.length = n) (ho : w2.ownsRow 0 5 1 v n (cellsN l)) (hv : ∀ k, v.ownBlock = some k → w.heap.size ≤ k) :
    RMoves w S B { d with L := d.L.set i { f with data := l } } (w2.setCell ⟨g, i * 3 + 1, none⟩ v) := by
  have hby := row_of_own hbt hn ho
  refine h.stored (Sn := fun k => v.ownBlock = some k) hS hb (List.length_set ..) (fun cells hc => ?_) (fun k e => ⟨hv k e, (ho.lt k e).2⟩)
  have hi' : (d.L.map toI)[i]? = some (toI f) := by rw [List.getElem?_map, hi]; rfl
  have := (hc.mono (S' := fun k => Sd k ∨ v.ownBlock = some k) (fun k e => .inl e)).set1 hi' (hby.mono (fun k e => .inr e))
  rw [map_set]
  exact this
/-- Its safe bytes are others. -/
theorem RefAt.safe {w w2 : World} {S : Nat → Prop} {B : Nat} {d : Dsk} {g lc : Nat} {ta : Option Addr} {tn tc : Nat} {Sd St : Nat → Prop} (h : RefAt w S B d (.slice (some ⟨g, 0, none⟩) d.L.length lc) ta tn tc Sd St) (hS : ∀ k, S k → k < w.heap.size) (hb : Below w.heap.size w w2)
    {i : Nat} {f : Fil} (hi : d.L[i]? = some f) (z : Nat) : RMoves w S B { d with L := d.L.set i { f with safe := z } } (w2.setCell ⟨g, i * 3 + 2, none⟩ (.int .i64 (z : Int))) := by
  refine h.stored (Sn := Non) hS hb (List.length_set ..) (fun cells hc => ?_) (fun k e => e.elim)
  have hi' : (d.L.map toI)[i]? = some (toI f) := by rw [List.getElem?_map, hi]; rfl
  have := (hc.mono (S' := fun k => Sd k ∨ Non k) (fun k e => .inl e)).set2 hi' (z : Int)
  rw [map_set]
  exact this

theorem upd_set {n : ByteArray} {h : Fil → Fil} : ∀ {L : List Fil}, Srt L → ∀ {i : Nat} {f : Fil}, L[i]? = some f → f.name = n → upd n h L = L.set i (h f)
  | [], _, i, f, hi, _ => by simp at hi
  | g :: L, hs, 0, f, hi, hn => by
    obtain rfl : g = f := by simpa using hi
    obtain ⟨h1, _⟩ := List.pairwise_cons.1 hs
    have e2 : upd n h L = L := by
      refine upd_none h ?_
      unfold fnd
      rw [List.find?_eq_none]
      intro x hx
      have : x.name ≠ n := by rw [← hn]; exact (nlt_ne (h1 x hx)).symm
      simp [this]
    show (if g.name = n then h g else g) :: upd n h L = _
    rw [if_pos hn, e2]
    rfl
  | g :: L, hs, i + 1, f, hi, hn => by
    obtain ⟨h1, h2⟩ := List.pairwise_cons.1 hs
    have hi' : L[i]? = some f := by simpa using hi
    have hg : g.name ≠ n := by rw [← hn]; exact nlt_ne (h1 f (List.mem_of_getElem? hi'))
    show (if g.name = n then h g else g) :: upd n h L = _
    rw [if_neg hg, upd_set h2 hi' hn]
    rfl

/-- A copy of bytes with other bytes behind it. -/
theorem copy_two {W : World} {S S2 : Nat → Prop} {a a2 : Option Addr} {l l2 : List Nat} {c c2 m m2 : Nat} (hr : Row W S a l) (hc : a = none → c = 0) (hm : l.length = m) (hl : m ≤ 1073741824) (hr2 : Row W S2 a2 l2) (hc2 : a2 = none → c2 = 0) (hm2 : l2.length = m2) (hl2 : m2 ≤ 1000000) {N : Nat} (hN : W.heap.size = N) :
    ∃ a1 c1 w1 a3 c3 w3, (∀ ty, (Builtin.append_ #[61, 61] ty #[.slice (some ⟨N, 0, none⟩) 0 0, .slice a m c]).run Tryz.prog (W.alloc (.cells #[] 5)) = .ok (.slice a1 m c1) w1) ∧ Below W.heap.size W w1 ∧
      (∀ ty, (Builtin.append_ #[61, 61] ty #[.slice a1 m c1, .slice a2 m2 c2]).run Tryz.prog w1 = .ok (.slice a3 (m + m2) c3) w3) ∧ Below W.heap.size W w3 ∧ w3.ownsRow 0 5 1 (.slice a3 (m + m2) c3) (m + m2) (cellsN (l ++ l2)) ∧ (∀ k, (Value.slice a3 (m + m2) c3).ownBlock = some k → W.heap.size ≤ k) := by
  subst hm
  obtain ⟨v1, w1, r1, o1, n1, b1⟩ := copy_row hr hc hl hN
  obtain ⟨a1, c1, rfl⟩ := dv_form2 o1
  obtain ⟨v3, w3, r3, o3, g3, n3⟩ := append_run o1 hm2 (hr2.keep (keeps_below b1 Non) (fun _ _ h => h)) hc2 (by omega)
  obtain ⟨a3, c3, rfl⟩ := dv_form2 o3
  have hk : Keeps Non W w3 := (keeps_below b1 Non).grown g3 (fun k e => .inr (n1 k e))
  refine ⟨a1, c1, w1, a3, c3, w3, r1, b1, r3, hk.toBelow (Nat.le_refl _) (fun _ h => h.elim), by rw [cellsN_app]; exact o3, fun k e => ?_⟩
  rcases n3 k e with h5 | h5
  · exact n1 k h5
  · have := b1.size; omega

end Go.Proofs.YtacfcfbleogioaaGreatDoor
