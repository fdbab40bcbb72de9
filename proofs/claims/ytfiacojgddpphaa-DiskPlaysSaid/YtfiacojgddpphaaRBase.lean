/-
  The reference's disk in memory; its New, at, Used. Conditions: the disk lies in memory; it has few files and few bytes.
-/
import Derived.Test.YtfiacojgddpphaaLive
import Derived.Test.YtfiacojgddpphaaLawP
namespace Go.Proofs.Ytfiacojgddpphaa
open Go.RowKit Go.Lib Go.Joins

/-- The reference's disk: its block, its row of files, its troubles. -/
structure RefAt (w : World) (S : Nat → Prop) (B : Nat) (d : Dsk) (lv : Value) (ta : Option Addr) (tn tc : Nat) (Sd St : Nat → Prop) : Prop where
  blk : w.heap[B]? = some (.cells #[.int .i64 d.room, lv, .slice ta tn tc, .int .i64 d.ops, .bool d.down] 44 (0, 0))
  row : ∃ cells, w.ownsRow 0 52 3 lv d.L.length cells ∧ FCells w Sd cells (d.L.map toI)
  tro : RowT w St ta d.tr
  trn : d.tr.length = tn
  sB : S B
  sR : ∀ k, lv.ownBlock = some k → S k
  sD : ∀ k, Sd k → S k ∧ k ≠ B ∧ lv.ownBlock ≠ some k
  sT : ∀ k, St k → S k ∧ k ≠ B ∧ lv.ownBlock ≠ some k

/-- It lies in memory, whatever holds of it. -/
def RHas (w : World) (S : Nat → Prop) (B : Nat) (d : Dsk) : Prop := (∀ k, S k → k < w.heap.size) ∧ ∃ lv ta tn tc Sd St, RefAt w S B d lv ta tn tc Sd St
def RefD (w : World) (S : Nat → Prop) (B : Nat) (d : Dsk) : Prop := Inv d ∧ RHas w S B d

theorem RefAt.keep {w w' : World} {S O : Nat → Prop} {B : Nat} {d : Dsk} {lv : Value} {ta : Option Addr} {tn tc : Nat} {Sd St : Nat → Prop} (h : RefAt w S B d lv ta tn tc Sd St) (hk : Keeps O w w') (hO : ∀ k, S k → ¬ O k) : RefAt w' S B d lv ta tn tc Sd St where
  blk := block_keep h.blk hk (hO B h.sB)
  row := by
    obtain ⟨cells, h1, h2⟩ := h.row
    exact ⟨cells, ownsRow_keep h1 hk (fun k e => hO k (h.sR k e)), h2.keep hk (fun k e => hO k (h.sD k e).1)⟩
  tro := h.tro.keep hk (fun k e => hO k (h.sT k e).1)
  trn := h.trn
  sB := h.sB
  sR := h.sR
  sD := h.sD
  sT := h.sT
theorem RHas.keep {w w' : World} {S O : Nat → Prop} {B : Nat} {d : Dsk} (h : RHas w S B d) (hk : Keeps O w w') (hO : ∀ k, S k → ¬ O k) : RHas w' S B d := by
  obtain ⟨hS, lv, ta, tn, tc, Sd, St, hd⟩ := h
  exact ⟨fun k e => Nat.lt_of_lt_of_le (hS k e) hk.size, lv, ta, tn, tc, Sd, St, hd.keep hk hO⟩
theorem RHas.below {w w' : World} {S : Nat → Prop} {B : Nat} {d : Dsk} (h : RHas w S B d) (hb : Below w.heap.size w w') : RHas w' S B d := h.keep (keeps_below hb Non) (fun _ _ h => h)
theorem RefD.keep {w w' : World} {S O : Nat → Prop} {B : Nat} {d : Dsk} (h : RefD w S B d) (hk : Keeps O w w') (hO : ∀ k, S k → ¬ O k) : RefD w' S B d := by
  obtain ⟨hi, hS, lv, ta, tn, tc, Sd, St, hd⟩ := h
  exact ⟨hi, fun k e => Nat.lt_of_lt_of_le (hS k e) hk.size, lv, ta, tn, tc, Sd, St, hd.keep hk hO⟩
theorem RefD.below {w w' : World} {S : Nat → Prop} {B : Nat} {d : Dsk} (h : RefD w S B d) (hb : Below w.heap.size w w') : RefD w' S B d := h.keep (keeps_below hb Non) (fun _ _ h => h)
def RMoves (w : World) (S : Nat → Prop) (B : Nat) (d' : Dsk) (w' : World) : Prop := ∃ S', RHas w' S' B d' ∧ Fresh S w.heap.size S' ∧ Keeps S w w'
def RTurns (w : World) (S : Nat → Prop) (B : Nat) (d' : Dsk) (w' : World) : Prop := ∃ S', RefD w' S' B d' ∧ Fresh S w.heap.size S' ∧ Keeps S w w'

theorem RTurns.moves {w w' : World} {S : Nat → Prop} {B : Nat} {d' : Dsk} (h : RTurns w S B d' w') : RMoves w S B d' w' := by
  obtain ⟨S', h1, h2⟩ := h
  exact ⟨S', h1.2, h2⟩
theorem RMoves.turns {w w' : World} {S : Nat → Prop} {B : Nat} {d' : Dsk} (h : RMoves w S B d' w') (hi : Inv d') : RTurns w S B d' w' := by
  obtain ⟨S', h1, h2⟩ := h
  exact ⟨S', ⟨hi, h1⟩, h2⟩
theorem RMoves.trans {w w1 w2 : World} {S S1 : Nat → Prop} {B : Nat} {d2 : Dsk} (hf : Fresh S w.heap.size S1) (hk : Keeps S w w1) (h : RMoves w1 S1 B d2 w2) : RMoves w S B d2 w2 := by
  obtain ⟨S2, h1, h2, h3⟩ := h
  exact ⟨S2, h1, fresh_trans hf h2 hk.size, hk.trans h3 hf⟩

/-- Its row of files as the walks read it. -/
theorem RefAt.fils {w : World} {S : Nat → Prop} {B : Nat} {d : Dsk} {lv : Value} {ta : Option Addr} {tn tc : Nat} {Sd St : Nat → Prop} (h : RefAt w S B d lv ta tn tc Sd St) :
    ∃ a c, lv = .slice a d.L.length c ∧ Fils w S a (d.L.map toI) ∧ (a = none → c = 0) ∧ d.L.length ≤ c ∧ c ≤ maxLen := by
  obtain ⟨cells, h1, h2⟩ := h.row
  have hl : (d.L.map toI).length = d.L.length := List.length_map _
  obtain ⟨a, c, h3, h4, h5, h6, h7⟩ := fils_of_owns (S := S) (base := 0) (v := lv) (L := d.L.map toI) (cells := cells) (h2.mono (fun k e => (h.sD k e).1)) (by rw [hl]; exact h1) h.sR
  rw [hl] at h3 h6
  exact ⟨a, c, h3, h4, h5, h6, h7⟩

/-! ### where a file stands -/
def ixF (n : ByteArray) : List Fil → Nat → Int
  | [], _ => -1
  | f :: L, i => if f.name = n then (i : Int) else ixF n L (i + 1)
theorem ixF_drop {n : ByteArray} {L : List Fil} {i : Nat} {f : Fil} (hf : L[i]? = some f) : ixF n (L.drop i) i = if f.name = n then (i : Int) else ixF n (L.drop (i + 1)) (i + 1) := by
  obtain ⟨h1, rfl⟩ := List.getElem?_eq_some_iff.1 hf
  rw [List.drop_eq_getElem_cons h1]
  rfl
theorem ixF_none {n : ByteArray} : ∀ {L : List Fil} {i : Nat}, fnd n L = none → ixF n L i = -1
  | [], _, _ => rfl
  | f :: L, i, h => by
    have hn := fnd_none h
    unfold ixF
    rw [if_neg (hn f (List.mem_cons_self ..))]
    refine ixF_none ?_
    unfold fnd at h ⊢
    rw [List.find?_cons, decide_eq_false (hn f (List.mem_cons_self ..))] at h
    exact h
theorem ixF_some {n : ByteArray} : ∀ {L : List Fil} {i : Nat} {f : Fil}, fnd n L = some f → ∃ j : Nat, ixF n L i = ((i + j : Nat) : Int) ∧ L[j]? = some f
  | [], _, f, h => by simp [fnd] at h
  | g :: L, i, f, h => by
    unfold ixF
    by_cases hg : g.name = n
    · rw [if_pos hg]
      unfold fnd at h
      rw [List.find?_cons, decide_eq_true hg] at h
      exact ⟨0, rfl, by simpa using h⟩
    · rw [if_neg hg]
      unfold fnd at h
      rw [List.find?_cons, decide_eq_false hg] at h
      obtain ⟨j, h1, h2⟩ := ixF_some (i := i + 1) (show fnd n L = some f from h)
      exact ⟨j + 1, by rw [h1]; congr 1; omega, by simpa using h2⟩

set_option maxRecDepth 100000 in
set_option maxHeartbeats 4000000 in
theorem rat_any (s : ByteArray) (w : World) {S : Nat → Prop} {B : Nat} {d : Dsk} (hd : RHas w S B d) (hmost : d.L.length ≤ 1000) : Calls Try.prog 35 #[.pointer (some ⟨B, 0, none⟩), .string s] w fun e w' => e = .returned (.int .i64 (ixF s d.L 0)) ∧ w = w' := by
  obtain ⟨_, lv, ta, tn, tc, Sd, St, h⟩ := hd
  obtain ⟨la, lc, rfl, hf, _, _, _⟩ := h.fils
  obtain ⟨n, hn⟩ : ∃ n, d.L.length = n := ⟨_, rfl⟩
  obtain ⟨q, hq⟩ : ∃ q, ixF s d.L 0 = q := ⟨_, rfl⟩
  have b1 : w.cell? ⟨B, 1, none⟩ = some (.slice la d.L.length lc) := (cell_of_block h.blk 1).trans rfl
  rw [hn] at hmost b1
  rw [hq]
  have HN := Lib.hid hn
  have HQ := Lib.hid hq
  have HF := Lib.hid hf
  clear h hn hq hf
  go_enter Try.func35, Try.ntmps35
  go_wp2
  go_loopg [5] n (fun g idx wr => ∃ (i : Nat), idx = .int .i64 (i : Int) ∧ g + i = n ∧ ixF s (d.L.drop i) i = q ∧ wr = w)
  case atStart => exact ⟨0, rfl, rfl, HQ.out, rfl⟩
  case round =>
    obtain ⟨i, rfl, hg, hq, rfl⟩ := hrel
    have HG := Lib.hid hg
    have HE := Lib.hid hq
    clear hg hq HQ
    by_cases hlt : i < n
    · obtain ⟨g', rfl⟩ : ∃ g', gk = g' + 1 := ⟨gk - 1, by have := HG.out; omega⟩
      have hdd : decide ((i : Int) < (n : Int)) = true := by simp; omega
      obtain ⟨f, hf⟩ : ∃ x, d.L[i]? = some x := ⟨d.L[i]'(by rw [HN.out]; exact hlt), List.getElem?_eq_getElem _⟩
      have hst := ixF_drop (n := s) hf
      rw [HE.out] at hst
      have hfi : (d.L.map toI)[i]? = some (toI f) := by rw [List.getElem?_map, hf]; rfl
      obtain ⟨b, o, da, dc, rfl, _, r0, _⟩ := fils_at HF.out hfi
      have r0' : wr.cell? ⟨b, o + i * 3, none⟩ = some (.string f.name) := r0
      have HST := Lib.hid hst
      clear r0 hst hf hfi
      by_cases hnm : f.name = s
      · have H : Hid (q = (i : Int)) := Lib.hid (by have := HST.out; rw [if_pos hnm] at this; exact this)
        rw [hnm] at r0'
        have hee : (s.toList == s.toList) = true := by simp
        clear hnm HST
        go_wp2
        go_ret
        exact ⟨by rw [H.out]; rfl, rfl⟩
      · have H : Hid (ixF s (d.L.drop (i + 1)) (i + 1) = q) := Lib.hid (by have := HST.out; rw [if_neg hnm] at this; exact this.symm)
        have hne : (f.name.toList == s.toList) = false := by
          rw [ByteArray.toList_eq, ByteArray.toList_eq]
          have := same_is f.name s
          rw [decide_eq_false hnm] at this
          exact this
        clear hnm HST
        go_wp2
        go_roundg g'
        case measure => omega
        case rel => exact ⟨i + 1, by go_num, by have := HG.out; omega, H.out, rfl⟩
    · have hdd : decide ((i : Int) < (n : Int)) = false := by simp; omega
      have H : Hid (q = -1) := Lib.hid (by
        rw [← HE.out, List.drop_eq_nil_of_le (by rw [HN.out]; omega)]
        rfl)
      go_wp2
      go_ret
      exact ⟨by rw [H.out]; rfl, rfl⟩

theorem rat_calls (s : ByteArray) (w : World) {S : Nat → Prop} {B : Nat} {d : Dsk} (hd : RefD w S B d) : Calls Try.prog 35 #[.pointer (some ⟨B, 0, none⟩), .string s] w fun e w' => e = .returned (.int .i64 (ixF s d.L 0)) ∧ w = w' :=
  rat_any s w hd.2 (by have := hd.1.most; omega)

theorem used_drop {L : List Fil} {i : Nat} {f : Fil} (hi : L[i]? = some f) : used (L.drop i) = f.data.length + used (L.drop (i + 1)) := by
  obtain ⟨h1, rfl⟩ := List.getElem?_eq_some_iff.1 hi
  rw [List.drop_eq_getElem_cons h1]
  rfl

set_option maxRecDepth 100000 in
set_option maxHeartbeats 4000000 in
theorem rused_any (w : World) {S : Nat → Prop} {B : Nat} {d : Dsk} (hd : RHas w S B d) (hmost : d.L.length ≤ 1000) (hu : used d.L ≤ 1073741824) : Calls Try.prog 18 #[.pointer (some ⟨B, 0, none⟩)] w fun e w' => e = .returned (.int .i64 (used d.L : Int)) ∧ w = w' := by
  obtain ⟨_, lv, ta, tn, tc, Sd, St, h⟩ := hd
  obtain ⟨la, lc, rfl, hf, _, _, _⟩ := h.fils
  obtain ⟨n, hn⟩ : ∃ n, d.L.length = n := ⟨_, rfl⟩
  obtain ⟨q, hq⟩ : ∃ q, used d.L = q := ⟨_, rfl⟩
  have b1 : w.cell? ⟨B, 1, none⟩ = some (.slice la d.L.length lc) := (cell_of_block h.blk 1).trans rfl
  rw [hn] at hmost b1
  rw [hq] at hu ⊢
  have HN := Lib.hid hn
  have HQ := Lib.hid hq
  have HF := Lib.hid hf
  clear h hn hq hf
  go_enter Try.func18, Try.ntmps18
  go_wp2
  go_loopg [3, 4] n (fun g acc idx wr => ∃ (i m : Nat), idx = .int .i64 (i : Int) ∧ acc = .int .i64 (m : Int) ∧ g + i = n ∧ m + used (d.L.drop i) = q ∧ wr = w)
  case atStart => exact ⟨0, 0, rfl, rfl, rfl, by rw [Nat.zero_add]; exact HQ.out, rfl⟩
  case round =>
    obtain ⟨i, m, rfl, rfl, hg, hq, rfl⟩ := hrel
    have HG := Lib.hid hg
    have HE := Lib.hid hq
    clear hg hq HQ
    by_cases hlt : i < n
    · obtain ⟨g', rfl⟩ : ∃ g', gk = g' + 1 := ⟨gk - 1, by have := HG.out; omega⟩
      have hdd : decide ((i : Int) < (n : Int)) = true := by simp; omega
      obtain ⟨f, hf⟩ : ∃ x, d.L[i]? = some x := ⟨d.L[i]'(by rw [HN.out]; exact hlt), List.getElem?_eq_getElem _⟩
      have hst := used_drop hf
      have hfi : (d.L.map toI)[i]? = some (toI f) := by rw [List.getElem?_map, hf]; rfl
      obtain ⟨b, o, da, dc, rfl, _, _, r1, _⟩ := fils_at HF.out hfi
      have r1' : wr.cell? ⟨b, o + i * 3 + 1, none⟩ = some (.slice da f.data.length dc) := r1
      obtain ⟨z, hz⟩ : ∃ z, f.data.length = z := ⟨_, rfl⟩
      rw [hz] at r1' hst
      have hmz : m + z ≤ 1073741824 := by have := HE.out; omega
      have HST := Lib.hid hst
      clear r1 hst hf hfi hz
      go_wp2
      go_roundg g'
      case measure => omega
      case rel => exact ⟨i + 1, m + z, by go_num, by go_num, by have := HG.out; omega, by have := HE.out; have := HST.out; omega, rfl⟩
    · have hdd : decide ((i : Int) < (n : Int)) = false := by simp; omega
      have H : Hid (m = q) := Lib.hid (by
        have := HE.out
        rw [List.drop_eq_nil_of_le (by rw [HN.out]; omega)] at this
        simpa [used] using this)
      go_wp2
      go_ret
      exact ⟨by rw [← H.out]; rfl, rfl⟩

theorem rused_calls (w : World) {S : Nat → Prop} {B : Nat} {d : Dsk} (hd : RefD w S B d) (hu : used d.L ≤ 1073741824) : Calls Try.prog 18 #[.pointer (some ⟨B, 0, none⟩)] w fun e w' => e = .returned (.int .i64 (used d.L : Int)) ∧ w = w' :=
  rused_any w hd.2 (by have := hd.1.most; omega) hu

def RBorn (d : Dsk) (w : World) (e : Ending) (w' : World) : Prop := ∃ B S, e = .returned (.pointer (some ⟨B, 0, none⟩)) ∧ RefD w' S B d ∧ Fresh Non w.heap.size S ∧ Below w.heap.size w w'

theorem inv_dsk0 {room : Int} (h1 : room ≤ 9223372036854775807) : Inv (dsk0 room) :=
  ⟨by show 0 ≤ max room 0; omega, by show max room 0 ≤ _; omega, List.Pairwise.nil, Nat.zero_le _, (fun f hf => by cases hf), (fun f hf => by cases hf), (fun f hf => by cases hf), by show ((0 : Nat) : Int) ≤ max room 0; omega⟩

set_option maxRecDepth 100000 in
theorem rnew_calls (room : Int) (w : World) (h1 : room ≤ 9223372036854775807) : Calls Try.prog 34 #[.int .i64 room] w (RBorn (dsk0 room) w) := by
  have hi := inv_dsk0 h1
  obtain ⟨R, hR⟩ : ∃ R, max room 0 = R := ⟨_, rfl⟩
  have H : Hid (RBorn (dsk0 room) w (.returned (.pointer (some ⟨w.heap.size, 0, none⟩))) (w.alloc (.cells #[.int .i64 R, .slice none 0 0, .slice none 0 0, .int .i64 0, .bool false] 44))) := Lib.hid (by
    refine ⟨w.heap.size, One w.heap.size, rfl, ⟨hi, fun k e => by rw [show k = w.heap.size from e]; simp, .slice none 0 0, none, 0, 0, Non, Non, ?_⟩, fun k hk => .inr (Nat.le_of_eq (show k = w.heap.size from hk).symm), (Below.refl _ w).alloc (Nat.le_refl _) _⟩
    exact {
      blk := by rw [heap_alloc_new, ← hR]; rfl
      row := ⟨[], World.ownsRow_nil _ _ _ _, FCells.nil _ _⟩
      tro := .inl rfl
      trn := rfl
      sB := rfl
      sR := fun k e => by cases e
      sD := fun k e => e.elim
      sT := fun k e => e.elim })
  clear hi h1
  by_cases hr : room < 0
  · have hd : decide (room < 0) = true := by simpa using hr
    obtain rfl : 0 = R := by omega
    clear hr hR
    go_enter Try.func34, Try.ntmps34
    go_wp2
    go_ret
    exact H.out
  · have hd : decide (room < 0) = false := by simpa using hr
    obtain rfl : room = R := by omega
    clear hr hR
    go_enter Try.func34, Try.ntmps34
    go_wp2
    go_ret
    exact H.out

end Go.Proofs.Ytfiacojgddpphaa
