/-
 The reference's Runes and Name: the runes of a text as its Next tells them; a name by them. Condition: the text is shorter than 2 to the 30.
-/
import Derived.Test.YtocnedpclllbhaaGreatDoorPureNext
import Derived.Lib.ValidLaws
import Derived.Lib.ConvBytes
import Derived.Laws.IdiomStrings
import Derived.OwnWalk
import Derived.Maps.AppendAt
namespace Go.Proofs.YtocnedpclllbhaaGreatDoor
open Go.RowKit Go.Lib

set_option maxRecDepth 100000 in
set_option maxHeartbeats 1000000 in
theorem refNext_calls (a : Option Addr) (n c : Nat) (f : Nat → Nat) (i : Int) (w : World) (hr : Row8 w a n f) (hn : n ≤ 4611686018427387904) :
    Calls Tryz.prog 46 #[.slice a n c, .int .i64 i] w (Leaves (runeOf (nextZ f n i)) w) := by
  obtain ⟨hf, _, hrow⟩ := hr
  unfold nextZ
  by_cases h0 : i < 0
  · have hd : decide (i < 0) = true := decide_eq_true h0
    rw [if_pos (Or.inl h0)]
    go_enter Tryz.func46, Tryz.ntmps46
    go_wp2
    go_ret2
    exact ⟨rfl, Below.refl _ _⟩
  · have hd : decide (i < 0) = false := decide_eq_false h0
    by_cases h1 : (n : Int) ≤ i
    · have hd1 : decide (i ≥ (n : Int)) = true := decide_eq_true h1
      rw [if_pos (Or.inr h1)]
      go_enter Tryz.func46, Tryz.ntmps46
      go_wp2
      go_ret2
      exact ⟨rfl, Below.refl _ _⟩
    · rw [if_neg (by omega)]
      obtain ⟨k, rfl⟩ : ∃ k : Nat, i = (k : Int) := ⟨i.toNat, by omega⟩
      rcases hrow with h | ⟨b, o, rfl, hcell⟩
      · omega
      rw [Int.toNat_natCast, ← ref_is_nx f n k (by omega) hf]
      exact refNext_in b o c n k f w hf (by omega) (by omega) hcell

def badFrom (f : Nat → Nat) (N : Nat) : Nat → Nat → Int
  | 0, _ => -1
  | g + 1, p => if p < N then (if (nx f N p).2 = 0 then (p : Int) else badFrom f N g (p + (nx f N p).2)) else -1
def badZ (f : Nat → Nat) (N : Nat) : Int := badFrom f N N 0

theorem decodeN_width (n b0 b1 b2 b3 : Nat) : 1 ≤ (decodeN n b0 b1 b2 b3).2 ∧ (decodeN n b0 b1 b2 b3).2 ≤ 4 := by
  unfold decodeN
  repeat' split
  all_goals simp

theorem nx_width (f : Nat → Nat) (N p : Nat) : (nx f N p).2 ≤ 4 := by
  unfold nx
  have := decodeN_width (N - p) (f p) (f (p + 1)) (f (p + 2)) (f (p + 3))
  simp only
  split
  · omega
  · simp

theorem nextZ_at (f : Nat → Nat) (N p : Nat) (h : p < N) : nextZ f N p = nx f N p := by
  unfold nextZ
  rw [if_neg (by omega), Int.toNat_natCast]

set_option maxRecDepth 100000 in
set_option maxHeartbeats 1000000 in
theorem bad_calls (a : Option Addr) (n c : Nat) (f : Nat → Nat) (w : World) (hL : Laid w) (hc : n ≤ c) (hc2 : c ≤ 9223372036854775807) (hr : Row8 w a n f) (hn : n ≤ 4611686018427387904) :
    Calls Tryz.prog 62 #[.slice a n c] w (Leaves (.int .i64 (badZ f n)) w) := by
  have HROW := Lib.hid hr
  obtain ⟨q, hq⟩ : ∃ q, badZ f n = q := ⟨_, rfl⟩
  rw [hq]
  have HQ := Lib.hid hq
  clear hq hr
  go_enter Tryz.func62, Tryz.ntmps62
  go_wp2
  go_loopg [3] n (fun g s wr => ∃ p : Nat, s = .int .i64 p ∧ n ≤ g + p ∧ p ≤ n + 4 ∧ badFrom f n g p = q ∧ Below w.heap.size w wr)
  case atStart => exact ⟨0, rfl, by omega, by omega, HQ.out, Below.refl _ _⟩
  case round =>
    obtain ⟨p, rfl, hg, hp4, hbad, hb⟩ := hrel
    have HG := Lib.hid hg
    have HBAD := Lib.hid hbad
    have HB := Lib.hid hb
    clear hg hbad hb HQ
    by_cases hlt : p < n
    · have hd : decide ((p : Int) < (n : Int)) = true := by simp; omega
      obtain ⟨g', rfl⟩ : ∃ g', gk = g' + 1 := ⟨gk - 1, by have := HG.out; omega⟩
      have hw := nx_width f n p
      obtain ⟨⟨r, z⟩, hrz⟩ : ∃ d, nx f n p = d := ⟨_, rfl⟩
      have hn1 : nextZ f n (p : Int) = (r, z) := by rw [nextZ_at f n p hlt, hrz]
      have hb2 : (if z = 0 then (p : Int) else badFrom f n g' (p + z)) = q := by
        have := HBAD.out
        rw [badFrom, if_pos hlt, hrz] at this
        exact this
      rw [hrz] at hw
      have HN1 := Lib.hid hn1
      have HB2 := Lib.hid hb2
      have HW := Lib.hid hw
      clear hn1 hb2 hrz hw HBAD
      go_wp2_with fail
      refine (next_calls a n c f (p : Int) wr (hL.below HB.out) (Row8.below HROW.out HB.out) hc hc2).mono ?_
      rintro e w2 ⟨rfl, hb3⟩
      have HB3 := Lib.hid hb3
      clear hb3
      rw [HN1.out]
      unfold runeOf
      by_cases hz : z = 0
      · have hz2 : ((z : Int) == 0) = true := by rw [beq_iff_eq]; omega
        go_wp2
        go_ret
        refine ⟨?_, below_then HB.out HB3.out⟩
        have := HB2.out
        rw [if_pos hz] at this
        rw [← this]
        rfl
      · have hz2 : ((z : Int) == 0) = false := by rw [beq_eq_false_iff_ne]; omega
        have hw4 : z ≤ 4 := HW.out
        go_wp2
        go_roundg g'
        case measure => omega
        case rel =>
          refine ⟨p + z, by go_num, by have := HG.out; omega, by omega, ?_, below_then HB.out HB3.out⟩
          have := HB2.out
          rw [if_neg hz] at this
          exact this
    · have hd : decide ((p : Int) < (n : Int)) = false := by simp; omega
      go_wp2
      go_ret
      refine ⟨?_, HB.out⟩
      have := HBAD.out
      cases gk with
      | zero => rw [badFrom] at this; rw [← this]; rfl
      | succ g => rw [badFrom, if_neg hlt] at this; rw [← this]; rfl

set_option maxRecDepth 100000 in
set_option maxHeartbeats 1000000 in
theorem refBad_calls (a : Option Addr) (n c : Nat) (f : Nat → Nat) (w : World) (hr : Row8 w a n f) (hn : n ≤ 4611686018427387904) :
    Calls Tryz.prog 24 #[.slice a n c] w (Leaves (.int .i64 (badZ f n)) w) := by
  have HROW := Lib.hid hr
  obtain ⟨q, hq⟩ : ∃ q, badZ f n = q := ⟨_, rfl⟩
  rw [hq]
  have HQ := Lib.hid hq
  clear hq hr
  go_enter Tryz.func24, Tryz.ntmps24
  go_wp2
  go_loopg [3] n (fun g s wr => ∃ p : Nat, s = .int .i64 p ∧ n ≤ g + p ∧ p ≤ n + 4 ∧ badFrom f n g p = q ∧ Below w.heap.size w wr)
  case atStart => exact ⟨0, rfl, by omega, by omega, HQ.out, Below.refl _ _⟩
  case round =>
    obtain ⟨p, rfl, hg, hp4, hbad, hb⟩ := hrel
    have HG := Lib.hid hg
    have HBAD := Lib.hid hbad
    have HB := Lib.hid hb
    clear hg hbad hb HQ
    by_cases hlt : p < n
    · have hd : decide ((p : Int) < (n : Int)) = true := by simp; omega
      obtain ⟨g', rfl⟩ : ∃ g', gk = g' + 1 := ⟨gk - 1, by have := HG.out; omega⟩
      have hw := nx_width f n p
      obtain ⟨⟨r, z⟩, hrz⟩ : ∃ d, nx f n p = d := ⟨_, rfl⟩
      have hn1 : nextZ f n (p : Int) = (r, z) := by rw [nextZ_at f n p hlt, hrz]
      have hb2 : (if z = 0 then (p : Int) else badFrom f n g' (p + z)) = q := by
        have := HBAD.out
        rw [badFrom, if_pos hlt, hrz] at this
        exact this
      rw [hrz] at hw
      have HN1 := Lib.hid hn1
      have HB2 := Lib.hid hb2
      have HW := Lib.hid hw
      clear hn1 hb2 hrz hw HBAD
      go_wp2_with fail
      refine (refNext_calls a n c f (p : Int) wr (Row8.below HROW.out HB.out) hn).mono ?_
      rintro e w2 ⟨rfl, hb3⟩
      have HB3 := Lib.hid hb3
      clear hb3
      rw [HN1.out]
      unfold runeOf
      by_cases hz : z = 0
      · have hz2 : ((z : Int) == 0) = true := by rw [beq_iff_eq]; omega
        go_wp2
        go_ret
        refine ⟨?_, below_then HB.out HB3.out⟩
        have := HB2.out
        rw [if_pos hz] at this
        rw [← this]
        rfl
      · have hz2 : ((z : Int) == 0) = false := by rw [beq_eq_false_iff_ne]; omega
        have hw4 : z ≤ 4 := HW.out
        go_wp2
        go_roundg g'
        case measure => omega
        case rel =>
          refine ⟨p + z, by go_num, by have := HG.out; omega, by omega, ?_, below_then HB.out HB3.out⟩
          have := HB2.out
          rw [if_neg hz] at this
          exact this
    · have hd : decide ((p : Int) < (n : Int)) = false := by simp; omega
      go_wp2
      go_ret
      refine ⟨?_, HB.out⟩
      have := HBAD.out
      cases gk with
      | zero => rw [badFrom] at this; rw [← this]; rfl
      | succ g => rw [badFrom, if_neg hlt] at this; rw [← this]; rfl

end Go.Proofs.YtocnedpclllbhaaGreatDoor
namespace Go.Proofs.YtocnedpclllbhaaGreatDoor
set_option linter.unusedVariables false
open Go.RowKit Go.Lib

def errD (d : Nat × Nat) : Bool := d.1 == 65533 && d.2 == 1

theorem errD_iff (d : Nat × Nat) : errD d = true ↔ (d.1 = 65533 ∧ d.2 = 1) := by simp [errD]

/-- A name's walk: each rune is right and goes on; the first begins. -/
def walkW (f : Nat → Nat) (N : Nat) : Nat → Nat → Bool
  | 0, _ => true
  | g + 1, p => if p < N then (if errD (dN f N p) = true then false else if p = 0 ∧ beginsB (dN f N p).1 = false then false else if goesB (dN f N p).1 = false then false else walkW f N g (p + (dN f N p).2)) else true

def nameW (l : List UInt8) : Bool := !l.isEmpty && walkW (fs l) l.length l.length 0

theorem walkW_done (f : Nat → Nat) (N g p : Nat) (h : ¬ p < N) : walkW f N g p = true := by
  cases g with
  | zero => rfl
  | succ g => rw [walkW, if_neg h]

theorem walkP_done (f : Nat → Nat) (N g p : Nat) (h : ¬ p < N) : walkP f N g p = true := by
  cases g with
  | zero => rfl
  | succ g => rw [walkP, if_neg h]

theorem decodeL_at (l : List UInt8) (p : Nat) : decodeL (l.drop p) = dN (fs l) l.length p := by
  rw [decodeL_N, List.length_drop, getD_dropU, getD_dropU, getD_dropU, getD_dropU]
  rfl

theorem valid_at (l : List UInt8) (p : Nat) (h : p < l.length) : validD (l.drop p) = (!errD (dN (fs l) l.length p) && validD (l.drop (p + (dN (fs l) l.length p).2))) := by
  have hne : l.drop p ≠ [] := fun h2 => by have := congrArg List.length h2; simp at this; omega
  rw [validD_step _ hne, decodeL_at, List.drop_drop]
  by_cases he : (dN (fs l) l.length p).1 = 65533 ∧ (dN (fs l) l.length p).2 = 1
  · rw [if_pos he, (errD_iff _).2 he]
    rfl
  · rw [if_neg he]
    have : errD (dN (fs l) l.length p) = false := by
      cases hx : errD (dN (fs l) l.length p) with
      | false => rfl
      | true => exact absurd ((errD_iff _).1 hx) he
    rw [this]
    rfl

theorem name_merge (l : List UInt8) : ∀ (g p : Nat), l.length ≤ g + p → (validD (l.drop p) && walkP (fs l) l.length g p) = walkW (fs l) l.length g p
  | 0, p, h => by
    rw [List.drop_eq_nil_of_le (by omega)]
    rfl
  | g + 1, p, h => by
    by_cases hp : p < l.length
    · have hw := decodeN_pos (l.length - p) (fs l p) (fs l (p + 1)) (fs l (p + 2)) (fs l (p + 3))
      have ih := name_merge l g (p + (dN (fs l) l.length p).2) (by unfold dN; omega)
      rw [valid_at l p hp, walkP, walkW, if_pos hp, if_pos hp]
      cases he : errD (dN (fs l) l.length p) with
      | true => simp
      | false =>
        rw [if_neg (show ¬ false = true by decide)]
        by_cases hb : p = 0 ∧ beginsB (dN (fs l) l.length p).1 = false
        · rw [if_pos hb, if_pos hb]; simp
        · rw [if_neg hb, if_neg hb]
          by_cases hg : goesB (dN (fs l) l.length p).1 = false
          · rw [if_pos hg, if_pos hg]; simp
          · rw [if_neg hg, if_neg hg, ← ih]; simp
    · rw [List.drop_eq_nil_of_le (by omega), walkP_done _ _ _ _ hp, walkW_done _ _ _ _ hp]
      rfl

theorem nameP_eq (l : List UInt8) : nameP l = nameW l := by
  unfold nameP nameW
  have := name_merge l l.length 0 (by omega)
  rw [List.drop_zero] at this
  rw [← this, Bool.and_assoc]

/-! ### Decoding at a place: what it hangs on, how far it goes -/
end Go.Proofs.YtocnedpclllbhaaGreatDoor
namespace Go.Proofs.YtocnedpclllbhaaGreatDoor
open Go.RowKit Go.Lib

/-- A text's runes from a place on, if each is there. -/
def runesFrom (f : Nat → Nat) (N : Nat) : Nat → Nat → Option (List Nat)
  | 0, _ => some []
  | g + 1, p => if p < N then (if (nx f N p).2 = 0 then none else (runesFrom f N g (p + (nx f N p).2)).map ((nx f N p).1 :: ·)) else some []

def cellsR (l : List Nat) : List Value := l.map fun x : Nat => Value.int .i32 (x : Int)

/-- A slice that leads to these runes. -/
def RowR (w : World) (a : Option Addr) (l : List Nat) : Prop := l = [] ∨ ∃ b o, a = some ⟨b, o, none⟩ ∧ ∀ (i x : Nat), l[i]? = some x → w.cell? ⟨b, o + i, none⟩ = some (.int .i32 (x : Int))

def RunesOut (q : Option (List Nat)) (w : World) (e : Ending) (w' : World) : Prop :=
  Below w.heap.size w w' ∧ ((q = none ∧ e = .returned (.tuple #[.slice none 0 0, .bool false])) ∨
    ∃ l a c, q = some l ∧ l.length ≤ 4294967296 ∧ e = .returned (.tuple #[.slice a l.length c, .bool true]) ∧ RowR w' a l)

theorem info21 : (Tryz.prog.info? 21).map (fun i => (i.zero, i.size, i.bytes)) = some (some (.int .i32 0), 1, 4) := by kernel_rfl
theorem under33 : Tryz.prog.underlying 85 = some (.slice 21) := by kernel_rfl

theorem rowR_of_owns {w : World} {B : Nat} {v : Value} {l : List Nat} (h : w.ownsRow B 21 1 v l.length (cellsR l)) : ∃ a c, v = .slice a l.length c ∧ RowR w a l := by
  rcases h.2 with ⟨h1, h0⟩ | ⟨g, cap, cur, h1, hg, hgb, hcap, hcm, hcur, htk⟩
  · exact ⟨none, 0, by rw [h1, h0], Or.inl (List.length_eq_zero_iff.1 h0)⟩
  · refine ⟨_, cap, h1, Or.inr ⟨g, 0, rfl, fun i x hx => ?_⟩⟩
    have := h.cells (g := g) (by rw [h1]; rfl) i (.int .i32 x) (by rw [cellsR, List.getElem?_map, hx]; rfl)
    rwa [Addr.add_mid] at this

theorem bytesWorld_below (w : World) (s : ByteArray) : Below w.heap.size w (bytesWorld w 5 s) :=
  ⟨rfl, rfl, rfl, by rw [bytesWorld_size]; omega, fun k hk => bytesWorld_at_old w 5 s k hk⟩

set_option maxRecDepth 100000 in
set_option maxHeartbeats 2000000 in
theorem runes_calls (s : ByteArray) (w : World) (hs : s.size ≤ 1073741824) : Calls Tryz.prog 47 #[.string s] w (RunesOut (runesFrom (fs s.data.toList) s.size s.size 0) w) := by
  obtain ⟨i0, hi, hj0, hj1, hj2⟩ := info_parts info21
  have hconv := Lib.run_convert_string_bytes (P := Tryz.prog) w 9 53 5 s Tryz.underlying9 Tryz.underlying53 Tryz.underlying5
  have hb0 := bytesWorld_below w s
  have hrow : Row8 (bytesWorld w 5 s) (some ⟨w.heap.size, 0, none⟩) s.size (fs s.data.toList) :=
    ⟨fs_lt _, by omega, Or.inr ⟨_, _, rfl, fun i hi => by rw [Nat.zero_add]; exact bytesWorld_cell w 5 s i hi⟩⟩
  obtain ⟨W1, hW1⟩ : ∃ W1, bytesWorld w 5 s = W1 := ⟨_, rfl⟩
  obtain ⟨cap, hcap⟩ : ∃ cap, grownCap w s.size 0 5 = cap := ⟨_, rfl⟩
  rw [hW1] at hconv hb0 hrow
  rw [hcap] at hconv
  obtain ⟨q, hq⟩ : ∃ q, runesFrom (fs s.data.toList) s.size s.size 0 = q := ⟨_, rfl⟩
  rw [hq]
  have HQ := Lib.hid hq
  have HB0 := Lib.hid hb0
  have HROW := Lib.hid hrow
  have hBW1 := hb0.size
  clear hq hb0 hrow hW1 hcap
  go_enter Tryz.func47, Tryz.ntmps47
  go_wp2
  go_loopg [5, 6] s.size (fun g v k wr => ∃ (p : Nat) (acc : List Nat), k = .int .i64 p ∧ s.size ≤ g + p ∧ p ≤ s.size + 4 ∧ acc.length ≤ p ∧ (runesFrom (fs s.data.toList) s.size g p).map (acc ++ ·) = q ∧ wr.ownsRow W1.heap.size 21 1 v acc.length (cellsR acc) ∧ Below W1.heap.size W1 wr)
  case atStart => exact ⟨0, [], rfl, by omega, by omega, Nat.le_refl _, by rw [HQ.out]; cases q <;> rfl, World.ownsRow_nil _ _ _ _, Below.refl _ _⟩
  case round =>
    obtain ⟨p, acc, rfl, hg, hp4, hal, hacc, hown, hb2⟩ := hrel
    have HG := Lib.hid hg
    have HACC := Lib.hid hacc
    have HB2 := Lib.hid hb2
    have hBw : W1.heap.size ≤ wr.heap.size := hb2.size
    clear hg hacc hb2 HQ
    by_cases hlt : p < s.size
    · have hd : decide ((p : Int) < (s.size : Int)) = true := by simp; omega
      obtain ⟨g', rfl⟩ : ∃ g', gk = g' + 1 := ⟨gk - 1, by have := HG.out; omega⟩
      have hw := nx_width (fs s.data.toList) s.size p
      obtain ⟨⟨r, z⟩, hrz⟩ : ∃ d, nx (fs s.data.toList) s.size p = d := ⟨_, rfl⟩
      have hn1 : nextZ (fs s.data.toList) s.size (p : Int) = (r, z) := by rw [nextZ_at _ _ _ hlt, hrz]
      have hst : ((if z = 0 then none else (runesFrom (fs s.data.toList) s.size g' (p + z)).map (r :: ·)).map (acc ++ ·)) = q := by
        have := HACC.out
        rw [runesFrom, if_pos hlt, hrz] at this
        exact this
      rw [hrz] at hw
      have hz4 : z ≤ 4 := hw
      have HN1 := Lib.hid hn1
      have HST := Lib.hid hst
      clear hn1 hst hrz hw HACC
      have hownH := Lib.hid hown
      clear hown
      go_wp2_with fail
      refine (refNext_calls _ s.size cap (fs s.data.toList) (p : Int) wr (HROW.out.below HB2.out) (by omega)).mono ?_
      rintro e w2 ⟨rfl, hb3⟩
      have hown : w2.ownsRow W1.heap.size 21 1 u5 acc.length (cellsR acc) := hownH.out.kept (row := none) ⟨hb3.os, hb3.tape, hb3.output, hb3.size, fun k hk _ => hb3.block k hk⟩ (by cases u5.ownBlock <;> simp)
      have hBw2 : W1.heap.size ≤ w2.heap.size := Nat.le_trans hBw hb3.size
      have HB4 := Lib.hid (below_then HB2.out hb3)
      clear hb3 hownH hBw
      rw [HN1.out]
      unfold runeOf
      by_cases hz : z = 0
      · have hz2 : ((z : Int) == 0) = true := by rw [beq_iff_eq]; omega
        clear hown
        go_wp2
        go_ret2
        refine ⟨below_then HB0.out HB4.out, Or.inl ⟨?_, rfl⟩⟩
        have := HST.out
        rw [if_pos hz] at this
        exact this.symm
      · have hz2 : ((z : Int) == 0) = false := by rw [beq_eq_false_iff_ne]; omega
        go_wp2_with (at_builtin; refine wpList_append_own _ rfl (.tmp 23) (.tmp 25) 85 rfl W1.heap.size 21 i0 (.int .i32 0) 1 4 under33 hi hj0 hj1 hj2 rfl (by decide) _ _ _ rfl (hown.alloc _) ⟨w2.heap.size, 0, none⟩ 1 1 [.int .i32 (r : Int)] rfl rfl ?c1 ?c2 ?c3 ?c4 ?c5 ?_)
        case c1 => exact cell_one_new _ _ _
        case c2 => intro u hu; obtain rfl := List.mem_singleton.1 hu; rfl
        case c3 => unfold maxLen; omega
        case c4 => omega
        case c5 => simp; omega
        intro t' w3 hown1 hgrow _
        have hb1 : Below W1.heap.size W1 w3 := (HB4.out.alloc hBw2 _).grown hgrow (by simp; omega) (fun k hk => (hown.lt k hk).1)
        have hown2 : w3.ownsRow W1.heap.size 21 1 t' (acc ++ [r]).length (cellsR (acc ++ [r])) := by simpa [cellsR] using hown1
        have HB5 := Lib.hid hb1
        have HO := Lib.hid hown2
        clear hown hown1 hown2 hgrow hb1 hBw2
        go_wp2
        go_roundg g'
        case measure => omega
        case rel =>
          refine ⟨p + z, acc ++ [r], by go_num, by have := HG.out; omega, by omega, by simp; omega, ?_, HO.out, HB5.out⟩
          have := HST.out
          rw [if_neg hz] at this
          rw [← this]
          cases runesFrom (fs s.data.toList) s.size g' (p + z) <;> simp
    · have hd : decide ((p : Int) < (s.size : Int)) = false := by simp; omega
      obtain ⟨a, c, rfl, hrr⟩ := rowR_of_owns hown
      have HRR := Lib.hid hrr
      clear hown hrr
      go_wp2
      go_ret2
      refine ⟨below_then HB0.out HB2.out, Or.inr ⟨acc, a, c, ?_, by omega, rfl, HRR.out⟩⟩
      have := HACC.out
      cases gk with
      | zero => rw [runesFrom] at this; rw [← this]; simp
      | succ g => rw [runesFrom, if_neg hlt] at this; rw [← this]; simp

/-- The reference's word on a name, by the runes. -/
def nameR (q : Option (List Nat)) : Bool :=
  match q with
  | none => false
  | some [] => false
  | some (r :: t) => beginsB r && (r :: t).all fun x => goesB (x : Int)

set_option maxRecDepth 100000 in
set_option maxHeartbeats 2000000 in
theorem refName_calls (s : ByteArray) (w : World) (hs : s.size ≤ 1073741824) : Calls Tryz.prog 26 #[.string s] w (Leaves (.bool (nameR (runesFrom (fs s.data.toList) s.size s.size 0))) w) := by
  have R := runes_calls s w hs
  obtain ⟨q, hq⟩ : ∃ q, runesFrom (fs s.data.toList) s.size s.size 0 = q := ⟨_, rfl⟩
  rw [hq] at R ⊢
  have HR := Lib.hid R
  clear hq R
  go_enter Tryz.func26, Tryz.ntmps26
  go_wp2_with fail
  refine HR.out.mono ?_
  rintro e w1 ⟨hb, h⟩
  have HB := Lib.hid hb
  clear hb HR
  rcases h with ⟨rfl, rfl⟩ | ⟨l, a, c, rfl, hll, rfl, hrow⟩
  · go_wp2
    go_ret
    exact ⟨rfl, HB.out⟩
  · cases l with
    | nil =>
      go_wp2
      go_ret
      exact ⟨rfl, HB.out⟩
    | cons r t =>
      rcases hrow with h | ⟨b, o, rfl, hc⟩
      · cases h
      have hne : (((r :: t).length : Int) == 0) = false := by
        rw [beq_eq_false_iff_ne]
        simp only [List.length_cons]
        omega
      have hn0 : (0 : Int) < ((r :: t).length : Int) := by simp only [List.length_cons]; omega
      have c0 : w1.cell? ⟨b, o, none⟩ = some (.int .i32 (r : Int)) := by have := hc 0 r rfl; rwa [Nat.add_zero] at this
      have HC := Lib.hid hc
      clear hc
      obtain ⟨l, hl⟩ : ∃ l, r :: t = l := ⟨_, rfl⟩
      have HN : Hid (nameR (some (r :: t)) = (beginsB r && l.all fun x => goesB (x : Int))) := Lib.hid (by rw [← hl]; rfl)
      obtain ⟨q, hq⟩ : ∃ q, nameR (some (r :: t)) = q := ⟨_, rfl⟩
      rw [hq] at HN
      have HNQ := Lib.hid hq
      rw [hl] at hne hn0 HC hll ⊢
      clear hl hq
      go_wp2_with fail
      refine (refBegins_calls (r : Int) _).mono ?_
      rintro e w2 ⟨rfl, rfl⟩
      obtain ⟨x, hx⟩ : ∃ x, inTab firstsT (r : Int) = x := ⟨_, rfl⟩
      rw [hx]
      have HX : Hid (beginsB r = x) := Lib.hid hx
      clear hx
      cases x with
      | false =>
        go_wp2
        go_ret
        exact ⟨by rw [HNQ.out, HN.out, HX.out]; rfl, HB.out⟩
      | true =>
        have HQ : Hid (q = l.all fun x => goesB (x : Int)) := Lib.hid (by rw [HN.out, HX.out]; rfl)
        go_wp2
        go_loopg [5] l.length (fun g v wr => ∃ i : Nat, v = .int .i64 i ∧ g + i = l.length ∧ (q = (l.drop i).all fun x => goesB (x : Int)) ∧ wr = w2)
        case atStart => exact ⟨0, rfl, rfl, by rw [List.drop_zero]; exact HQ.out, rfl⟩
        case round =>
          obtain ⟨i, rfl, hg, hqi, rfl⟩ := hrel
          have HG := Lib.hid hg
          have HQI := Lib.hid hqi
          clear hg hqi HQ
          by_cases hlt : i < l.length
          · have hd : decide ((i : Int) < (l.length : Int)) = true := by simp; omega
            have hii : (i : Int) < (l.length : Int) := by omega
            obtain ⟨y, hy⟩ : ∃ y, l.drop i = y :: l.drop (i + 1) := ⟨_, List.drop_eq_getElem_cons hlt⟩
            have hyi : l[i]? = some y := by
              have := congrArg (·[0]?) hy
              simpa [List.getElem?_drop] using this
            have ci := HC.out i y hyi
            have HY := Lib.hid hy
            clear hy hyi
            go_wp2_with fail
            refine (refGoesOn_calls (y : Int) _).mono ?_
            rintro e w3 ⟨rfl, rfl⟩
            obtain ⟨z, hz⟩ : ∃ z, (inTab furtherT (y : Int) || inTab firstsT (y : Int)) = z := ⟨_, rfl⟩
            rw [hz]
            have HZ : Hid (goesB y = z) := Lib.hid hz
            clear hz
            cases z with
            | false =>
              go_wp2
              go_ret
              exact ⟨by rw [HNQ.out, HQI.out, HY.out, List.all_cons, HZ.out]; rfl, HB.out⟩
            | true =>
              go_wp2
              go_roundg (gk - 1)
              case measure => have := HG.out; omega
              case rel => exact ⟨i + 1, by go_num, by have := HG.out; omega, by rw [HQI.out, HY.out, List.all_cons, HZ.out, Bool.true_and], rfl⟩
          · have hd : decide ((i : Int) < (l.length : Int)) = false := by simp; omega
            go_wp2
            go_ret
            exact ⟨by rw [HNQ.out, HQI.out, List.drop_eq_nil_of_le (by omega)]; rfl, HB.out⟩

end Go.Proofs.YtocnedpclllbhaaGreatDoor
