/-
  The program's Lines: each end of a line turned into one, over the library's ReplaceAll. Conditions: the text is shorter than 2 to the 30; the library's length variable holds an integer. The reference's Lines: the bytes one by one, a 13 turned into 10 or left out. Condition: the text is shorter than 2 to the 30. The bytes of a rune: the reference's Encode, and the program's over the library's AppendRune. No condition. Blanks; the reference's answers on what XML has, and on what a name may begin and go on with. No condition. The program's Encode, over the library's AppendRune; the reference's comparison of two rows of bytes. No condition.
-/
import Derived.Test.YtfonflbpkbibbaaGreatDoorNext
import Derived.Test.YtfonflbpkbibbaaGreatDoorShelf
import Derived.Lib.ConvBytes
import Derived.Laws.IdiomStrings
import Derived.OwnWalk
import Derived.Maps.AppendAt
import Derived.Test.YtfonflbpkbibbaaGreatDoorTabs
import Derived.Deep.AppendLies
import Derived.Deep.QuietTactic
import Derived.BigQuiet
namespace Go.Proofs.YtfonflbpkbibbaaGreatDoor
open Go.RowKit Go.Lib

/-- Each 13 10, and each 13 alone, turned into 10. -/
def eols : List UInt8 → List UInt8
  | [] => []
  | b :: t => if b = 13 then (if t.head? = some 10 then eols t else 10 :: eols t) else b :: eols t
/-- Each 13 ahead of a 10 left out. -/
def r1 : List UInt8 → List UInt8
  | [] => []
  | b :: t => if b = 13 ∧ t.head? = some 10 then r1 t else b :: r1 t

theorem r1_cons (b : UInt8) (t : List UInt8) : r1 (b :: t) = if b = 13 ∧ t.head? = some 10 then r1 t else b :: r1 t := by rw [r1]

theorem r1_length : ∀ l, (r1 l).length ≤ l.length
  | [] => by simp [r1]
  | b :: t => by
    have := r1_length t
    unfold r1
    split
    · simp; omega
    · simp; omega

theorem map_r1 : ∀ l, (r1 l).map (fun b => if b = 13 then 10 else b) = eols l
  | [] => rfl
  | b :: t => by
    have ih := map_r1 t
    unfold r1 eols
    by_cases h : b = 13
    · by_cases h2 : t.head? = some 10
      · rw [if_pos ⟨h, h2⟩, if_pos h, if_pos h2, ih]
      · rw [if_neg (fun x => h2 x.2), if_pos h, if_neg h2, List.map_cons, if_pos h, ih]
    · rw [if_neg (fun x => h x.1), if_neg h, List.map_cons, if_neg h, ih]

theorem index_skip {sub : List UInt8} {b : UInt8} {t : List UInt8} (h : sub.isPrefixOf (b :: t) = false) : index (b :: t) sub = if index t sub == -1 then -1 else index t sub + 1 := by
  rw [index, if_neg (by rw [h]; exact Bool.false_ne_true)]
theorem index_here {sub : List UInt8} {b : UInt8} {t : List UInt8} (h : sub.isPrefixOf (b :: t) = true) : index (b :: t) sub = 0 := by
  rw [index, if_pos h]

theorem count_skip {sub : List UInt8} {b : UInt8} {t : List UInt8} (h : sub.isPrefixOf (b :: t) = false) (g : Nat) : countFrom sub g (b :: t) = countFrom sub g t := by
  cases g with
  | zero => rfl
  | succ g =>
    unfold countFrom
    rw [index_skip h]
    have hge := index_ge t sub
    by_cases hm : index t sub = -1
    · simp [hm]
    · have h1 : (index t sub == -1) = false := beq_eq_false_iff_ne.2 hm
      have h2 : (index t sub + 1 == -1) = false := beq_eq_false_iff_ne.2 (by omega)
      have h3 : (index t sub + 1).toNat + sub.length = ((index t sub).toNat + sub.length) + 1 := by omega
      simp only [h1, h2, Bool.false_eq_true, if_false, h3, List.drop_succ_cons]

theorem replaceK_skip {sub new : List UInt8} {b : UInt8} {t : List UInt8} (h : sub.isPrefixOf (b :: t) = false) (k : Nat) : replaceK sub new k (b :: t) = b :: replaceK sub new k t := by
  cases k with
  | zero => rfl
  | succ k =>
    rw [replaceK, replaceK, index_skip h]
    have hge := index_ge t sub
    by_cases hm : index t sub = -1
    · simp [hm]
    · have h1 : (index t sub == -1) = false := beq_eq_false_iff_ne.2 hm
      have h2 : (index t sub + 1 == -1) = false := beq_eq_false_iff_ne.2 (by omega)
      have h3 : (index t sub).toNat + 1 + sub.length = ((index t sub).toNat + sub.length) + 1 := by omega
      have h4 : (index t sub + 1).toNat = (index t sub).toNat + 1 := by omega
      simp only [h1, h2, Bool.false_eq_true, if_false, h3, h4, List.drop_succ_cons, List.take_succ_cons, List.cons_append]

theorem count_here {sub : List UInt8} {b : UInt8} {t : List UInt8} (h : sub.isPrefixOf (b :: t) = true) (g : Nat) : countFrom sub (g + 1) (b :: t) = 1 + countFrom sub g ((b :: t).drop sub.length) := by
  rw [countFrom, index_here h]
  simp

theorem replaceK_here {sub new : List UInt8} {b : UInt8} {t : List UInt8} (h : sub.isPrefixOf (b :: t) = true) (k : Nat) : replaceK sub new (k + 1) (b :: t) = new ++ replaceK sub new k ((b :: t).drop sub.length) := by
  rw [replaceK, index_here h]
  simp

theorem replaceK_nil (sub new : List UInt8) (hs : sub.isEmpty = false) (k : Nat) : replaceK sub new k [] = [] := by
  cases k with
  | zero => rfl
  | succ k => rw [replaceK, index, hs]; rfl

theorem crlf_gone : ∀ (n : Nat) (l : List UInt8) (g : Nat), l.length ≤ n → l.length < g → replaceK [13, 10] [10] (countFrom [13, 10] g l) l = r1 l
  | _, [], g, _, _ => by rw [replaceK_nil _ _ rfl]; rfl
  | 0, b :: t, _, h, _ => by simp at h
  | n + 1, b :: t, g, hn, hg => by
    obtain ⟨g', rfl⟩ : ∃ g', g = g' + 1 := ⟨g - 1, by omega⟩
    simp only [List.length_cons] at hn hg
    cases hp : ([13, 10] : List UInt8).isPrefixOf (b :: t) with
    | false =>
      rw [count_skip hp, replaceK_skip hp, crlf_gone n t (g' + 1) (by omega) (by omega)]
      rw [r1_cons, if_neg]
      rintro ⟨rfl, h2⟩
      cases t with
      | nil => simp at h2
      | cons c u =>
        simp only [List.head?_cons, Option.some.injEq] at h2
        subst h2
        simp [List.isPrefixOf] at hp
    | true =>
      have hbt : b = 13 ∧ ∃ u, t = 10 :: u := by
        cases t with
        | nil => simp [List.isPrefixOf] at hp
        | cons c u =>
          simp [List.isPrefixOf] at hp
          exact ⟨hp.1.symm, u, by rw [← hp.2]⟩
      obtain ⟨rfl, u, rfl⟩ := hbt
      rw [count_here hp, Nat.add_comm 1, replaceK_here hp]
      simp only [List.length_cons, List.length_nil, Nat.reduceAdd, List.drop_succ_cons, List.drop_zero] at hn hg ⊢
      rw [crlf_gone n u g' (by omega) (by omega)]
      simp [r1]

theorem cr_gone : ∀ (n : Nat) (l : List UInt8) (g : Nat), l.length ≤ n → l.length < g → replaceK [13] [10] (countFrom [13] g l) l = l.map (fun b => if b = 13 then 10 else b)
  | _, [], g, _, _ => by rw [replaceK_nil _ _ rfl]; rfl
  | 0, b :: t, _, h, _ => by simp at h
  | n + 1, b :: t, g, hn, hg => by
    obtain ⟨g', rfl⟩ : ∃ g', g = g' + 1 := ⟨g - 1, by omega⟩
    simp only [List.length_cons] at hn hg
    cases hp : ([13] : List UInt8).isPrefixOf (b :: t) with
    | false =>
      have hb : ¬ b = 13 := fun h => by subst h; simp [List.isPrefixOf] at hp
      rw [count_skip hp, replaceK_skip hp, cr_gone n t (g' + 1) (by omega) (by omega), List.map_cons, if_neg hb]
    | true =>
      have hb : b = 13 := by simp [List.isPrefixOf] at hp; exact hp.symm
      subst hb
      rw [count_here hp, Nat.add_comm 1, replaceK_here hp]
      simp only [List.length_cons, List.length_nil, Nat.reduceAdd, List.drop_succ_cons, List.drop_zero]
      rw [cr_gone n t g' (by omega) (by omega)]
      simp

theorem all_crlf (l : List UInt8) : replaceAll l [13, 10] [10] = r1 l := by
  unfold replaceAll replace replaceNum
  rw [if_neg (by decide), if_pos (Or.inl (by decide))]
  exact crlf_gone l.length l (l.length + 1) (Nat.le_refl _) (by omega)

theorem all_cr (l : List UInt8) : replaceAll l [13] [10] = l.map (fun b => if b = 13 then 10 else b) := by
  unfold replaceAll replace replaceNum
  rw [if_neg (by decide), if_pos (Or.inl (by decide))]
  exact cr_gone l.length l (l.length + 1) (Nat.le_refl _) (by omega)

/-- The library's variable of the search's longest word holds some integer. -/
def MaxLen (w : World) : Prop := ∃ m, w.cell? ⟨5, 0, none⟩ = some (.int .i64 m)
theorem MaxLen.below {w w' : World} (h : MaxLen w) (hb : Below w.heap.size w w') : MaxLen w' := by
  obtain ⟨m, hm⟩ := h
  exact ⟨m, cell_below hb hm⟩

set_option maxRecDepth 100000 in
set_option maxHeartbeats 1000000 in
theorem lines_calls (s : ByteArray) (w : World) (hs : s.size ≤ 1073741824) (hm : MaxLen w) : Calls Tryz.prog 126 #[.string s] w (Leaves (.string ⟨(eols s.data.toList).toArray⟩) w) := by
  obtain ⟨m, hm⟩ := hm
  have c1 := countB_le ⟨#[13, 10]⟩ (by decide) s.size s (Nat.le_refl _)
  have R1 := Tryz.strings_ReplaceAll s ⟨#[13, 10]⟩ ⟨#[10]⟩ m w (by omega) hm (by decide) (by show s.size + countB s ⟨#[13, 10]⟩ * 1 ≤ _; omega)
  have e1 := all_crlf s.data.toList
  have l1 := r1_length s.data.toList
  obtain ⟨u, hu⟩ : ∃ u, r1 s.data.toList = u := ⟨_, rfl⟩
  have hul : u.length ≤ 1073741824 := by rw [← hu]; exact Nat.le_trans l1 (by simpa using hs)
  have hsz : (⟨u.toArray⟩ : ByteArray).size = u.length := by simp [ByteArray.size]
  have R2 := fun W (hb : Below w.heap.size w W) => Tryz.strings_ReplaceAll ⟨u.toArray⟩ ⟨#[13]⟩ ⟨#[10]⟩ m W (by omega) (cell_below hb hm) (by decide) (by
    have c2 := countB_le ⟨#[13]⟩ (by decide) (⟨u.toArray⟩ : ByteArray).size ⟨u.toArray⟩ (Nat.le_refl _)
    show (⟨u.toArray⟩ : ByteArray).size + countB ⟨u.toArray⟩ ⟨#[13]⟩ * 1 ≤ _
    omega)
  have e2 : Hid (u.map (fun b => if b = 13 then 10 else b) = eols s.data.toList) := Lib.hid (by rw [← hu]; exact map_r1 _)
  have HR1 := Lib.hid R1
  have HR2 := Lib.hid R2
  have HE1 := Lib.hid e1
  have HU := Lib.hid hu
  clear c1 R1 R2 e1 l1 hu hul hsz hm
  go_enter Tryz.func126, Tryz.ntmps126
  go_wp2_with fail
  refine HR1.out.mono ?_
  rintro e w1 ⟨rfl, hb1⟩
  have HB1 := Lib.hid hb1
  clear hb1
  have hx : (⟨(replaceAll s.data.toList [13, 10] [10]).toArray⟩ : ByteArray) = ⟨u.toArray⟩ := by rw [HE1.out, HU.out]
  rw [hx]
  clear hx
  go_wp2_with fail
  refine (HR2.out w1 HB1.out).mono ?_
  rintro e w2 ⟨rfl, hb2⟩
  have HB2 := Lib.hid hb2
  clear hb2
  go_wp2
  go_ret
  refine ⟨?_, below_then HB1.out HB2.out⟩
  have := all_cr u
  rw [e2.out] at this
  rw [← this]
  rfl

end Go.Proofs.YtfonflbpkbibbaaGreatDoor
namespace Go.Proofs.YtfonflbpkbibbaaGreatDoor
open Go.RowKit Go.Lib

theorem info5 : (Tryz.prog.info? 5).map (fun i => (i.zero, i.size, i.bytes)) = some (some (.int .u8 0), 1, 1) := by kernel_rfl

/-- The cells of a row of bytes. -/
def cellsB (l : List UInt8) : List Value := l.map fun x => Value.int .u8 (x.toNat : Int)

theorem eols_cons (b : UInt8) (t : List UInt8) : eols (b :: t) = if b = 13 then (if t.head? = some 10 then eols t else 10 :: eols t) else b :: eols t := by rw [eols]

/-- string(b) of a row that the call owns. -/
theorem back_own {w : World} {B : Nat} {v : Value} {l : List UInt8} (h : w.ownsRow B 5 1 v l.length (cellsB l)) : (convert 22 9 v).run Tryz.prog w = .ok (.string ⟨l.toArray⟩) w := by
  rcases h.2 with ⟨h1, h0⟩ | ⟨g, cap, cur, rfl, hg, hgb, hcap, hcm, hcur, htk⟩
  · have hl : l = [] := List.length_eq_zero_iff.1 h0
    subst hl h1
    rw [run_convert_bytes_string w 22 9 5 none 0 0 Tryz.underlying22 Tryz.underlying5 Tryz.underlying9]
    simp [Conv.bytesToString]
    rfl
  · refine run_convert_bytes_back w 22 9 5 ⟨g, 0, none⟩ cap l Tryz.underlying22 Tryz.underlying5 Tryz.underlying9 (fun j hj => ?_)
    exact h.cells (g := g) rfl j _ (by rw [cellsB, List.getElem?_map, List.getElem?_eq_getElem hj]; rfl)


end Go.Proofs.YtfonflbpkbibbaaGreatDoor
namespace Go.Proofs.YtfonflbpkbibbaaGreatDoor
open Go.RowKit Go.Lib

/-- A rune's bytes: none for a surrogate half and for what is out of range. -/
def encN (m : Nat) : List Nat :=
  if 1114111 < m ∨ (55296 ≤ m ∧ m ≤ 57343) then []
  else if m < 128 then [m]
  else if m < 2048 then [192 + m / 64, 128 + m % 64]
  else if m < 65536 then [224 + m / 4096, 128 + m / 64 % 64, 128 + m % 64]
  else [240 + m / 262144, 128 + m / 4096 % 64, 128 + m / 64 % 64, 128 + m % 64]
def encL (r : Int) : List Nat := if r < 0 then [] else encN r.toNat

def nth (l : List Nat) (i : Nat) : Nat := l.getD i 0

theorem encL_lt (r : Int) : ∀ x ∈ encL r, x < 256 := by
  unfold encL encN
  repeat' split
  all_goals simp
  all_goals omega

theorem nth_lt {l : List Nat} (h : ∀ x ∈ l, x < 256) (i : Nat) : nth l i < 256 := by
  unfold nth
  rw [List.getD_eq_getElem?_getD]
  cases hq : l[i]? with
  | none => simp
  | some x => exact h x (List.mem_of_getElem? hq)

/-- A call that returns a slice of the bytes l and makes new blocks alone. -/
def LeavesRow (l : List Nat) (w : World) (e : Ending) (w' : World) : Prop :=
  ∃ a c, e = .returned (.slice a l.length c) ∧ l.length ≤ c ∧ c ≤ 9223372036854775807 ∧ Row8 w' a l.length (nth l) ∧ Below w.heap.size w w'

theorem row8_new (w : World) (l : List Nat) (t : TypeId) (hl : ∀ x ∈ l, x < 256) (hn : l.length ≤ 9223372036854775807) (cs : Array Value) (hc : cs = (l.map fun x : Nat => Value.int .u8 (x : Int)).toArray) :
    Row8 (w.alloc (.cells cs t)) (some ⟨w.heap.size, 0, none⟩) l.length (nth l) := by
  refine ⟨nth_lt hl, hn, Or.inr ⟨_, _, rfl, fun i hi => ?_⟩⟩
  subst hc
  simp only [World.alloc, World.cell?, Array.getElem?_push_size, Nat.zero_add]
  simp [nth, hi]

set_option maxRecDepth 100000 in
set_option maxHeartbeats 1000000 in
theorem refEncode_calls (r : Int) (w : World) (hr0 : -2147483648 ≤ r) (hr : r ≤ 2147483647) : Calls Tryz.prog 117 #[.int .i32 r] w (LeavesRow (encL r) w) := by
  have hl := encL_lt r
  obtain ⟨l, hle⟩ : ∃ l, encL r = l := ⟨_, rfl⟩
  have HLE := Lib.hid hle
  rw [hle] at hl ⊢
  clear hle
  by_cases h0 : r < 0
  · have d0 : decide (r < 0) = true := decide_eq_true h0
    have : l = [] := by rw [← HLE.out]; unfold encL; rw [if_pos h0]
    subst this
    go_enter Tryz.func117, Tryz.ntmps117
    go_wp2
    all_goals go_ret
    all_goals exact ⟨none, 0, rfl, by simp, by simp, ⟨nth_lt hl, by simp, Or.inl rfl⟩, Below.refl _ _⟩
  · obtain ⟨m, rfl⟩ : ∃ m : Nat, r = (m : Int) := ⟨r.toNat, by omega⟩
    have d0 : decide ((m : Int) < 0) = false := decide_eq_false h0
    have hl2 : l = encN m := by rw [← HLE.out]; unfold encL; rw [if_neg h0, Int.toNat_natCast]
    unfold encN at hl2
    by_cases h1 : 1114111 < m
    · have d1 : decide ((m : Int) > 1114111) = true := by simp; omega
      rw [if_pos (Or.inl h1)] at hl2
      subst hl2
      go_enter Tryz.func117, Tryz.ntmps117
      go_wp2
      all_goals go_ret
      all_goals exact ⟨none, 0, rfl, by simp, by simp, ⟨nth_lt hl, by simp, Or.inl rfl⟩, Below.refl _ _⟩
    · have d1 : decide ((m : Int) > 1114111) = false := by simp; omega
      by_cases h2 : 55296 ≤ m ∧ m ≤ 57343
      · have d2 : decide ((m : Int) ≥ 55296) = true := by simp; omega
        have d3 : decide ((m : Int) ≤ 57343) = true := by simp; omega
        rw [if_pos (Or.inr h2)] at hl2
        subst hl2
        go_enter Tryz.func117, Tryz.ntmps117
        go_wp2
        all_goals go_ret
        all_goals exact ⟨none, 0, rfl, by simp, by simp, ⟨nth_lt hl, by simp, Or.inl rfl⟩, Below.refl _ _⟩
      · rw [if_neg (by omega)] at hl2
        rcases (show (decide ((m : Int) ≥ 55296) = true ∧ decide ((m : Int) ≤ 57343) = false) ∨ decide ((m : Int) ≥ 55296) = false from by simp only [decide_eq_true_eq, decide_eq_false_iff_not]; omega) with ⟨d2, d3⟩ | d2
        all_goals
          by_cases h3 : m < 128
          · have d4 : decide ((m : Int) < 128) = true := by simp; omega
            rw [if_pos h3] at hl2
            subst hl2
            go_enter Tryz.func117, Tryz.ntmps117
            go_wp2
            go_ret
            exact ⟨_, _, rfl, by simp, by simp, row8_new w _ _ hl (by simp) _ (by simp), (Below.refl _ _).alloc (Nat.le_refl _) _⟩
          · have d4 : decide ((m : Int) < 128) = false := by simp; omega
            rw [if_neg h3] at hl2
            by_cases h4 : m < 2048
            · have d5 : decide ((m : Int) < 2048) = true := by simp; omega
              rw [if_pos h4] at hl2
              subst hl2
              go_enter Tryz.func117, Tryz.ntmps117
              go_wp2
              go_ret
              exact ⟨_, _, rfl, by simp, by simp, row8_new w _ _ hl (by simp) _ (by simp), (Below.refl _ _).alloc (Nat.le_refl _) _⟩
            · have d5 : decide ((m : Int) < 2048) = false := by simp; omega
              rw [if_neg h4] at hl2
              by_cases h5 : m < 65536
              · have d6 : decide ((m : Int) < 65536) = true := by simp; omega
                rw [if_pos h5] at hl2
                subst hl2
                go_enter Tryz.func117, Tryz.ntmps117
                go_wp2
                go_ret
                exact ⟨_, _, rfl, by simp, by simp, row8_new w _ _ hl (by simp) _ (by simp), (Below.refl _ _).alloc (Nat.le_refl _) _⟩
              · have d6 : decide ((m : Int) < 65536) = false := by simp; omega
                rw [if_neg h5] at hl2
                subst hl2
                go_enter Tryz.func117, Tryz.ntmps117
                go_wp2
                go_ret
                exact ⟨_, _, rfl, by simp, by simp, row8_new w _ _ hl (by simp) _ (by simp), (Below.refl _ _).alloc (Nat.le_refl _) _⟩

end Go.Proofs.YtfonflbpkbibbaaGreatDoor
namespace Go.Proofs.YtfonflbpkbibbaaGreatDoor
open Go.RowKit

def blankB (r : Int) : Bool := r == 9 || r == 10 || r == 13 || r == 32

/-- A call that returns one value; the world is as it was. -/
def Stays (v : Value) (w : World) (e : Ending) (w' : World) : Prop := e = .returned v ∧ w' = w

theorem blank_calls (r : Int) (w : World) : Calls Tryz.prog 85 #[.int .i32 r] w (Stays (.bool (blankB r)) w) := by
  unfold blankB
  cases h9 : (r == 9) with
  | true =>
    go_enter Tryz.func85, Tryz.ntmps85
    go_wp2
    go_ret
    exact ⟨rfl, rfl⟩
  | false => cases h10 : (r == 10) with
    | true =>
      go_enter Tryz.func85, Tryz.ntmps85
      go_wp2
      go_ret
      exact ⟨rfl, rfl⟩
    | false => cases h13 : (r == 13) with
      | true =>
        go_enter Tryz.func85, Tryz.ntmps85
        go_wp2
        go_ret
        exact ⟨rfl, rfl⟩
      | false => cases h32 : (r == 32) with
        | true =>
          go_enter Tryz.func85, Tryz.ntmps85
          go_wp2
          go_ret
          exact ⟨rfl, rfl⟩
        | false =>
          go_enter Tryz.func85, Tryz.ntmps85
          go_wp2
          go_ret
          exact ⟨rfl, rfl⟩

theorem refBlank_calls (r : Int) (w : World) : Calls Tryz.prog 56 #[.int .i32 r] w (Stays (.bool (blankB r)) w) := by
  unfold blankB
  cases h9 : (r == 9) with
  | true =>
    go_enter Tryz.func56, Tryz.ntmps56
    go_wp2
    go_ret
    exact ⟨rfl, rfl⟩
  | false => cases h10 : (r == 10) with
    | true =>
      go_enter Tryz.func56, Tryz.ntmps56
      go_wp2
      go_ret
      exact ⟨rfl, rfl⟩
    | false => cases h13 : (r == 13) with
      | true =>
        go_enter Tryz.func56, Tryz.ntmps56
        go_wp2
        go_ret
        exact ⟨rfl, rfl⟩
      | false =>
        go_enter Tryz.func56, Tryz.ntmps56
        go_wp2
        go_ret
        exact ⟨rfl, rfl⟩

theorem in_calls (r a b : Int) (w : World) : Calls Tryz.prog 108 #[.int .i32 r, .int .i32 a, .int .i32 b] w (Stays (.bool (inPair r (a, b))) w) := by
  unfold inPair
  cases h1 : decide (a ≤ r) with
  | true =>
    go_enter Tryz.func108, Tryz.ntmps108
    go_wp2
    go_ret
    exact ⟨by simp, rfl⟩
  | false =>
    go_enter Tryz.func108, Tryz.ntmps108
    go_wp2
    go_ret
    exact ⟨by simp, rfl⟩

theorem inPair_one (r a : Int) : inPair r (a, a) = (r == a) := by
  unfold inPair
  rw [Bool.eq_iff_iff]
  simp
  omega

theorem inPair_two (r a : Int) : inPair r (a, a + 1) = (r == a || r == a + 1) := by
  unfold inPair
  rw [Bool.eq_iff_iff]
  simp
  omega

set_option maxRecDepth 100000 in
set_option maxHeartbeats 4000000 in
theorem refBegins_calls (r : Int) (w : World) : Calls Tryz.prog 72 #[.int .i32 r] w (Stays (.bool (inTab firstsT r)) w) := by
  go_enter Tryz.func72, Tryz.ntmps72
  go_wp2_with fail
  refine (in_calls r 65 90 _).mono ?_
  rintro e w0 ⟨rfl, rfl⟩
  obtain ⟨b0, h0⟩ : ∃ b, inPair r (65, 90) = b := ⟨_, rfl⟩
  rw [h0]
  have H0 := Lib.hid h0
  clear h0
  cases b0 with
  | true =>
    go_wp2
    go_ret
    exact ⟨by simp [inTab, firstsT, List.any_cons, inPair_one, H0.out], rfl⟩
  | false =>
  skip
  obtain ⟨b1, h1⟩ : ∃ b, (r == 95) = b := ⟨_, rfl⟩
  cases b1 with
  | true =>
    go_wp2
    go_ret
    exact ⟨by simp [inTab, firstsT, List.any_cons, inPair_one, H0.out, h1], rfl⟩
  | false =>
  skip
  go_wp2_with fail
  refine (in_calls r 97 122 _).mono ?_
  rintro e w2 ⟨rfl, rfl⟩
  obtain ⟨b2, h2⟩ : ∃ b, inPair r (97, 122) = b := ⟨_, rfl⟩
  rw [h2]
  have H2 := Lib.hid h2
  clear h2
  cases b2 with
  | true =>
    go_wp2
    go_ret
    exact ⟨by simp [inTab, firstsT, List.any_cons, inPair_one, H0.out, h1, H2.out], rfl⟩
  | false =>
  skip
  go_wp2_with fail
  refine (in_calls r 192 214 _).mono ?_
  rintro e w3 ⟨rfl, rfl⟩
  obtain ⟨b3, h3⟩ : ∃ b, inPair r (192, 214) = b := ⟨_, rfl⟩
  rw [h3]
  have H3 := Lib.hid h3
  clear h3
  cases b3 with
  | true =>
    go_wp2
    go_ret
    exact ⟨by simp [inTab, firstsT, List.any_cons, inPair_one, H0.out, h1, H2.out, H3.out], rfl⟩
  | false =>
  skip
  go_wp2_with fail
  refine (in_calls r 216 246 _).mono ?_
  rintro e w4 ⟨rfl, rfl⟩
  obtain ⟨b4, h4⟩ : ∃ b, inPair r (216, 246) = b := ⟨_, rfl⟩
  rw [h4]
  have H4 := Lib.hid h4
  clear h4
  cases b4 with
  | true =>
    go_wp2
    go_ret
    exact ⟨by simp [inTab, firstsT, List.any_cons, inPair_one, H0.out, h1, H2.out, H3.out, H4.out], rfl⟩
  | false =>
  skip
  go_wp2_with fail
  refine (in_calls r 248 767 _).mono ?_
  rintro e w5 ⟨rfl, rfl⟩
  obtain ⟨b5, h5⟩ : ∃ b, inPair r (248, 767) = b := ⟨_, rfl⟩
  rw [h5]
  have H5 := Lib.hid h5
  clear h5
  cases b5 with
  | true =>
    go_wp2
    go_ret
    exact ⟨by simp [inTab, firstsT, List.any_cons, inPair_one, H0.out, h1, H2.out, H3.out, H4.out, H5.out], rfl⟩
  | false =>
  skip
  go_wp2_with fail
  refine (in_calls r 880 893 _).mono ?_
  rintro e w6 ⟨rfl, rfl⟩
  obtain ⟨b6, h6⟩ : ∃ b, inPair r (880, 893) = b := ⟨_, rfl⟩
  rw [h6]
  have H6 := Lib.hid h6
  clear h6
  cases b6 with
  | true =>
    go_wp2
    go_ret
    exact ⟨by simp [inTab, firstsT, List.any_cons, inPair_one, H0.out, h1, H2.out, H3.out, H4.out, H5.out, H6.out], rfl⟩
  | false =>
  skip
  go_wp2_with fail
  refine (in_calls r 895 8191 _).mono ?_
  rintro e w7 ⟨rfl, rfl⟩
  obtain ⟨b7, h7⟩ : ∃ b, inPair r (895, 8191) = b := ⟨_, rfl⟩
  rw [h7]
  have H7 := Lib.hid h7
  clear h7
  cases b7 with
  | true =>
    go_wp2
    go_ret
    exact ⟨by simp [inTab, firstsT, List.any_cons, inPair_one, H0.out, h1, H2.out, H3.out, H4.out, H5.out, H6.out, H7.out], rfl⟩
  | false =>
  skip
  go_wp2_with fail
  refine (in_calls r 8204 8205 _).mono ?_
  rintro e w8 ⟨rfl, rfl⟩
  obtain ⟨b8, h8⟩ : ∃ b, inPair r (8204, 8205) = b := ⟨_, rfl⟩
  rw [h8]
  have H8 := Lib.hid h8
  clear h8
  cases b8 with
  | true =>
    go_wp2
    go_ret
    exact ⟨by simp [inTab, firstsT, List.any_cons, inPair_one, H0.out, h1, H2.out, H3.out, H4.out, H5.out, H6.out, H7.out, H8.out], rfl⟩
  | false =>
  skip
  go_wp2_with fail
  refine (in_calls r 8304 8591 _).mono ?_
  rintro e w9 ⟨rfl, rfl⟩
  obtain ⟨b9, h9⟩ : ∃ b, inPair r (8304, 8591) = b := ⟨_, rfl⟩
  rw [h9]
  have H9 := Lib.hid h9
  clear h9
  cases b9 with
  | true =>
    go_wp2
    go_ret
    exact ⟨by simp [inTab, firstsT, List.any_cons, inPair_one, H0.out, h1, H2.out, H3.out, H4.out, H5.out, H6.out, H7.out, H8.out, H9.out], rfl⟩
  | false =>
  skip
  go_wp2_with fail
  refine (in_calls r 11264 12271 _).mono ?_
  rintro e w10 ⟨rfl, rfl⟩
  obtain ⟨b10, h10⟩ : ∃ b, inPair r (11264, 12271) = b := ⟨_, rfl⟩
  rw [h10]
  have H10 := Lib.hid h10
  clear h10
  cases b10 with
  | true =>
    go_wp2
    go_ret
    exact ⟨by simp [inTab, firstsT, List.any_cons, inPair_one, H0.out, h1, H2.out, H3.out, H4.out, H5.out, H6.out, H7.out, H8.out, H9.out, H10.out], rfl⟩
  | false =>
  skip
  go_wp2_with fail
  refine (in_calls r 12289 55295 _).mono ?_
  rintro e w11 ⟨rfl, rfl⟩
  obtain ⟨b11, h11⟩ : ∃ b, inPair r (12289, 55295) = b := ⟨_, rfl⟩
  rw [h11]
  have H11 := Lib.hid h11
  clear h11
  cases b11 with
  | true =>
    go_wp2
    go_ret
    exact ⟨by simp [inTab, firstsT, List.any_cons, inPair_one, H0.out, h1, H2.out, H3.out, H4.out, H5.out, H6.out, H7.out, H8.out, H9.out, H10.out, H11.out], rfl⟩
  | false =>
  skip
  go_wp2_with fail
  refine (in_calls r 63744 64975 _).mono ?_
  rintro e w12 ⟨rfl, rfl⟩
  obtain ⟨b12, h12⟩ : ∃ b, inPair r (63744, 64975) = b := ⟨_, rfl⟩
  rw [h12]
  have H12 := Lib.hid h12
  clear h12
  cases b12 with
  | true =>
    go_wp2
    go_ret
    exact ⟨by simp [inTab, firstsT, List.any_cons, inPair_one, H0.out, h1, H2.out, H3.out, H4.out, H5.out, H6.out, H7.out, H8.out, H9.out, H10.out, H11.out, H12.out], rfl⟩
  | false =>
  skip
  go_wp2_with fail
  refine (in_calls r 65008 65533 _).mono ?_
  rintro e w13 ⟨rfl, rfl⟩
  obtain ⟨b13, h13⟩ : ∃ b, inPair r (65008, 65533) = b := ⟨_, rfl⟩
  rw [h13]
  have H13 := Lib.hid h13
  clear h13
  cases b13 with
  | true =>
    go_wp2
    go_ret
    exact ⟨by simp [inTab, firstsT, List.any_cons, inPair_one, H0.out, h1, H2.out, H3.out, H4.out, H5.out, H6.out, H7.out, H8.out, H9.out, H10.out, H11.out, H12.out, H13.out], rfl⟩
  | false =>
  skip
  go_wp2_with fail
  refine (in_calls r 65536 983039 _).mono ?_
  rintro e w14 ⟨rfl, rfl⟩
  obtain ⟨b14, h14⟩ : ∃ b, inPair r (65536, 983039) = b := ⟨_, rfl⟩
  rw [h14]
  have H14 := Lib.hid h14
  clear h14
  cases b14 with
  | true =>
    go_wp2
    go_ret
    exact ⟨by simp [inTab, firstsT, List.any_cons, inPair_one, H0.out, h1, H2.out, H3.out, H4.out, H5.out, H6.out, H7.out, H8.out, H9.out, H10.out, H11.out, H12.out, H13.out, H14.out], rfl⟩
  | false =>
  skip
  go_wp2
  go_ret
  exact ⟨by simp [inTab, firstsT, List.any_cons, inPair_one, H0.out, h1, H2.out, H3.out, H4.out, H5.out, H6.out, H7.out, H8.out, H9.out, H10.out, H11.out, H12.out, H13.out, H14.out], rfl⟩

theorem further_two (r : Int) : inTab furtherT r = ((r == 45 || r == 46) || inPair r (48, 57) || r == 183 || inPair r (768, 879) || (r == 8255 || r == 8256)) := by
  simp only [inTab, furtherT, List.any_cons, List.any_nil, Bool.or_false, inPair_one, show inPair r (45, 46) = (r == 45 || r == 46) from inPair_two r 45, show inPair r (8255, 8256) = (r == 8255 || r == 8256) from inPair_two r 8255, Bool.or_assoc]

set_option maxRecDepth 100000 in
set_option maxHeartbeats 4000000 in
theorem refGoesOn_calls (r : Int) (w : World) : Calls Tryz.prog 73 #[.int .i32 r] w (Stays (.bool (inTab furtherT r || inTab firstsT r)) w) := by
  go_enter Tryz.func73, Tryz.ntmps73
  go_wp2_with fail
  refine (refBegins_calls r _).mono ?_
  rintro e w0 ⟨rfl, rfl⟩
  obtain ⟨b0, h0⟩ : ∃ b, inTab firstsT r = b := ⟨_, rfl⟩
  rw [h0]
  have H0 := Lib.hid h0
  clear h0
  cases b0 with
  | true =>
    go_wp2
    go_ret
    exact ⟨by simp [further_two, H0.out], rfl⟩
  | false =>
  skip
  obtain ⟨b1, h1⟩ : ∃ b, (r == 45) = b := ⟨_, rfl⟩
  cases b1 with
  | true =>
    go_wp2
    go_ret
    exact ⟨by simp [further_two, H0.out, h1], rfl⟩
  | false =>
  skip
  obtain ⟨b2, h2⟩ : ∃ b, (r == 46) = b := ⟨_, rfl⟩
  cases b2 with
  | true =>
    go_wp2
    go_ret
    exact ⟨by simp [further_two, H0.out, h1, h2], rfl⟩
  | false =>
  skip
  go_wp2_with fail
  refine (in_calls r 48 57 _).mono ?_
  rintro e w3 ⟨rfl, rfl⟩
  obtain ⟨b3, h3⟩ : ∃ b, inPair r (48, 57) = b := ⟨_, rfl⟩
  rw [h3]
  have H3 := Lib.hid h3
  clear h3
  cases b3 with
  | true =>
    go_wp2
    go_ret
    exact ⟨by simp [further_two, H0.out, h1, h2, H3.out], rfl⟩
  | false =>
  skip
  obtain ⟨b4, h4⟩ : ∃ b, (r == 183) = b := ⟨_, rfl⟩
  cases b4 with
  | true =>
    go_wp2
    go_ret
    exact ⟨by simp [further_two, H0.out, h1, h2, H3.out, h4], rfl⟩
  | false =>
  skip
  go_wp2_with fail
  refine (in_calls r 768 879 _).mono ?_
  rintro e w5 ⟨rfl, rfl⟩
  obtain ⟨b5, h5⟩ : ∃ b, inPair r (768, 879) = b := ⟨_, rfl⟩
  rw [h5]
  have H5 := Lib.hid h5
  clear h5
  cases b5 with
  | true =>
    go_wp2
    go_ret
    exact ⟨by simp [further_two, H0.out, h1, h2, H3.out, h4, H5.out], rfl⟩
  | false =>
  skip
  obtain ⟨b6, h6⟩ : ∃ b, (r == 8255) = b := ⟨_, rfl⟩
  cases b6 with
  | true =>
    go_wp2
    go_ret
    exact ⟨by simp [further_two, H0.out, h1, h2, H3.out, h4, H5.out, h6], rfl⟩
  | false =>
  skip
  obtain ⟨b7, h7⟩ : ∃ b, (r == 8256) = b := ⟨_, rfl⟩
  cases b7 with
  | true =>
    go_wp2
    go_ret
    exact ⟨by simp [further_two, H0.out, h1, h2, H3.out, h4, H5.out, h6, h7], rfl⟩
  | false =>
  skip
  go_wp2
  go_ret
  exact ⟨by simp [further_two, H0.out, h1, h2, H3.out, h4, H5.out, h6, h7], rfl⟩

theorem chars_two (r : Int) : inTab charsT r = ((r == 9 || r == 10) || r == 13 || inPair r (32, 55295) || inPair r (57344, 65533) || inPair r (65536, 1114111)) := by
  simp only [inTab, charsT, List.any_cons, List.any_nil, Bool.or_false, inPair_one, show inPair r (9, 10) = (r == 9 || r == 10) from inPair_two r 9, Bool.or_assoc]

set_option maxRecDepth 100000 in
set_option maxHeartbeats 4000000 in
theorem refChar_calls (r : Int) (w : World) : Calls Tryz.prog 118 #[.int .i32 r] w (Stays (.bool (inTab charsT r)) w) := by
  rw [chars_two]
  unfold inPair
  cases h9 : (r == 9) with
  | true => go_enter Tryz.func118, Tryz.ntmps118; go_wp2; go_ret; exact ⟨rfl, rfl⟩
  | false => cases h10 : (r == 10) with
    | true => go_enter Tryz.func118, Tryz.ntmps118; go_wp2; go_ret; exact ⟨rfl, rfl⟩
    | false => cases h13 : (r == 13) with
      | true => go_enter Tryz.func118, Tryz.ntmps118; go_wp2; go_ret; exact ⟨rfl, rfl⟩
      | false =>
        rcases (show (decide (r ≥ 32) = true ∧ decide (r ≤ 55295) = true) ∨ (decide (r ≥ 32) = true ∧ decide (r ≤ 55295) = false ∧ decide (r ≥ 57344) = true ∧ decide (r ≤ 65533) = true) ∨ (decide (r ≥ 32) = true ∧ decide (r ≤ 55295) = false ∧ decide (r ≥ 57344) = true ∧ decide (r ≤ 65533) = false ∧ decide (r ≥ 65536) = true) ∨ (decide (r ≥ 32) = true ∧ decide (r ≤ 55295) = false ∧ decide (r ≥ 57344) = true ∧ decide (r ≤ 65533) = false ∧ decide (r ≥ 65536) = false) ∨ (decide (r ≥ 32) = true ∧ decide (r ≤ 55295) = false ∧ decide (r ≥ 57344) = false ∧ decide (r ≥ 65536) = false) ∨ (decide (r ≥ 32) = false ∧ decide (r ≥ 57344) = false ∧ decide (r ≥ 65536) = false) from by simp only [decide_eq_true_eq, decide_eq_false_iff_not]; omega) with ⟨d1, d2⟩ | ⟨d1, d2, d3, d4⟩ | ⟨d1, d2, d3, d4, d5⟩ | ⟨d1, d2, d3, d4, d5⟩ | ⟨d1, d2, d3, d4⟩ | ⟨d1, d2, d3⟩
        all_goals
          go_enter Tryz.func118, Tryz.ntmps118
          go_wp2
          go_ret
          refine ⟨?_, rfl⟩
          show Ending.returned (Value.bool _) = Ending.returned (Value.bool _)
          congr 2
          simp only [decide_eq_true_eq, decide_eq_false_iff_not] at *
          rw [Bool.eq_iff_iff]
          simp
          omega

end Go.Proofs.YtfonflbpkbibbaaGreatDoor
namespace Go.Proofs.YtfonflbpkbibbaaGreatDoor
open Go.RowKit Go.Lib

theorem encL_valid (r : Int) : (encL r).length = 0 ↔ Lib.validRune r = false := by
  unfold encL encN Lib.validRune
  rw [decide_eq_false_iff_not]
  constructor
  · intro h
    repeat' split at h
    all_goals simp at h
    all_goals omega
  · intro h
    repeat' split
    all_goals simp
    all_goals omega

theorem encL_cells (r : Int) (h : Lib.validRune r = true) : Lib.runeCells r = (encL r).map fun x : Nat => Value.int .u8 (x : Int) := by
  unfold Lib.validRune at h
  rw [decide_eq_true_eq] at h
  unfold Lib.runeCells Lib.encodeRuneZ encL encN
  obtain ⟨m, rfl⟩ : ∃ m : Nat, r = (m : Int) := ⟨r.toNat, by omega⟩
  rw [Int.toNat_natCast, if_neg (by omega : ¬ (m : Int) < 0)]
  repeat' split
  all_goals first
    | (exfalso; omega)
    | simp

theorem encL_len (r : Int) : (encL r).length ≤ 4 := by
  unfold encL encN
  repeat' split
  all_goals simp

theorem row8_of_owns {w : World} {B : Nat} {v : Value} {l : List Nat} (hl : ∀ x ∈ l, x < 256) (hn : l.length ≤ 9223372036854775807) (h : w.ownsRow B 5 1 v l.length (l.map fun x : Nat => Value.int .u8 (x : Int))) :
    ∃ a c, v = .slice a l.length c ∧ l.length ≤ c ∧ c ≤ 9223372036854775807 ∧ Row8 w a l.length (nth l) := by
  obtain ⟨_, h⟩ := h
  rcases h with ⟨rfl, h0⟩ | ⟨g, cap, cur, rfl, _, hblk, hcap, hmax, _, htake⟩
  · exact ⟨none, 0, by rw [h0], by omega, by omega, nth_lt hl, hn, Or.inl h0⟩
  · refine ⟨_, cap, rfl, hcap, by unfold maxLen at hmax; omega, nth_lt hl, hn, Or.inr ⟨g, 0, rfl, fun i hi => ?_⟩⟩
    rw [Nat.mul_one] at htake
    have hx : cur.toList[i]? = some (.int .u8 ((nth l i : Nat) : Int)) := by
      have : (cur.toList.take l.length)[i]? = cur.toList[i]? := List.getElem?_take_of_lt hi
      rw [← this, htake]
      simp [nth, hi]
    rw [Nat.zero_add]
    simpa [World.cell?, hblk] using hx

end Go.Proofs.YtfonflbpkbibbaaGreatDoor
