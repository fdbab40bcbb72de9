/-
  The program's Lines: each end of a line turned into one, over the library's ReplaceAll. Conditions: the text is shorter than 2 to the 30; the library's length variable holds an integer.
-/
import Derived.Test.YtojpjhfafbdpcaaGreatDoorNext
import Derived.Test.YtojpjhfafbdpcaaGreatDoorShelf
namespace Go.Proofs.YtojpjhfafbdpcaaGreatDoor
open Go.RowKit Go.Lib

/-- Each 13 10, and each 13 alone, turned into 10. -/
def eols : List UInt8 → List UInt8
  | [] => []
  | b :: t => if b = 13 then (if t.head? = some 10 then eols t else 10 :: eols t) else b :: eols t
/-- Each 13 ahead of a 10 left out. -/
def r1 : List UInt8 → List UInt8
  | [] => []
  | b :: t => if b = 13 ∧ t.head? = some 10 then r1 t else b :: r1 t

theorem r1_cons (b : UInt8) (t : List UInt8) : r1 (b :: t) = if b = 13 ∧ t.head? = some 10 then r1 t else b :: r1 t := by rw [r1]

theorem r1_length : ∀ l, (r1 l).length ≤ l.length
  | [] => by simp [r1]
  | b :: t => by
    have := r1_length t
    unfold r1
    split
    · simp; omega
    · simp; omega

theorem map_r1 : ∀ l, (r1 l).map (fun b => if b = 13 then 10 else b) = eols l
  | [] => rfl
  | b :: t => by
    have ih := map_r1 t
    unfold r1 eols
    by_cases h : b = 13
    · by_cases h2 : t.head? = some 10
      · rw [if_pos ⟨h, h2⟩, if_pos h, if_pos h2, ih]
      · rw [if_neg (fun x => h2 x.2), if_pos h, if_neg h2, List.map_cons, if_pos h, ih]
    · rw [if_neg (fun x => h x.1), if_neg h, List.map_cons, if_neg h, ih]

theorem index_skip {sub : List UInt8} {b : UInt8} {t : List UInt8} (h : sub.isPrefixOf (b :: t) = false) : index (b :: t) sub = if index t sub == -1 then -1 else index t sub + 1 := by
  rw [index, if_neg (by rw [h]; exact Bool.false_ne_true)]
theorem index_here {sub : List UInt8} {b : UInt8} {t : List UInt8} (h : sub.isPrefixOf (b :: t) = true) : index (b :: t) sub = 0 := by
  rw [index, if_pos h]

theorem count_skip {sub : List UInt8} {b : UInt8} {t : List UInt8} (h : sub.isPrefixOf (b :: t) = false) (g : Nat) : countFrom sub g (b :: t) = countFrom sub g t := by
  cases g with
  | zero => rfl
  | succ g =>
    unfold countFrom
    rw [index_skip h]
    have hge := index_ge t sub
    by_cases hm : index t sub = -1
    · simp [hm]
    · have h1 : (index t sub == -1) = false := beq_eq_false_iff_ne.2 hm
      have h2 : (index t sub + 1 == -1) = false := beq_eq_false_iff_ne.2 (by omega)
      have h3 : (index t sub + 1).toNat + sub.length = ((index t sub).toNat + sub.length) + 1 := by omega
      simp only [h1, h2, Bool.false_eq_true, if_false, h3, List.drop_succ_cons]

theorem replaceK_skip {sub new : List UInt8} {b : UInt8} {t : List UInt8} (h : sub.isPrefixOf (b :: t) = false) (k : Nat) : replaceK sub new k (b :: t) = b :: replaceK sub new k t := by
  cases k with
  | zero => rfl
  | succ k =>
    rw [replaceK, replaceK, index_skip h]
    have hge := index_ge t sub
    by_cases hm : index t sub = -1
    · simp [hm]
    · have h1 : (index t sub == -1) = false := beq_eq_false_iff_ne.2 hm
      have h2 : (index t sub + 1 == -1) = false := beq_eq_false_iff_ne.2 (by omega)
      have h3 : (index t sub).toNat + 1 + sub.length = ((index t sub).toNat + sub.length) + 1 := by omega
      have h4 : (index t sub + 1).toNat = (index t sub).toNat + 1 := by omega
      simp only [h1, h2, Bool.false_eq_true, if_false, h3, h4, List.drop_succ_cons, List.take_succ_cons, List.cons_append]

theorem count_here {sub : List UInt8} {b : UInt8} {t : List UInt8} (h : sub.isPrefixOf (b :: t) = true) (g : Nat) : countFrom sub (g + 1) (b :: t) = 1 + countFrom sub g ((b :: t).drop sub.length) := by
  rw [countFrom, index_here h]
  simp

theorem replaceK_here {sub new : List UInt8} {b : UInt8} {t : List UInt8} (h : sub.isPrefixOf (b :: t) = true) (k : Nat) : replaceK sub new (k + 1) (b :: t) = new ++ replaceK sub new k ((b :: t).drop sub.length) := by
  rw [replaceK, index_here h]
  simp

theorem replaceK_nil (sub new : List UInt8) (hs : sub.isEmpty = false) (k : Nat) : replaceK sub new k [] = [] := by
  cases k with
  | zero => rfl
  | succ k => rw [replaceK, index, hs]; rfl

theorem crlf_gone : ∀ (n : Nat) (l : List UInt8) (g : Nat), l.length ≤ n → l.length < g → replaceK [13, 10] [10] (countFrom [13, 10] g l) l = r1 l
  | _, [], g, _, _ => by rw [replaceK_nil _ _ rfl]; rfl
  | 0, b :: t, _, h, _ => by simp at h
  | n + 1, b :: t, g, hn, hg => by
    obtain ⟨g', rfl⟩ : ∃ g', g = g' + 1 := ⟨g - 1, by omega⟩
    simp only [List.length_cons] at hn hg
    cases hp : ([13, 10] : List UInt8).isPrefixOf (b :: t) with
    | false =>
      rw [count_skip hp, replaceK_skip hp, crlf_gone n t (g' + 1) (by omega) (by omega)]
      rw [r1_cons, if_neg]
      rintro ⟨rfl, h2⟩
      cases t with
      | nil => simp at h2
      | cons c u =>
        simp only [List.head?_cons, Option.some.injEq] at h2
        subst h2
        simp [List.isPrefixOf] at hp
    | true =>
      have hbt : b = 13 ∧ ∃ u, t = 10 :: u := by
        cases t with
        | nil => simp [List.isPrefixOf] at hp
        | cons c u =>
          simp [List.isPrefixOf] at hp
          exact ⟨hp.1.symm, u, by rw [← hp.2]⟩
      obtain ⟨rfl, u, rfl⟩ := hbt
      rw [count_here hp, Nat.add_comm 1, replaceK_here hp]
      simp only [List.length_cons, List.length_nil, Nat.reduceAdd, List.drop_succ_cons, List.drop_zero] at hn hg ⊢
      rw [crlf_gone n u g' (by omega) (by omega)]
      simp [r1]

theorem cr_gone : ∀ (n : Nat) (l : List UInt8) (g : Nat), l.length ≤ n → l.length < g → replaceK [13] [10] (countFrom [13] g l) l = l.map (fun b => if b = 13 then 10 else b)
  | _, [], g, _, _ => by rw [replaceK_nil _ _ rfl]; rfl
  | 0, b :: t, _, h, _ => by simp at h
  | n + 1, b :: t, g, hn, hg => by
    obtain ⟨g', rfl⟩ : ∃ g', g = g' + 1 := ⟨g - 1, by omega⟩
    simp only [List.length_cons] at hn hg
    cases hp : ([13] : List UInt8).isPrefixOf (b :: t) with
    | false =>
      have hb : ¬ b = 13 := fun h => by subst h; simp [List.isPrefixOf] at hp
      rw [count_skip hp, replaceK_skip hp, cr_gone n t (g' + 1) (by omega) (by omega), List.map_cons, if_neg hb]
    | true =>
      have hb : b = 13 := by simp [List.isPrefixOf] at hp; exact hp.symm
      subst hb
      rw [count_here hp, Nat.add_comm 1, replaceK_here hp]
      simp only [List.length_cons, List.length_nil, Nat.reduceAdd, List.drop_succ_cons, List.drop_zero]
      rw [cr_gone n t g' (by omega) (by omega)]
      simp

theorem all_crlf (l : List UInt8) : replaceAll l [13, 10] [10] = r1 l := by
  unfold replaceAll replace replaceNum
  rw [if_neg (by decide), if_pos (Or.inl (by decide))]
  exact crlf_gone l.length l (l.length + 1) (Nat.le_refl _) (by omega)

theorem all_cr (l : List UInt8) : replaceAll l [13] [10] = l.map (fun b => if b = 13 then 10 else b) := by
  unfold replaceAll replace replaceNum
  rw [if_neg (by decide), if_pos (Or.inl (by decide))]
  exact cr_gone l.length l (l.length + 1) (Nat.le_refl _) (by omega)

/-- The library's variable of the search's longest word holds some integer. -/
def MaxLen (w : World) : Prop := ∃ m, w.cell? ⟨5, 0, none⟩ = some (.int .i64 m)
theorem MaxLen.below {w w' : World} (h : MaxLen w) (hb : Below w.heap.size w w') : MaxLen w' := by
  obtain ⟨m, hm⟩ := h
  exact ⟨m, cell_below hb hm⟩

set_option maxRecDepth 100000 in
set_option maxHeartbeats 1000000 in
theorem lines_calls (s : ByteArray) (w : World) (hs : s.size ≤ 1073741824) (hm : MaxLen w) : Calls Tryz.prog 47 #[.string s] w (Leaves (.string ⟨(eols s.data.toList).toArray⟩) w) := by
  obtain ⟨m, hm⟩ := hm
  have c1 := countB_le ⟨#[13, 10]⟩ (by decide) s.size s (Nat.le_refl _)
  have R1 := Tryz.strings_ReplaceAll s ⟨#[13, 10]⟩ ⟨#[10]⟩ m w (by omega) hm (by decide) (by show s.size + countB s ⟨#[13, 10]⟩ * 1 ≤ _; omega)
  have e1 := all_crlf s.data.toList
  have l1 := r1_length s.data.toList
  obtain ⟨u, hu⟩ : ∃ u, r1 s.data.toList = u := ⟨_, rfl⟩
  have hul : u.length ≤ 1073741824 := by rw [← hu]; exact Nat.le_trans l1 (by simpa using hs)
  have hsz : (⟨u.toArray⟩ : ByteArray).size = u.length := by simp [ByteArray.size]
  have R2 := fun W (hb : Below w.heap.size w W) => Tryz.strings_ReplaceAll ⟨u.toArray⟩ ⟨#[13]⟩ ⟨#[10]⟩ m W (by omega) (cell_below hb hm) (by decide) (by
    have c2 := countB_le ⟨#[13]⟩ (by decide) (⟨u.toArray⟩ : ByteArray).size ⟨u.toArray⟩ (Nat.le_refl _)
    show (⟨u.toArray⟩ : ByteArray).size + countB ⟨u.toArray⟩ ⟨#[13]⟩ * 1 ≤ _
    omega)
  have e2 : Hid (u.map (fun b => if b = 13 then 10 else b) = eols s.data.toList) := Lib.hid (by rw [← hu]; exact map_r1 _)
  have HR1 := Lib.hid R1
  have HR2 := Lib.hid R2
  have HE1 := Lib.hid e1
  have HU := Lib.hid hu
  clear c1 R1 R2 e1 l1 hu hul hsz hm
  go_enter Tryz.func47, Tryz.ntmps47
  go_wp2_with fail
  refine HR1.out.mono ?_
  rintro e w1 ⟨rfl, hb1⟩
  have HB1 := Lib.hid hb1
  clear hb1
  have hx : (⟨(replaceAll s.data.toList [13, 10] [10]).toArray⟩ : ByteArray) = ⟨u.toArray⟩ := by rw [HE1.out, HU.out]
  rw [hx]
  clear hx
  go_wp2_with fail
  refine (HR2.out w1 HB1.out).mono ?_
  rintro e w2 ⟨rfl, hb2⟩
  have HB2 := Lib.hid hb2
  clear hb2
  go_wp2
  go_ret
  refine ⟨?_, below_then HB1.out HB2.out⟩
  have := all_cr u
  rw [e2.out] at this
  rw [← this]
  rfl

end Go.Proofs.YtojpjhfafbdpcaaGreatDoor
