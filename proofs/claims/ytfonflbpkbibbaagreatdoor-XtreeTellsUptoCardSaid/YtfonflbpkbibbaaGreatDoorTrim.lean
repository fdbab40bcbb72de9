/-
  The reference's Runes and Name: the runes of a text as its Next tells them; a name by them. Condition: the text is shorter than 2 to the 30. strings.TrimFunc with the four blanks, as a function of a text's bytes: the blanks at both ends fall away; a second time nothing turns. No condition.
-/
import Derived.Test.YtfonflbpkbibbaaGreatDoorEnc2
import Derived.Test.YtfonflbpkbibbaaGreatDoorPureName
import Derived.Shelf.GgClosure.StringsTrimFunc
import Derived.Lib.TrimAscii
namespace Go.Proofs.YtfonflbpkbibbaaGreatDoor
open Go.RowKit Go.Lib

/-- A text's runes from a place on, if each is there. -/
def runesFrom (f : Nat → Nat) (N : Nat) : Nat → Nat → Option (List Nat)
  | 0, _ => some []
  | g + 1, p => if p < N then (if (nx f N p).2 = 0 then none else (runesFrom f N g (p + (nx f N p).2)).map ((nx f N p).1 :: ·)) else some []

def cellsR (l : List Nat) : List Value := l.map fun x : Nat => Value.int .i32 (x : Int)

/-- A slice that leads to these runes. -/
def RowR (w : World) (a : Option Addr) (l : List Nat) : Prop := l = [] ∨ ∃ b o, a = some ⟨b, o, none⟩ ∧ ∀ (i x : Nat), l[i]? = some x → w.cell? ⟨b, o + i, none⟩ = some (.int .i32 (x : Int))

def RunesOut (q : Option (List Nat)) (w : World) (e : Ending) (w' : World) : Prop :=
  Below w.heap.size w w' ∧ ((q = none ∧ e = .returned (.tuple #[.slice none 0 0, .bool false])) ∨
    ∃ l a c, q = some l ∧ l.length ≤ 4294967296 ∧ e = .returned (.tuple #[.slice a l.length c, .bool true]) ∧ RowR w' a l)

theorem info21 : (Tryz.prog.info? 21).map (fun i => (i.zero, i.size, i.bytes)) = some (some (.int .i32 0), 1, 4) := by kernel_rfl
theorem under33 : Tryz.prog.underlying 111 = some (.slice 21) := by kernel_rfl

theorem rowR_of_owns {w : World} {B : Nat} {v : Value} {l : List Nat} (h : w.ownsRow B 21 1 v l.length (cellsR l)) : ∃ a c, v = .slice a l.length c ∧ RowR w a l := by
  rcases h.2 with ⟨h1, h0⟩ | ⟨g, cap, cur, h1, hg, hgb, hcap, hcm, hcur, htk⟩
  · exact ⟨none, 0, by rw [h1, h0], Or.inl (List.length_eq_zero_iff.1 h0)⟩
  · refine ⟨_, cap, h1, Or.inr ⟨g, 0, rfl, fun i x hx => ?_⟩⟩
    have := h.cells (g := g) (by rw [h1]; rfl) i (.int .i32 x) (by rw [cellsR, List.getElem?_map, hx]; rfl)
    rwa [Addr.add_mid] at this

theorem bytesWorld_below (w : World) (s : ByteArray) : Below w.heap.size w (bytesWorld w 5 s) :=
  ⟨rfl, rfl, rfl, by rw [bytesWorld_size]; omega, fun k hk => bytesWorld_at_old w 5 s k hk⟩

set_option maxRecDepth 100000 in
set_option maxHeartbeats 2000000 in
theorem runes_calls (s : ByteArray) (w : World) (hs : s.size ≤ 1073741824) : Calls Tryz.prog 71 #[.string s] w (RunesOut (runesFrom (fs s.data.toList) s.size s.size 0) w) := by
  obtain ⟨i0, hi, hj0, hj1, hj2⟩ := info_parts info21
  have hconv := Lib.run_convert_string_bytes (P := Tryz.prog) w 9 22 5 s Tryz.underlying9 Tryz.underlying22 Tryz.underlying5
  have hb0 := bytesWorld_below w s
  have hrow : Row8 (bytesWorld w 5 s) (some ⟨w.heap.size, 0, none⟩) s.size (fs s.data.toList) :=
    ⟨fs_lt _, by omega, Or.inr ⟨_, _, rfl, fun i hi => by rw [Nat.zero_add]; exact bytesWorld_cell w 5 s i hi⟩⟩
  obtain ⟨W1, hW1⟩ : ∃ W1, bytesWorld w 5 s = W1 := ⟨_, rfl⟩
  obtain ⟨cap, hcap⟩ : ∃ cap, grownCap w s.size 0 5 = cap := ⟨_, rfl⟩
  rw [hW1] at hconv hb0 hrow
  rw [hcap] at hconv
  obtain ⟨q, hq⟩ : ∃ q, runesFrom (fs s.data.toList) s.size s.size 0 = q := ⟨_, rfl⟩
  rw [hq]
  have HQ := Lib.hid hq
  have HB0 := Lib.hid hb0
  have HROW := Lib.hid hrow
  have hBW1 := hb0.size
  clear hq hb0 hrow hW1 hcap
  go_enter Tryz.func71, Tryz.ntmps71
  go_wp2
  go_loopg [5, 6] s.size (fun g v k wr => ∃ (p : Nat) (acc : List Nat), k = .int .i64 p ∧ s.size ≤ g + p ∧ p ≤ s.size + 4 ∧ acc.length ≤ p ∧ (runesFrom (fs s.data.toList) s.size g p).map (acc ++ ·) = q ∧ wr.ownsRow W1.heap.size 21 1 v acc.length (cellsR acc) ∧ Below W1.heap.size W1 wr)
  case atStart => exact ⟨0, [], rfl, by omega, by omega, Nat.le_refl _, by rw [HQ.out]; cases q <;> rfl, World.ownsRow_nil _ _ _ _, Below.refl _ _⟩
  case round =>
    obtain ⟨p, acc, rfl, hg, hp4, hal, hacc, hown, hb2⟩ := hrel
    have HG := Lib.hid hg
    have HACC := Lib.hid hacc
    have HB2 := Lib.hid hb2
    have hBw : W1.heap.size ≤ wr.heap.size := hb2.size
    clear hg hacc hb2 HQ
    by_cases hlt : p < s.size
    · have hd : decide ((p : Int) < (s.size : Int)) = true := by simp; omega
      obtain ⟨g', rfl⟩ : ∃ g', gk = g' + 1 := ⟨gk - 1, by have := HG.out; omega⟩
      have hw := nx_width (fs s.data.toList) s.size p
      obtain ⟨⟨r, z⟩, hrz⟩ : ∃ d, nx (fs s.data.toList) s.size p = d := ⟨_, rfl⟩
      have hn1 : nextZ (fs s.data.toList) s.size (p : Int) = (r, z) := by rw [nextZ_at _ _ _ hlt, hrz]
      have hst : ((if z = 0 then none else (runesFrom (fs s.data.toList) s.size g' (p + z)).map (r :: ·)).map (acc ++ ·)) = q := by
        have := HACC.out
        rw [runesFrom, if_pos hlt, hrz] at this
        exact this
      rw [hrz] at hw
      have hz4 : z ≤ 4 := hw
      have HN1 := Lib.hid hn1
      have HST := Lib.hid hst
      clear hn1 hst hrz hw HACC
      have hownH := Lib.hid hown
      clear hown
      go_wp2_with fail
      refine (refNext_calls _ s.size cap (fs s.data.toList) (p : Int) wr (HROW.out.below HB2.out) (by omega)).mono ?_
      rintro e w2 ⟨rfl, hb3⟩
      have hown : w2.ownsRow W1.heap.size 21 1 u5 acc.length (cellsR acc) := hownH.out.kept (row := none) ⟨hb3.os, hb3.tape, hb3.output, hb3.size, fun k hk _ => hb3.block k hk⟩ (by cases u5.ownBlock <;> simp)
      have hBw2 : W1.heap.size ≤ w2.heap.size := Nat.le_trans hBw hb3.size
      have HB4 := Lib.hid (below_then HB2.out hb3)
      clear hb3 hownH hBw
      rw [HN1.out]
      unfold runeOf
      by_cases hz : z = 0
      · have hz2 : ((z : Int) == 0) = true := by rw [beq_iff_eq]; omega
        clear hown
        go_wp2
        go_ret2
        refine ⟨below_then HB0.out HB4.out, Or.inl ⟨?_, rfl⟩⟩
        have := HST.out
        rw [if_pos hz] at this
        exact this.symm
      · have hz2 : ((z : Int) == 0) = false := by rw [beq_eq_false_iff_ne]; omega
        go_wp2_with (at_builtin; refine wpList_append_own _ rfl (.tmp 23) (.tmp 25) 111 rfl W1.heap.size 21 i0 (.int .i32 0) 1 4 under33 hi hj0 hj1 hj2 rfl (by decide) _ _ _ rfl (hown.alloc _) ⟨w2.heap.size, 0, none⟩ 1 1 [.int .i32 (r : Int)] rfl rfl ?c1 ?c2 ?c3 ?c4 ?c5 ?_)
        case c1 => exact cell_one_new _ _ _
        case c2 => intro u hu; obtain rfl := List.mem_singleton.1 hu; rfl
        case c3 => unfold maxLen; omega
        case c4 => omega
        case c5 => simp; omega
        intro t' w3 hown1 hgrow _
        have hb1 : Below W1.heap.size W1 w3 := (HB4.out.alloc hBw2 _).grown hgrow (by simp; omega) (fun k hk => (hown.lt k hk).1)
        have hown2 : w3.ownsRow W1.heap.size 21 1 t' (acc ++ [r]).length (cellsR (acc ++ [r])) := by simpa [cellsR] using hown1
        have HB5 := Lib.hid hb1
        have HO := Lib.hid hown2
        clear hown hown1 hown2 hgrow hb1 hBw2
        go_wp2
        go_roundg g'
        case measure => omega
        case rel =>
          refine ⟨p + z, acc ++ [r], by go_num, by have := HG.out; omega, by omega, by simp; omega, ?_, HO.out, HB5.out⟩
          have := HST.out
          rw [if_neg hz] at this
          rw [← this]
          cases runesFrom (fs s.data.toList) s.size g' (p + z) <;> simp
    · have hd : decide ((p : Int) < (s.size : Int)) = false := by simp; omega
      obtain ⟨a, c, rfl, hrr⟩ := rowR_of_owns hown
      have HRR := Lib.hid hrr
      clear hown hrr
      go_wp2
      go_ret2
      refine ⟨below_then HB0.out HB2.out, Or.inr ⟨acc, a, c, ?_, by omega, rfl, HRR.out⟩⟩
      have := HACC.out
      cases gk with
      | zero => rw [runesFrom] at this; rw [← this]; simp
      | succ g => rw [runesFrom, if_neg hlt] at this; rw [← this]; simp

/-- The reference's word on a name, by the runes. -/
def nameR (q : Option (List Nat)) : Bool :=
  match q with
  | none => false
  | some [] => false
  | some (r :: t) => beginsB r && (r :: t).all fun x => goesB (x : Int)

set_option maxRecDepth 100000 in
set_option maxHeartbeats 2000000 in
theorem refName_calls (s : ByteArray) (w : World) (hs : s.size ≤ 1073741824) : Calls Tryz.prog 44 #[.string s] w (Leaves (.bool (nameR (runesFrom (fs s.data.toList) s.size s.size 0))) w) := by
  have R := runes_calls s w hs
  obtain ⟨q, hq⟩ : ∃ q, runesFrom (fs s.data.toList) s.size s.size 0 = q := ⟨_, rfl⟩
  rw [hq] at R ⊢
  have HR := Lib.hid R
  clear hq R
  go_enter Tryz.func44, Tryz.ntmps44
  go_wp2_with fail
  refine HR.out.mono ?_
  rintro e w1 ⟨hb, h⟩
  have HB := Lib.hid hb
  clear hb HR
  rcases h with ⟨rfl, rfl⟩ | ⟨l, a, c, rfl, hll, rfl, hrow⟩
  · go_wp2
    go_ret
    exact ⟨rfl, HB.out⟩
  · cases l with
    | nil =>
      go_wp2
      go_ret
      exact ⟨rfl, HB.out⟩
    | cons r t =>
      rcases hrow with h | ⟨b, o, rfl, hc⟩
      · cases h
      have hne : (((r :: t).length : Int) == 0) = false := by
        rw [beq_eq_false_iff_ne]
        simp only [List.length_cons]
        omega
      have hn0 : (0 : Int) < ((r :: t).length : Int) := by simp only [List.length_cons]; omega
      have c0 : w1.cell? ⟨b, o, none⟩ = some (.int .i32 (r : Int)) := by have := hc 0 r rfl; rwa [Nat.add_zero] at this
      have HC := Lib.hid hc
      clear hc
      obtain ⟨l, hl⟩ : ∃ l, r :: t = l := ⟨_, rfl⟩
      have HN : Hid (nameR (some (r :: t)) = (beginsB r && l.all fun x => goesB (x : Int))) := Lib.hid (by rw [← hl]; rfl)
      obtain ⟨q, hq⟩ : ∃ q, nameR (some (r :: t)) = q := ⟨_, rfl⟩
      rw [hq] at HN
      have HNQ := Lib.hid hq
      rw [hl] at hne hn0 HC hll ⊢
      clear hl hq
      go_wp2_with fail
      refine (refBegins_calls (r : Int) _).mono ?_
      rintro e w2 ⟨rfl, rfl⟩
      obtain ⟨x, hx⟩ : ∃ x, inTab firstsT (r : Int) = x := ⟨_, rfl⟩
      rw [hx]
      have HX : Hid (beginsB r = x) := Lib.hid hx
      clear hx
      cases x with
      | false =>
        go_wp2
        go_ret
        exact ⟨by rw [HNQ.out, HN.out, HX.out]; rfl, HB.out⟩
      | true =>
        have HQ : Hid (q = l.all fun x => goesB (x : Int)) := Lib.hid (by rw [HN.out, HX.out]; rfl)
        go_wp2
        go_loopg [5] l.length (fun g v wr => ∃ i : Nat, v = .int .i64 i ∧ g + i = l.length ∧ (q = (l.drop i).all fun x => goesB (x : Int)) ∧ wr = w2)
        case atStart => exact ⟨0, rfl, rfl, by rw [List.drop_zero]; exact HQ.out, rfl⟩
        case round =>
          obtain ⟨i, rfl, hg, hqi, rfl⟩ := hrel
          have HG := Lib.hid hg
          have HQI := Lib.hid hqi
          clear hg hqi HQ
          by_cases hlt : i < l.length
          · have hd : decide ((i : Int) < (l.length : Int)) = true := by simp; omega
            have hii : (i : Int) < (l.length : Int) := by omega
            obtain ⟨y, hy⟩ : ∃ y, l.drop i = y :: l.drop (i + 1) := ⟨_, List.drop_eq_getElem_cons hlt⟩
            have hyi : l[i]? = some y := by
              have := congrArg (·[0]?) hy
              simpa [List.getElem?_drop] using this
            have ci := HC.out i y hyi
            have HY := Lib.hid hy
            clear hy hyi
            go_wp2_with fail
            refine (refGoesOn_calls (y : Int) _).mono ?_
            rintro e w3 ⟨rfl, rfl⟩
            obtain ⟨z, hz⟩ : ∃ z, (inTab furtherT (y : Int) || inTab firstsT (y : Int)) = z := ⟨_, rfl⟩
            rw [hz]
            have HZ : Hid (goesB y = z) := Lib.hid hz
            clear hz
            cases z with
            | false =>
              go_wp2
              go_ret
              exact ⟨by rw [HNQ.out, HQI.out, HY.out, List.all_cons, HZ.out]; rfl, HB.out⟩
            | true =>
              go_wp2
              go_roundg (gk - 1)
              case measure => have := HG.out; omega
              case rel => exact ⟨i + 1, by go_num, by have := HG.out; omega, by rw [HQI.out, HY.out, List.all_cons, HZ.out, Bool.true_and], rfl⟩
          · have hd : decide ((i : Int) < (l.length : Int)) = false := by simp; omega
            go_wp2
            go_ret
            exact ⟨by rw [HNQ.out, HQI.out, List.drop_eq_nil_of_le (by omega)]; rfl, HB.out⟩

end Go.Proofs.YtfonflbpkbibbaaGreatDoor
namespace Go.Proofs.YtfonflbpkbibbaaGreatDoor
open Go.RowKit Go.Lib

def pBl (m : Nat) : Bool := m == 9 || m == 10 || m == 13 || m == 32
def isBl (b : UInt8) : Bool := pBl b.toNat

theorem pBl_high {m : Nat} (h : 128 ≤ m) : pBl m = false := by
  unfold pBl
  simp
  omega

/-- How many blanks stand ahead. -/
def lead : List UInt8 → Nat
  | [] => 0
  | b :: t => if isBl b = true then lead t + 1 else 0
/-- What is left of the first i bytes without the blanks at their end. -/
def rl (l : List UInt8) : Nat → Nat
  | 0 => 0
  | i + 1 => if isBl (l.getD i 0) = true then rl l i else i + 1
def trimL (l : List UInt8) : List UInt8 := (l.drop (lead l)).take (rl (l.drop (lead l)) (l.drop (lead l)).length)

theorem lead_le : ∀ l, lead l ≤ l.length
  | [] => Nat.le_refl _
  | b :: t => by
    have := lead_le t
    unfold lead
    split
    · simp; omega
    · omega
theorem rl_le (l : List UInt8) : ∀ i, rl l i ≤ i
  | 0 => Nat.le_refl _
  | i + 1 => by
    have := rl_le l i
    unfold rl
    split <;> omega

theorem decodeN_high (n b0 b1 b2 b3 : Nat) (h : 128 ≤ b0) : 128 ≤ (decodeN n b0 b1 b2 b3).1 := by
  unfold decodeN
  repeat' split
  all_goals simp only
  all_goals omega

theorem rune_blank (b : UInt8) (t : List UInt8) : pBl (decodeL (b :: t)).1 = isBl b := by
  by_cases h : b.toNat < 128
  · rw [decodeL_ascii b t h]
    rfl
  · have h1 : isBl b = false := pBl_high (by omega)
    rw [h1, decodeL_N]
    exact pBl_high (decodeN_high _ _ _ _ _ (by show 128 ≤ b.toNat; omega))

theorem rune_width (b : UInt8) (t : List UInt8) (h : isBl b = true) : (decodeL (b :: t)).2 = 1 := by
  have h2 : b.toNat < 128 := by
    rcases Nat.lt_or_ge b.toNat 128 with h3 | h3
    · exact h3
    · rw [isBl, pBl_high h3] at h; cases h
  rw [decodeL_ascii b t h2]

theorem idx_lead (s : ByteArray) : ∀ (f pos : Nat), s.size ≤ pos + f →
    idxFuncFrom pBl false s f pos = if pos + lead (s.data.toList.drop pos) < s.size then ((pos + lead (s.data.toList.drop pos) : Nat) : Int) else -1
  | 0, pos, h => by rw [idxFuncFrom, if_neg (by omega)]
  | f + 1, pos, h => by
    have hlen : s.data.toList.length = s.size := Array.length_toList
    by_cases hp : pos < s.size
    · obtain ⟨x, hd⟩ : ∃ x, s.data.toList.drop pos = x :: s.data.toList.drop (pos + 1) := ⟨_, List.drop_eq_getElem_cons (by omega)⟩
      have ih := idx_lead s f (pos + 1) (by omega)
      rw [idxFuncFrom, if_pos hp, ← decodeL_drop, hd, rune_blank]
      cases hb : isBl x with
      | true =>
        have hz : lead (x :: s.data.toList.drop (pos + 1)) = lead (s.data.toList.drop (pos + 1)) + 1 := by rw [lead, if_pos hb]
        rw [rune_width _ _ hb, hz, ih, if_neg (by decide), show pos + 1 + lead (s.data.toList.drop (pos + 1)) = pos + (lead (s.data.toList.drop (pos + 1)) + 1) by omega]
      | false =>
        have hz : lead (x :: s.data.toList.drop (pos + 1)) = 0 := by rw [lead, hb]; rfl
        rw [hz, if_pos rfl, Nat.add_zero, if_pos hp]
    · rw [idxFuncFrom_end _ _ _ _ _ hp, if_neg (by omega)]

theorem left_eq (s : ByteArray) : (trimLeftF pBl s).data.toList = s.data.toList.drop (lead s.data.toList) := by
  have hlen : s.data.toList.length = s.size := Array.length_toList
  have hl := lead_le s.data.toList
  have h := idx_lead s s.size 0 (by omega)
  rw [Nat.zero_add, List.drop_zero] at h
  unfold trimLeftF idxFunc
  rw [h]
  by_cases hc : lead s.data.toList < s.size
  · rw [if_pos hc, if_neg (by omega), Lib.extract_data, Int.toNat_natCast]
    exact List.take_of_length_le (by rw [List.length_drop]; omega)
  · rw [if_neg hc, if_pos rfl, List.drop_eq_nil_of_le (by omega)]

theorem last_rl (s : ByteArray) : ∀ (f i : Nat), i ≤ f → i ≤ s.data.toList.length → OpenAt s.data.toList i →
    (rl s.data.toList i = 0 ∧ lastIdxFuncFrom pBl false s f i = -1) ∨
      ∃ j : Nat, lastIdxFuncFrom pBl false s f i = j ∧ j < s.data.toList.length ∧ j + (decodeL (s.data.toList.drop j)).2 = rl s.data.toList i
  | f, 0, _, _, _ => Or.inl ⟨rfl, lastIdxFuncFrom_zero _ _ _ _⟩
  | 0, i + 1, h, _, _ => by omega
  | f + 1, i + 1, hf, hi, ho => by
    have hw := fw_width s.data.toList (i + 1) (by omega) hi ho
    rw [lastIdxFuncFrom, if_pos (by omega)]
    rcases last_cases s.data.toList (i + 1) (by omega) hi with ⟨ha, hd⟩ | ⟨ha, hd⟩ | ⟨ha, st, hst, hd, hsum⟩
    · rw [Nat.add_sub_cancel] at ha hd
      rw [hd] at hw ⊢
      simp only [Nat.add_sub_cancel] at hw ⊢
      rw [show pBl (s.data.toList.getD i 0).toNat = isBl (s.data.toList.getD i 0) from rfl, rl]
      cases hb : isBl (s.data.toList.getD i 0) with
      | true =>
        rw [if_pos rfl, if_neg (by decide)]
        exact last_rl s f i (by omega) (by omega) (Or.inr (by omega))
      | false =>
        rw [if_pos rfl, if_neg (by decide)]
        exact Or.inr ⟨i, rfl, by omega, by rw [hw]⟩
    all_goals
      rw [Nat.add_sub_cancel] at ha
      have hbl : isBl (s.data.toList.getD i 0) = false := pBl_high ha
      rw [rl, hbl, if_neg (by decide)]
    · rw [hd] at hw ⊢
      simp only [Nat.add_sub_cancel] at hw ⊢
      rw [show pBl 65533 = false from rfl, if_pos rfl]
      exact Or.inr ⟨i, rfl, by omega, by rw [hw]⟩
    · have hne : (s.data.toList.take (i + 1)).drop st ≠ [] := fun h => by
        have := congrArg List.length h
        rw [List.length_drop, List.length_take, List.length_nil] at this
        omega
      obtain ⟨b, t, hbt⟩ := List.exists_cons_of_ne_nil hne
      have hb0 : b = s.data.toList.getD st 0 := by
        have e : b = ((s.data.toList.take (i + 1)).drop st).getD 0 0 := by rw [hbt]; rfl
        rw [e, getD_dropU, getD_takeU _ _ _ (by omega)]
        rfl
      have hnb : pBl (decodeLastL (s.data.toList.take (i + 1))).1 = false := by
        rw [hd, hbt, rune_blank]
        cases hq : isBl b with
        | false => rfl
        | true =>
          have h1 := rune_width b t hq
          rw [hbt, h1] at hsum
          have : st = i := by omega
          subst this
          rw [hb0, hbl] at hq
          cases hq
      rw [hnb, if_pos rfl]
      have hw1 : (decodeLastL (s.data.toList.take (i + 1))).2 ≤ i + 1 := by rw [hd]; omega
      have hpos : 1 ≤ (decodeLastL (s.data.toList.take (i + 1))).2 := by
        rw [hd, hbt, decodeL_N]
        unfold decodeN
        repeat' split
        all_goals simp
      exact Or.inr ⟨_, rfl, by omega, by rw [hw]; omega⟩

theorem right_end (s : ByteArray) : rightEndF pBl s = rl s.data.toList s.data.toList.length := by
  have hlen : s.data.toList.length = s.size := Array.length_toList
  unfold rightEndF lastIdxFunc
  rw [← hlen]
  rcases last_rl s s.data.toList.length s.data.toList.length (Nat.le_refl _) (Nat.le_refl _) (Or.inl rfl) with ⟨h1, h2⟩ | ⟨j, h1, h2, h3⟩
  · rw [h2, h1]
    rfl
  · rw [h1, if_pos (by omega), Int.toNat_natCast, ← h3]
    have he : (s.extract j s.data.toList.length).data.toList = s.data.toList.drop j := by
      rw [Lib.extract_data]
      exact List.take_of_length_le (by rw [List.length_drop]; omega)
    have hs : (s.extract j s.data.toList.length).size ≠ 0 := by
      intro h0
      have := congrArg List.length he
      rw [Array.length_toList] at this
      simp only [List.length_drop] at this
      have e2 : (s.extract j s.data.toList.length).data.size = (s.extract j s.data.toList.length).size := rfl
      omega
    unfold decodeGoB
    rw [if_neg hs, ← decodeL_drop, he]
    rfl

theorem trim_eq (s : ByteArray) : (trimF pBl s).data.toList = trimL s.data.toList := by
  unfold trimF trimRightF
  rw [right_end, left_eq, Lib.extract_data]
  have hlen := left_eq s
  simp only [hlen, List.drop_zero, Nat.sub_zero]
  rfl

theorem lead_drop : ∀ l : List UInt8, lead (l.drop (lead l)) = 0
  | [] => rfl
  | b :: t => by
    by_cases h : isBl b = true
    · rw [show lead (b :: t) = lead t + 1 by rw [lead, if_pos h], List.drop_succ_cons]
      exact lead_drop t
    · have hz : lead (b :: t) = 0 := by rw [lead, if_neg h]
      rw [hz, List.drop_zero, hz]

theorem rl_take (l : List UInt8) (m : Nat) : ∀ i, i ≤ m → rl (l.take m) i = rl l i
  | 0, _ => rfl
  | i + 1, h => by
    rw [rl, rl, rl_take l m i (by omega), getD_takeU l m i (by omega)]

theorem rl_again (l : List UInt8) : ∀ i, rl l (rl l i) = rl l i
  | 0 => rfl
  | i + 1 => by
    by_cases h : isBl (l.getD i 0) = true
    · rw [show rl l (i + 1) = rl l i by rw [rl, if_pos h]]
      exact rl_again l i
    · rw [show rl l (i + 1) = i + 1 by rw [rl, if_neg h], rl, if_neg h]

theorem lead_take (d : List UInt8) (m : Nat) (h : lead d = 0) : lead (d.take m) = 0 := by
  cases d with
  | nil => simp [lead]
  | cons b t =>
    cases m with
    | zero => rfl
    | succ m =>
      rw [List.take_succ_cons]
      unfold lead at h ⊢
      by_cases hb : isBl b = true
      · rw [if_pos hb] at h; omega
      · rw [if_neg hb]

theorem trim_again (l : List UInt8) : trimL (trimL l) = trimL l := by
  have h0 := lead_drop l
  obtain ⟨d, hd⟩ : ∃ d, l.drop (lead l) = d := ⟨_, rfl⟩
  unfold trimL
  rw [hd] at h0 ⊢
  have hm := rl_le d d.length
  obtain ⟨m, hmm⟩ : ∃ m, rl d d.length = m := ⟨_, rfl⟩
  have ha := rl_again d d.length
  rw [hmm] at hm ha ⊢
  rw [lead_take d m h0, List.drop_zero]
  have hl : (d.take m).length = m := by rw [List.length_take]; omega
  rw [hl, rl_take d m m (Nat.le_refl _), ha, List.take_take, Nat.min_self]

theorem trim_sides (s : List UInt8) (hne : s ≠ []) (hb : ∀ b ∈ s, isBl b = false) : trimL (32 :: 9 :: (s ++ [13, 10])) = s := by
  obtain ⟨b, t, rfl⟩ := List.exists_cons_of_ne_nil hne
  have hbb := hb b (by simp)
  have hl : lead (32 :: 9 :: (b :: t ++ [13, 10])) = 2 := by
    rw [lead, if_pos (by decide), lead, if_pos (by decide), List.cons_append, lead, if_neg (by rw [hbb]; decide)]
  unfold trimL
  rw [hl]
  simp only [List.drop_succ_cons, List.drop_zero]
  obtain ⟨n, hn⟩ : ∃ n, (b :: t).length = n + 1 := ⟨t.length, by simp⟩
  have hlen : ((b :: t) ++ [13, 10]).length = n + 1 + 1 + 1 := by rw [List.length_append, hn]; rfl
  have g1 : ((b :: t) ++ [13, 10]).getD (n + 1 + 1) 0 = 10 := by
    rw [List.getD_eq_getElem?_getD, List.getElem?_append_right (by omega), hn, show n + 1 + 1 - (n + 1) = 1 by omega]
    rfl
  have g2 : ((b :: t) ++ [13, 10]).getD (n + 1) 0 = 13 := by
    rw [List.getD_eq_getElem?_getD, List.getElem?_append_right (by omega), hn, Nat.sub_self]
    rfl
  have g3 : isBl (((b :: t) ++ [13, 10]).getD n 0) = false := by
    rw [List.getD_eq_getElem?_getD, List.getElem?_append_left (by omega)]
    cases hq : (b :: t)[n]? with
    | none => rw [List.getElem?_eq_none_iff] at hq; omega
    | some x => exact hb x (List.mem_of_getElem? hq)
  rw [hlen, rl, g1, if_pos (by decide), rl, g2, if_pos (by decide), rl, if_neg (by rw [g3]; decide), List.take_append_of_le_length (by omega), List.take_of_length_le (by omega)]

end Go.Proofs.YtfonflbpkbibbaaGreatDoor
