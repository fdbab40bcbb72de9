/-
  The tokens of what is written again; of a row of one word; of a text in quotes; of digits with a point. By definition, of no program. No condition.
-/
import Derived.Test.YtkpgbcackphdbaaDoorQR
namespace Go.Proofs.YtkpgbcackphdbaaDoor
open Go.RowKit Go.Lib

def keysQ (l : List Tk) : List (Int × List UInt8) := l.map fun x => (x.kind, x.text)
theorem last_keys {a b : List Tk} (h : keysQ a = keysQ b) : behindQ a = behindQ b := by
  have key : ∀ l : List Tk, behindQ l = match (keysQ l).getLast? with | none => false | some x => (if x.1 = 5 then false else if x.1 = 6 then !opensQ.contains x.2 else true) := by
    intro l
    unfold behindQ keysQ
    rw [List.getLast?_map]
    cases l.getLast? <;> rfl
  rw [key, key, h]
theorem keys_app (a b : List Tk) : keysQ (a ++ b) = keysQ a ++ keysQ b := List.map_append
/-- Tokens as they are written, each with a blank behind it. -/
def writeL : List Tk → List UInt8
  | [] => []
  | x :: t => writeQ x.kind x.text ++ 32 :: writeL t
/-- Places rise, and lie within the text. -/
def Rise (n : Nat) : Nat → List Tk → Prop
  | _, [] => True
  | lo, x :: t => lo ≤ x.spot ∧ x.spot < n ∧ Rise n (x.spot + 1) t
theorem lex_nil (n g : Nat) (acc : List Tk) : lexQ n g [] acc = .ok acc := by
  cases g with
  | zero => rfl
  | succ g => rw [lexQ, if_pos rfl]
theorem lex_step {n g : Nat} {r : List UInt8} {acc : List Tk} (hr : r ≠ []) {k : Int} {t : List UInt8} {z : Nat} (h : readQ r (behindQ acc) = .ok (k, t, z)) : lexQ n (g + 1) r acc = lexQ n g (blk (r.drop z)) (acc ++ [⟨k, n - r.length, t⟩]) := by
  rw [lexQ, if_neg hr, h]
theorem lex_again (n : Nat) : ∀ (g : Nat) (r : List UInt8) (acc out : List Tk), Ok8 r → r.length ≤ g → r.length ≤ n → lexQ n g r acc = .ok out →
    ∃ ts, out = acc ++ ts ∧ Rise n (n - r.length) ts ∧ nextK (writeL ts) = nextK r ∧ blk (writeL ts) = writeL ts ∧ Ok8 (writeL ts) ∧ (writeL ts).length ≤ 2 * r.length ∧
      ∀ (m h : Nat) (acc' : List Tk), (writeL ts).length ≤ h → keysQ acc' = keysQ acc → ∃ ts', lexQ m h (writeL ts) acc' = .ok (acc' ++ ts') ∧ keysQ ts' = keysQ ts
  | 0, r, acc, out, ho, hg, hn, e => by
    have hr : r = [] := List.length_eq_zero_iff.1 (by omega)
    subst hr
    rw [lex_nil] at e
    cases e
    exact ⟨[], by rw [List.append_nil], trivial, rfl, rfl, .nil, Nat.zero_le _, fun m h acc' _ _ => ⟨[], by rw [List.append_nil]; exact lex_nil m h acc', rfl⟩⟩
  | g + 1, r, acc, out, ho, hg, hn, e => by
    by_cases hr : r = []
    · subst hr
      rw [lex_nil] at e
      cases e
      exact ⟨[], by rw [List.append_nil], trivial, rfl, rfl, .nil, Nat.zero_le _, fun m h acc' _ _ => ⟨[], by rw [List.append_nil]; exact lex_nil m h acc', rfl⟩⟩
    · rw [lexQ, if_neg hr] at e
      cases hq : readQ r (behindQ acc) with
      | error c => rw [hq] at e; cases e
      | ok x =>
        obtain ⟨k, t, z⟩ := x
        rw [hq] at e
        dsimp only at e
        have R := read_reads ho hq
        have h0 := List.length_pos_iff.2 hr
        have hdl : (r.drop z).length = r.length - z := List.length_drop
        have hbl := blk_le (r.drop z)
        have hz := R.pos
        have hzl := R.le
        obtain ⟨ts, g1, g2, g3, g4, g5, g6, g7⟩ := lex_again n g (blk (r.drop z)) _ out (ok_blk R.ok) (by omega) (by omega) e
        obtain ⟨c, u, hw, hc⟩ := R.head
        refine ⟨⟨k, n - r.length, t⟩ :: ts, by rw [g1, List.append_assoc]; rfl, ⟨Nat.le_refl _, by show n - r.length < n; omega, ?_⟩, R.next _, ?_, ?_, ?_, ?_⟩
        · have key : ∀ (lo lo' : Nat) (l : List Tk), lo' ≤ lo → Rise n lo l → Rise n lo' l := fun lo lo' l hlo h => by
            cases l with
            | nil => trivial
            | cons x t => exact ⟨Nat.le_trans hlo h.1, h.2⟩
          exact key _ _ _ (by show n - r.length + 1 ≤ n - (blk (r.drop z)).length; omega) g2
        · rw [writeL]
          dsimp only
          rw [hw, List.cons_append, blk_no hc]
        · exact R.wok.append (g5.cons (by decide) tab32)
        · rw [writeL, List.length_append, List.length_cons]
          have := R.size
          dsimp only
          omega
        · intro m h acc' hh hk
          rw [writeL] at hh ⊢
          dsimp only at hh ⊢
          rw [List.length_append, List.length_cons] at hh
          have hne : writeQ k t ++ 32 :: writeL ts ≠ [] := by rw [hw]; exact List.cons_ne_nil _ _
          have hwl : 0 < (writeQ k t).length := by rw [hw]; exact Nat.succ_pos _
          obtain ⟨h, rfl⟩ : ∃ j, h = j + 1 := ⟨h - 1, by omega⟩
          have ha := R.again (writeL ts) (by rw [g4, g3])
          rw [← last_keys hk] at ha
          rw [lex_step hne ha, List.drop_left, blk_yes rfl, g4]
          obtain ⟨ts', e1, e2⟩ := g7 m h (acc' ++ [⟨k, m - (writeQ k t ++ 32 :: writeL ts).length, t⟩]) (by omega) (by rw [keys_app, keys_app, hk]; rfl)
          refine ⟨⟨k, m - (writeQ k t ++ 32 :: writeL ts).length, t⟩ :: ts', by rw [e1, List.append_assoc]; rfl, ?_⟩
          show (k, t) :: keysQ ts' = (k, t) :: keysQ ts
          rw [e2]
/-- P20.2 by definition. -/
theorem all_again {s : List UInt8} {ts : List Tk} (hs : s.length ≤ 300) (h : allQ s = .ok ts) : Rise s.length 0 ts ∧ (writeL ts).length ≤ 600 ∧ ∃ ts', allQ (writeL ts) = .ok ts' ∧ keysQ ts' = keysQ ts := by
  unfold allQ at h
  rw [if_neg (by omega)] at h
  by_cases hb : 0 ≤ badL s
  · rw [if_pos hb] at h; cases h
  · rw [if_neg hb] at h
    have ho := ok_of_bad s.length s (Nat.le_refl _) hb
    have hl := blk_le s
    obtain ⟨ts2, g1, g2, _, g4, g5, g6, g7⟩ := lex_again s.length s.length (blk s) [] ts (ok_blk ho) (by omega) (by omega) h
    rw [List.nil_append] at g1
    subst g1
    have key : ∀ (lo : Nat) (l : List Tk), Rise s.length lo l → Rise s.length 0 l := fun lo l h => by
      cases l with
      | nil => trivial
      | cons x t => exact ⟨Nat.zero_le _, h.2⟩
    obtain ⟨ts', e1, e2⟩ := g7 (writeL ts).length (writeL ts).length [] (Nat.le_refl _) rfl
    refine ⟨key _ _ g2, by omega, ts', ?_, e2⟩
    unfold allQ
    rw [if_neg (by omega), if_neg (by rw [bad_of_ok g5]; decide), g4, e1, List.nil_append]

/-- The five words that are an operator behind an operand. -/
def fiveQ : List (List UInt8) := [[97, 110, 100], [111, 114], [100, 105, 118], [109, 111, 100], [42]]
def repQ (w : List UInt8) : Nat → List UInt8
  | 0 => []
  | k + 1 => w ++ 32 :: repQ w k
theorem repQ_snoc (w : List UInt8) : ∀ k, repQ w (k + 1) = repQ w k ++ (w ++ [32])
  | 0 => rfl
  | k + 1 => by
    show w ++ 32 :: repQ w (k + 1) = (w ++ 32 :: repQ w k) ++ (w ++ [32])
    rw [repQ_snoc w k, List.append_assoc]
    rfl
theorem repQ_len (w : List UInt8) : ∀ k, (repQ w k).length = k * (w.length + 1)
  | 0 => by rw [repQ, Nat.zero_mul]; rfl
  | k + 1 => by rw [repQ, List.length_append, List.length_cons, repQ_len w k, Nat.succ_mul]; omega
theorem low_char (b : UInt8) (h : 32 ≤ b.toNat ∧ b.toNat < 128) : inTab charsT (b.toNat : Int) = true := (chars_nat b.toNat).2 (by omega)
theorem nm_and : Nm8 true [97, 110, 100] := .cons (.cons (.cons (.nil _) (by decide) (by kernel_rfl) (by kernel_rfl)) (by decide) (by kernel_rfl) (by kernel_rfl)) (by decide) (by kernel_rfl) (by kernel_rfl)
theorem nm_or : Nm8 true [111, 114] := .cons (.cons (.nil _) (by decide) (by kernel_rfl) (by kernel_rfl)) (by decide) (by kernel_rfl) (by kernel_rfl)
theorem nm_div : Nm8 true [100, 105, 118] := .cons (.cons (.cons (.nil _) (by decide) (by kernel_rfl) (by kernel_rfl)) (by decide) (by kernel_rfl) (by kernel_rfl)) (by decide) (by kernel_rfl) (by kernel_rfl)
theorem nm_mod : Nm8 true [109, 111, 100] := .cons (.cons (.cons (.nil _) (by decide) (by kernel_rfl) (by kernel_rfl)) (by decide) (by kernel_rfl) (by kernel_rfl)) (by decide) (by kernel_rfl) (by kernel_rfl)
theorem read_word_of {c : UInt8} {p : List UInt8} (h : Nm8 true (c :: p)) (h1 : ¬ (c = 34 ∨ c = 39)) (h2 : c ≠ 36) (h3 : c ≠ 42) (h4 : c ≠ 46) (h5 : digitB c = false) (hw : wordsQ.contains (c :: p) = true) (v : List UInt8) (hv : nextK (blk v) = 0) (bh : Bool) :
    readQ (c :: p ++ 32 :: v) bh = .ok (if bh = true then 5 else 1, c :: p, (c :: p).length) := by
  have e1 := h.begun v
  have e2 : (c :: p ++ 32 :: v).drop (c :: p).length = 32 :: v := List.drop_left ..
  rw [List.cons_append] at e1 e2 ⊢
  unfold readQ
  dsimp only
  rw [if_neg h1, if_neg h2, if_neg h3, if_neg h4, if_neg (by rw [h5]; decide), e1, if_neg (by simp), e2, blk_yes rfl]
  unfold namedQ tokQ
  cases bh with
  | true => rw [if_pos rfl, if_pos hw, if_pos rfl]
  | false =>
    have hk : kindQ (c :: p) (blk v) = 1 := by
      rw [kind_next (b := []) (by rw [hv]; rfl)]
      rfl
    rw [if_neg (by decide), if_neg (by decide), hk]
theorem read_word {w : List UInt8} (hw : w ∈ fiveQ) (v : List UInt8) (hv : nextK (blk v) = 0) (bh : Bool) : readQ (w ++ 32 :: v) bh = .ok (if bh = true then 5 else 1, w, w.length) := by
  unfold fiveQ at hw
  simp only [List.mem_cons, List.not_mem_nil, or_false] at hw
  rcases hw with rfl | rfl | rfl | rfl | rfl
  · exact read_word_of nm_and (by decide) (by decide) (by decide) (by decide) rfl rfl v hv bh
  · exact read_word_of nm_or (by decide) (by decide) (by decide) (by decide) rfl rfl v hv bh
  · exact read_word_of nm_div (by decide) (by decide) (by decide) (by decide) rfl rfl v hv bh
  · exact read_word_of nm_mod (by decide) (by decide) (by decide) (by decide) rfl rfl v hv bh
  · rfl
theorem five_head {w : List UInt8} (hw : w ∈ fiveQ) : ∃ c p, w = c :: p ∧ isBl c = false ∧ c ≠ 58 ∧ c ≠ 40 := by
  unfold fiveQ at hw
  simp only [List.mem_cons, List.not_mem_nil, or_false] at hw
  rcases hw with rfl | rfl | rfl | rfl | rfl
  all_goals exact ⟨_, _, rfl, rfl, by decide, by decide⟩
theorem five_low {w : List UInt8} (hw : w ∈ fiveQ) : w.length ≤ 3 ∧ ∀ b ∈ w, 32 ≤ b.toNat ∧ b.toNat < 128 := by
  unfold fiveQ at hw
  simp only [List.mem_cons, List.not_mem_nil, or_false] at hw
  rcases hw with rfl | rfl | rfl | rfl | rfl
  all_goals exact ⟨by decide, low_all rfl⟩
theorem rep_head {w : List UInt8} (hw : w ∈ fiveQ) (k : Nat) : blk (repQ w k) = repQ w k ∧ nextK (blk (repQ w k)) = 0 := by
  cases k with
  | zero => exact ⟨rfl, rfl⟩
  | succ k =>
    obtain ⟨c, p, rfl, h1, h2, h3⟩ := five_head hw
    rw [repQ, List.cons_append, blk_no h1]
    exact ⟨rfl, next_zero h2 h3 _⟩
/-- Tokens of one word, every second one of which is an operator. -/
def turnsQ (w : List UInt8) : Bool → List Tk → Prop
  | _, [] => True
  | b, x :: t => x.text = w ∧ x.kind = (if b = true then 5 else 1) ∧ turnsQ w (!b) t
theorem turns_at {w : List UInt8} : ∀ {l : List Tk} {b : Bool} {i : Nat} {x : Tk}, turnsQ w b l → l[i]? = some x → x.text = w ∧ x.kind = (if (b ^^ decide (i % 2 = 1)) = true then 5 else 1)
  | [], _, _, _, _, h => by simp at h
  | y :: t, b, 0, x, ht, h => by
    obtain rfl : y = x := by simpa using h
    refine ⟨ht.1, ?_⟩
    rw [ht.2.1]
    cases b <;> rfl
  | y :: t, b, i + 1, x, ht, h => by
    rw [List.getElem?_cons_succ] at h
    obtain ⟨h1, h2⟩ := turns_at ht.2.2 h
    refine ⟨h1, ?_⟩
    rw [h2]
    have : ((!b) ^^ decide (i % 2 = 1)) = (b ^^ decide ((i + 1) % 2 = 1)) := by
      rcases Nat.mod_two_eq_zero_or_one i with h3 | h3
      · rw [h3, show (i + 1) % 2 = 1 by omega]
        cases b <;> rfl
      · rw [h3, show (i + 1) % 2 = 0 by omega]
        cases b <;> rfl
    rw [this]
theorem lex_words {w : List UInt8} (hw : w ∈ fiveQ) (n : Nat) : ∀ (k g : Nat) (acc : List Tk), (repQ w k).length ≤ g → ∃ ts, lexQ n g (repQ w k) acc = .ok (acc ++ ts) ∧ ts.length = k ∧ turnsQ w (behindQ acc) ts
  | 0, g, acc, _ => ⟨[], by rw [repQ, lex_nil, List.append_nil], rfl, trivial⟩
  | k + 1, g, acc, hg => by
    obtain ⟨c, p, hcp, _⟩ := five_head hw
    have hne : repQ w (k + 1) ≠ [] := by rw [repQ, hcp]; exact List.cons_ne_nil _ _
    have h0 := List.length_pos_iff.2 hne
    obtain ⟨g, rfl⟩ : ∃ j, g = j + 1 := ⟨g - 1, by omega⟩
    have hr := read_word hw (repQ w k) (rep_head hw k).2 (behindQ acc)
    have hst := lex_step (n := n) (g := g) hne hr
    rw [hst]
    have hd : (repQ w (k + 1)).drop w.length = 32 :: repQ w k := by rw [repQ, List.drop_left]
    rw [hd, blk_yes rfl, (rep_head hw k).1]
    have hlg : (repQ w k).length ≤ g := by
      rw [repQ, List.length_append, List.length_cons] at hg
      omega
    obtain ⟨ts, e1, e2, e3⟩ := lex_words hw n k g (acc ++ [⟨if behindQ acc = true then 5 else 1, n - (repQ w (k + 1)).length, w⟩]) hlg
    refine ⟨⟨if behindQ acc = true then 5 else 1, n - (repQ w (k + 1)).length, w⟩ :: ts, by rw [e1, List.append_assoc]; rfl, by rw [List.length_cons, e2], rfl, rfl, ?_⟩
    have hb : behindQ (acc ++ [⟨if behindQ acc = true then 5 else 1, n - (repQ w (k + 1)).length, w⟩]) = !behindQ acc := by
      rw [behind_snoc]
      cases behindQ acc <;> rfl
    rw [hb] at e3
    exact e3
theorem low_rep {w : List UInt8} (hw : w ∈ fiveQ) : ∀ k, ∀ b ∈ repQ w k, 32 ≤ b.toNat ∧ b.toNat < 128
  | 0, b, h => by cases h
  | k + 1, b, h => by
    rw [repQ] at h
    rcases List.mem_append.1 h with h | h
    · exact (five_low hw).2 b h
    · rcases List.mem_cons.1 h with rfl | h
      · decide
      · exact low_rep hw k b h
theorem all_words {w : List UInt8} (hw : w ∈ fiveQ) (k : Nat) (hk : k ≤ 100) : ∃ ts, allQ (repQ w k) = .ok ts ∧ ts.length = k ∧ turnsQ w false ts := by
  have hl := repQ_len w k
  have hw3 := (five_low hw).1
  have h4 : k * (w.length + 1) ≤ 100 * 4 := Nat.mul_le_mul hk (by omega)
  obtain ⟨ts, e1, e2, e3⟩ := lex_words hw (repQ w k).length k (repQ w k).length [] (Nat.le_refl _)
  refine ⟨ts, ?_, e2, e3⟩
  unfold allQ
  rw [if_neg (by omega), if_neg (by rw [bad_of_ok (ok_low (low_rep hw k))]; decide), (rep_head hw k).1, e1, List.nil_append]

theorem all_quotes {q : UInt8} (hq : q = 34 ∨ q = 39) {s : List UInt8} (hs : s.length ≤ 500) : (0 ≤ badL s → allQ (q :: (s ++ [q])) = .error (1, (1 + badL s).toNat)) ∧ (¬ 0 ≤ badL s → q ∉ s → allQ (q :: (s ++ [q])) = .ok [⟨7, 0, s⟩]) := by
  have hq128 : q.toNat < 128 ∧ inTab charsT (q.toNat : Int) = true ∧ isBl q = false := by rcases hq with rfl | rfl <;> exact ⟨by decide, by kernel_rfl, by decide⟩
  have hbq : badL [q] = -1 := bad_of_ok (Ok8.nil.cons hq128.1 hq128.2.1)
  have hbad : badL (q :: (s ++ [q])) = if 0 ≤ badL s then 1 + badL s else -1 := by
    have h1 := bad_append s [q] (fun x u e => by cases e; exact hq128.1)
    rw [bad_cons q (s ++ [q]) hq128.1 hq128.2.1, h1, hbq]
    by_cases h : 0 ≤ badL s
    · rw [if_pos h, if_pos h]
    · have h2 : ¬ (0 : Int) ≤ -1 := by decide
      rw [if_neg h, if_neg h, if_neg h2, if_neg h2]
  have hlen : (q :: (s ++ [q])).length = s.length + 2 := by rw [List.length_cons, List.length_append]; rfl
  refine ⟨fun h => ?_, fun h hm => ?_⟩
  · unfold allQ
    rw [if_neg (by omega), hbad, if_pos h, if_pos (by omega)]
  · unfold allQ
    rw [if_neg (by omega), hbad, if_neg h, if_neg (by decide), blk_no hq128.2.2]
    have hr : readQ (q :: (s ++ [q])) (behindQ []) = .ok (7, s, 1 + s.length + 1) := by
      unfold readQ quotedQ
      dsimp only
      rw [if_pos hq, upTo_at [] hm]
    rw [hlen, lex_step (g := s.length + 1) (List.cons_ne_nil _ _) hr, hlen, Nat.sub_self]
    have hd : (q :: (s ++ [q])).drop (1 + s.length + 1) = [] := List.drop_eq_nil_of_le (by omega)
    rw [hd]
    exact lex_nil _ _ _
theorem all_digits {a b : List UInt8} (ha : ∀ x ∈ a, digitB x = true) (hb : ∀ x ∈ b, digitB x = true) (hl : a.length + b.length = 3) : allQ (a ++ 46 :: b) = .ok [⟨8, 0, a ++ 46 :: b⟩] := by
  have hlen : (a ++ 46 :: b).length = 4 := by rw [List.length_append, List.length_cons]; omega
  have hlow : ∀ x ∈ a ++ 46 :: b, 32 ≤ x.toNat ∧ x.toNat < 128 := fun x hx => by
    rcases List.mem_append.1 hx with h | h
    · have := digit_low (ha x h); omega
    · rcases List.mem_cons.1 h with rfl | h
      · decide
      · have := digit_low (hb x h); omega
  have e1 : digs (a ++ 46 :: b) = a.length := digs_stop a 46 b ha digit46
  have e2 : (a ++ 46 :: b).drop a.length = 46 :: b := List.drop_left ..
  have e3 : (a ++ 46 :: b).drop (a.length + 1) = b := by rw [← List.drop_drop, e2]; rfl
  have hnum : numLen (a ++ 46 :: b) = 4 := by
    unfold numLen
    rw [e1, e2, if_pos (show hasPre [46] (46 :: b) = true from rfl), e3, digs_all b hb]
    omega
  have hread : readQ (a ++ 46 :: b) (behindQ []) = .ok (8, a ++ 46 :: b, 4) := by
    have htk : (a ++ 46 :: b).take 4 = a ++ 46 :: b := List.take_of_length_le (by omega)
    cases a with
    | nil =>
      rw [List.nil_append] at hnum htk hlen ⊢
      unfold readQ
      dsimp only
      have hd0 : digs b ≠ 0 := by rw [digs_all b hb]; rw [List.length_nil] at hl; omega
      rw [if_neg (by decide), if_neg (by decide), if_neg (by decide), if_pos rfl, if_neg hd0, hnum, htk]
      unfold tokQ
      rw [hlen]
    | cons c a =>
      rw [List.cons_append] at hnum htk hlen ⊢
      have hc := ha c (List.mem_cons_self ..)
      have hd := digit_low hc
      have k1 : ¬ (c = 34 ∨ c = 39) := by
        rintro (rfl | rfl)
        · exact absurd hd (by decide)
        · exact absurd hd (by decide)
      have k2 : c ≠ 36 := by rintro rfl; exact absurd hd (by decide)
      have k3 : c ≠ 42 := by rintro rfl; exact absurd hd (by decide)
      have k4 : c ≠ 46 := by rintro rfl; exact absurd hd (by decide)
      unfold readQ
      dsimp only
      rw [if_neg k1, if_neg k2, if_neg k3, if_neg k4, if_pos hc, hnum, htk]
      unfold tokQ
      rw [hlen]
  have hne : a ++ 46 :: b ≠ [] := fun e => by rw [e] at hlen; cases hlen
  have hblk : blk (a ++ 46 :: b) = a ++ 46 :: b := by
    cases a with
    | nil => rfl
    | cons c a =>
      have hd := digit_low (ha c (List.mem_cons_self ..))
      rw [List.cons_append]
      exact blk_no (by unfold isBl pBl; simp; omega) _
  unfold allQ
  rw [if_neg (by omega), if_neg (by rw [bad_of_ok (ok_low hlow)]; decide), hblk, hlen, lex_step (g := 3) hne hread, hlen, Nat.sub_self, List.drop_eq_nil_of_le (by omega)]
  exact lex_nil _ _ _
end Go.Proofs.YtkpgbcackphdbaaDoor
