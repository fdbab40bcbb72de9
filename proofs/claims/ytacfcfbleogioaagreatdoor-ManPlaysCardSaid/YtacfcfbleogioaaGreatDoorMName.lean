/-
  Names and generations of manifests, told by the program; whether a manifest is one. Conditions: the library's table of powers of ten and its two errors are laid; the name is short; the slice leads to numbers.
-/
import Derived.Test.YtacfcfbleogioaaGreatDoorSNameA
import Derived.Test.YtacfcfbleogioaaGreatDoorMRowA
namespace Go.Proofs.YtacfcfbleogioaaGreatDoor
open Go.RowKit Go.Lib Go.Joins

theorem mwithin_calls (n a b : Int) (w : World) : Calls Tryz.prog 111 #[.int .i64 n, .int .i64 a, .int .i64 b] w (Stays (.bool (decide (a ≤ n) && decide (n ≤ b))) w) := by
  by_cases h1 : a ≤ n
  · have d1 : decide (a ≤ n) = true := by simpa using h1
    by_cases h2 : n ≤ b
    · have d2 : decide (n ≤ b) = true := by simpa using h2
      rw [d1, d2]
      go_enter Tryz.func111, Tryz.ntmps111
      go_wp2
      go_ret
      exact ⟨rfl, rfl⟩
    · have d2 : decide (n ≤ b) = false := by simpa using h2
      rw [d1, d2]
      go_enter Tryz.func111, Tryz.ntmps111
      go_wp2
      go_ret
      exact ⟨rfl, rfl⟩
  · have d1 : decide (a ≤ n) = false := by simpa using h1
    rw [d1]
    go_enter Tryz.func111, Tryz.ntmps111
    go_wp2
    go_ret
    exact ⟨rfl, rfl⟩

theorem pre_is (l p : List UInt8) : Lib.hasPrefix l p = decide (l.take p.length = p) := by
  unfold Lib.hasPrefix
  rw [Bool.eq_iff_iff, List.isPrefixOf_iff_prefix, decide_eq_true_eq, List.prefix_iff_eq_take]
  exact eq_comm
set_option maxRecDepth 100000 in
set_option maxHeartbeats 1000000 in
theorem mname_calls (n : Int) (w : World) (ht : Tab w) : Calls Tryz.prog 32 #[.int .i64 n] w (Leaves (.string (mnameB n)) w) := by
  have HN := Lib.hid (name_calls n w ht)
  have HC : Hid (∀ W, Calls Tryz.prog 79 #[.string (nameB n), .string ⟨#[115, 101, 103, 46]⟩] W fun e w' => e = .returned (.tuple #[.string ⟨(Lib.trimPrefix (nameB n).data.toList [115, 101, 103, 46]).toArray⟩, .bool (Lib.hasPrefix (nameB n).data.toList [115, 101, 103, 46])]) ∧ w' = W) := Lib.hid (fun W => Tryz.strings_CutPrefix (nameB n) ⟨#[115, 101, 103, 46]⟩ W)
  cases hm : mayN n with
  | false =>
    have e1 : Lib.hasPrefix (nameB n).data.toList [115, 101, 103, 46] = false := by rw [nameB_not hm]; rfl
    rw [e1] at HC
    rw [mnameB_not hm]
    obtain ⟨T, hT⟩ : ∃ T : ByteArray, ⟨(Lib.trimPrefix (nameB n).data.toList [115, 101, 103, 46]).toArray⟩ = T := ⟨_, rfl⟩
    rw [hT] at HC
    clear hm e1 hT
    go_enter Tryz.func32, Tryz.ntmps32
    go_wp2_with fail
    with_reducible refine HN.out.mono ?_
    rintro e w1 ⟨rfl, hb1⟩
    have HB := Lib.hid hb1
    clear hb1
    go_wp2_with fail
    with_reducible refine (HC.out w1).mono ?_
    rintro e w2 ⟨rfl, rfl⟩
    go_wp2
    go_ret
    exact ⟨rfl, HB.out⟩
  | true =>
    have e1 : Lib.hasPrefix (nameB n).data.toList [115, 101, 103, 46] = true := by rw [pre_is, nameB_list hm]; rfl
    have e2 : (⟨(Lib.trimPrefix (nameB n).data.toList [115, 101, 103, 46]).toArray⟩ : ByteArray) = ⟨(pad 8 n.toNat).toArray⟩ := by
      unfold Lib.trimPrefix
      rw [e1, if_pos rfl, nameB_list hm]
      rfl
    rw [e1, e2] at HC
    have hcat : (⟨#[109, 97, 110, 46]⟩ : ByteArray) ++ ⟨(pad 8 n.toNat).toArray⟩ = mnameB n := by
      rw [mnameB_may hm]
      exact app_bytes [109, 97, 110, 46] (pad 8 n.toNat)
    have hsz : (⟨(pad 8 n.toNat).toArray⟩ : ByteArray).size = 8 := by show (pad 8 n.toNat).toArray.size = 8; rw [List.size_toArray, pad_len]
    obtain ⟨T, hT⟩ : ∃ T : ByteArray, ⟨(pad 8 n.toNat).toArray⟩ = T := ⟨_, rfl⟩
    rw [hT] at HC hcat hsz
    have HCAT := Lib.hid hcat
    have hl1 : ¬ 9223372036854775807 < 4 + T.size := by omega
    clear hm e1 e2 hT hcat
    go_enter Tryz.func32, Tryz.ntmps32
    go_wp2_with fail
    with_reducible refine HN.out.mono ?_
    rintro e w1 ⟨rfl, hb1⟩
    have HB := Lib.hid hb1
    clear hb1
    go_wp2_with fail
    with_reducible refine (HC.out w1).mono ?_
    rintro e w2 ⟨rfl, rfl⟩
    go_wp2
    go_ret
    exact ⟨congrArg (fun z => Ending.returned (Value.string z)) HCAT.out, HB.out⟩

/-- What a name is: 0 a stranger, 1 a segment's, 2 a manifest's; and its number. -/
def tellB (s : ByteArray) : Nat × Nat :=
  if s.data.toList.take 4 = manP then (if 0 < numB (asSeg s) then (2, numB (asSeg s)) else (0, 0))
  else if 0 < numB s then (1, numB s) else (0, 0)
theorem numB_seg {s : ByteArray} (h : s.data.toList.take 4 ≠ segP) : numB s = 0 := by
  unfold numB
  rw [if_neg (fun h1 => h h1.2.1)]
theorem tell_gen (s : ByteArray) : (decide ((tellB s).1 = 2) = decide (0 < genB s)) ∧ ((tellB s).1 = 2 → (tellB s).2 = genB s) := by
  unfold tellB genB
  split
  · split
    · next h => simp [h]
    · next h => simp [h]
  · split
    · simp
    · simp
def TellOut (s : ByteArray) (w : World) (e : Ending) (w' : World) : Prop := e = .returned (.tuple #[.int .i64 ((tellB s).1 : Int), .int .i64 ((tellB s).2 : Int)]) ∧ Below w.heap.size w w'

set_option maxRecDepth 100000 in
set_option maxHeartbeats 4000000 in
theorem tell_calls (s : ByteArray) (w : World) (hs : s.size ≤ 1099511627000) (ht : Tab w) (he : Errs w) : Calls Tryz.prog 87 #[.string s] w (TellOut s w) := by
  have HP1 : Hid (Calls Tryz.prog 128 #[.string s, .string ⟨#[109, 97, 110, 46]⟩] w fun e w' => e = .returned (.bool (Lib.hasPrefix s.data.toList [109, 97, 110, 46])) ∧ w' = w) := Lib.hid (Tryz.strings_HasPrefix s ⟨#[109, 97, 110, 46]⟩ w)
  have HP2 : Hid (Calls Tryz.prog 128 #[.string s, .string ⟨#[115, 101, 103, 46]⟩] w fun e w' => e = .returned (.bool (Lib.hasPrefix s.data.toList [115, 101, 103, 46])) ∧ w' = w) := Lib.hid (Tryz.strings_HasPrefix s ⟨#[115, 101, 103, 46]⟩ w)
  have HTR : Hid (Calls Tryz.prog 129 #[.string s, .string ⟨#[109, 97, 110, 46]⟩] w fun e w' => e = .returned (.string ⟨(Lib.trimPrefix s.data.toList [109, 97, 110, 46]).toArray⟩) ∧ w' = w) := Lib.hid (Tryz.strings_TrimPrefix s ⟨#[109, 97, 110, 46]⟩ w)
  by_cases h1 : s.data.toList.take 4 = manP
  · have d1 : Lib.hasPrefix s.data.toList [109, 97, 110, 46] = true := by rw [pre_is]; exact decide_eq_true h1
    have e2 : (⟨(Lib.trimPrefix s.data.toList [109, 97, 110, 46]).toArray⟩ : ByteArray) = ⟨(s.data.toList.drop 4).toArray⟩ := by
      unfold Lib.trimPrefix
      rw [d1, if_pos rfl]
      rfl
    have hsl : s.data.toList.length = s.size := Array.length_toList
    have hcat : (⟨#[115, 101, 103, 46]⟩ : ByteArray) ++ ⟨(s.data.toList.drop 4).toArray⟩ = asSeg s := app_bytes [115, 101, 103, 46] (s.data.toList.drop 4)
    have hsz : (⟨(s.data.toList.drop 4).toArray⟩ : ByteArray).size ≤ 1099511627000 := by
      show (s.data.toList.drop 4).toArray.size ≤ _
      rw [List.size_toArray, List.length_drop, hsl]
      omega
    have hsz2 : (asSeg s).size ≤ 1099511627776 := by
      show (segP ++ s.data.toList.drop 4).toArray.size ≤ _
      rw [List.size_toArray, List.length_append, List.length_drop, hsl]
      show 4 + _ ≤ _
      omega
    rw [d1] at HP1
    rw [e2] at HTR
    obtain ⟨T, hT⟩ : ∃ T : ByteArray, ⟨(s.data.toList.drop 4).toArray⟩ = T := ⟨_, rfl⟩
    rw [hT] at HTR hcat hsz
    obtain ⟨X, hX⟩ : ∃ X : ByteArray, asSeg s = X := ⟨_, rfl⟩
    have HNUM := Lib.hid (number_calls X w (by rw [← hX]; exact hsz2) ht he)
    have HPO : Hid (∀ W, Below w.heap.size w W → (0 < numB X → TellOut s w (.returned (.tuple #[.int .i64 2, .int .i64 (numB X : Int)])) W) ∧ (¬ 0 < numB X → TellOut s w (.returned (.tuple #[.int .i64 0, .int .i64 0])) W)) := Lib.hid (fun W hb => by
      unfold TellOut tellB
      rw [if_pos h1, hX]
      exact ⟨fun h => by rw [if_pos h]; exact ⟨rfl, hb⟩, fun h => by rw [if_neg h]; exact ⟨rfl, hb⟩⟩)
    rw [hX] at hcat
    have HCAT := Lib.hid hcat
    have hl1 : ¬ 9223372036854775807 < 4 + T.size := by omega
    obtain ⟨k, hk⟩ : ∃ k, numB X = k := ⟨_, rfl⟩
    unfold NumOut at HNUM
    rw [hk] at HNUM HPO
    obtain ⟨PST, hP⟩ : ∃ P, TellOut s w = P := ⟨_, rfl⟩
    rw [hP] at HPO ⊢
    clear hs ht he h1 d1 e2 hsl hsz2 hT hX hk hcat hP HP2
    go_enter Tryz.func87, Tryz.ntmps87
    go_wp2_with fail
    with_reducible refine HP1.out.mono ?_
    rintro e w1 ⟨rfl, rfl⟩
    go_wp2_with fail
    with_reducible refine HTR.out.mono ?_
    rintro e w1 ⟨rfl, rfl⟩
    go_wp2_with fail
    rw [HCAT.out]
    with_reducible refine HNUM.out.mono ?_
    rintro e w2 ⟨rfl, hb2⟩
    by_cases hk : 0 < k
    · rw [decide_eq_true hk]
      have HF := Lib.hid ((HPO.out w2 hb2).1 hk)
      clear hb2 HPO hk
      go_wp2
      exact HF.out
    · rw [decide_eq_false hk]
      have HF := Lib.hid ((HPO.out w2 hb2).2 hk)
      clear hb2 HPO hk
      go_wp2
      exact HF.out
  · have d1 : Lib.hasPrefix s.data.toList [109, 97, 110, 46] = false := by rw [pre_is]; exact decide_eq_false h1
    rw [d1] at HP1
    have HPO : Hid (∀ W, Below w.heap.size w W → (0 < numB s → TellOut s w (.returned (.tuple #[.int .i64 1, .int .i64 (numB s : Int)])) W) ∧ (¬ 0 < numB s → TellOut s w (.returned (.tuple #[.int .i64 0, .int .i64 0])) W)) := Lib.hid (fun W hb => by
      unfold TellOut tellB
      rw [if_neg h1]
      exact ⟨fun h => by rw [if_pos h]; exact ⟨rfl, hb⟩, fun h => by rw [if_neg h]; exact ⟨rfl, hb⟩⟩)
    have HNUM := Lib.hid (number_calls s w (by omega) ht he)
    unfold NumOut at HNUM
    by_cases h2 : s.data.toList.take 4 = segP
    · have d2 : Lib.hasPrefix s.data.toList [115, 101, 103, 46] = true := by rw [pre_is]; exact decide_eq_true h2
      rw [d2] at HP2
      obtain ⟨k, hk⟩ : ∃ k, numB s = k := ⟨_, rfl⟩
      rw [hk] at HNUM HPO
      obtain ⟨PST, hP⟩ : ∃ P, TellOut s w = P := ⟨_, rfl⟩
      rw [hP] at HPO ⊢
      clear hs ht he h1 d1 h2 d2 hk hP HTR
      go_enter Tryz.func87, Tryz.ntmps87
      go_wp2_with fail
      with_reducible refine HP1.out.mono ?_
      rintro e w1 ⟨rfl, rfl⟩
      go_wp2_with fail
      with_reducible refine HP2.out.mono ?_
      rintro e w1 ⟨rfl, rfl⟩
      go_wp2_with fail
      with_reducible refine HNUM.out.mono ?_
      rintro e w2 ⟨rfl, hb2⟩
      by_cases hk : 0 < k
      · rw [decide_eq_true hk]
        have HF := Lib.hid ((HPO.out w2 hb2).1 hk)
        clear hb2 HPO hk
        go_wp2
        exact HF.out
      · rw [decide_eq_false hk]
        have HF := Lib.hid ((HPO.out w2 hb2).2 hk)
        clear hb2 HPO hk
        go_wp2
        exact HF.out
    · have d2 : Lib.hasPrefix s.data.toList [115, 101, 103, 46] = false := by rw [pre_is]; exact decide_eq_false h2
      rw [d2] at HP2
      have HF := Lib.hid ((HPO.out w (Below.refl _ _)).2 (by rw [numB_seg h2]; decide))
      obtain ⟨PST, hP⟩ : ∃ P, TellOut s w = P := ⟨_, rfl⟩
      rw [hP] at HF ⊢
      clear hs ht he h1 d1 h2 d2 hP HTR HNUM HPO
      go_enter Tryz.func87, Tryz.ntmps87
      go_wp2_with fail
      with_reducible refine HP1.out.mono ?_
      rintro e w1 ⟨rfl, rfl⟩
      go_wp2_with fail
      with_reducible refine HP2.out.mono ?_
      rintro e w1 ⟨rfl, rfl⟩
      go_wp2
      exact HF.out

/-- A generation, and whether there is one. -/
def GenOut (s : ByteArray) (w : World) (e : Ending) (w' : World) : Prop := e = .returned (.tuple #[.int .i64 (genB s : Int), .bool (decide (0 < genB s))]) ∧ Below w.heap.size w w'
set_option maxRecDepth 100000 in
set_option maxHeartbeats 2000000 in
theorem generation_calls (s : ByteArray) (w : World) (hs : s.size ≤ 1099511627000) (ht : Tab w) (he : Errs w) : Calls Tryz.prog 42 #[.string s] w (GenOut s w) := by
  have HT := Lib.hid (tell_calls s w hs ht he)
  unfold TellOut at HT
  obtain ⟨g1, g2⟩ := tell_gen s
  obtain ⟨⟨x, y⟩, hq⟩ : ∃ q, tellB s = q := ⟨_, rfl⟩
  rw [hq] at HT g1 g2
  dsimp only at HT g1 g2
  clear hq hs ht he
  by_cases hx : x = 2
  · subst hx
    have hgy := g2 rfl
    unfold GenOut
    rw [← g1, ← hgy, decide_eq_true rfl]
    clear g1 g2 hgy
    go_enter Tryz.func42, Tryz.ntmps42
    go_wp2_with fail
    with_reducible refine HT.out.mono ?_
    rintro e w1 ⟨rfl, hb1⟩
    have HB := Lib.hid hb1
    clear hb1
    go_wp2
    go_ret2
    exact ⟨rfl, HB.out⟩
  · rw [decide_eq_false hx] at g1
    have hg0 : genB s = 0 := by have := of_decide_eq_false g1.symm; omega
    have hne : ((x : Int) != 2) = true := by simp; omega
    unfold GenOut
    rw [hg0]
    clear g1 g2 hg0
    go_enter Tryz.func42, Tryz.ntmps42
    go_wp2_with fail
    with_reducible refine HT.out.mono ?_
    rintro e w1 ⟨rfl, hb1⟩
    have HB := Lib.hid hb1
    clear hb1
    go_wp2
    go_ret2
    exact ⟨rfl, HB.out⟩

/-! ### May -/
theorem rise_drop {l : List Int} {i : Nat} {x b : Int} (hx : l[i]? = some x) : riseB b (l.drop i) = ((decide (b + 1 ≤ x) && decide (x ≤ 99999999)) && riseB x (l.drop (i + 1))) := by
  obtain ⟨h1, rfl⟩ := List.getElem?_eq_some_iff.1 hx
  rw [List.drop_eq_getElem_cons h1, riseB]

set_option maxRecDepth 100000 in
set_option maxHeartbeats 4000000 in
theorem mmay_calls {S : Nat → Prop} (g l : Int) (a : Option Addr) (segs : List Int) (n c : Nat) (w : World) (hr : IRow w S a segs) (hn : segs.length = n) (hm : n ≤ 1099511627776) :
    Calls Tryz.prog 74 #[.agg #[.int .i64 g, .int .i64 l, .slice a n c]] w (Leaves (.bool (mayM ⟨g, l, segs⟩)) w) := by
  obtain ⟨W1, hW1⟩ : ∃ W1, w.alloc (.cells #[.int .i64 g, .int .i64 l, .slice a n c] 25) = W1 := ⟨_, rfl⟩
  have hb1 : Below w.heap.size w W1 := by rw [← hW1]; exact (Below.refl _ _).alloc (Nat.le_refl _) _
  have HR := Lib.hid (hr.below hb1)
  have HB := Lib.hid hb1
  have c0 : W1.cell? ⟨w.heap.size, 0, none⟩ = some (.int .i64 g) := by rw [← hW1]; exact (World.cell?_alloc_mark w _ _ (0, 0) 0).trans rfl
  have c1 : W1.cell? ⟨w.heap.size, 1, none⟩ = some (.int .i64 l) := by rw [← hW1]; exact (World.cell?_alloc_mark w _ _ (0, 0) 1).trans rfl
  have c2 : W1.cell? ⟨w.heap.size, 2, none⟩ = some (.slice a n c) := by rw [← hW1]; exact (World.cell?_alloc_mark w _ _ (0, 0) 2).trans rfl
  have HW1 := Lib.hid hW1
  have HN := Lib.hid hn
  have hmM : mayM ⟨g, l, segs⟩ = (riseB 0 segs && (mayN g && ((decide (0 ≤ l) && decide (l ≤ 200)) && (decide ((1 : Int) ≤ (n : Int)) && decide ((n : Int) ≤ 64))))) := by
    unfold mayM
    rw [hn]
    congr 4
    · rw [decide_eq_decide]; omega
    · rw [decide_eq_decide]; omega
  obtain ⟨tail, htail⟩ : ∃ tail : Bool, (mayN g && ((decide (0 ≤ l) && decide (l ≤ 200)) && (decide ((1 : Int) ≤ (n : Int)) && decide ((n : Int) ≤ 64)))) = tail := ⟨_, rfl⟩
  have HTAIL : Hid (mayN g = (decide ((1 : Int) ≤ g) && decide (g ≤ 99999999)) ∧ _ = tail) := Lib.hid ⟨rfl, htail⟩
  rw [htail] at hmM
  rw [hmM]
  clear hr hb1 hW1 hn hmM htail
  go_enter Tryz.func74, Tryz.ntmps74
  go_wp2_with fail
  rw [HW1.out]
  go_wp2_with fail
  go_loopg [3, 9] n (fun gk bv idx wr => ∃ (i : Nat) (b : Int), idx = .int .i64 (i : Int) ∧ bv = .int .i64 b ∧ 0 ≤ b ∧ b ≤ 99999999 ∧ gk + i = n ∧ riseB 0 segs = riseB b (segs.drop i) ∧ wr = W1)
  case atStart => exact ⟨0, 0, rfl, rfl, by decide, by decide, rfl, rfl, rfl⟩
  case round =>
    obtain ⟨i, b, rfl, rfl, hb0, hb9, hg, hq, rfl⟩ := hrel
    have HG := Lib.hid hg
    have HE := Lib.hid hq
    clear hg hq
    by_cases hlt : i < n
    · obtain ⟨g', rfl⟩ : ∃ g', gk = g' + 1 := ⟨gk - 1, by have := HG.out; omega⟩
      have hdd : decide ((i : Int) < (n : Int)) = true := by simp; omega
      obtain ⟨x, hx⟩ : ∃ x, segs[i]? = some x := ⟨segs[i]'(by rw [HN.out]; exact hlt), List.getElem?_eq_getElem _⟩
      obtain ⟨ab, ao, rfl, _, hcx⟩ := irow_at HR.out hx
      have hst := rise_drop (b := b) hx
      have HST := Lib.hid (HE.out.trans hst)
      have HWI := Lib.hid (mwithin_calls x (b + 1) 99999999 wr)
      clear hst hx HE
      by_cases hok : (decide (b + 1 ≤ x) && decide (x ≤ 99999999)) = true
      · rw [hok] at HST HWI
        have hx0 : b + 1 ≤ x ∧ x ≤ 99999999 := by simpa using hok
        clear hok
        go_wp2_with fail
        with_reducible refine HWI.out.mono ?_
        rintro e w2 ⟨rfl, rfl⟩
        go_wp2
        go_roundg g'
        case measure => omega
        case rel => exact ⟨i + 1, x, by go_num, rfl, by omega, by omega, by have := HG.out; omega, HST.out, rfl⟩
      · have hok2 : (decide (b + 1 ≤ x) && decide (x ≤ 99999999)) = false := by simpa using hok
        rw [hok2] at HST HWI
        have HF : Hid ((riseB 0 segs && tail) = false) := Lib.hid (by rw [HST.out]; rfl)
        clear hok hok2 HST
        go_wp2_with fail
        with_reducible refine HWI.out.mono ?_
        rintro e w2 ⟨rfl, rfl⟩
        go_wp2
        go_ret
        exact ⟨by rw [HF.out]; rfl, HB.out⟩
    · have hdd : decide ((i : Int) < (n : Int)) = false := by simp; omega
      have HT : Hid ((riseB 0 segs && tail) = tail) := Lib.hid (by
        rw [HE.out, List.drop_eq_nil_of_le (by rw [HN.out]; omega), riseB, Bool.true_and])
      have HW1' := Lib.hid (mwithin_calls g 1 99999999 wr)
      have HW2' := Lib.hid (mwithin_calls l 0 200 wr)
      have HW3' := Lib.hid (mwithin_calls (n : Int) 1 64 wr)
      obtain ⟨x1, hx1⟩ : ∃ x : Bool, (decide ((1 : Int) ≤ g) && decide (g ≤ 99999999)) = x := ⟨_, rfl⟩
      obtain ⟨x2, hx2⟩ : ∃ x : Bool, (decide ((0 : Int) ≤ l) && decide (l ≤ 200)) = x := ⟨_, rfl⟩
      obtain ⟨x3, hx3⟩ : ∃ x : Bool, (decide ((1 : Int) ≤ (n : Int)) && decide ((n : Int) ≤ 64)) = x := ⟨_, rfl⟩
      have htl := HTAIL.out.2
      rw [HTAIL.out.1, hx1, hx2, hx3] at htl
      rw [hx1] at HW1'
      rw [hx2] at HW2'
      rw [hx3] at HW3'
      have HTL := Lib.hid htl
      clear htl hx1 hx2 hx3 HTAIL HE
      cases x1 with
      | false =>
        have HF : Hid (tail = false) := Lib.hid HTL.out.symm
        go_wp2_with fail
        with_reducible refine HW1'.out.mono ?_
        rintro e w2 ⟨rfl, rfl⟩
        go_wp2
        go_ret
        exact ⟨by rw [HT.out, HF.out]; rfl, HB.out⟩
      | true =>
        cases x2 with
        | false =>
          have HF : Hid (tail = false) := Lib.hid HTL.out.symm
          go_wp2_with fail
          with_reducible refine HW1'.out.mono ?_
          rintro e w2 ⟨rfl, rfl⟩
          go_wp2_with fail
          with_reducible refine HW2'.out.mono ?_
          rintro e w2 ⟨rfl, rfl⟩
          go_wp2
          go_ret
          exact ⟨by rw [HT.out, HF.out]; rfl, HB.out⟩
        | true =>
          have HF : Hid (tail = x3) := Lib.hid HTL.out.symm
          go_wp2_with fail
          with_reducible refine HW1'.out.mono ?_
          rintro e w2 ⟨rfl, rfl⟩
          go_wp2_with fail
          with_reducible refine HW2'.out.mono ?_
          rintro e w2 ⟨rfl, rfl⟩
          go_wp2_with fail
          with_reducible refine HW3'.out.mono ?_
          rintro e w2 ⟨rfl, rfl⟩
          go_wp2
          go_ret
          exact ⟨by rw [HT.out, HF.out]; rfl, HB.out⟩

end Go.Proofs.YtacfcfbleogioaaGreatDoor
