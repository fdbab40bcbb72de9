/-
  Whether a key's path may be, told by the program and by the reference. Conditions: the texts are no longer than 2 to the 30; the tables and the library's bound are laid.
-/
import Derived.Test.YtojpjhfafbdpcaaGreatDoorKY
namespace Go.Proofs.YtojpjhfafbdpcaaGreatDoor
open Go.RowKit Go.Lib Go.Joins

theorem rsplit_at (s : ByteArray) (c : UInt8) (z : Int) (hz : (c.toNat : Int) = z) (w : World) (hs : s.size ≤ 1073741824) : Calls Tryz.prog 28 #[.string s, .int .u8 z] w (TextsOut (pieces c s.data.toList) w) := by
  subst hz
  exact rsplit_calls s c w hs
/-- What is laid. -/
structure KEnv (w : World) : Prop where
  laid : Laid w
  mx : MaxLen w
theorem KEnv.below {w w' : World} (h : KEnv w) (hb : Below w.heap.size w w') : KEnv w' := ⟨h.laid.below hb, h.mx.below hb⟩
theorem strB_size (x : List UInt8) : (strB x).size = x.length := by
  unfold strB ByteArray.size
  simp
theorem strB_list (x : List UInt8) : (strB x).data.toList = x := rfl
theorem strB_back (s : ByteArray) : strB s.data.toList = s := by
  apply ByteArray.ext
  rfl
theorem name_calls (x : List UInt8) (w : World) (hs : x.length ≤ 1073741824) (hL : Laid w) : Calls Tryz.prog 61 #[.string (strB x)] w (Leaves (.bool (nameW x)) w) := by
  have h := uname_calls (strB x) w (by rw [strB_size]; exact hs) hL
  rw [strB_list, nameP_eq] at h
  exact h
theorem rname_calls (x : List UInt8) (w : World) (hs : x.length ≤ 1073741824) : Calls Tryz.prog 64 #[.string (strB x)] w (Leaves (.bool (nameW x)) w) := by
  have h := refName_calls (strB x) w (by rw [strB_size]; exact hs)
  rw [strB_list, strB_size, nameR_eq] at h
  exact h
theorem strip_eq (x : List UInt8) : Lib.trimPrefix x [64] = stripAt x := by
  unfold Lib.trimPrefix stripAt Lib.hasPrefix
  cases x with
  | nil => rfl
  | cons b t =>
    by_cases h : b = 64
    · subst h
      rfl
    · rw [if_neg (by simp [List.isPrefixOf]; exact fun e => h e.symm), if_neg (by simp; exact h)]
theorem strip_len (x : List UInt8) : (stripAt x).length ≤ x.length := by
  unfold stripAt
  split
  · rw [List.length_tail]; omega
  · exact Nat.le_refl _
/-- Is a part of a key's path right, where it stands? -/
def partB (n i : Nat) (x : List UInt8) : Bool := if i + 1 = n then nameW (stripAt x) else nameW x
theorem keyGo_step {ps : List (List UInt8)} {i : Nat} {x : List UInt8} (hx : ps[i]? = some x) : keyGo (ps.drop i) = (partB ps.length i x && keyGo (ps.drop (i + 1))) := by
  obtain ⟨hlt, rfl⟩ := List.getElem?_eq_some_iff.1 hx
  rw [List.drop_eq_getElem_cons hlt]
  unfold partB
  by_cases h : i + 1 = ps.length
  · rw [if_pos h, List.drop_eq_nil_of_le (by omega), keyGo, keyGo, Bool.and_true]
  · rw [if_neg h, List.drop_eq_getElem_cons (by omega), keyGo]

set_option maxRecDepth 100000 in
set_option maxHeartbeats 4000000 in
theorem named_calls {W : World} {S : Nat → Prop} {b1 b2 n c i : Nat} {a : Option Addr} {ps : List (List UInt8)} {x : List UInt8} (hk1 : W.heap[b1]? = some (.cells #[.int .i64 ((n : Int) - 1)] 3 (0, 0))) (hk2 : W.heap[b2]? = some (.cells #[.slice a n c] 36 (0, 0)))
    (hp : StrIn W S (.slice a n c) ps) (hx : ps[i]? = some x) (hs : x.length ≤ 1073741824) (hL : Laid W) : Calls Tryz.prog 81 #[.int .i64 (i : Int), .pointer (some ⟨b1, 0, none⟩), .pointer (some ⟨b2, 0, none⟩)] W (Leaves (.bool (partB n i x)) W) := by
  have c1 : W.cell? ⟨b1, 0, none⟩ = some (.int .i64 ((n : Int) - 1)) := (cell_of_block hk1 0).trans rfl
  have c2 : W.cell? ⟨b2, 0, none⟩ = some (.slice a n c) := (cell_of_block hk2 0).trans rfl
  have hn : ps.length = n := by
    obtain ⟨a', c', h1, _⟩ := hp.form
    injection h1 with _ h1 _
    exact h1.symm
  have hlt : i < n := by rw [← hn]; exact (List.getElem?_eq_some_iff.1 hx).1
  obtain ⟨b, o, rfl, c3⟩ := hp.at hx
  have hii : (i : Int) < (n : Int) := by omega
  have hi0 : (0 : Int) ≤ (i : Int) := by omega
  unfold partB
  by_cases he : i + 1 = n
  · have he2 : ((i : Int) == (n : Int) - 1) = true := by rw [beq_iff_eq]; omega
    have HT := Lib.hid (Tryz.strings_TrimPrefix (strB x) ⟨#[64]⟩ W)
    rw [if_pos he]
    have hte : (⟨(Lib.trimPrefix (strB x).data.toList (⟨#[64]⟩ : ByteArray).data.toList).toArray⟩ : ByteArray) = strB (stripAt x) := congrArg strB (strip_eq x)
    rw [hte] at HT
    have HN := Lib.hid (name_calls (stripAt x) W (by have := strip_len x; omega) hL)
    obtain ⟨q, hq⟩ : ∃ q, nameW (stripAt x) = q := ⟨_, rfl⟩
    obtain ⟨y, hy⟩ : ∃ y, strB (stripAt x) = y := ⟨_, rfl⟩
    obtain ⟨z, hz⟩ : ∃ z, strB x = z := ⟨_, rfl⟩
    rw [hq] at HN ⊢
    rw [hy] at HN HT
    rw [hz] at HT c3
    clear hk1 hk2 hp hx hs hL hn hte hq hy hz hlt he
    go_enter Tryz.func81, Tryz.ntmps81
    go_wp2_with fail
    with_reducible refine HT.out.mono ?_
    rintro e w2 ⟨rfl, rfl⟩
    go_wp2_with fail
    with_reducible refine HN.out.mono ?_
    rintro e w3 ⟨rfl, hb3⟩
    have HB := Lib.hid hb3
    clear hb3
    go_wp2
    go_ret
    exact ⟨rfl, HB.out⟩
  · have he2 : ((i : Int) == (n : Int) - 1) = false := by rw [beq_eq_false_iff_ne]; omega
    rw [if_neg he]
    have HN := Lib.hid (name_calls x W hs hL)
    obtain ⟨q, hq⟩ : ∃ q, nameW x = q := ⟨_, rfl⟩
    obtain ⟨z, hz⟩ : ∃ z, strB x = z := ⟨_, rfl⟩
    rw [hq] at HN ⊢
    rw [hz] at HN c3
    clear hk1 hk2 hp hx hs hL hn hq hz hlt he
    go_enter Tryz.func81, Tryz.ntmps81
    go_wp2_with fail
    with_reducible refine HN.out.mono ?_
    rintro e w3 ⟨rfl, hb3⟩
    have HB := Lib.hid hb3
    clear hb3
    go_wp2
    go_ret
    exact ⟨rfl, HB.out⟩

theorem dot_eq (k : List UInt8) : ((strB k).toList == [46]) = (k == [46]) := by
  rw [ByteArray.toList_eq]
  rfl
set_option maxRecDepth 100000 in
set_option maxHeartbeats 4000000 in
theorem iskey_calls (k : List UInt8) (w : World) (hs : k.length ≤ 1073741823) (hE : KEnv w) : Calls Tryz.prog 60 #[.string (strB k)] w (Leaves (.bool (keyW k)) w) := by
  have hdot := dot_eq k
  unfold keyW
  by_cases hd : (k == [46]) = true
  · rw [hd] at hdot ⊢
    rw [Bool.true_or]
    obtain ⟨s, hsk⟩ : ∃ s, strB k = s := ⟨_, rfl⟩
    rw [hsk] at hdot ⊢
    have hdp : s.toList = [46] := beq_iff_eq.1 hdot
    clear hs hE hd hsk
    go_enter Tryz.func60, Tryz.ntmps60
    go_wp2
    go_ret
    exact ⟨rfl, Below.refl _ _⟩
  · rw [Bool.not_eq_true] at hd
    rw [hd] at hdot ⊢
    rw [Bool.false_or]
    have HSP := Lib.hid (split_calls k 47 w (by omega) hE.mx)
    have HPF := Lib.hid (pieces_few 47 k)
    have HPS := Lib.hid (fun (p : List UInt8) (h : p ∈ pieces 47 k) => pieces_short h)
    obtain ⟨ps, hps⟩ : ∃ ps, pieces 47 k = ps := ⟨_, rfl⟩
    rw [hps] at HSP HPF HPS ⊢
    obtain ⟨n, hn⟩ : ∃ n, ps.length = n := ⟨_, rfl⟩
    obtain ⟨w1, hw1⟩ : ∃ w1, w.alloc (.cells (strV ps).toArray 9) = w1 := ⟨_, rfl⟩
    have hb1 : Below w.heap.size w w1 := by rw [← hw1]; exact (Below.refl _ _).alloc (Nat.le_refl _) _
    have hp1 := StrIn.made w ps (by have := HPF.out; omega)
    rw [hw1] at hp1
    rw [hn] at hp1
    obtain ⟨w2, hw2⟩ : ∃ w2, w1.alloc (.cells #[.slice (some ⟨w.heap.size, 0, none⟩) n n] 36) = w2 := ⟨_, rfl⟩
    have hb2 : Below w1.heap.size w1 w2 := by rw [← hw2]; exact (Below.refl _ _).alloc (Nat.le_refl _) _
    have hk2 : w2.heap[w1.heap.size]? = some (.cells #[.slice (some ⟨w.heap.size, 0, none⟩) n n] 36 (0, 0)) := by rw [← hw2]; exact heap_alloc_new _ _
    obtain ⟨w3, hw3⟩ : ∃ w3, w2.alloc (.cells #[.int .i64 ((n : Int) - 1)] 3) = w3 := ⟨_, rfl⟩
    have hb3 : Below w2.heap.size w2 w3 := by rw [← hw3]; exact (Below.refl _ _).alloc (Nat.le_refl _) _
    have hk3 : w3.heap[w2.heap.size]? = some (.cells #[.int .i64 ((n : Int) - 1)] 3 (0, 0)) := by rw [← hw3]; exact heap_alloc_new _ _
    have hk23 := block_below hb3 hk2
    have HP3 := Lib.hid ((hp1.below hb2).below hb3)
    have HB3 := Lib.hid (below_then (below_then hb1 hb2) hb3)
    have hz2 : w2.heap.size = w1.heap.size + 1 := by rw [← hw2]; simp
    rw [hz2] at hk3
    have HK3 := Lib.hid hk3
    have HK2 := Lib.hid hk23
    have HW1 := Lib.hid hw1
    have HW2 := Lib.hid hw2
    have HW3 := Lib.hid hw3
    have HN := Lib.hid hn
    have HE := Lib.hid hE
    have hnb : n ≤ 1073741824 := by have := HPF.out; omega
    have HS := Lib.hid hs
    obtain ⟨s, hsk⟩ : ∃ s, strB k = s := ⟨_, rfl⟩
    rw [hsk] at HSP hdot ⊢
    have hdp : ¬ s.toList = [46] := fun e => by rw [e] at hdot; cases hdot
    obtain ⟨Q, hQ⟩ : ∃ Q, keyGo ps = Q := ⟨_, rfl⟩
    rw [hQ]
    have HQ : Hid (Q = keyGo (ps.drop 0)) := Lib.hid (by rw [List.drop_zero]; exact hQ.symm)
    have HSL : Hid (s.size = k.length) := Lib.hid (by rw [← hsk]; exact strB_size k)
    rw [HN.out] at HSP
    clear hs hE hd hps hn hw1 hb1 hp1 hw2 hb2 hk2 hw3 hb3 hk3 hk23 hQ hsk hz2
    go_enter Tryz.func60, Tryz.ntmps60
    go_wp2_with fail
    with_reducible refine HSP.out.mono ?_
    rintro e wa ⟨rfl, rfl⟩
    rw [HW1.out]
    go_wp2_with fail
    rw [HW2.out, HW3.out]
    go_loopg [17] n (fun gk i wr => ∃ j : Nat, i = .int .i64 (j : Int) ∧ gk + j = n ∧ Q = keyGo (ps.drop j) ∧ Below w3.heap.size w3 wr)
    case atStart => exact ⟨0, rfl, rfl, HQ.out, Below.refl _ _⟩
    case round =>
      obtain ⟨j, rfl, hg, hq, hb⟩ := hrel
      have HG := Lib.hid hg
      have HQ2 := Lib.hid hq
      have HB := Lib.hid hb
      clear hg hq hb HQ
      by_cases hlt : j < n
      · obtain ⟨g', rfl⟩ : ∃ g', gk = g' + 1 := ⟨gk - 1, by have := HG.out; omega⟩
        have hdd : decide ((j : Int) < (n : Int)) = true := by simp; omega
        obtain ⟨x, hx⟩ : ∃ x, ps[j]? = some x := ⟨ps[j]'(by rw [HN.out]; exact hlt), List.getElem?_eq_getElem _⟩
        have HC := Lib.hid (named_calls (block_below HB.out HK3.out) (block_below HB.out HK2.out) (HP3.out.below HB.out) hx (by have := HPS.out x (List.mem_of_getElem? hx); have := HS.out; omega) (HE.out.laid.below (below_then HB3.out HB.out)))
        have hst := keyGo_step hx
        rw [HN.out] at hst
        obtain ⟨q, hq⟩ : ∃ q, partB n j x = q := ⟨_, rfl⟩
        rw [hq] at HC hst
        have HQ3 : Hid (Q = (q && keyGo (ps.drop (j + 1)))) := Lib.hid (HQ2.out.trans hst)
        clear hx hst hq
        go_wp2_with fail
        with_reducible refine HC.out.mono ?_
        rintro e w4 ⟨rfl, hb4⟩
        have HB4 := Lib.hid (below_then HB.out hb4)
        clear hb4 HC
        cases q with
        | true =>
          go_wp2
          go_roundg g'
          case measure => omega
          case rel => exact ⟨j + 1, by go_num, by have := HG.out; omega, by rw [HQ3.out, Bool.true_and], HB4.out⟩
        | false =>
          have HF : Hid (Q = false) := Lib.hid (by rw [HQ3.out, Bool.false_and])
          go_wp2
          go_ret
          exact ⟨by rw [HF.out]; rfl, below_then HB3.out HB4.out⟩
      · have hdd : decide ((j : Int) < (n : Int)) = false := by simp; omega
        have HF : Hid (Q = true) := Lib.hid (by rw [HQ2.out, List.drop_eq_nil_of_le (by have := HN.out; omega), keyGo])
        go_wp2
        go_ret
        exact ⟨by rw [HF.out]; rfl, below_then HB3.out HB.out⟩

set_option maxRecDepth 100000 in
set_option maxHeartbeats 4000000 in
theorem rkey_calls (k : List UInt8) (w : World) (hs : k.length ≤ 1073741823) : Calls Tryz.prog 65 #[.string (strB k)] w (Leaves (.bool (keyW k)) w) := by
  have hdot := dot_eq k
  unfold keyW
  by_cases hd : (k == [46]) = true
  · rw [hd] at hdot ⊢
    rw [Bool.true_or]
    obtain ⟨s, hsk⟩ : ∃ s, strB k = s := ⟨_, rfl⟩
    rw [hsk] at hdot ⊢
    have hdp : s.toList = [46] := beq_iff_eq.1 hdot
    clear hs hd hsk
    go_enter Tryz.func65, Tryz.ntmps65
    go_wp2
    go_ret
    exact ⟨rfl, Below.refl _ _⟩
  · rw [Bool.not_eq_true] at hd
    rw [hd] at hdot ⊢
    rw [Bool.false_or]
    have HSP := Lib.hid (rsplit_at (strB k) 47 47 rfl w (by rw [strB_size]; omega))
    rw [strB_list] at HSP
    have HPF := Lib.hid (pieces_few 47 k)
    have HPS := Lib.hid (fun (p : List UInt8) (h : p ∈ pieces 47 k) => pieces_short h)
    obtain ⟨ps, hps⟩ : ∃ ps, pieces 47 k = ps := ⟨_, rfl⟩
    rw [hps] at HSP HPF HPS ⊢
    obtain ⟨n, hn⟩ : ∃ n, ps.length = n := ⟨_, rfl⟩
    have HN := Lib.hid hn
    have hnb : n ≤ 1073741824 := by have := HPF.out; omega
    have HS := Lib.hid hs
    obtain ⟨s, hsk⟩ : ∃ s, strB k = s := ⟨_, rfl⟩
    rw [hsk] at HSP hdot ⊢
    have hdp : ¬ s.toList = [46] := fun e => by rw [e] at hdot; cases hdot
    obtain ⟨Q, hQ⟩ : ∃ Q, keyGo ps = Q := ⟨_, rfl⟩
    rw [hQ]
    have HQ : Hid (Q = keyGo (ps.drop 0)) := Lib.hid (by rw [List.drop_zero]; exact hQ.symm)
    clear hs hd hps hn hQ hsk
    go_enter Tryz.func65, Tryz.ntmps65
    go_wp2_with fail
    with_reducible refine HSP.out.mono ?_
    rintro e w1 ⟨v, rfl, hown, hb1⟩
    obtain ⟨a, c, rfl, hlc, hcm, _⟩ := hown.in.form
    have HO := Lib.hid hown.in
    rw [HN.out] at HO hlc
    rw [HN.out]
    have HB1 := Lib.hid hb1
    clear hown hb1 HSP hlc hcm
    go_wp2_with fail
    go_loopg [4] n (fun gk i wr => ∃ j : Nat, i = .int .i64 (j : Int) ∧ gk + j = n ∧ Q = keyGo (ps.drop j) ∧ Below w1.heap.size w1 wr)
    case atStart => exact ⟨0, rfl, rfl, HQ.out, Below.refl _ _⟩
    case round =>
      obtain ⟨j, rfl, hg, hq, hb⟩ := hrel
      have HG := Lib.hid hg
      have HQ2 := Lib.hid hq
      have HB := Lib.hid hb
      clear hg hq hb HQ
      by_cases hlt : j < n
      · obtain ⟨g', rfl⟩ : ∃ g', gk = g' + 1 := ⟨gk - 1, by have := HG.out; omega⟩
        have hdd : decide ((j : Int) < (n : Int)) = true := by simp; omega
        have hji : (j : Int) < (n : Int) := by omega
        obtain ⟨x, hx⟩ : ∃ x, ps[j]? = some x := ⟨ps[j]'(by rw [HN.out]; exact hlt), List.getElem?_eq_getElem _⟩
        obtain ⟨b, o, rfl, c3⟩ := (HO.out.below HB.out).at hx
        have hxl : x.length ≤ 1073741824 := by have := HPS.out x (List.mem_of_getElem? hx); have := HS.out; omega
        have HNM := Lib.hid (fun (W : World) => rname_calls x W hxl)
        have HNS := Lib.hid (fun (W : World) => rname_calls (stripAt x) W (by have := strip_len x; omega))
        have hst := keyGo_step hx
        rw [HN.out] at hst
        unfold partB at hst
        have HQ3 : Hid (Q = ((if j + 1 = n then nameW (stripAt x) else nameW x) && keyGo (ps.drop (j + 1)))) := Lib.hid (HQ2.out.trans hst)
        clear hst
        have hfin : ∀ q : Bool, Hid (q = (if j + 1 = n then nameW (stripAt x) else nameW x)) → Hid ((q = true → Q = keyGo (ps.drop (j + 1))) ∧ (q = false → Q = false)) := fun q hq => Lib.hid (by
          have h1 := HQ3.out
          rw [← hq.out] at h1
          exact ⟨fun e => by rw [h1, e, Bool.true_and], fun e => by rw [h1, e, Bool.false_and]⟩)
        have HFIN := Lib.hid hfin
        clear hx hfin hxl
        cases x with
        | nil =>
          have hstr : stripAt ([] : List UInt8) = [] := rfl
          obtain ⟨q, hq⟩ : ∃ q, nameW [] = q := ⟨_, rfl⟩
          have HF2 := Lib.hid (HFIN.out q (Lib.hid (by rw [hstr, hq]; split <;> rfl))).out
          rw [hq] at HNM
          have hz : strB [] = ⟨#[]⟩ := rfl
          rw [hz] at HNM c3
          clear hstr hq hz HFIN HNS
          by_cases he : j + 1 = n
          · have he2 : ((j : Int) == (n : Int) - 1) = true := by rw [beq_iff_eq]; omega
            have HE := Lib.hid he
            clear he
            go_wp2_with fail
            with_reducible refine (HNM.out wr).mono ?_
            rintro e w4 ⟨rfl, hb4⟩
            have HB4 := Lib.hid (below_then HB.out hb4)
            clear hb4 HNM
            cases q with
            | true =>
              have HI := Lib.hid (HF2.out.1 rfl)
              clear HF2
              go_wp2
              go_roundg g'
              case measure => omega
              case rel => exact ⟨j + 1, by go_num, by have := HG.out; omega, HI.out, HB4.out⟩
            | false =>
              have HI := Lib.hid (HF2.out.2 rfl)
              clear HF2
              go_wp2
              go_ret
              exact ⟨by rw [HI.out]; rfl, below_then HB1.out HB4.out⟩
          · have he2 : ((j : Int) == (n : Int) - 1) = false := by rw [beq_eq_false_iff_ne]; omega
            clear he
            go_wp2_with fail
            with_reducible refine (HNM.out wr).mono ?_
            rintro e w4 ⟨rfl, hb4⟩
            have HB4 := Lib.hid (below_then HB.out hb4)
            clear hb4 HNM
            cases q with
            | true =>
              have HI := Lib.hid (HF2.out.1 rfl)
              clear HF2
              go_wp2
              go_roundg g'
              case measure => omega
              case rel => exact ⟨j + 1, by go_num, by have := HG.out; omega, HI.out, HB4.out⟩
            | false =>
              have HI := Lib.hid (HF2.out.2 rfl)
              clear HF2
              go_wp2
              go_ret
              exact ⟨by rw [HI.out]; rfl, below_then HB1.out HB4.out⟩
        | cons y u =>
          obtain ⟨z, hz⟩ : ∃ z, strB (y :: u) = z := ⟨_, rfl⟩
          have hzs : z.size = u.length + 1 := by rw [← hz, strB_size]; rfl
          have hz0 : (0 : Int) < (z.size : Int) := by omega
          have hz00 : 0 < z.size := by omega
          have hzi : z[0]'hz00 = y := by subst hz; rfl
          have hzn : ¬ z.toList = [] := by
            rw [← hz, ByteArray.toList_eq]
            exact List.cons_ne_nil _ _
          have hzn2 : (z.toList == []) = false := beq_eq_false_iff_ne.2 hzn
          have hzn3 : (z.toList != []) = true := by rw [bne, hzn2]; rfl
          have hzn4 : z.toList.isEmpty = false := by cases h : z.toList with | nil => exact absurd h hzn | cons => rfl
          have ly := y.toNat_lt
          rw [hz] at HNM c3
          by_cases he : j + 1 = n
          · have he2 : ((j : Int) == (n : Int) - 1) = true := by rw [beq_iff_eq]; omega
            by_cases hy : y = 64
            · have hyb : ((y.toNat : Int) == 64) = true := by rw [hy]; rfl
              have hstr : stripAt (y :: u) = u := by rw [hy]; rfl
              obtain ⟨q, hq⟩ : ∃ q, nameW u = q := ⟨_, rfl⟩
              have HF2 := Lib.hid (HFIN.out q (Lib.hid (by rw [if_pos he, hstr, hq]))).out
              rw [hstr, hq] at HNS
              have hex : z.extract 1 z.size = strB u := by
                rw [extract_strB, ← hz]
                congr 1
                show (u.take _) = u
                rw [List.take_of_length_le]
                rw [strB_size, List.length_cons]
                omega
              rw [← hex] at HNS
              have h1z : (1 : Int) ≤ (z.size : Int) := by omega
              have h1n : 1 ≤ z.size := by omega
              clear hz hzs hstr hq hy HFIN HNM hex he
              go_wp2_with fail
              with_reducible refine (HNS.out wr).mono ?_
              rintro e w4 ⟨rfl, hb4⟩
              have HB4 := Lib.hid (below_then HB.out hb4)
              clear hb4 HNS
              cases q with
              | true =>
                have HI := Lib.hid (HF2.out.1 rfl)
                clear HF2
                go_wp2
                go_roundg g'
                case measure => omega
                case rel => exact ⟨j + 1, by go_num, by have := HG.out; omega, HI.out, HB4.out⟩
              | false =>
                have HI := Lib.hid (HF2.out.2 rfl)
                clear HF2
                go_wp2
                go_ret
                exact ⟨by rw [HI.out]; rfl, below_then HB1.out HB4.out⟩
            · have hyb : ((y.toNat : Int) == 64) = false := by
                rw [beq_eq_false_iff_ne]
                intro e
                exact hy (UInt8.toNat_inj.1 (show y.toNat = 64 by omega))
              have hstr : stripAt (y :: u) = y :: u := by unfold stripAt; rw [if_neg (by simpa using hy)]
              obtain ⟨q, hq⟩ : ∃ q, nameW (y :: u) = q := ⟨_, rfl⟩
              have HF2 := Lib.hid (HFIN.out q (Lib.hid (by rw [if_pos he, hstr, hq]))).out
              rw [hq] at HNM
              clear hz hzs hstr hq hy HFIN HNS he
              go_wp2_with fail
              with_reducible refine (HNM.out wr).mono ?_
              rintro e w4 ⟨rfl, hb4⟩
              have HB4 := Lib.hid (below_then HB.out hb4)
              clear hb4 HNM
              cases q with
              | true =>
                have HI := Lib.hid (HF2.out.1 rfl)
                clear HF2
                go_wp2
                go_roundg g'
                case measure => omega
                case rel => exact ⟨j + 1, by go_num, by have := HG.out; omega, HI.out, HB4.out⟩
              | false =>
                have HI := Lib.hid (HF2.out.2 rfl)
                clear HF2
                go_wp2
                go_ret
                exact ⟨by rw [HI.out]; rfl, below_then HB1.out HB4.out⟩
          · have he2 : ((j : Int) == (n : Int) - 1) = false := by rw [beq_eq_false_iff_ne]; omega
            obtain ⟨q, hq⟩ : ∃ q, nameW (y :: u) = q := ⟨_, rfl⟩
            have HF2 := Lib.hid (HFIN.out q (Lib.hid (by rw [if_neg he, hq]))).out
            rw [hq] at HNM
            clear hz hzs hq HFIN HNS he
            go_wp2_with fail
            with_reducible refine (HNM.out wr).mono ?_
            rintro e w4 ⟨rfl, hb4⟩
            have HB4 := Lib.hid (below_then HB.out hb4)
            clear hb4 HNM
            cases q with
            | true =>
              have HI := Lib.hid (HF2.out.1 rfl)
              clear HF2
              go_wp2
              go_roundg g'
              case measure => omega
              case rel => exact ⟨j + 1, by go_num, by have := HG.out; omega, HI.out, HB4.out⟩
            | false =>
              have HI := Lib.hid (HF2.out.2 rfl)
              clear HF2
              go_wp2
              go_ret
              exact ⟨by rw [HI.out]; rfl, below_then HB1.out HB4.out⟩
      · have hdd : decide ((j : Int) < (n : Int)) = false := by simp; omega
        have HF : Hid (Q = true) := Lib.hid (by rw [HQ2.out, List.drop_eq_nil_of_le (by have := HN.out; omega), keyGo])
        go_wp2
        go_ret
        exact ⟨by rw [HF.out]; rfl, below_then HB1.out HB.out⟩

end Go.Proofs.YtojpjhfafbdpcaaGreatDoor
