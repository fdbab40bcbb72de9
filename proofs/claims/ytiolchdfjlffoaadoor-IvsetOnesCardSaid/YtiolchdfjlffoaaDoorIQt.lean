/-
  The reference's Itoa of a number above 0, and its Text. Condition: the slice leads to what it is said to.
-/
import Derived.Test.YtiolchdfjlffoaaDoorIX
import Derived.Lib.ItoaLen
import Derived.Laws.BytesArg
namespace Go.Proofs.YtiolchdfjlffoaaDoor
open Go.RowKit Go.Lib Go.Joins

/-- The digits of m; none for 0. -/
def digs (m : Nat) : List UInt8 := if m = 0 then [] else Lib.decDigits m
theorem digs_zero : digs 0 = [] := rfl
theorem digs_pos (m : Nat) (h : m ≠ 0) : digs m = digs (m / 10) ++ [UInt8.ofNat (48 + m % 10)] := by
  unfold digs
  rw [if_neg h, Lib.decDigits]
  by_cases h10 : m < 10
  · rw [dif_pos h10, if_pos (by omega), Nat.mod_eq_of_lt h10]; rfl
  · rw [dif_neg h10, if_neg (by omega)]
theorem digs_whole (m : Nat) (h : m ≠ 0) : digs m = Lib.decDigits m := by unfold digs; rw [if_neg h]

theorem conv_one (x : Int) (w : World) : (convert 75 9 (.slice (some ⟨w.heap.size, 0, none⟩) 1 1)).run Tryd.prog (w.alloc (.cells #[.int .u8 x] 5)) = .ok (.string (strOfNums [x])) (w.alloc (.cells #[.int .u8 x] 5)) :=
  run_convert_bytes_arg _ 75 5 Tryd.underlying75 Tryd.underlying5 w.heap.size 0 1 1 [x] rfl (by
    intro i hi
    obtain rfl : i = 0 := by omega
    simp) 9 Tryd.underlying9

theorem app_bytes' (x y : List UInt8) : (⟨x.toArray⟩ : ByteArray) ++ ⟨y.toArray⟩ = ⟨(x ++ y).toArray⟩ := by
  apply ByteArray.ext
  simp [ByteArray.data_append]

theorem digit_push (m : Nat) (h : m ≠ 0) (o : ByteArray) (n : Nat) (d : Int) (hm : d = ((m % 10 : Nat) : Int)) (hd : digs m ++ o.data.toList = digs n) : digs (m / 10) ++ (strOfNums [48 + d] ++ o).data.toList = digs n := by
  have e : (48 + d).toNat = 48 + m % 10 := by omega
  rw [← hd, digs_pos m h, ByteArray.data_append, Array.toList_append, strOfNums_data, List.map_cons, List.map_nil, e, List.append_assoc]

theorem digs_length_le (n : Nat) (h : n ≤ 9223372036854775808) : (digs n).length ≤ 21 := by
  by_cases h0 : n = 0
  · subst h0; simp [digs]
  · rw [digs_whole n h0]
    have := Lib.itoa_length_le (-(n : Int)) (by omega) (by omega)
    unfold Lib.itoa at this
    rw [if_pos (by omega)] at this
    simp at this
    omega

set_option maxRecDepth 100000 in
set_option maxHeartbeats 2000000 in
theorem ref_itoa_pos (n : Nat) (hn : n ≠ 0) (h63 : n ≤ 9223372036854775807) (w : World) : Calls Tryd.prog 48 #[.int .i64 (n : Int)] w (Leaves (.string ⟨(Lib.decDigits n).toArray⟩) w) := by
  have h0 : ((n : Int) == 0) = false := beq_eq_false_iff_ne.2 (by omega)
  have hneg : decide ((n : Int) < 0) = false := by simp
  have HN := Lib.hid hn
  clear hn
  go_enter Tryd.func48, Tryd.ntmps48
  go_wp2
  go_loopg [3, 4] n (fun g o v wr => ∃ (m : Nat) (out : ByteArray), g = m ∧ m ≤ n ∧ o = .string out ∧ v = .int .i64 (m : Int) ∧ digs m ++ out.data.toList = digs n ∧ Below w.heap.size w wr)
  case atStart => exact ⟨n, ⟨#[]⟩, rfl, Nat.le_refl _, rfl, rfl, by simp, Below.refl _ _⟩
  case round =>
    obtain ⟨m, out, hg, hm, rfl, rfl, hd, hb⟩ := hrel
    have hos : out.size ≤ 21 := by
      have h1 := digs_length_le n (by omega)
      rw [← hd, List.length_append] at h1
      have h2 : out.data.toList.length = out.size := Array.length_toList
      omega
    have HG := Lib.hid hg
    have HD := Lib.hid hd
    have HB := Lib.hid hb
    clear hg hd hb
    by_cases hm0 : m = 0
    · subst hm0
      go_wp2
      go_ret
      have h1 := HD.out
      rw [digs_zero, List.nil_append, digs_whole n HN.out] at h1
      exact ⟨by rw [← h1]; rfl, HB.out⟩
    · have hmb : ((m : Int) == 0) = false := beq_eq_false_iff_ne.2 (by omega)
      have hmc : ((m : Int) != 0) = true := by simp [hm0]
      have HM := Lib.hid hm0
      have n1 : ¬ 9223372036854775807 < 1 + out.size := by omega
      have hcv := conv_one (48 + (m : Int) % 10) wr
      have hdp := digit_push m hm0 out n ((m : Int) % 10) (by omega) HD.out
      have HDP := Lib.hid hdp
      have ht : decide ((m : Int) % 10 < 0) = false := by simp; omega
      clear hm0 hdp
      go_wp2
      go_roundg (m / 10)
      case measure => rw [HG.out]; have := HM.out; omega
      case rel => exact ⟨m / 10, _, rfl, by omega, rfl, by go_num, HDP.out, HB.out.alloc HB.out.size _⟩


theorem ritoa_calls {n : Int} (h1 : 1 ≤ n) (h2 : n ≤ 200) (w : World) : Calls Tryd.prog 48 #[.int .i64 n] w (Leaves (.string (strB (Lib.itoa n))) w) := by
  have h := ref_itoa_pos n.toNat (by omega) (by omega) w
  rw [show ((n.toNat : Nat) : Int) = n by omega] at h
  have e : Lib.itoa n = Lib.decDigits n.toNat := by unfold Lib.itoa; rw [if_neg (by omega)]
  rw [e]
  exact h
theorem joinT_app : ∀ l m : List Sp, joinT (l ++ m) = joinT l ++ joinT m
  | [], _ => rfl
  | x :: l, m => by rw [List.cons_append, joinT, joinT, joinT_app l m, List.cons_append, List.append_assoc]
theorem bodyT_snoc {l : List Sp} (h : l ≠ []) (x : Sp) : bodyT (l ++ [x]) = bodyT l ++ 44 :: spanT x := by
  cases l with
  | nil => exact absurd rfl h
  | cons y l => rw [List.cons_append, bodyT, bodyT, joinT_app, joinT, joinT, List.append_nil, List.append_assoc]
theorem mayF_take {l : List Sp} : ∀ {a : Int} (i : Nat), mayF a l = true → mayF a (l.take i) = true := by
  induction l with
  | nil => intro a i _; rw [List.take_nil]; rfl
  | cons x l ih =>
    intro a i h
    cases i with
    | zero => rfl
    | succ i =>
      obtain ⟨h1, h2, h3, h4⟩ := mayF_cons.1 h
      rw [List.take_succ_cons]
      exact mayF_cons.2 ⟨h1, h2, h3, ih i h4⟩

set_option maxRecDepth 100000 in
set_option maxHeartbeats 8000000 in
theorem rtext_calls {w : World} {v : Value} {l : List Sp} (h : SpIn w v l) : Calls Tryd.prog 32 #[v] w (Leaves (.string (strB (textS l))) w) := by
  have HMC := Lib.hid (fun (W : World) (hb : Below w.heap.size w W) => rmay_calls (h.below hb))
  obtain ⟨a, c, rfl, hc, hm, hn⟩ := h.form
  obtain ⟨n, hl⟩ : ∃ n, l.length = n := ⟨_, rfl⟩
  obtain ⟨Q, hQ⟩ : ∃ Q, strB (textS l) = Q := ⟨_, rfl⟩
  rw [hQ]
  have HQ := Lib.hid hQ
  rw [hl] at h hc HMC ⊢
  have HR := Lib.hid h
  have HL := Lib.hid hl
  unfold textS at HQ
  have hcm : c ≤ maxLen := hm
  unfold maxLen at hcm
  clear h hl hm hn hQ
  cases hmy : mayS l with
  | false =>
    have HF : Hid (Q = ⟨#[]⟩) := Lib.hid (by rw [← HQ.out, hmy]; rfl)
    have hn0 : (0 : Int) < (n : Int) := by
      cases l with
      | nil => cases hmy
      | cons x l => rw [← HL.out, List.length_cons]; omega
    rw [hmy] at HMC
    clear hmy
    go_enter Tryd.func32, Tryd.ntmps32
    go_wp2_with fail
    go_loopg [3, 4] 0 (fun g s ix wr => s = .string ⟨#[]⟩ ∧ ix = .int .i64 0 ∧ w = wr)
    case atStart => exact ⟨rfl, rfl, rfl⟩
    case round =>
      obtain ⟨rfl, rfl, rfl⟩ := hrel
      have HM := Lib.hid (HMC.out w (Below.refl _ _))
      go_wp2_with fail
      with_reducible refine HM.out.mono ?_
      rintro e w1 ⟨rfl, hb1⟩
      have HB1 := Lib.hid hb1
      clear hb1
      go_wp2_with fail
      go_ret
      exact ⟨by rw [HF.out]; rfl, HB1.out⟩
  | true =>
    have HF : Hid (Q = strB (bodyT l)) := Lib.hid (by rw [← HQ.out, hmy]; rfl)
    have HMY := Lib.hid hmy
    have hlen := mayS_length hmy
    rw [HL.out] at hlen
    rw [hmy] at HMC
    clear hmy
    go_enter Tryd.func32, Tryd.ntmps32
    go_wp2_with fail
    go_loopg [3, 4] n (fun g s ix wr => ∃ (i : Nat), s = .string (strB (bodyT (l.take i))) ∧ ix = .int .i64 (i : Int) ∧ g + i = n ∧ Below w.heap.size w wr)
    case atStart => exact ⟨0, rfl, rfl, rfl, Below.refl _ _⟩
    case round =>
      obtain ⟨i, rfl, rfl, hg, hb⟩ := hrel
      have HB := Lib.hid hb
      have hin : (l.take i).length = i := by rw [List.length_take]; have := HL.out; omega
      have hsz : (strB (bodyT (l.take i))).size ≤ 5000 := by
        rw [strB_size]
        exact body_short (mayF_take i HMY.out)
      obtain ⟨o, ho⟩ : ∃ o, strB (bodyT (l.take i)) = o := ⟨_, rfl⟩
      rw [ho] at hsz ⊢
      have HO := Lib.hid ho
      have HIN := Lib.hid hin
      clear hb ho hin
      cases gk with
      | zero =>
        obtain rfl : i = n := by omega
        have hge : ¬ ((i : Int) < (i : Int)) := by omega
        have HF2 : Hid (Q = o) := Lib.hid (by rw [HF.out, ← HO.out, List.take_of_length_le (by have := HL.out; omega)])
        go_wp2_with fail
        go_ret
        exact ⟨by rw [HF2.out]; rfl, HB.out⟩
      | succ g =>
        have hlt : (i : Int) < (n : Int) := by omega
        have hic : i ≤ c := by omega
        have hi0 : (0 : Int) ≤ (i : Int) := by omega
        have hadd : IntKind.i64.wrap ((i : Int) + 1) = ((i + 1 : Nat) : Int) := IntWalk.i64_in _ (by omega)
        obtain ⟨⟨f, t⟩, hx, _⟩ := drop_at (l := l) (i := i) (by have := HL.out; omega)
        have hrp := may_right HMY.out _ (List.mem_of_getElem? hx)
        obtain ⟨r1, r2, r3⟩ := hrp
        dsimp only at r1 r2 r3
        obtain ⟨b, o', rfl, y1, y2⟩ := HR.out.at hx
        dsimp only at y1 y2
        have Y1 := Lib.hid y1
        have Y2 := Lib.hid y2
        have HX := Lib.hid hx
        have HM := Lib.hid (HMC.out wr HB.out)
        have hz1 : (strB (Lib.itoa f)).size ≤ 21 := by rw [strB_size]; exact itoa_short (by omega) (by omega)
        have hz2 : (strB (Lib.itoa t)).size ≤ 21 := by rw [strB_size]; exact itoa_short (by omega) (by omega)
        obtain ⟨z1, hz1e⟩ : ∃ z, strB (Lib.itoa f) = z := ⟨_, rfl⟩
        obtain ⟨z2, hz2e⟩ : ∃ z, strB (Lib.itoa t) = z := ⟨_, rfl⟩
        rw [hz1e] at hz1
        rw [hz2e] at hz2
        have HZ1 := Lib.hid hz1e
        have HZ2 := Lib.hid hz2e
        clear hx y1 y2 hz1e hz2e
        go_wp2_with fail
        with_reducible refine HM.out.mono ?_
        rintro e w2 ⟨rfl, hb2⟩
        have HB2 := Lib.hid (HB.out.trans (hb2.mono HB.out.size))
        have y1 := cell_below HB2.out Y1.out
        have HI1 := Lib.hid (ritoa_calls r1 (by omega : f ≤ 200) w2)
        rw [HZ1.out] at HI1
        clear hb2 HM
        by_cases hi : i = 0
        · have HI0 := Lib.hid hi
          have hip : ¬ ((0 : Int) < (i : Int)) := by omega
          clear hi
          have q2 : ¬ (9223372036854775807 < o.size + z1.size) := by omega
          go_wp2_with fail
          with_reducible refine HI1.out.mono ?_
          rintro e w3 ⟨rfl, hb3⟩
          have HB3 := Lib.hid (HB2.out.trans (hb3.mono HB2.out.size))
          have y1 := cell_below HB3.out Y1.out
          have y2 := cell_below HB3.out Y2.out
          clear hb3 HI1
          by_cases hft : f < t
          · have dft : decide (f < t) = true := decide_eq_true hft
            have HI2 := Lib.hid (fun k => ritoa_calls (n := t) (by omega) r3 (w3.drewN k))
            rw [HZ2.out] at HI2
            have q3 : ¬ (9223372036854775807 < o.size + z1.size + 1) := by omega
            have q4 : ¬ (9223372036854775807 < o.size + z1.size + 1 + z2.size) := by omega
            have HNX : Hid (o ++ z1 ++ ⟨#[45]⟩ ++ z2 = strB (bodyT (l.take (i + 1)))) := Lib.hid (by
              have e : strB (spanT (f, t)) = z1 ++ ⟨#[45]⟩ ++ z2 := by
                unfold spanT
                rw [if_neg (by show f ≠ t; omega), ← HZ1.out, ← HZ2.out, show (⟨#[45]⟩ : ByteArray) = strB [45] from rfl, strB_app, strB_app, List.append_assoc]
                rfl
              rw [take_snoc HX.out, HI0.out, List.take_zero, List.nil_append, bodyT, joinT, List.append_nil, e, ← HO.out, HI0.out]
              apply ByteArray.ext
              simp [ByteArray.data_append, strB, bodyT])
            go_wp2_with fail
            go_quiet (fail)
            go_wp2_with fail
            with_reducible refine (HI2.out _).mono ?_
            rintro e w4 ⟨rfl, hb4⟩
            have HB4 := Lib.hid ((below_drewN HB3.out _).trans (hb4.mono (by exact HB3.out.size)))
            clear hb4
            go_wp2_with fail
            go_roundg g
            case measure => omega
            case rel => exact ⟨i + 1, by rw [HNX.out], by go_num, by omega, HB4.out⟩
          · have dft : decide (f < t) = false := decide_eq_false hft
            have HNX : Hid (o ++ z1 = strB (bodyT (l.take (i + 1)))) := Lib.hid (by
              have e : strB (spanT (f, t)) = z1 := by
                unfold spanT
                rw [if_pos (by show f = t; omega), List.append_nil]
                exact HZ1.out
              rw [take_snoc HX.out, HI0.out, List.take_zero, List.nil_append, bodyT, joinT, List.append_nil, e, ← HO.out, HI0.out]
              apply ByteArray.ext
              simp [ByteArray.data_append, strB, bodyT])
            go_wp2_with fail
            go_quiet (fail)
            go_wp2_with fail
            go_roundg g
            case measure => omega
            case rel => exact ⟨i + 1, by rw [HNX.out], by go_num, by omega, below_drewN HB3.out _⟩
        · have hip : (0 : Int) < (i : Int) := by omega
          have q1 : ¬ (9223372036854775807 < o.size + 1) := by omega
          have HNE : Hid (l.take i ≠ []) := Lib.hid (fun e => hi (by have := HIN.out; rw [e] at this; exact this.symm))
          clear hi
          have q2 : ¬ (9223372036854775807 < o.size + 1 + z1.size) := by omega
          go_wp2_with fail
          with_reducible refine HI1.out.mono ?_
          rintro e w3 ⟨rfl, hb3⟩
          have HB3 := Lib.hid (HB2.out.trans (hb3.mono HB2.out.size))
          have y1 := cell_below HB3.out Y1.out
          have y2 := cell_below HB3.out Y2.out
          clear hb3 HI1
          by_cases hft : f < t
          · have dft : decide (f < t) = true := decide_eq_true hft
            have HI2 := Lib.hid (fun k => ritoa_calls (n := t) (by omega) r3 (w3.drewN k))
            rw [HZ2.out] at HI2
            have q3 : ¬ (9223372036854775807 < o.size + 1 + z1.size + 1) := by omega
            have q4 : ¬ (9223372036854775807 < o.size + 1 + z1.size + 1 + z2.size) := by omega
            have HNX : Hid (o ++ ⟨#[44]⟩ ++ z1 ++ ⟨#[45]⟩ ++ z2 = strB (bodyT (l.take (i + 1)))) := Lib.hid (by
              have e : strB (spanT (f, t)) = z1 ++ ⟨#[45]⟩ ++ z2 := by
                unfold spanT
                rw [if_neg (by show f ≠ t; omega), ← HZ1.out, ← HZ2.out, show (⟨#[45]⟩ : ByteArray) = strB [45] from rfl, strB_app, strB_app, List.append_assoc]
                rfl
              rw [take_snoc HX.out, bodyT_snoc HNE.out, ← strB_app, HO.out, show (44 :: spanT (f, t)) = [44] ++ spanT (f, t) from rfl, ← strB_app, e]
              apply ByteArray.ext
              simp [ByteArray.data_append, strB])
            go_wp2_with fail
            go_quiet (fail)
            go_wp2_with fail
            with_reducible refine (HI2.out _).mono ?_
            rintro e w4 ⟨rfl, hb4⟩
            have HB4 := Lib.hid ((below_drewN HB3.out _).trans (hb4.mono (by exact HB3.out.size)))
            clear hb4
            go_wp2_with fail
            go_roundg g
            case measure => omega
            case rel => exact ⟨i + 1, by rw [HNX.out], by go_num, by omega, HB4.out⟩
          · have dft : decide (f < t) = false := decide_eq_false hft
            have HNX : Hid (o ++ ⟨#[44]⟩ ++ z1 = strB (bodyT (l.take (i + 1)))) := Lib.hid (by
              have e : strB (spanT (f, t)) = z1 := by
                unfold spanT
                rw [if_pos (by show f = t; omega), List.append_nil]
                exact HZ1.out
              rw [take_snoc HX.out, bodyT_snoc HNE.out, ← strB_app, HO.out, show (44 :: spanT (f, t)) = [44] ++ spanT (f, t) from rfl, ← strB_app, e]
              apply ByteArray.ext
              simp [ByteArray.data_append, strB])
            go_wp2_with fail
            go_quiet (fail)
            go_wp2_with fail
            go_roundg g
            case measure => omega
            case rel => exact ⟨i + 1, by rw [HNX.out], by go_num, by omega, below_drewN HB3.out _⟩
end Go.Proofs.YtiolchdfjlffoaaDoor
