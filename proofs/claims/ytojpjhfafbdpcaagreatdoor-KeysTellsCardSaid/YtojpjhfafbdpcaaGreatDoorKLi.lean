/-
  KeysLines: remarks, empty lines and blanks around a specification's lines don't matter. Conditions: the rules lie in memory, none longer than 2 to the 60; the tables, the library's bound and the handle are laid.
-/
import Derived.Test.YtojpjhfafbdpcaaGreatDoorKBk
import Derived.Test.YtojpjhfafbdpcaaGreatDoorKTx
namespace Go.Proofs.YtojpjhfafbdpcaaGreatDoor
open Go.RowKit Go.Lib Go.Joins Go.Shelf

theorem RlsIn.one {w : World} {S : Nat → Prop} {a : Option Addr} {n c i : Nat} {l : List Rl} {x : Rl} (h : RlsIn w S (.slice a n c) l) (hx : l[i]? = some x) : ∃ b o, a = some ⟨b, o, none⟩ ∧ RlsIn w S (.slice (some ⟨b, o + i * 2, none⟩) 1 (c - i)) [x] := by
  obtain ⟨a', c', h1, h2, h3, h4, h5⟩ := h
  injection h1 with h1 h6 h7
  subst h1 h6 h7
  have hlt := (List.getElem?_eq_some_iff.1 hx).1
  rcases h5 with rfl | ⟨b, o, rfl, h6, h7⟩
  · simp at hx
  · refine ⟨b, o, rfl, _, c - i, rfl, ?_, by omega, (fun e => by cases e), .inr ⟨b, o + i * 2, rfl, h6, fun k y hy => ?_⟩⟩
    · show 1 ≤ c - i
      omega
    · cases k with
      | zero =>
        obtain rfl : x = y := by simpa using hy
        obtain ⟨pv, kv, q1, q2, q3, q4⟩ := h7 i x hx
        exact ⟨pv, kv, by rw [Nat.zero_mul, Nat.add_zero]; exact q1, by rw [Nat.zero_mul, Nat.add_zero]; exact q2, q3, q4⟩
      | succ k => simp at hy
theorem deco_snoc (k : Nat) (r : Rl) : ∀ l : List Rl, decoS k (l ++ [r]) = decoS k l ++ (idleS k ++ ([32, 9] ++ (lineW r ++ [32, 13, 10])))
  | [] => by
    rw [List.nil_append, decoS, decoS, decoS, List.append_nil]
    rfl
  | x :: t => by
    rw [List.cons_append, decoS, decoS, deco_snoc k r t]
    simp only [List.append_assoc]
theorem idle_size : ∀ k, (idleS k).length = 5 * k
  | 0 => rfl
  | k + 1 => by
    rw [idleS, List.length_append, idle_size k]
    simp only [List.length_cons, List.length_nil]
    omega
theorem deco_size (k : Nat) : ∀ l : List Rl, (decoS k l).length ≤ (textW l).length + (5 * k + 5) * l.length
  | [] => Nat.zero_le _
  | x :: t => by
    have ih := deco_size k t
    rw [decoS, textW]
    simp only [List.length_append, List.length_cons, List.length_nil, idle_size]
    rw [Nat.mul_add, Nat.mul_one]
    omega
/-- What is written of rules. -/
def decoT (k : Nat) (l : List Rl) : List UInt8 := remarkS ++ ([13, 10] ++ decoS k l)
theorem deco_take (k : Nat) {l : List Rl} {j : Nat} {x : Rl} (hx : l[j]? = some x) : decoT k (l.take (j + 1)) = decoT k (l.take j) ++ (idleS k ++ ([32, 9] ++ (lineW x ++ [32, 13, 10]))) := by
  unfold decoT
  rw [List.take_add_one, hx, Option.toList_some, deco_snoc]
  simp only [List.append_assoc]
theorem decoT_size (k : Nat) {l : List Rl} (j : Nat) (hk : k < 4) (ht : (textW l).length ≤ 15000) (hn : l.length < 3000) : (decoT k (l.take j)).length ≤ 100000 := by
  unfold decoT
  have h1 := deco_size k (l.take j)
  have h2 := text_part l j
  have h3 : (l.take j).length ≤ 3000 := by rw [List.length_take]; omega
  have h4 : (5 * k + 5) * (l.take j).length ≤ 20 * 3000 := Nat.mul_le_mul (by omega) h3
  have h5 : remarkS.length = 10 := rfl
  simp only [List.length_append, List.length_cons, List.length_nil]
  omega

set_option maxRecDepth 100000 in
set_option maxHeartbeats 16000000 in
theorem klaw_lines {w : World} {S : Nat → Prop} {v : Value} {l : List Rl} (hl : RlsIn w S v l) (hb : ∀ r ∈ l, RlBig r) (xb : Nat) (hxb : xb < 256) (hE : AwE w) :
    Calls Tryz.prog 7 #[v, .int .u8 (xb : Int)] w (Leaves (.bool true) w) := by
  have HAW := Lib.hid (awake_calls w hE)
  have HSM := Lib.hid (fun (W : World) (hb1 : Below w.heap.size w W) => small_calls (hl.below hb1) hb)
  have HL := Lib.hid hl
  have HE := Lib.hid hE
  obtain ⟨a, c, rfl, hlc, hcm, _⟩ := hl.form
  obtain ⟨n, hn⟩ : ∃ n, l.length = n := ⟨_, rfl⟩
  have HN := Lib.hid hn
  rw [hn] at HL HSM hlc ⊢
  have hm : n ≤ 9223372036854775807 := by unfold maxLen at hcm; omega
  obtain ⟨q1, hq1⟩ : ∃ q, smallGo 0 l = q := ⟨_, rfl⟩
  rw [hq1] at HSM
  clear hl hb hE hn hcm
  cases q1 with
  | false =>
    clear hq1
    go_enter Tryz.func7, Tryz.ntmps7
    go_wp2_with fail
    with_reducible refine HAW.out.mono ?_
    rintro e w1 ⟨rfl, hb1⟩
    have HB1 := Lib.hid hb1
    clear hb1
    go_wp2_with fail
    with_reducible refine (HSM.out w1 HB1.out).mono ?_
    rintro e w2 ⟨rfl, hb2⟩
    have HB2 := Lib.hid (below_then HB1.out hb2)
    clear hb2
    go_wp2
    go_ret
    exact ⟨rfl, HB2.out⟩
  | true =>
    obtain ⟨hfew, hlen, hsum⟩ := small_few hq1
    obtain ⟨htl, hpk⟩ := small_text hq1
    have HMY := Lib.hid (fun (W : World) (hb1 : Below w.heap.size w W) => rmay_calls (HL.out.below hb1) hfew)
    have HTL := Lib.hid htl
    have HLN := Lib.hid hlen
    obtain ⟨q2, hq2⟩ : ∃ q, mayW l = q := ⟨_, rfl⟩
    rw [hq2] at HMY
    clear hq1 hfew hpk hsum htl hlen
    cases q2 with
    | false =>
      clear hq2
      go_enter Tryz.func7, Tryz.ntmps7
      go_wp2_with fail
      with_reducible refine HAW.out.mono ?_
      rintro e w1 ⟨rfl, hb1⟩
      have HB1 := Lib.hid hb1
      clear hb1
      go_wp2_with fail
      with_reducible refine (HSM.out w1 HB1.out).mono ?_
      rintro e w2 ⟨rfl, hb2⟩
      have HB2 := Lib.hid (below_then HB1.out hb2)
      clear hb2
      go_wp2_with fail
      with_reducible refine (HMY.out w2 HB2.out).mono ?_
      rintro e w3 ⟨rfl, hb3⟩
      have HB3 := Lib.hid (below_then HB2.out hb3)
      clear hb3
      go_wp2
      go_ret
      exact ⟨rfl, HB3.out⟩
    | true =>
      obtain ⟨K, hK⟩ : ∃ K, xb % 4 = K := ⟨_, rfl⟩
      have hK4 : K < 4 := by omega
      have HPT := Lib.hid (show parseW (decoT K l) = .ok l from parse_deco K hq2)
      have hrem : Int.tmod (xb : Int) 4 = (K : Int) := by rw [← hK]; exact (Int.ofNat_tmod xb 4).symm
      have e0 : (⟨#[35, 32, 97, 32, 114, 101, 109, 97, 114, 107, 13, 10]⟩ : ByteArray) = strB (decoT K (l.take 0)) := rfl
      have HE0 := Lib.hid e0
      clear hq2 e0
      go_enter Tryz.func7, Tryz.ntmps7
      go_wp2_with fail
      with_reducible refine HAW.out.mono ?_
      rintro e w1 ⟨rfl, hb1⟩
      have HB1 := Lib.hid hb1
      clear hb1
      go_wp2_with fail
      with_reducible refine (HSM.out w1 HB1.out).mono ?_
      rintro e w2 ⟨rfl, hb2⟩
      have HB2 := Lib.hid (below_then HB1.out hb2)
      clear hb2
      go_wp2_with fail
      with_reducible refine (HMY.out w2 HB2.out).mono ?_
      rintro e w3 ⟨rfl, hb3⟩
      have HB3 := Lib.hid (below_then HB2.out hb3)
      clear hb3 HAW HSM HMY HB1 HB2
      go_wp2_with fail
      go_loopg [5, 6] n (fun gk s i wr => ∃ (j : Nat), s = .string (strB (decoT K (l.take j))) ∧ i = .int .i64 (j : Int) ∧ gk + j = n ∧ Below w.heap.size w wr)
      case atStart => exact ⟨0, by rw [← HE0.out], rfl, rfl, HB3.out⟩
      case round =>
        obtain ⟨j, rfl, rfl, hg, hbr⟩ := hrel
        have HG := Lib.hid hg
        have HBR := Lib.hid hbr
        clear hg hbr
        by_cases hlt : j < n
        · obtain ⟨g', rfl⟩ : ∃ g', gk = g' + 1 := ⟨gk - 1, by have := HG.out; omega⟩
          have hdd : decide ((j : Int) < (n : Int)) = true := by simp; omega
          have hji : (j : Int) < (n : Int) := by omega
          obtain ⟨x, hx⟩ : ∃ x, l[j]? = some x := ⟨l[j]'(by rw [HN.out]; exact hlt), List.getElem?_eq_getElem _⟩
          have HTK := Lib.hid (deco_take K hx)
          have HX := Lib.hid hx
          have htz := decoT_size K j hK4 HTL.out HLN.out
          have htz2 := decoT_size K (j + 1) hK4 HTL.out HLN.out
          have HTZ := Lib.hid htz
          have HTZ2 := Lib.hid htz2
          obtain ⟨T, hT⟩ : ∃ T, decoT K (l.take j) = T := ⟨_, rfl⟩
          rw [hT] at HTK HTZ ⊢
          clear hx htz htz2 hT
          go_upto_block 2 with (fail)
          go_cut [5] (fun s W => s = .string (strB (T ++ idleS K)) ∧ Below wr.heap.size wr W)
          case first =>
            go_wp2_with fail
            go_loopg [5, 7] K (fun gk s i W => ∃ (k : Nat), s = .string (strB (T ++ idleS k)) ∧ i = .int .i64 (k : Int) ∧ gk + k = K ∧ Below wr.heap.size wr W)
            case atStart => exact ⟨0, by rw [idleS, List.append_nil], rfl, rfl, Below.refl _ _⟩
            case round =>
              obtain ⟨k, rfl, rfl, hg4, hb4⟩ := hrel
              rename World => w4
              have HG4 := Lib.hid hg4
              have HB4 := Lib.hid hb4
              clear hg4 hb4
              by_cases hkj : k < K
              · obtain ⟨g4, rfl⟩ : ∃ g4, gk = g4 + 1 := ⟨gk - 1, by have := HG4.out; omega⟩
                have hd4 : decide ((k : Int) < (K : Int)) = true := by simp; omega
                obtain ⟨s0, hs0⟩ : ∃ s, strB (T ++ idleS k) = s := ⟨_, rfl⟩
                have hz0 : s0.size ≤ 200000 := by
                  rw [← hs0, strB_size, List.length_append, idle_size]
                  have := HTZ.out
                  omega
                have hcat : ¬ (9223372036854775807 < s0.size + 5) := by omega
                have HFIN : Hid (s0 ++ (⟨#[32, 10, 35, 120, 10]⟩ : ByteArray) = strB (T ++ idleS (k + 1))) := Lib.hid (by
                  have h1 : (⟨#[32, 10, 35, 120, 10]⟩ : ByteArray) = strB [32, 10, 35, 120, 10] := rfl
                  rw [h1, ← hs0, strB_app, idleS, List.append_assoc])
                rw [hs0]
                clear hs0
                go_wp2_with fail
                go_roundg g4
                case measure => omega
                case rel => exact ⟨k + 1, by rw [HFIN.out], by go_num, by have := HG4.out; omega, HB4.out⟩
              · have hd4 : decide ((k : Int) < (K : Int)) = false := by simp; omega
                have hkK : k = K := by have := HG4.out; omega
                subst hkK
                obtain ⟨s0, hs0⟩ : ∃ s, strB (T ++ idleS k) = s := ⟨_, rfl⟩
                rw [hs0]
                go_wp2_with fail
                go_meet
                exact ⟨by rw [hs0], HB4.out⟩
          case rest =>
          obtain ⟨rfl, hb6⟩ := hcut
          rename World => w6
          have HB6 := Lib.hid (below_then HBR.out hb6)
          obtain ⟨b, o, hab, hone⟩ := (HL.out.below HB6.out).one HX.out
          subst hab
          have htx : textW [x] = lineW x ++ [10] := rfl
          have htx2 := text_part l (j + 1)
          rw [text_take HX.out, List.length_append] at htx2
          have HT := Lib.hid (rtext_calls hone (by rw [htx]; have := HTL.out; omega))
          rw [htx] at HT
          have hts : (strB (lineW x ++ [10])).size = (lineW x).length + 1 := by rw [strB_size, List.length_append]; rfl
          have hex : (strB (lineW x ++ [10])).extract 0 (lineW x).length = strB (lineW x) := by
            rw [extract_strB, strB_list, List.drop_zero, Nat.sub_zero, List.take_append_of_le_length (Nat.le_refl _), List.take_length]
          obtain ⟨t, ht⟩ : ∃ t, strB (lineW x ++ [10]) = t := ⟨_, rfl⟩
          obtain ⟨m, hmm⟩ : ∃ m, (lineW x).length = m := ⟨_, rfl⟩
          obtain ⟨y, hy⟩ : ∃ y, strB (lineW x) = y := ⟨_, rfl⟩
          obtain ⟨s0, hs0⟩ : ∃ s, strB (T ++ idleS K) = s := ⟨_, rfl⟩
          have hyz : y.size = m := by rw [← hy, strB_size]; exact hmm
          have hmz : m ≤ 100000 := by rw [List.length_append] at htx2; have := HTL.out; omega
          have hz0 : s0.size ≤ 200000 := by
            rw [← hs0, strB_size, List.length_append, idle_size]
            have := HTZ.out
            omega
          rw [ht] at HT hts hex
          rw [hmm] at hts hex
          rw [hy] at hex
          have y1 : ¬ (9223372036854775807 < s0.size + 2) := by omega
          have y2 : ¬ (9223372036854775807 < s0.size + 2 + y.size) := by omega
          have y3 : ¬ (9223372036854775807 < s0.size + 2 + y.size + 3) := by omega
          have HFIN : Hid (s0 ++ (⟨#[32, 9]⟩ : ByteArray) ++ y ++ (⟨#[32, 13, 10]⟩ : ByteArray) = strB (decoT K (l.take (j + 1)))) := Lib.hid (by
            have h1 : (⟨#[32, 9]⟩ : ByteArray) = strB [32, 9] := rfl
            have h2 : (⟨#[32, 13, 10]⟩ : ByteArray) = strB [32, 13, 10] := rfl
            rw [h1, h2, ← hs0, ← hy, strB_app, strB_app, strB_app, HTK.out]
            congr 1
            simp only [List.append_assoc])
          have hjn : j + 1 ≤ n := hlt
          have hjc : j + 1 ≤ c := by omega
          rw [hs0]
          clear hb6 hone htx htx2 ht hmm hy hs0 hyz
          go_wp2_with fail
          with_reducible refine HT.out.mono ?_
          rintro e w7 ⟨rfl, hb7⟩
          have HB7 := Lib.hid (below_then HB6.out hb7)
          clear hb7 HT
          go_wp2_with fail
          go_roundg g'
          case measure => omega
          case rel => exact ⟨j + 1, by rw [← HFIN.out], by go_num, by have := HG.out; omega, HB7.out⟩
        · have hdd : decide ((j : Int) < (n : Int)) = false := by simp; omega
          have htk : l.take j = l := List.take_of_length_le (by have := HN.out; omega)
          have htz := decoT_size K j hK4 HTL.out HLN.out
          rw [htk] at htz ⊢
          have HPS := Lib.hid (parse_calls (decoT K l) wr (by omega) (HE.out.env.below HBR.out))
          unfold ParseOut at HPS
          obtain ⟨tx, htx⟩ : ∃ s, strB (decoT K l) = s := ⟨_, rfl⟩
          rw [htx] at HPS ⊢
          clear htk htz htx
          go_wp2_with fail
          with_reducible refine HPS.out.mono ?_
          rintro e w5 ⟨pv, pe, rfl, hb5, ⟨l2, hl2, hin, rfl⟩ | ⟨cc, nn, hl2, _⟩⟩
          case inr => rw [HPT.out] at hl2; cases hl2
          rw [HPT.out] at hl2
          injection hl2 with hl2
          subst hl2
          obtain ⟨pa, pc, rfl, _⟩ := hin.form
          have HB5 := Lib.hid (below_then HBR.out hb5)
          have HC := Lib.hid (code_calls (B := 0) 0 0 .nilIface w5 (.inl ⟨rfl, rfl⟩) (HE.out.handle.below (below_then HBR.out hb5)))
          have HRU := Lib.hid (fun (W : World) (hb6 : Below w5.heap.size w5 W) => rules_calls (hin.below hb6) (HL.out.below (below_then HB5.out hb6)))
          rw [HN.out] at HRU
          rw [HN.out]
          clear hb5 hin HPS
          go_wp2_with fail
          with_reducible refine HC.out.mono ?_
          rintro e w6 ⟨rfl, hb6⟩
          have HR6 := Lib.hid (HRU.out w6 hb6)
          have HB6 := Lib.hid (below_then HB5.out hb6)
          clear hb6 HC HRU
          go_wp2_with fail
          with_reducible refine HR6.out.mono ?_
          rintro e w7 ⟨rfl, hb7⟩
          have HB7 := Lib.hid (below_then HB6.out hb7)
          clear hb7 HR6
          go_wp2
          go_ret
          exact ⟨rfl, HB7.out⟩

end Go.Proofs.YtojpjhfafbdpcaaGreatDoor
