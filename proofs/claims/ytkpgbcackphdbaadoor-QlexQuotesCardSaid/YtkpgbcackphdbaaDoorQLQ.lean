/-
  QlexQuotes: any text without a quote, in such quotes, is one token, which is it; a text of digits, with a point anywhere, is one number. Conditions: the tables, the library's bound, the arrays of signs and the handle are laid.
-/
import Derived.Test.YtkpgbcackphdbaaDoorQL
import Derived.Laws.BytesArg
namespace Go.Proofs.YtkpgbcackphdbaaDoor
open Go.RowKit Go.Lib Go.Joins

theorem nums_bytes (l : List UInt8) : strOfNums (l.map fun b => (b.toNat : Int)) = strB l := by
  apply ByteArray.ext
  apply Array.toList_inj.1
  rw [strOfNums_data, List.map_map]
  have : (fun n : Int => UInt8.ofNat n.toNat) ∘ (fun b : UInt8 => (b.toNat : Int)) = id := by
    funext b
    show UInt8.ofNat ((b.toNat : Int).toNat) = b
    rw [Int.toNat_natCast]
    exact UInt8.ofNat_toNat
  rw [this, List.map_id]
  rfl
/-- A slice of bytes in a literal, as a text. -/
theorem conv_lit (w : World) (cs : List UInt8) (o n cap : Nat) (hn : o + n ≤ cs.length) (k : Nat) :
    (convert 37 9 (.slice (some ⟨w.heap.size, o, none⟩) n cap)).run Tryd.prog ((w.alloc (.cells (cs.map fun b => Value.int .u8 (b.toNat : Int)).toArray 5)).drewN k) = .ok (.string (strB ((cs.drop o).take n))) ((w.alloc (.cells (cs.map fun b => Value.int .u8 (b.toNat : Int)).toArray 5)).drewN k) := by
  have h := run_convert_bytes_arg (P := Tryd.prog) ((w.alloc (.cells (cs.map fun b => Value.int .u8 (b.toNat : Int)).toArray 5)).drewN k) 37 5 Tryd.underlying37 Tryd.underlying5 w.heap.size o n cap (((cs.drop o).take n).map fun b => (b.toNat : Int)) (by rw [List.length_map, List.length_take, List.length_drop]; omega) (by
    intro i hi
    show (w.alloc (.cells (cs.map fun b => Value.int .u8 (b.toNat : Int)).toArray 5)).cell? ⟨w.heap.size, o + i, none⟩ = _
    have h2 := newA_cells w (cs.map fun b => Value.int .u8 (b.toNat : Int)) 5 (o + i) (.int .u8 ((cs[o + i]'(by omega)).toNat : Int)) (by rw [List.getElem?_map, List.getElem?_eq_getElem (by omega)]; rfl)
    rw [Addr.add_mid, Nat.zero_add] at h2
    rw [h2]
    congr 2
    rw [List.getD_eq_getElem?_getD, List.getElem?_map, List.getElem?_take, if_pos hi, List.getElem?_drop, List.getElem?_eq_getElem (by omega)]
    rfl) 9 Tryd.underlying9
  rw [nums_bytes] at h
  exact h
def quoteC (b : Bool) : UInt8 := if b = true then 39 else 34
theorem quoteC_or (b : Bool) : quoteC b = 34 ∨ quoteC b = 39 := by cases b; exact .inl rfl; exact .inr rfl



theorem bad_lt (f : Nat → Nat) (N : Nat) : ∀ g p, badFrom f N g p = -1 ∨ badFrom f N g p < (N : Int)
  | 0, _ => .inl rfl
  | g + 1, p => by
    rw [badFrom]
    split
    · split
      · exact .inr (by omega)
      · exact bad_lt f N g _
    · exact .inl rfl
theorem three_digits (N : Int) (_h0 : 0 ≤ N) : ∃ x0 x1 x2 : UInt8, (x0.toNat : Int) = 48 + N % 10 ∧ (x1.toNat : Int) = 48 + N / 10 % 10 ∧ (x2.toNat : Int) = 48 + N / 100 % 10 ∧ ∀ x ∈ [x0, x1, x2], digitB x = true := by
  have one : ∀ m : Int, 0 ≤ m → m < 10 → ∃ x : UInt8, (x.toNat : Int) = 48 + m ∧ digitB x = true := fun m h1 h2 => by
    have e : (UInt8.ofNat (48 + m.toNat)).toNat = 48 + m.toNat := by rw [UInt8.toNat_ofNat']; omega
    refine ⟨UInt8.ofNat (48 + m.toNat), by rw [e]; omega, ?_⟩
    unfold digitB
    rw [e]
    simp
    omega
  obtain ⟨x0, e0, d0⟩ := one (N % 10) (by omega) (by omega)
  obtain ⟨x1, e1, d1⟩ := one (N / 10 % 10) (by omega) (by omega)
  obtain ⟨x2, e2, d2⟩ := one (N / 100 % 10) (by omega) (by omega)
  refine ⟨x0, x1, x2, e0, e1, e2, fun x hx => ?_⟩
  simp only [List.mem_cons, List.not_mem_nil, or_false] at hx
  rcases hx with rfl | rfl | rfl
  · exact d0
  · exact d1
  · exact d2
/-- What is left of All for the walk: its two values, whatever they are. -/
def QuoteOut (z : List UInt8) (n0 : Nat) (w : World) (v ev : Value) : Prop :=
  (∃ l, allQ z = .ok l ∧ TkIn w v l ∧ ev = .nilIface) ∨ (∃ c n, allQ z = .error (c, n) ∧ v = .slice none 0 0 ∧ ErrAt n0 w c (n : Int) ev)
theorem QuoteOut.below {z : List UInt8} {n0 : Nat} {w w' : World} {v ev : Value} (h : QuoteOut z n0 w v ev) (hb : Below w.heap.size w w') : QuoteOut z n0 w' v ev := by
  rcases h with ⟨l, h1, h2, h3⟩ | ⟨c, n, h1, h2, h3⟩
  · exact .inl ⟨l, h1, h2.below hb, h3⟩
  · exact .inr ⟨c, n, h1, h2, h3.below hb⟩

set_option maxRecDepth 100000 in
set_option maxHeartbeats 16000000 in
theorem quotes_calls (l : List UInt8) (hll : l.length ≤ 9223372036854775807) (single : Bool) (N : Int) (hN0 : 0 ≤ N) (hN1 : N < 4294967296) (w : World) (hE : AwE w) : Calls Tryd.prog 5 #[.string (strB l), .bool single, .int .u32 N] w (Leaves (.bool true) w) := by
  have HAW := Lib.hid (awake_calls w hE)
  have hs1 := strB_size l
  obtain ⟨n, hn⟩ : ∃ n, l.length = n := ⟨_, rfl⟩
  rw [hn] at hs1 hll
  have HE := Lib.hid hE
  by_cases hlong : 500 < n
  · obtain ⟨s, hs⟩ : ∃ s, strB l = s := ⟨_, rfl⟩
    rw [hs] at hs1 ⊢
    have hd : decide ((s.size : Int) > 500) = true := decide_eq_true (by omega)
    have hgt : (500 : Int) < (s.size : Int) := by omega
    clear hs hE hn hs1
    go_enter Tryd.func5, Tryd.ntmps5
    go_wp2_with fail
    with_reducible refine HAW.out.mono ?_
    rintro e w1 ⟨rfl, hb1⟩
    have HB1 := Lib.hid hb1
    clear hb1
    go_wp2_with fail
    go_ret
    exact ⟨rfl, HB1.out⟩
  · obtain ⟨cq, hcq⟩ : ∃ c, quoteC single = c := ⟨_, rfl⟩
    have hq := quoteC_or single
    rw [hcq] at hq
    have hl500 : l.length ≤ 500 := by omega
    obtain ⟨hqa, hqb⟩ := all_quotes hq hl500
    have hzl : (cq :: (l ++ [cq])).length ≤ 1073741823 := by rw [List.length_cons, List.length_append]; simp; omega
    have HALL := Lib.hid (fun (W : World) (hb : Below w.heap.size w W) => all_calls (cq :: (l ++ [cq])) W hzl (hE.env.below hb))
    unfold AllOut at HALL
    have hzs : strB (cq :: (l ++ [cq])) = strB [cq] ++ strB l ++ strB [cq] := by rw [strB_app, strB_app]; rfl
    rw [hzs] at HALL
    have hc1 := fun (W : World) => conv_lit W [cq] 0 1 1 (Nat.le_refl _) 0
    have hconv := fun (W : World) => Lib.run_convert_string_bytes (P := Tryd.prog) W 9 37 5 (strB l) Tryd.underlying9 Tryd.underlying37 Tryd.underlying5
    have hbz : badZ (fs l) (strB l).size = badL l := by unfold badL; rw [hs1, hn]
    have HBAD := Lib.hid (fun (W : World) => refBad_calls (some ⟨W.heap.size, 0, none⟩) (strB l).size (grownCap W (strB l).size 0 5) (fs l) (bytesWorld W 5 (strB l)) ⟨fs_lt _, by omega, Or.inr ⟨_, _, rfl, fun i hi => by rw [Nat.zero_add]; exact bytesWorld_cell W 5 (strB l) i hi⟩⟩ (by omega))
    rw [hbz] at HBAD
    have HBW := Lib.hid (fun W => bytesWorld_below W (strB l))
    have HHAS := Lib.hid (fun (W : World) => has_calls l cq W (by omega))
    have hbl : badL l = -1 ∨ 0 ≤ badL l := bad_ge _ _ _ _
    obtain ⟨B, hB⟩ : ∃ B, badL l = B := ⟨_, rfl⟩
    rw [hB] at HBAD hqa hqb hbl
    have hBn : B ≤ 600 := by rw [← hB]; have h := bad_lt (fs l) l.length l.length 0; unfold badL badZ; omega
    obtain ⟨z, hz⟩ : ∃ z, cq :: (l ++ [cq]) = z := ⟨_, rfl⟩
    rw [hz] at HALL hqa hqb
    obtain ⟨hq2, hhas⟩ : ∃ q, l.contains cq = q := ⟨_, rfl⟩
    rw [hhas] at HHAS
    have hqm : hq2 = false → cq ∉ l := fun h hm => by rw [← hhas, List.contains_iff_mem.2 hm] at h; cases h
    obtain ⟨s, hs⟩ : ∃ s, strB l = s := ⟨_, rfl⟩
    obtain ⟨sq, hsq⟩ : ∃ s, strB [cq] = s := ⟨_, rfl⟩
    have hsqz := strB_size [cq]
    have hct : ∀ W : World, (convert 37 9 (.slice (some ⟨W.heap.size, 0, none⟩) 1 1)).run Tryd.prog (W.alloc (.cells #[.int .u8 (cq.toNat : Int)] 5)) = .ok (.string sq) (W.alloc (.cells #[.int .u8 (cq.toNat : Int)] 5)) := fun W => by rw [← hsq]; exact hc1 W
    rw [hsq] at hsqz HALL
    rw [hs] at hs1 HALL hconv HBAD HBW HHAS ⊢
    obtain ⟨Q, hQ⟩ : ∃ Q : Int, (cq.toNat : Int) = Q := ⟨_, rfl⟩
    have hQs : Q = if single = true then 39 else 34 := by rw [← hQ, ← hcq]; cases single <;> rfl
    rw [hQ] at hct HHAS
    have HCT := Lib.hid hct
    have HCONV := Lib.hid hconv
    have HQA := Lib.hid hqa
    have HQB := Lib.hid hqb
    have HQM := Lib.hid hqm
    have HBL := Lib.hid hbl
    have HBN := Lib.hid hBn
    have HSS := Lib.hid hs
    have hsz1 : sq.size = 1 := hsqz
    have n1 : ¬ 9223372036854775807 < sq.size + s.size := by omega
    have n2 : ¬ 9223372036854775807 < sq.size + s.size + sq.size := by omega
    have hd : decide ((s.size : Int) > 500) = false := decide_eq_false (by omega)
    have hgt : ¬ (500 : Int) < (s.size : Int) := by omega
    clear hzs hc1 hconv hbz hbl hB hz hhas hqm hs hsq hsqz hct hQ hqa hqb hBn hE hn hs1 hq hcq hzl hl500 hlong hsz1
    go_enter Tryd.func5, Tryd.ntmps5
    go_wp2_with fail
    with_reducible refine HAW.out.mono ?_
    rintro e w1 ⟨rfl, hb1⟩
    have HB1 := Lib.hid hb1
    clear hb1 HAW
    go_upto_if 21 with (fail)
    go_cut [7] from 16 (fun s7 wz => s7 = .int .u8 Q ∧ wz = w1)
    case first =>
      cases single with
      | true =>
        obtain rfl : Q = 39 := hQs
        go_wp2_with fail
        go_meet
        case rel => exact ⟨rfl, rfl⟩
      | false =>
        obtain rfl : Q = 34 := hQs
        go_wp2_with fail
        go_meet
        case rel => exact ⟨rfl, rfl⟩
    obtain ⟨rfl, rfl⟩ := hcut
    clear hQs
    have c1 := HCT.out wc
    have c2 := HCT.out (wc.alloc (.cells #[.int .u8 Q] 5))
    have hsz2 : (wc.alloc (.cells #[.int .u8 Q] 5)).heap.size = wc.heap.size + 1 := by simp
    rw [hsz2] at c2
    have hb2 : Below w.heap.size w ((wc.alloc (.cells #[.int .u8 Q] 5)).alloc (.cells #[.int .u8 Q] 5)) := (HB1.out.alloc HB1.out.size _).alloc (by rw [hsz2]; have := HB1.out.size; omega) _
    have HAL := Lib.hid (HALL.out _ hb2)
    have HB2 := Lib.hid hb2
    clear hb2 hsz2 HALL
    go_wp2_with fail
    with_reducible refine HAL.out.mono ?_
    rintro e w2 ⟨v, ev, rfl, hb3, hout⟩
    have HB3 := Lib.hid (below_then HB2.out hb3)
    obtain ⟨n0, hn0⟩ : ∃ n0, ((wc.alloc (.cells #[.int .u8 Q] 5)).alloc (.cells #[.int .u8 Q] 5)).heap.size = n0 := ⟨_, rfl⟩
    rw [hn0] at hout
    have HOUT : Hid (QuoteOut z n0 w2 v ev) := Lib.hid hout
    have cv := HCONV.out w2
    have HBA := Lib.hid (HBAD.out w2)
    have HBY := HBW.out w2
    obtain ⟨w3, hw3⟩ : ∃ w3, bytesWorld w2 5 s = w3 := ⟨_, rfl⟩
    rw [hw3] at cv HBA HBY
    obtain ⟨cap, hcap⟩ : ∃ cap, grownCap w2 s.size 0 5 = cap := ⟨_, rfl⟩
    rw [hcap] at cv HBA
    have HB4 := Lib.hid (below_then HB3.out HBY)
    have HOUT3 := Lib.hid (HOUT.out.below HBY)
    clear hb3 hout hn0 HAL c1 c2 HBY hw3 hcap HOUT
    go_wp2_with fail
    with_reducible refine HBA.out.mono ?_
    rintro e w4 ⟨rfl, hb4⟩
    have HB5 := Lib.hid (below_then HB4.out hb4)
    have HOUT4 := Lib.hid (HOUT3.out.below hb4)
    clear hb4 HBA cv HOUT3
    go_upto_region 10 with (fail)
    go_cut [51] from 38 (fun s51 wz => s51 = .bool false ∧ Below w4.heap.size w4 wz)
    case first =>
      rcases HBL.out with hb | hb
      · subst hb
        go_wp2_with fail
        go_meet
        case rel => exact ⟨rfl, Below.refl _ _⟩
      · have hz := HQA.out hb
        rcases HOUT4.out with ⟨l2, h1, _, _⟩ | ⟨c, n1', h1, rfl, her⟩
        · rw [hz] at h1; cases h1
        rw [hz] at h1
        injection h1 with h1
        injection h1 with h2 h3
        subst h2 h3
        have hdb : decide (B ≥ 0) = true := decide_eq_true hb
        have hB1 : (((1 + B).toNat : Nat) : Int) = 1 + B := by omega
        rw [hB1] at her
        have hwb : IntKind.i64.wrap (B + 1) = 1 + B := by have := HBN.out; rw [IntWalk.i64_in _ (by omega)]; omega
        have HC := Lib.hid (fun (W : World) (hb : Below w4.heap.size w4 W) => code_calls 1 (1 + B) ev W (her.below hb) (HE.out.handle.below (below_then HB5.out hb)))
        have HA := Lib.hid (fun (W : World) (hb : Below w4.heap.size w4 W) => at_calls 1 (1 + B) ev W (her.below hb) (HE.out.handle.below (below_then HB5.out hb)))
        obtain ⟨eb, rfl⟩ : ∃ eb, ev = .iface 61 (.pointer (some ⟨eb, 0, none⟩)) := by
          rcases her with ⟨h0, _⟩ | ⟨_, eb, h1, _⟩
          · exact absurd h0 (by decide)
          · exact ⟨eb, h1⟩
        clear her hz hB1
        rw [if_neg (by decide)] at HA
        go_wp2_with fail
        with_reducible refine (HC.out w4 (Below.refl _ _)).mono ?_
        rintro e w5 ⟨rfl, hb5⟩
        have HA5 := Lib.hid (HA.out w5 hb5)
        have HB6 := Lib.hid hb5
        clear hb5 HC HA
        go_wp2_with fail
        with_reducible refine HA5.out.mono ?_
        rintro e w6 ⟨rfl, hb6⟩
        have HB7 := Lib.hid (below_then HB6.out hb6)
        clear hb6 HA5
        go_wp2_with fail
        go_meet
        case rel => exact ⟨rfl, HB7.out⟩
    obtain ⟨rfl, hbc⟩ := hcut
    have HBC := Lib.hid (below_then HB5.out hbc)
    have HOUT5 := Lib.hid (HOUT4.out.below hbc)
    clear hbc HOUT4 HB5
    go_upto_region 12 with (fail)
    go_cut [77] from 52 (fun s77 wz => s77 = .bool false ∧ Below wc.heap.size wc wz)
    case first =>
      rcases HBL.out with hb | hb
      · subst hb
        have HHW := Lib.hid (HHAS.out wc)
        cases hq2 with
        | true =>
          go_wp2_with fail
          with_reducible refine HHW.out.mono ?_
          rintro e w5 ⟨rfl, hb5⟩
          have HB5 := Lib.hid hb5
          clear hb5 HHW
          go_wp2_with fail
          go_meet
          case rel => exact ⟨rfl, HB5.out⟩
        | false =>
          have hz := HQB.out (by omega) (HQM.out rfl)
          rcases HOUT5.out with ⟨l2, h1, hin, rfl⟩ | ⟨c, n1', h1, _⟩
          case inr => rw [hz] at h1; cases h1
          rw [hz] at h1
          injection h1 with h1
          subst h1
          obtain ⟨ta, tc, rfl, htc, _⟩ := hin.form
          have hin2 : TkIn wc (.slice ta 1 tc) [⟨7, 0, l⟩] := hin
          have htc2 : 1 ≤ tc := htc
          have HIN := Lib.hid hin2
          have hlen : ([⟨7, 0, l⟩] : List Tk).length = 1 := rfl
          rw [hlen]
          have HC := Lib.hid (fun (W : World) (hb : Below wc.heap.size wc W) => code_calls (B := 0) 0 0 .nilIface W (.inl ⟨rfl, rfl⟩) (HE.out.handle.below (below_then HBC.out hb)))
          clear hin hin2 htc hz hlen
          go_wp2_with fail
          with_reducible refine HHW.out.mono ?_
          rintro e w5 ⟨rfl, hb5⟩
          have HB5 := Lib.hid hb5
          have HC5 := Lib.hid (HC.out w5 hb5)
          clear hb5 HHW HC
          go_wp2_with fail
          with_reducible refine HC5.out.mono ?_
          rintro e w6 ⟨rfl, hb6⟩
          have HB6 := Lib.hid (below_then HB5.out hb6)
          obtain ⟨b, o, rfl, y1, y2, y3⟩ := (HIN.out.below HB6.out).at (i := 0) (x := ⟨7, 0, l⟩) rfl
          have y1' : w6.cell? ⟨b, o, none⟩ = some (.int .i64 7) := y1
          have y2' : w6.cell? ⟨b, o + 1, none⟩ = some (.int .i64 0) := by rw [Nat.zero_mul, Nat.add_zero] at y2; exact y2
          have y3' : w6.cell? ⟨b, o + 2, none⟩ = some (.string s) := by rw [Nat.zero_mul, Nat.add_zero] at y3; rw [← HSS.out]; exact y3
          clear hb6 HC5 y1 y2 y3
          go_wp2_with fail
          go_meet
          case rel => exact ⟨rfl, HB6.out⟩
      · have hdb : decide (B < 0) = false := decide_eq_false (by omega)
        have hnb : ¬ B < 0 := by omega
        go_wp2_with fail
        go_meet
        case rel => exact ⟨rfl, Below.refl _ _⟩
    obtain ⟨rfl, hbd⟩ := hcut
    have HBD := Lib.hid (below_then HBC.out hbd)
    clear hbd HBC HOUT5
    obtain ⟨x0, x1, x2, hx0, hx1, hx2, hdg⟩ : ∃ x0 x1 x2 : UInt8, (x0.toNat : Int) = 48 + N % 10 ∧ (x1.toNat : Int) = 48 + N / 10 % 10 ∧ (x2.toNat : Int) = 48 + N / 100 % 10 ∧ ∀ x ∈ [x0, x1, x2], digitB x = true := three_digits N hN0
    have HDG := Lib.hid hdg
    have ht0 : N.tmod 10 = N % 10 := Int.tmod_eq_emod_of_nonneg hN0
    have hv1 : N.tdiv 10 = N / 10 := Int.tdiv_eq_ediv_of_nonneg hN0
    have hv2 : N.tdiv 100 = N / 100 := Int.tdiv_eq_ediv_of_nonneg hN0
    have hv3 : N.tdiv 1000 = N / 1000 := Int.tdiv_eq_ediv_of_nonneg hN0
    have hp1 : 0 ≤ N / 10 := by omega
    have hp2 : 0 ≤ N / 100 := by omega
    have hp3 : 0 ≤ N / 1000 := by omega
    have ht1 : (N / 10).tmod 10 = N / 10 % 10 := Int.tmod_eq_emod_of_nonneg hp1
    have ht2 : (N / 100).tmod 10 = N / 100 % 10 := Int.tmod_eq_emod_of_nonneg hp2
    have ht3 : (N / 1000).tmod 4 = N / 1000 % 4 := Int.tmod_eq_emod_of_nonneg hp3
    have hw0 : IntKind.u32.wrap (48 + N % 10) = (x0.toNat : Int) := by rw [hx0]; exact IntWalk.u32_in _ (by omega)
    have hw1 : IntKind.u32.wrap (48 + N / 10 % 10) = (x1.toNat : Int) := by rw [hx1]; exact IntWalk.u32_in _ (by omega)
    have hw2 : IntKind.u32.wrap (48 + N / 100 % 10) = (x2.toNat : Int) := by rw [hx2]; exact IntWalk.u32_in _ (by omega)
    have hA : N / 1000 % 4 = 0 ∨ N / 1000 % 4 = 1 ∨ N / 1000 % 4 = 2 ∨ N / 1000 % 4 = 3 := by omega
    clear hx0 hx1 hx2 hdg
    have hm0 : (x0.toNat : Int) % 256 = (x0.toNat : Int) := by have := x0.toNat_lt; omega
    have hm1 : (x1.toNat : Int) % 256 = (x1.toNat : Int) := by have := x1.toNat_lt; omega
    have hm2 : (x2.toNat : Int) % 256 = (x2.toNat : Int) := by have := x2.toNat_lt; omega
    go_upto_region 16 with (fail)
    have hcv := fun (o n cap : Nat) (hn : o + n ≤ 3) (k : Nat) => conv_lit wc [x0, x1, x2] o n cap hn k
    have HB8 : Hid (Below w.heap.size w (wc.alloc (.cells #[.int .u8 (x0.toNat : Int), .int .u8 (x1.toNat : Int), .int .u8 (x2.toNat : Int)] 5))) := Lib.hid (HBD.out.alloc HBD.out.size _)
    have hcv2 : ∀ (o n cap : Nat) (_ : o + n ≤ 3) (k : Nat), (convert 37 9 (.slice (some ⟨wc.heap.size, o, none⟩) n cap)).run Tryd.prog ((wc.alloc (.cells #[.int .u8 (x0.toNat : Int), .int .u8 (x1.toNat : Int), .int .u8 (x2.toNat : Int)] 5)).drewN k) = .ok (.string (strB (([x0, x1, x2].drop o).take n))) ((wc.alloc (.cells #[.int .u8 (x0.toNat : Int), .int .u8 (x1.toNat : Int), .int .u8 (x2.toNat : Int)] 5)).drewN k) := hcv
    obtain ⟨w8, hw8⟩ : ∃ w8, wc.alloc (.cells #[.int .u8 (x0.toNat : Int), .int .u8 (x1.toNat : Int), .int .u8 (x2.toNat : Int)] 5) = w8 := ⟨_, rfl⟩
    rw [hw8] at HB8 hcv2 ⊢
    have HCV := Lib.hid hcv2
    have HDIG := Lib.hid (fun (a b : List UInt8) (ha : ∀ x ∈ a, x ∈ [x0, x1, x2]) (hb : ∀ x ∈ b, x ∈ [x0, x1, x2]) (h3 : a.length + b.length = 3) => all_digits (a := a) (b := b) (fun x hx => HDG.out x (ha x hx)) (fun x hx => HDG.out x (hb x hx)) h3)
    have HALL := Lib.hid (fun (l2 : List UInt8) (h2 : l2.length = 4) (W : World) (hb : Below w.heap.size w W) => all_calls l2 W (by omega) (HE.out.env.below hb))
    unfold AllOut at HALL
    clear hcv hcv2 hw8 ht0 hv1 hv2 hv3 hp1 hp2 hp3 ht1 ht2 ht3 hw0 hw1 hw2 hm0 hm1 hm2
    rcases hA with hA | hA | hA | hA
    · have hs1 : ∀ k, (convert 37 9 (.slice (some ⟨wc.heap.size, 0, none⟩) 0 3)).run Tryd.prog (w8.drewN k) = .ok (.string (strB [])) (w8.drewN k) := fun k => HCV.out 0 0 3 (by decide) k
      have hs2 : ∀ k, (convert 37 9 (.slice (some ⟨wc.heap.size, 0, none⟩) 3 3)).run Tryd.prog (w8.drewN k) = .ok (.string (strB [x0, x1, x2])) (w8.drewN k) := fun k => HCV.out 0 3 3 (by decide) k
      have hdig := HDIG.out [] [x0, x1, x2] (fun x hx => List.mem_of_mem_take (l := [x0, x1, x2]) (i := 0) hx) (fun x hx => List.mem_of_mem_drop (l := [x0, x1, x2]) (i := 0) hx) rfl
      have hcat : strB ([] ++ 46 :: [x0, x1, x2]) = strB [] ++ ⟨#[46]⟩ ++ strB [x0, x1, x2] := by rw [show (⟨#[46]⟩ : ByteArray) = strB [46] from rfl, strB_app, strB_app]; rfl
      have HAL := Lib.hid (fun (W : World) (hb : Below w.heap.size w W) => HALL.out ([] ++ 46 :: [x0, x1, x2]) rfl W hb)
      rw [hdig, hcat] at HAL
      have hza := strB_size []
      have hzb := strB_size [x0, x1, x2]
      obtain ⟨sa, hsa⟩ : ∃ s, strB [] = s := ⟨_, rfl⟩
      obtain ⟨sb, hsb⟩ : ∃ s, strB [x0, x1, x2] = s := ⟨_, rfl⟩
      rw [hsa] at hs1 HAL hza
      rw [hsb] at hs2 HAL hzb
      have hza2 : sa.size = 0 := hza
      have hzb2 : sb.size = 3 := hzb
      have n3 : ¬ 9223372036854775807 < sa.size + 1 := by omega
      have n4 : ¬ 9223372036854775807 < sa.size + 1 + sb.size := by omega
      have HTX : Hid (strB ([] ++ 46 :: [x0, x1, x2]) = sa ++ ⟨#[46]⟩ ++ sb) := Lib.hid (by rw [hcat, hsa, hsb])
      clear hdig hcat hza hzb hza2 hzb2 hsa hsb HALL HDIG
      rw [hA]
      clear hA
      refine wp_region_quiet_lit (by kernel_rfl) (by kernel_rfl) (QW.out ?_)
      repeat
        (refine QW.step (fun K hK => ?_)
         go_simp
         (refine hK _ ?_; clear hK K))
      refine QW.nil ?_
      intro _ hw'
      obtain ⟨nq, hw''⟩ := hw'
      subst hw''
      have HB9 : Hid (Below w.heap.size w (w8.drewN nq)) := Lib.hid (below_drewNv HB8.out nq)
      obtain ⟨w9, hw9⟩ : ∃ w9, w8.drewN nq = w9 := ⟨_, rfl⟩
      rw [hw9] at HB9 ⊢
      have HAL9 := Lib.hid (HAL.out w9 HB9.out)
      clear hw9 HAL hs1 hs2
      go_wp2_with fail
      with_reducible refine HAL9.out.mono ?_
      rintro e w10 ⟨tv, tev, rfl, hb10, ⟨l3, hl, hin, rfl⟩ | ⟨cc, nn, hl, _⟩⟩
      case inr => cases hl
      injection hl with hl
      subst hl
      have HB10 := Lib.hid (below_then HB9.out hb10)
      have HC := Lib.hid (code_calls (B := 0) 0 0 .nilIface w10 (.inl ⟨rfl, rfl⟩) (HE.out.handle.below HB10.out))
      obtain ⟨ta, tc, rfl, htc, _⟩ := hin.form
      have hin2 : TkIn w10 (.slice ta 1 tc) [⟨8, 0, [] ++ 46 :: [x0, x1, x2]⟩] := hin
      have htc2 : 1 ≤ tc := htc
      have HIN := Lib.hid hin2
      have hlen : ([⟨8, 0, [] ++ 46 :: [x0, x1, x2]⟩] : List Tk).length = 1 := rfl
      rw [hlen]
      clear hb10 hin hin2 htc HAL9 hlen
      go_wp2_with fail
      with_reducible refine HC.out.mono ?_
      rintro e w11 ⟨rfl, hb11⟩
      have HB11 := Lib.hid (below_then HB10.out hb11)
      obtain ⟨b, o, rfl, y1, y2, y3⟩ := (HIN.out.below hb11).at (i := 0) (x := ⟨8, 0, [] ++ 46 :: [x0, x1, x2]⟩) rfl
      have y1' : w11.cell? ⟨b, o, none⟩ = some (.int .i64 8) := y1
      have y2' : w11.cell? ⟨b, o + 1, none⟩ = some (.int .i64 0) := by rw [Nat.zero_mul, Nat.add_zero] at y2; exact y2
      have y3' : w11.cell? ⟨b, o + 2, none⟩ = some (.string (sa ++ ⟨#[46]⟩ ++ sb)) := by rw [Nat.zero_mul, Nat.add_zero] at y3; rw [← HTX.out]; exact y3
      clear hb11 HC y1 y2 y3
      go_wp2_with fail
      go_ret
      exact ⟨rfl, HB11.out⟩
    · have hs1 : ∀ k, (convert 37 9 (.slice (some ⟨wc.heap.size, 0, none⟩) 1 3)).run Tryd.prog (w8.drewN k) = .ok (.string (strB [x0])) (w8.drewN k) := fun k => HCV.out 0 1 3 (by decide) k
      have hs2 : ∀ k, (convert 37 9 (.slice (some ⟨wc.heap.size, 1, none⟩) 2 2)).run Tryd.prog (w8.drewN k) = .ok (.string (strB [x1, x2])) (w8.drewN k) := fun k => HCV.out 1 2 2 (by decide) k
      have hdig := HDIG.out [x0] [x1, x2] (fun x hx => List.mem_of_mem_take (l := [x0, x1, x2]) (i := 1) hx) (fun x hx => List.mem_of_mem_drop (l := [x0, x1, x2]) (i := 1) hx) rfl
      have hcat : strB ([x0] ++ 46 :: [x1, x2]) = strB [x0] ++ ⟨#[46]⟩ ++ strB [x1, x2] := by rw [show (⟨#[46]⟩ : ByteArray) = strB [46] from rfl, strB_app, strB_app]; rfl
      have HAL := Lib.hid (fun (W : World) (hb : Below w.heap.size w W) => HALL.out ([x0] ++ 46 :: [x1, x2]) rfl W hb)
      rw [hdig, hcat] at HAL
      have hza := strB_size [x0]
      have hzb := strB_size [x1, x2]
      obtain ⟨sa, hsa⟩ : ∃ s, strB [x0] = s := ⟨_, rfl⟩
      obtain ⟨sb, hsb⟩ : ∃ s, strB [x1, x2] = s := ⟨_, rfl⟩
      rw [hsa] at hs1 HAL hza
      rw [hsb] at hs2 HAL hzb
      have hza2 : sa.size = 1 := hza
      have hzb2 : sb.size = 2 := hzb
      have n3 : ¬ 9223372036854775807 < sa.size + 1 := by omega
      have n4 : ¬ 9223372036854775807 < sa.size + 1 + sb.size := by omega
      have HTX : Hid (strB ([x0] ++ 46 :: [x1, x2]) = sa ++ ⟨#[46]⟩ ++ sb) := Lib.hid (by rw [hcat, hsa, hsb])
      clear hdig hcat hza hzb hza2 hzb2 hsa hsb HALL HDIG
      rw [hA]
      clear hA
      refine wp_region_quiet_lit (by kernel_rfl) (by kernel_rfl) (QW.out ?_)
      repeat
        (refine QW.step (fun K hK => ?_)
         go_simp
         (refine hK _ ?_; clear hK K))
      refine QW.nil ?_
      intro _ hw'
      obtain ⟨nq, hw''⟩ := hw'
      subst hw''
      have HB9 : Hid (Below w.heap.size w (w8.drewN nq)) := Lib.hid (below_drewNv HB8.out nq)
      obtain ⟨w9, hw9⟩ : ∃ w9, w8.drewN nq = w9 := ⟨_, rfl⟩
      rw [hw9] at HB9 ⊢
      have HAL9 := Lib.hid (HAL.out w9 HB9.out)
      clear hw9 HAL hs1 hs2
      go_wp2_with fail
      with_reducible refine HAL9.out.mono ?_
      rintro e w10 ⟨tv, tev, rfl, hb10, ⟨l3, hl, hin, rfl⟩ | ⟨cc, nn, hl, _⟩⟩
      case inr => cases hl
      injection hl with hl
      subst hl
      have HB10 := Lib.hid (below_then HB9.out hb10)
      have HC := Lib.hid (code_calls (B := 0) 0 0 .nilIface w10 (.inl ⟨rfl, rfl⟩) (HE.out.handle.below HB10.out))
      obtain ⟨ta, tc, rfl, htc, _⟩ := hin.form
      have hin2 : TkIn w10 (.slice ta 1 tc) [⟨8, 0, [x0] ++ 46 :: [x1, x2]⟩] := hin
      have htc2 : 1 ≤ tc := htc
      have HIN := Lib.hid hin2
      have hlen : ([⟨8, 0, [x0] ++ 46 :: [x1, x2]⟩] : List Tk).length = 1 := rfl
      rw [hlen]
      clear hb10 hin hin2 htc HAL9 hlen
      go_wp2_with fail
      with_reducible refine HC.out.mono ?_
      rintro e w11 ⟨rfl, hb11⟩
      have HB11 := Lib.hid (below_then HB10.out hb11)
      obtain ⟨b, o, rfl, y1, y2, y3⟩ := (HIN.out.below hb11).at (i := 0) (x := ⟨8, 0, [x0] ++ 46 :: [x1, x2]⟩) rfl
      have y1' : w11.cell? ⟨b, o, none⟩ = some (.int .i64 8) := y1
      have y2' : w11.cell? ⟨b, o + 1, none⟩ = some (.int .i64 0) := by rw [Nat.zero_mul, Nat.add_zero] at y2; exact y2
      have y3' : w11.cell? ⟨b, o + 2, none⟩ = some (.string (sa ++ ⟨#[46]⟩ ++ sb)) := by rw [Nat.zero_mul, Nat.add_zero] at y3; rw [← HTX.out]; exact y3
      clear hb11 HC y1 y2 y3
      go_wp2_with fail
      go_ret
      exact ⟨rfl, HB11.out⟩
    · have hs1 : ∀ k, (convert 37 9 (.slice (some ⟨wc.heap.size, 0, none⟩) 2 3)).run Tryd.prog (w8.drewN k) = .ok (.string (strB [x0, x1])) (w8.drewN k) := fun k => HCV.out 0 2 3 (by decide) k
      have hs2 : ∀ k, (convert 37 9 (.slice (some ⟨wc.heap.size, 2, none⟩) 1 1)).run Tryd.prog (w8.drewN k) = .ok (.string (strB [x2])) (w8.drewN k) := fun k => HCV.out 2 1 1 (by decide) k
      have hdig := HDIG.out [x0, x1] [x2] (fun x hx => List.mem_of_mem_take (l := [x0, x1, x2]) (i := 2) hx) (fun x hx => List.mem_of_mem_drop (l := [x0, x1, x2]) (i := 2) hx) rfl
      have hcat : strB ([x0, x1] ++ 46 :: [x2]) = strB [x0, x1] ++ ⟨#[46]⟩ ++ strB [x2] := by rw [show (⟨#[46]⟩ : ByteArray) = strB [46] from rfl, strB_app, strB_app]; rfl
      have HAL := Lib.hid (fun (W : World) (hb : Below w.heap.size w W) => HALL.out ([x0, x1] ++ 46 :: [x2]) rfl W hb)
      rw [hdig, hcat] at HAL
      have hza := strB_size [x0, x1]
      have hzb := strB_size [x2]
      obtain ⟨sa, hsa⟩ : ∃ s, strB [x0, x1] = s := ⟨_, rfl⟩
      obtain ⟨sb, hsb⟩ : ∃ s, strB [x2] = s := ⟨_, rfl⟩
      rw [hsa] at hs1 HAL hza
      rw [hsb] at hs2 HAL hzb
      have hza2 : sa.size = 2 := hza
      have hzb2 : sb.size = 1 := hzb
      have n3 : ¬ 9223372036854775807 < sa.size + 1 := by omega
      have n4 : ¬ 9223372036854775807 < sa.size + 1 + sb.size := by omega
      have HTX : Hid (strB ([x0, x1] ++ 46 :: [x2]) = sa ++ ⟨#[46]⟩ ++ sb) := Lib.hid (by rw [hcat, hsa, hsb])
      clear hdig hcat hza hzb hza2 hzb2 hsa hsb HALL HDIG
      rw [hA]
      clear hA
      refine wp_region_quiet_lit (by kernel_rfl) (by kernel_rfl) (QW.out ?_)
      repeat
        (refine QW.step (fun K hK => ?_)
         go_simp
         (refine hK _ ?_; clear hK K))
      refine QW.nil ?_
      intro _ hw'
      obtain ⟨nq, hw''⟩ := hw'
      subst hw''
      have HB9 : Hid (Below w.heap.size w (w8.drewN nq)) := Lib.hid (below_drewNv HB8.out nq)
      obtain ⟨w9, hw9⟩ : ∃ w9, w8.drewN nq = w9 := ⟨_, rfl⟩
      rw [hw9] at HB9 ⊢
      have HAL9 := Lib.hid (HAL.out w9 HB9.out)
      clear hw9 HAL hs1 hs2
      go_wp2_with fail
      with_reducible refine HAL9.out.mono ?_
      rintro e w10 ⟨tv, tev, rfl, hb10, ⟨l3, hl, hin, rfl⟩ | ⟨cc, nn, hl, _⟩⟩
      case inr => cases hl
      injection hl with hl
      subst hl
      have HB10 := Lib.hid (below_then HB9.out hb10)
      have HC := Lib.hid (code_calls (B := 0) 0 0 .nilIface w10 (.inl ⟨rfl, rfl⟩) (HE.out.handle.below HB10.out))
      obtain ⟨ta, tc, rfl, htc, _⟩ := hin.form
      have hin2 : TkIn w10 (.slice ta 1 tc) [⟨8, 0, [x0, x1] ++ 46 :: [x2]⟩] := hin
      have htc2 : 1 ≤ tc := htc
      have HIN := Lib.hid hin2
      have hlen : ([⟨8, 0, [x0, x1] ++ 46 :: [x2]⟩] : List Tk).length = 1 := rfl
      rw [hlen]
      clear hb10 hin hin2 htc HAL9 hlen
      go_wp2_with fail
      with_reducible refine HC.out.mono ?_
      rintro e w11 ⟨rfl, hb11⟩
      have HB11 := Lib.hid (below_then HB10.out hb11)
      obtain ⟨b, o, rfl, y1, y2, y3⟩ := (HIN.out.below hb11).at (i := 0) (x := ⟨8, 0, [x0, x1] ++ 46 :: [x2]⟩) rfl
      have y1' : w11.cell? ⟨b, o, none⟩ = some (.int .i64 8) := y1
      have y2' : w11.cell? ⟨b, o + 1, none⟩ = some (.int .i64 0) := by rw [Nat.zero_mul, Nat.add_zero] at y2; exact y2
      have y3' : w11.cell? ⟨b, o + 2, none⟩ = some (.string (sa ++ ⟨#[46]⟩ ++ sb)) := by rw [Nat.zero_mul, Nat.add_zero] at y3; rw [← HTX.out]; exact y3
      clear hb11 HC y1 y2 y3
      go_wp2_with fail
      go_ret
      exact ⟨rfl, HB11.out⟩
    · have hs1 : ∀ k, (convert 37 9 (.slice (some ⟨wc.heap.size, 0, none⟩) 3 3)).run Tryd.prog (w8.drewN k) = .ok (.string (strB [x0, x1, x2])) (w8.drewN k) := fun k => HCV.out 0 3 3 (by decide) k
      have hs2 : ∀ k, (convert 37 9 (.slice (some ⟨wc.heap.size, 0, none⟩) 0 0)).run Tryd.prog (w8.drewN k) = .ok (.string (strB [])) (w8.drewN k) := fun k => HCV.out 0 0 0 (by decide) k
      have hdig := HDIG.out [x0, x1, x2] [] (fun x hx => List.mem_of_mem_take (l := [x0, x1, x2]) (i := 3) hx) (fun x hx => List.mem_of_mem_drop (l := [x0, x1, x2]) (i := 3) hx) rfl
      have hcat : strB ([x0, x1, x2] ++ 46 :: []) = strB [x0, x1, x2] ++ ⟨#[46]⟩ ++ strB [] := by rw [show (⟨#[46]⟩ : ByteArray) = strB [46] from rfl, strB_app, strB_app]; rfl
      have HAL := Lib.hid (fun (W : World) (hb : Below w.heap.size w W) => HALL.out ([x0, x1, x2] ++ 46 :: []) rfl W hb)
      rw [hdig, hcat] at HAL
      have hza := strB_size [x0, x1, x2]
      have hzb := strB_size []
      obtain ⟨sa, hsa⟩ : ∃ s, strB [x0, x1, x2] = s := ⟨_, rfl⟩
      obtain ⟨sb, hsb⟩ : ∃ s, strB [] = s := ⟨_, rfl⟩
      rw [hsa] at hs1 HAL hza
      rw [hsb] at hs2 HAL hzb
      have hza2 : sa.size = 3 := hza
      have hzb2 : sb.size = 0 := hzb
      have n3 : ¬ 9223372036854775807 < sa.size + 1 := by omega
      have n4 : ¬ 9223372036854775807 < sa.size + 1 + sb.size := by omega
      have HTX : Hid (strB ([x0, x1, x2] ++ 46 :: []) = sa ++ ⟨#[46]⟩ ++ sb) := Lib.hid (by rw [hcat, hsa, hsb])
      clear hdig hcat hza hzb hza2 hzb2 hsa hsb HALL HDIG
      rw [hA]
      clear hA
      refine wp_region_quiet_lit (by kernel_rfl) (by kernel_rfl) (QW.out ?_)
      repeat
        (refine QW.step (fun K hK => ?_)
         go_simp
         (refine hK _ ?_; clear hK K))
      refine QW.nil ?_
      intro _ hw'
      obtain ⟨nq, hw''⟩ := hw'
      subst hw''
      have HB9 : Hid (Below w.heap.size w (w8.drewN nq)) := Lib.hid (below_drewNv HB8.out nq)
      obtain ⟨w9, hw9⟩ : ∃ w9, w8.drewN nq = w9 := ⟨_, rfl⟩
      rw [hw9] at HB9 ⊢
      have HAL9 := Lib.hid (HAL.out w9 HB9.out)
      clear hw9 HAL hs1 hs2
      go_wp2_with fail
      with_reducible refine HAL9.out.mono ?_
      rintro e w10 ⟨tv, tev, rfl, hb10, ⟨l3, hl, hin, rfl⟩ | ⟨cc, nn, hl, _⟩⟩
      case inr => cases hl
      injection hl with hl
      subst hl
      have HB10 := Lib.hid (below_then HB9.out hb10)
      have HC := Lib.hid (code_calls (B := 0) 0 0 .nilIface w10 (.inl ⟨rfl, rfl⟩) (HE.out.handle.below HB10.out))
      obtain ⟨ta, tc, rfl, htc, _⟩ := hin.form
      have hin2 : TkIn w10 (.slice ta 1 tc) [⟨8, 0, [x0, x1, x2] ++ 46 :: []⟩] := hin
      have htc2 : 1 ≤ tc := htc
      have HIN := Lib.hid hin2
      have hlen : ([⟨8, 0, [x0, x1, x2] ++ 46 :: []⟩] : List Tk).length = 1 := rfl
      rw [hlen]
      clear hb10 hin hin2 htc HAL9 hlen
      go_wp2_with fail
      with_reducible refine HC.out.mono ?_
      rintro e w11 ⟨rfl, hb11⟩
      have HB11 := Lib.hid (below_then HB10.out hb11)
      obtain ⟨b, o, rfl, y1, y2, y3⟩ := (HIN.out.below hb11).at (i := 0) (x := ⟨8, 0, [x0, x1, x2] ++ 46 :: []⟩) rfl
      have y1' : w11.cell? ⟨b, o, none⟩ = some (.int .i64 8) := y1
      have y2' : w11.cell? ⟨b, o + 1, none⟩ = some (.int .i64 0) := by rw [Nat.zero_mul, Nat.add_zero] at y2; exact y2
      have y3' : w11.cell? ⟨b, o + 2, none⟩ = some (.string (sa ++ ⟨#[46]⟩ ++ sb)) := by rw [Nat.zero_mul, Nat.add_zero] at y3; rw [← HTX.out]; exact y3
      clear hb11 HC y1 y2 y3
      go_wp2_with fail
      go_ret
      exact ⟨rfl, HB11.out⟩
end Go.Proofs.YtkpgbcackphdbaaDoor
