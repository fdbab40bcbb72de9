/-
  The walk of the law CrcTurned at every slice of bytes, every place and all bits that are turned. No condition.
-/
import Derived.Test.YtmjadapdajbmmaaLawOn
namespace Go.Proofs.Ytmjadapdajbmmaa
open Go.RowKit Go.Lib
theorem own_form {w : World} {B : Nat} {v : Value} {n : Nat} {xs : List Value} (h : w.ownsRow B 5 1 v n xs) (hn : 0 < n) : ∃ g cap, v = .slice (some ⟨g, 0, none⟩) n cap ∧ n ≤ cap ∧ B ≤ g := by
  rcases h.2 with ⟨_, h0⟩ | ⟨g, cap, _, hv, hb, _, hc, _⟩
  · omega
  · exact ⟨g, cap, hv, hc, hb⟩
theorem turn_value {d : Nat} (h : d < 256) (k : Nat) : bits .xor .u8 (d : Int) ((2 : Int) ^ (k % 8) % (256 : Int)) = ((d ^^^ 2 ^ (k % 8) : Nat) : Int) := by
  have hk : (2 : Nat) ^ (k % 8) < 256 := Nat.lt_of_lt_of_le (Nat.pow_lt_pow_right (m := k % 8) (n := 8) (by decide) (by omega)) (by decide)
  have hall : ∀ r : Fin 8, (2 : Int) ^ r.val % (256 : Int) = ((2 ^ r.val : Nat) : Int) := by decide
  have e := hall ⟨k % 8, Nat.mod_lt _ (by decide)⟩
  simp only at e
  rw [e, u8_xor_nat _ _ h hk]

theorem turn_cells {lc : List Nat} {p d : Nat} (h : lc[p / 8]? = some d) : (cellsN lc).set (p / 8) (.int .u8 ((d ^^^ 2 ^ (p % 8) : Nat) : Int)) = cellsN (turnAt lc p) := by
  unfold turnAt cellsN
  rw [List.getD_eq_getElem?_getD, h, Option.getD_some, List.map_set]

set_option maxRecDepth 100000 in
set_option maxHeartbeats 1000000 in
theorem law_turned (a : Option Addr) (l : List Nat) (n c : Nat) (pl bits : Int) (w : World) (hr : Row w a l) (hn : l.length = n) (hc : a = none → c = 0) (hp0 : 0 ≤ pl) (hp1 : pl < 65536) (hb0 : 0 ≤ bits) (hb1 : bits < 4294967296) :
    Calls Try.prog 5 #[.slice a n c, .agg #[.int .u16 pl, .int .u32 bits]] w (Leaves (.bool true) w) := by
  have HR := Lib.hid hr
  have HC := Lib.hid hc
  have hbt : Below w.heap.size w (w.alloc (.cells #[.int .u16 pl, .int .u32 bits] 31)) := (Below.refl _ _).alloc (Nat.le_refl _) _
  have hc0 : (w.alloc (.cells #[.int .u16 pl, .int .u32 bits] 31)).cell? ⟨w.heap.size, 0, none⟩ = some (.int .u16 pl) := World.cell?_alloc_mark w #[.int .u16 pl, .int .u32 bits] 31 (0, 0) 0
  have hc1 : (w.alloc (.cells #[.int .u16 pl, .int .u32 bits] 31)).cell? ⟨w.heap.size, 1, none⟩ = some (.int .u32 bits) := World.cell?_alloc_mark w #[.int .u16 pl, .int .u32 bits] 31 (0, 0) 1
  have HB0 := Lib.hid hbt
  have HC0 := Lib.hid hc0
  have HC1 := Lib.hid hc1
  clear hr hc hbt hc0 hc1
  go_enter Try.func5, Try.ntmps5
  go_wp2_with fail
  refine (awake_calls _).mono ?_
  rintro e w1 ⟨rfl, hb1'⟩
  have hcb := cell_below hb1' HC1.out
  have hca := cell_below hb1' HC0.out
  have HB1 := Lib.hid (below_then HB0.out hb1')
  clear hb1' HC0 HC1 HB0
  by_cases h0 : n = 0
  · have hd0 : ((n : Int) == 0) = true := by rw [beq_iff_eq]; omega
    go_wp2
    go_ret
    exact ⟨rfl, HB1.out⟩
  have hd0 : ((n : Int) == 0) = false := by rw [beq_eq_false_iff_ne]; omega
  by_cases hbig : 8192 < n
  · have hd : decide ((n : Int) > 8192) = true := by simp; omega
    go_wp2
    go_ret
    exact ⟨rfl, HB1.out⟩
  have hd : decide ((n : Int) > 8192) = false := by simp; omega
  by_cases hz : bits = 0
  · have hdz : (bits == 0) = true := by rw [beq_iff_eq]; exact hz
    go_wp2
    go_ret
    exact ⟨rfl, HB1.out⟩
  have hdz : (bits == 0) = false := by rw [beq_eq_false_iff_ne]; exact hz
  have hb2 : Below w.heap.size w (w1.alloc (.cells #[] 5)) := HB1.out.alloc HB1.out.size _
  have HR2 := Lib.hid (HR.out.below hb2)
  have HB2 := Lib.hid hb2
  have hz1 : w.heap.size ≤ w1.heap.size := HB1.out.size
  have hblk : w.heap.size < w1.heap.size := lt_of_cell hcb
  clear hb2
  go_wp2_with (at_builtin; refine append_row rfl (.tmp 24) (.tmp 25) rfl w1.heap.size _ 0 [] rfl (own_empty w1) a n c l rfl hn HR2.out HC.out (by omega) (by simp) ?_)
  intro v2 w2 hown2 hb3
  have hlow : Below w1.heap.size w1 w2 := ((Below.refl _ _).alloc (Nat.le_refl _) _).trans hb3
  have hcb2 := cell_below hlow hcb
  have hca2 := cell_below hlow hca
  obtain ⟨g0, cap, rfl, hcapn, hgl⟩ := own_form hown2 (by omega)
  have HL := Lib.hid hlow
  have HO := Lib.hid hown2
  clear hlow hown2 hcb hca hb3 HR2 HB2
  have hmod0 : 0 ≤ pl % (8 * (n : Int)) := Int.emod_nonneg _ (by omega)
  have hmod1 : pl % (8 * (n : Int)) < 8 * (n : Int) := Int.emod_lt_of_pos _ (by omega)
  have hT0 : Hid (Turned l (pl % (8 * (n : Int))).toNat 0 l false) := Lib.hid (Turned.start HR.out.1 _)
  go_wp2
  obtain ⟨A, hA⟩ : ∃ A : Nat, pl % (8 * (n : Int)) = (A : Int) := ⟨(pl % (8 * (n : Int))).toNat, by omega⟩
  rw [hA] at hmod0 hmod1 hT0 ⊢
  rw [Int.toNat_natCast] at hT0
  have hA8 : A < 8 * n := by omega
  have hgb : w.heap.size < g0 := by have := lt_of_cell hcb2; have := hblk; omega
  clear hA hmod0 hmod1 hca2
  have HCB := Lib.hid hcb2
  clear hcb2
  go_loopg [7, 8] 32 (fun g v u wr => ∃ (i : Nat) (sm : Bool) (lc : List Nat), v = .bool sm ∧ u = .int .i64 i ∧ g + i = 32 ∧ Turned l A i lc sm ∧ wr.ownsRow w1.heap.size 5 1 (.slice (some ⟨g0, 0, none⟩) n cap) n (cellsN lc) ∧ Below w1.heap.size w1 wr ∧ wr.cell? ⟨w.heap.size, 1, none⟩ = some (.int .u32 bits))
  case atStart => exact ⟨0, false, l, rfl, rfl, rfl, hT0.out, HO.out, HL.out, HCB.out⟩
  case round =>
    obtain ⟨i, sm, lc, rfl, rfl, hg, ht, ho, hl, hcb⟩ := hrel
    have HG := Lib.hid hg
    have HT := Lib.hid ht
    have HL2 := Lib.hid hl
    clear hg ht hl HCB HO HL hT0
    by_cases hi : i < 32
    · have hd1 : decide ((i : Int) < 32) = true := by simp; omega
      by_cases hn8 : A + i < 8 * n
      · have hd2 : decide ((A : Int) + (i : Int) < 8 * (n : Int)) = true := by simp; omega
        cases hbit : ((bits / 2 ^ i).tmod 2 == 1) with
        | true =>
          have hlen : lc.length = n := HT.out.long.trans hn
          have hq : lc[(A + i) / 8]? = some (lc[(A + i) / 8]'(by omega)) := List.getElem?_eq_getElem (by omega)
          have hlt : lc[(A + i) / 8]'(by omega) < 256 := HT.out.byte _ (List.getElem_mem _)
          obtain ⟨d, hdd⟩ : ∃ d, lc[(A + i) / 8]'(by omega) = d := ⟨_, rfl⟩
          rw [hdd] at hq hlt
          have hcell : wr.cell? ⟨g0, (A + i) / 8, none⟩ = some (.int .u8 (d : Int)) := by
            rw [ho.cellAt _ (by omega), cellsN, List.getElem?_map, hq]
            rfl
          have hfr := ho.frozenAt ((A + i) / 8)
          have hd0 : (0 : Int) ≤ (d : Int) := by omega
          have hd1 : (d : Int) < 256 := by omega
          obtain ⟨D, hD⟩ : ∃ D : Int, (d : Int) = D := ⟨_, rfl⟩
          rw [hD] at hcell hd0 hd1
          have HD := Lib.hid hD
          have HQ := Lib.hid hq
          have HLT := Lib.hid hlt
          have HOW := Lib.hid ho
          clear hdd hq hlt hD ho
          have hcb2 : (wr.setCell ⟨g0, (A + i) / 8, none⟩ (.int .u8 (Go.bits .xor .u8 D (2 ^ ((A + i) % 8) % 256)))).cell? ⟨w.heap.size, 1, none⟩ = some (.int .u32 bits) :=
            (World.cell?_of_block (Below.heap_setCell wr _ _ _ (by show w.heap.size ≠ g0; have := lt_of_cell hcell; have := hgb; omega))).trans hcb
          have hst := (HOW.out.stored ((A + i) / 8) (.int .u8 ((d ^^^ 2 ^ ((A + i) % 8) : Nat) : Int))).1
          rw [turn_cells HQ.out, ← turn_value HLT.out, HD.out] at hst
          have HST := Lib.hid hst
          have HCB2 := Lib.hid hcb2
          clear hst hcb2
          go_wp2
          go_roundg (gk - 1)
          case measure => have := HG.out; omega
          case rel => exact ⟨i + 1, true, turnAt lc (A + i), rfl, by go_num, by have := HG.out; omega, HT.out.turn hi (by omega), HST.out, HL2.out.setCell hgl _, HCB2.out⟩
        | false =>
          go_wp2
          go_roundg (gk - 1)
          case measure => have := HG.out; omega
          case rel => exact ⟨i + 1, sm, lc, rfl, by go_num, by have := HG.out; omega, HT.out.keep, ho, HL2.out, hcb⟩
      · have hd2 : decide ((A : Int) + (i : Int) < 8 * (n : Int)) = false := by simp; omega
        have low : Hid (Below w.heap.size w wr) := Lib.hid (HB1.out.trans (HL2.out.mono hz1))
        clear hcb
        cases sm with
        | false =>
          go_wp2
          go_ret
          exact ⟨rfl, low.out⟩
        | true =>
          have hne := HT.out.sums
          have hlen : lc.length = n := HT.out.long.trans hn
          obtain ⟨a5, c5, hv5, hr5, _⟩ := row_of_own HT.out.byte hlen ho
          simp only [Value.slice.injEq] at hv5
          obtain ⟨rfl, _, rfl⟩ := hv5
          have HR5 := Lib.hid hr5
          have hnd : Hid ((uv (sumB lc) != uv (sumB l)) = true) := Lib.hid (by rw [bne_iff_ne]; exact fun h => hne (uv_inj h))
          obtain ⟨s1, hs1⟩ : ∃ s1, uv (sumB lc) = s1 := ⟨_, rfl⟩
          obtain ⟨s2, hs2⟩ : ∃ s2, uv (sumB l) = s2 := ⟨_, rfl⟩
          rw [hs1, hs2] at hnd
          have HS1 := Lib.hid hs1
          have HS2 := Lib.hid hs2
          have hnn : (s1 != s2) = true := hnd.out
          clear hne hs1 hs2 hr5 ho hnd
          go_wp2_with fail
          refine (sum_calls _ lc n cap wr HR5.out hlen (by omega)).mono ?_
          rintro e w6 ⟨rfl, hb6⟩
          have HB6 := Lib.hid (below_then low.out hb6)
          clear hb6
          rw [HS1.out]
          go_wp2_with fail
          refine (sum_calls a l n c w6 (HR.out.below HB6.out) hn (by omega)).mono ?_
          rintro e w7 ⟨rfl, hb7⟩
          have HB7 := Lib.hid (below_then HB6.out hb7)
          clear hb7
          rw [HS2.out]
          go_wp2
          go_ret
          exact ⟨rfl, HB7.out⟩
    · have hd1 : decide ((i : Int) < 32) = false := by simp; omega
      have low : Hid (Below w.heap.size w wr) := Lib.hid (HB1.out.trans (HL2.out.mono hz1))
      clear hcb
      cases sm with
      | false =>
        go_wp2
        go_ret
        exact ⟨rfl, low.out⟩
      | true =>
        have hne := HT.out.sums
        have hlen : lc.length = n := HT.out.long.trans hn
        obtain ⟨a5, c5, hv5, hr5, _⟩ := row_of_own HT.out.byte hlen ho
        simp only [Value.slice.injEq] at hv5
        obtain ⟨rfl, _, rfl⟩ := hv5
        have HR5 := Lib.hid hr5
        have hnd : Hid ((uv (sumB lc) != uv (sumB l)) = true) := Lib.hid (by rw [bne_iff_ne]; exact fun h => hne (uv_inj h))
        obtain ⟨s1, hs1⟩ : ∃ s1, uv (sumB lc) = s1 := ⟨_, rfl⟩
        obtain ⟨s2, hs2⟩ : ∃ s2, uv (sumB l) = s2 := ⟨_, rfl⟩
        rw [hs1, hs2] at hnd
        have HS1 := Lib.hid hs1
        have HS2 := Lib.hid hs2
        have hnn : (s1 != s2) = true := hnd.out
        clear hne hs1 hs2 hr5 ho hnd
        go_wp2_with fail
        refine (sum_calls _ lc n cap wr HR5.out hlen (by omega)).mono ?_
        rintro e w6 ⟨rfl, hb6⟩
        have HB6 := Lib.hid (below_then low.out hb6)
        clear hb6
        rw [HS1.out]
        go_wp2_with fail
        refine (sum_calls a l n c w6 (HR.out.below HB6.out) hn (by omega)).mono ?_
        rintro e w7 ⟨rfl, hb7⟩
        have HB7 := Lib.hid (below_then HB6.out hb7)
        clear hb7
        rw [HS2.out]
        go_wp2
        go_ret
        exact ⟨rfl, HB7.out⟩

end Go.Proofs.Ytmjadapdajbmmaa
