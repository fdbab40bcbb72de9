/-
  The walk of the law FrameTurned at every slice of bytes, every place and all bits that are turned. No condition.
-/
import Derived.Test.YtoceknldlhmnoaaAwake
namespace Go.Proofs.Ytoceknldlhmnoaa
open Go.RowKit Go.Lib

theorem own_form {w : World} {B : Nat} {v : Value} {n : Nat} {xs : List Value} (h : w.ownsRow B 5 1 v n xs) (hn : 0 < n) : ∃ g cap, v = .slice (some ⟨g, 0, none⟩) n cap ∧ n ≤ cap ∧ cap ≤ maxLen := by
  rcases h.2 with ⟨_, h0⟩ | ⟨g, cap, _, hv, hb, _, hc, hm, _⟩
  · omega
  · exact ⟨g, cap, hv, hc, hm⟩
theorem turn_value {d : Nat} (h : d < 256) (k : Nat) : bits .xor .u8 (d : Int) ((2 : Int) ^ (k % 8) % (256 : Int)) = ((d ^^^ 2 ^ (k % 8) : Nat) : Int) := by
  have hk : (2 : Nat) ^ (k % 8) < 256 := Nat.lt_of_lt_of_le (Nat.pow_lt_pow_right (m := k % 8) (n := 8) (by decide) (by omega)) (by decide)
  have hall : ∀ r : Fin 8, (2 : Int) ^ r.val % (256 : Int) = ((2 ^ r.val : Nat) : Int) := by decide
  have e := hall ⟨k % 8, Nat.mod_lt _ (by decide)⟩
  simp only at e
  rw [e, u8_xor_nat _ _ h hk]

theorem turn_cells {lc : List Nat} {p d : Nat} (h : lc[p / 8]? = some d) : (cellsN lc).set (p / 8) (.int .u8 ((d ^^^ 2 ^ (p % 8) : Nat) : Int)) = cellsN (turnAt lc p) := by
  unfold turnAt cellsN
  rw [List.getD_eq_getElem?_getD, h, Option.getD_some, List.map_set]

/-- A bit behind eight bytes. -/
theorem turn_behind (hd lc : List Nat) (h8 : hd.length = 8) (p : Nat) : turnAt (hd ++ lc) (64 + p) = hd ++ turnAt lc p := by
  unfold turnAt
  have e1 : (64 + p) / 8 = hd.length + p / 8 := by omega
  have e2 : (64 + p) % 8 = p % 8 := by omega
  rw [e1, e2, List.set_append_right _ _ (by omega), Nat.add_sub_cancel_left, List.getD_eq_getElem?_getD, List.getD_eq_getElem?_getD, List.getElem?_append_right (by omega), Nat.add_sub_cancel_left]

/-- A frame's bytes ahead of the record. -/
def hdr (l : List Nat) : List Nat := w32 l.length ++ w32 (sumN (w32 l.length) l)
theorem hdr_len (l : List Nat) : (hdr l).length = 8 := rfl
theorem hdr_byts (l : List Nat) : Byts (hdr l) := (w32_byts _).app (w32_byts _)
theorem frm_hdr (l : List Nat) : frm l = hdr l ++ l := by
  unfold frm hdr
  rw [List.append_assoc]
/-- A frame of which the record has another sum. -/
theorem turned_corrupt {l lc : List Nat} (h1 : 1 ≤ l.length) (h2 : l.length ≤ 1048576) (hl : lc.length = l.length) (hs : ∀ s, onB s lc ≠ onB s l) : standsB (hdr l ++ lc) = 4 := by
  have hg : get32 (hdr l ++ lc) = l.length := by
    unfold hdr
    rw [List.append_assoc]
    exact get_w32 (by omega) _
  have hlen : (hdr l ++ lc).length = 8 + l.length := by rw [List.length_append, hdr_len, hl]
  have hrec : recB (hdr l ++ lc) = lc := by
    unfold recB
    rw [hg, ← hl]
    show List.take lc.length lc = lc
    exact List.take_length
  have htk : (hdr l ++ lc).take 4 = w32 l.length := rfl
  have hdr' : get32 ((hdr l ++ lc).drop 4) = sumN (w32 l.length) l := by
    show get32 (w32 (sumN (w32 l.length) l) ++ lc) = _
    exact get_w32 (sumN_lt _ _) _
  unfold standsB
  rw [hlen, hg, if_neg (by omega), if_neg (by omega), if_neg (by omega), if_neg (by omega), hdr', hrec, htk, if_pos (fun h => hs (sumB (w32 l.length)) (BitVec.eq_of_toNat_eq h.symm))]

set_option maxRecDepth 100000 in
set_option maxHeartbeats 4000000 in
theorem law_turned {S : Nat → Prop} (a : Option Addr) (l : List Nat) (n c : Nat) (pl bt : Int) (w : World) (hr : Row w S a l) (hn : l.length = n) (hnil : a = none → c = 0) (hc : n ≤ c) (hc2 : c ≤ maxLen) (hp0 : 0 ≤ pl) (hp1 : pl < 65536) (_hb0 : 0 ≤ bt) (_hb1 : bt < 4294967296) :
    Calls Try.prog 6 #[.slice a n c, .int .u16 pl, .int .u32 bt] w (Leaves (.bool true) w) := by
  have HR := Lib.hid hr
  have HN := Lib.hid hn
  have HPUT := Lib.hid (fun W (h : Row W S a l) => fun hm => put_calls a l n c W h hn hm hnil hc hc2)
  clear hr hnil hc hc2 hn
  go_enter Try.func6, Try.ntmps6
  go_wp2_with fail
  refine (awake_calls _).mono ?_
  rintro e w1 ⟨rfl, hb1'⟩
  have HB1 := Lib.hid hb1'
  clear hb1'
  by_cases h0 : n < 1
  · have hd0 : decide ((n : Int) < 1) = true := by simp; omega
    go_wp2
    go_ret
    exact ⟨rfl, HB1.out⟩
  have hd0 : decide ((n : Int) < 1) = false := by simp; omega
  by_cases hbig : 4096 < n
  · have hd : decide ((n : Int) > 4096) = true := by simp; omega
    go_wp2
    go_ret
    exact ⟨rfl, HB1.out⟩
  have hd : decide ((n : Int) > 4096) = false := by simp; omega
  by_cases hz : bt = 0
  · have hdz : (bt == 0) = true := by rw [beq_iff_eq]; exact hz
    go_wp2
    go_ret
    exact ⟨rfl, HB1.out⟩
  have hdz : (bt == 0) = false := by rw [beq_eq_false_iff_ne]; exact hz
  have hpb : putB l = hdr l ++ l := by
    unfold putB
    rw [if_pos (by rw [HN.out]; omega), frm_hdr]
  have hlen0 : (hdr l ++ l).length = 8 + n := by rw [List.length_append, hdr_len, HN.out]
  have HP2 := Lib.hid (HPUT.out w1 (HR.out.below HB1.out) (by omega))
  rw [hpb] at HP2
  clear HPUT hpb
  go_wp2_with fail
  refine HP2.out.mono ?_
  rintro e w2 ⟨v2, rfl, hown2⟩
  have hrow2 := hown2.row
  rw [hlen0] at hrow2
  obtain ⟨g0, cap, rfl, hcapn, hcapm⟩ := own_form hrow2 (by omega)
  have hgl : w.heap.size ≤ g0 := Nat.le_trans HB1.out.size (hown2.new g0 rfl)
  have HL := Lib.hid (below_then HB1.out hown2.bel)
  have HO := Lib.hid hrow2
  clear hown2 hrow2 HP2 hlen0
  have hmod0 : 0 ≤ pl % (8 * (n : Int)) := Int.emod_nonneg _ (by omega)
  have hmod1 : pl % (8 * (n : Int)) < 8 * (n : Int) := Int.emod_lt_of_pos _ (by omega)
  obtain ⟨A, hA⟩ : ∃ A : Nat, pl % (8 * (n : Int)) = (A : Int) := ⟨(pl % (8 * (n : Int))).toNat, by omega⟩
  have hA8 : A < 8 * n := by omega
  have hT0 : Hid (Turned l A 0 l false) := Lib.hid (Turned.start HR.out.1 _)
  go_wp2
  rw [hA]
  obtain ⟨P, hP⟩ : ∃ P : Nat, (64 : Int) + (A : Int) = (P : Int) := ⟨64 + A, by omega⟩
  rw [hP]
  have HPA : Hid (P = 64 + A) := Lib.hid (by omega)
  have hPB : P < 64 + 8 * n := by omega
  clear hA hmod0 hmod1 hP
  go_loopg [9, 10] 32 (fun g v u wr => ∃ (i : Nat) (sm : Bool) (lc : List Nat), v = .bool sm ∧ u = .int .i64 i ∧ g + i = 32 ∧ Turned l A i lc sm ∧ (sm = false → lc = l) ∧ wr.ownsRow 0 5 1 (.slice (some ⟨g0, 0, none⟩) (8 + n) cap) (8 + n) (cellsN (hdr l ++ lc)) ∧ Below w.heap.size w wr)
  case atStart => exact ⟨0, false, l, rfl, rfl, rfl, hT0.out, fun _ => rfl, HO.out, HL.out⟩
  case round =>
    obtain ⟨i, sm, lc, rfl, rfl, hg, ht, hsame, ho, hl⟩ := hrel
    have HG := Lib.hid hg
    have HT := Lib.hid ht
    have HSM := Lib.hid hsame
    have HL2 := Lib.hid hl
    have hlc : lc.length = n := ht.long.trans HN.out
    clear hg ht hl HO HL hT0 hsame
    have HSTOP : Hid (Calls Try.prog 11 #[.slice (some ⟨g0, 0, none⟩) (8 + n) cap] wr (NextOut (hdr l ++ lc) wr)) := Lib.hid (next_calls (S := fun k => k = g0) _ (hdr l ++ lc) (8 + n) cap wr ⟨(hdr_byts l).app HT.out.byte, .inr ⟨g0, 0, rfl, rfl, fun j x hx => by
      have := ho.cells (g := g0) rfl j (.int .u8 (x : Int)) (by rw [cellsN, List.getElem?_map, hx]; rfl)
      rwa [Addr.add_mid] at this⟩⟩ (by rw [List.length_append, hdr_len, hlc]) (by omega) hcapn hcapm)
    have HS1 : Hid (sm = false → standsB (hdr l ++ lc) = 1) := Lib.hid (fun h => by
      rw [HSM.out h, ← frm_hdr]
      have := (frm_first l [] (by rw [HN.out]; omega) (by rw [HN.out]; omega)).1
      rwa [List.append_nil] at this)
    have HS4 : Hid (sm = true → standsB (hdr l ++ lc) = 4) := Lib.hid (fun h => by
      have ht := HT.out
      rw [h] at ht
      exact turned_corrupt (by rw [HN.out]; omega) (by rw [HN.out]; omega) (by rw [hlc, HN.out]) (fun s => ht.ons s))
    by_cases hi : i < 32
    · have hd1 : decide ((i : Int) < 32) = true := by simp; omega
      by_cases hn8 : P + i < 8 * (8 + n)
      · have hd2 : decide ((P : Int) + (i : Int) < 8 * (8 + (n : Int))) = true := by simp; omega
        clear HSTOP HS1 HS4
        cases hbit : ((bt / 2 ^ i).tmod 2 == 1) with
        | true =>
          have hlen : (hdr l ++ lc).length = 8 + n := by rw [List.length_append, hdr_len, hlc]
          have hq : (hdr l ++ lc)[(P + i) / 8]? = some ((hdr l ++ lc)[(P + i) / 8]'(by omega)) := List.getElem?_eq_getElem (by omega)
          have hlt : (hdr l ++ lc)[(P + i) / 8]'(by omega) < 256 := ((hdr_byts l).app HT.out.byte) _ (List.getElem_mem _)
          obtain ⟨d, hdd⟩ : ∃ d, (hdr l ++ lc)[(P + i) / 8]'(by omega) = d := ⟨_, rfl⟩
          rw [hdd] at hq hlt
          have hcell : wr.cell? ⟨g0, (P + i) / 8, none⟩ = some (.int .u8 (d : Int)) := by
            rw [ho.cellAt _ (by omega), cellsN, List.getElem?_map, hq]
            rfl
          have hfr := ho.frozenAt ((P + i) / 8)
          have hd0 : (0 : Int) ≤ (d : Int) := by omega
          have hd1 : (d : Int) < 256 := by omega
          obtain ⟨D, hD⟩ : ∃ D : Int, (d : Int) = D := ⟨_, rfl⟩
          rw [hD] at hcell hd0 hd1
          have hst := (ho.stored ((P + i) / 8) (.int .u8 ((d ^^^ 2 ^ ((P + i) % 8) : Nat) : Int))).1
          rw [turn_cells hq, ← turn_value hlt, hD, HPA.out, Nat.add_assoc, turn_behind _ _ (hdr_len l), ← Nat.add_assoc, ← HPA.out] at hst
          have HST := Lib.hid hst
          clear hdd hq hlt hD ho hst hlen
          go_wp2
          go_roundg (gk - 1)
          case measure => have := HG.out; omega
          case rel => exact ⟨i + 1, true, turnAt lc (A + i), rfl, by go_num, by have := HG.out; omega, HT.out.turn hi (by have := HPA.out; rw [HN.out]; omega), (fun e => by cases e), HST.out, HL2.out.setCell hgl _⟩
        | false =>
          go_wp2
          go_roundg (gk - 1)
          case measure => have := HG.out; omega
          case rel => exact ⟨i + 1, sm, lc, rfl, by go_num, by have := HG.out; omega, HT.out.keep, HSM.out, ho, HL2.out⟩
      · have hd2 : decide ((P : Int) + (i : Int) < 8 * (8 + (n : Int))) = false := by simp; omega
        clear ho
        cases sm with
        | false =>
          have h1 := HS1.out rfl
          unfold NextOut at HSTOP
          rw [h1] at HSTOP
          clear h1 HS1 HS4
          go_wp2_with fail
          refine HSTOP.out.mono ?_
          rintro e w6 ⟨v6, rfl, hown6⟩
          have HB6 := Lib.hid (below_then HL2.out hown6.bel)
          clear hown6 HSTOP
          go_wp2
          go_ret
          exact ⟨rfl, HB6.out⟩
        | true =>
          have h1 := HS4.out rfl
          unfold NextOut at HSTOP
          rw [h1] at HSTOP
          clear h1 HS1 HS4
          go_wp2_with fail
          refine HSTOP.out.mono ?_
          rintro e w6 ⟨v6, rfl, hown6⟩
          have HB6 := Lib.hid (below_then HL2.out hown6.bel)
          clear hown6 HSTOP
          go_wp2
          go_ret
          exact ⟨rfl, HB6.out⟩
    · have hd1 : decide ((i : Int) < 32) = false := by simp; omega
      clear ho
      cases sm with
      | false =>
        have h1 := HS1.out rfl
        unfold NextOut at HSTOP
        rw [h1] at HSTOP
        clear h1 HS1 HS4
        go_wp2_with fail
        refine HSTOP.out.mono ?_
        rintro e w6 ⟨v6, rfl, hown6⟩
        have HB6 := Lib.hid (below_then HL2.out hown6.bel)
        clear hown6 HSTOP
        go_wp2
        go_ret
        exact ⟨rfl, HB6.out⟩
      | true =>
        have h1 := HS4.out rfl
        unfold NextOut at HSTOP
        rw [h1] at HSTOP
        clear h1 HS1 HS4
        go_wp2_with fail
        refine HSTOP.out.mono ?_
        rintro e w6 ⟨v6, rfl, hown6⟩
        have HB6 := Lib.hid (below_then HL2.out hown6.bel)
        clear hown6 HSTOP
        go_wp2
        go_ret
        exact ⟨rfl, HB6.out⟩

end Go.Proofs.Ytoceknldlhmnoaa
