/-
 The reference's Fair at what is no element. Conditions: the node lies in memory; its texts are no longer than 2 to the 19.
-/
import Derived.Test.YtocnedpclllbhaaGreatDoorWV
namespace Go.Proofs.YtocnedpclllbhaaGreatDoor
open Go.RowKit Go.Lib Go.Joins

def lowU (x : UInt8) : UInt8 := if 65 ≤ x.toNat ∧ x.toNat ≤ 90 then UInt8.ofNat (x.toNat + 32) else x
/-- Bytes in a row of the call's own, the first ones turned already. -/
def LowAt (w : World) (b : Nat) (l : List UInt8) (i : Nat) : Prop :=
  ∀ j x, l[j]? = some x → w.cell? ⟨b, j, none⟩ = some (.int .u8 (((if j < i then lowU x else x).toNat : Nat) : Int)) ∧ w.frozen? ⟨b, j, none⟩ = false
theorem LowAt.start (w : World) (l : List UInt8) : LowAt (bytesWorld w 5 (strB l)) w.heap.size l 0 := by
  intro j x hx
  have hj : j < l.length := (List.getElem?_eq_some_iff.1 hx).1
  refine ⟨?_, ?_⟩
  · rw [bytesWorld_cell w 5 (strB l) j (by rw [strB_size]; exact hj), if_neg (Nat.not_lt_zero j), strB_list, List.getD_eq_getElem?_getD, hx]
    rfl
  · have h := bytesWorld_at_new w 5 (strB l)
    have hs : j < (bytesCells w 5 (strB l)).size := by
      unfold bytesCells
      have h2 : (strB l).data.size = l.length := strB_size l
      simp only [Array.size_append, Array.size_map, h2]
      omega
    simp only [World.frozen?, h]
    simp
    omega
theorem LowAt.turn {w : World} {b : Nat} {l : List UInt8} {i : Nat} {x : UInt8} (h : LowAt w b l i) (hx : l[i]? = some x) : LowAt (w.setCell ⟨b, i, none⟩ (.int .u8 ((lowU x).toNat : Int))) b l (i + 1) := by
  intro j y hy
  obtain ⟨h1, h2⟩ := h j y hy
  refine ⟨?_, by rw [World.frozen?_setCell]; exact h2⟩
  by_cases hj : j = i
  · subst hj
    rw [World.cell?_setCell_same' w _ _ (by rw [h1]; rfl), if_pos (Nat.lt_succ_self _)]
    rw [hy] at hx
    rw [Option.some.inj hx]
  · rw [World.cell?_setCell_other (h := (show (⟨b, i, none⟩ : Addr) ≠ ⟨b, j, none⟩ from fun e => hj (congrArg Addr.off e).symm)), h1]
    by_cases h3 : j < i
    · rw [if_pos h3, if_pos (by omega)]
    · rw [if_neg h3, if_neg (by omega)]
theorem LowAt.same {w : World} {b : Nat} {l : List UInt8} {i : Nat} {x : UInt8} (h : LowAt w b l i) (hx : l[i]? = some x) (he : lowU x = x) : LowAt w b l (i + 1) := by
  intro j y hy
  obtain ⟨h1, h2⟩ := h j y hy
  refine ⟨?_, h2⟩
  rw [h1]
  by_cases h3 : j < i
  · rw [if_pos h3, if_pos (by omega)]
  · by_cases hj : j = i
    · subst hj
      rw [hy] at hx
      rw [if_neg h3, if_pos (by omega), Option.some.inj hx, he]
    · rw [if_neg h3, if_neg (by omega)]
set_option maxRecDepth 100000 in
set_option maxHeartbeats 4000000 in
theorem rlower11_calls (w : World) (l : List UInt8) (hl : l.length ≤ 1000000) : Calls Tryz.prog 27 #[.string (strB l)] w (Leaves (.string (strB (l.map lowU))) w) := by
  have h0 := LowAt.start w l
  have hb := bytesWorld_below w (strB l)
  have hls : (strB l).size = l.length := strB_size _
  have kc := Lib.run_convert_string_bytes (P := Tryz.prog) w 9 53 5 (strB l) Tryz.underlying9 Tryz.underlying53 Tryz.underlying5
  rw [hls] at kc
  obtain ⟨c, hc⟩ : ∃ c, grownCap w l.length 0 5 = c := ⟨_, rfl⟩
  have hcl : l.length ≤ c := by rw [← hc]; exact grownCap_ge w _ _ _
  rw [hc] at kc
  obtain ⟨w1, hw1⟩ : ∃ W, bytesWorld w 5 (strB l) = W := ⟨_, rfl⟩
  rw [hw1] at kc h0 hb
  obtain ⟨n, hn⟩ : ∃ z, l.length = z := ⟨_, rfl⟩
  rw [hn] at kc hl hcl hls
  obtain ⟨S, hS⟩ : ∃ z, strB l = z := ⟨_, rfl⟩
  rw [hS] at kc hls ⊢
  have HN := Lib.hid hn
  have H0 := Lib.hid h0
  have HB := Lib.hid hb
  have HCB : Hid (∀ W, LowAt W w.heap.size l n → (convert 53 9 (.slice (some ⟨w.heap.size, 0, none⟩) n c)).run Tryz.prog W = .ok (.string (strB (l.map lowU))) W) := Lib.hid (fun W h => by
    have h1 := run_convert_bytes_back (P := Tryz.prog) W 53 9 5 ⟨w.heap.size, 0, none⟩ c (l.map lowU) Tryz.underlying53 Tryz.underlying5 Tryz.underlying9 (fun j hj => by
      have hj2 : j < l.length := by rw [List.length_map] at hj; exact hj
      have h2 := (h j l[j] (List.getElem?_eq_getElem hj2)).1
      rw [if_pos (by omega)] at h2
      rw [Addr.add_mid, Nat.zero_add, h2]
      simp)
    rw [List.length_map, hn] at h1
    exact h1)
  clear h0 hb hw1 hc hn hS
  go_enter Tryz.func27, Tryz.ntmps27
  go_wp2_with fail
  clear kc
  go_loopg [4] n (fun g s4 wr => ∃ i : Nat, s4 = .int .i64 (i : Int) ∧ g + i = n ∧ LowAt wr w.heap.size l i ∧ Below w.heap.size w wr)
  case atStart => exact ⟨0, rfl, rfl, H0.out, HB.out⟩
  case round =>
    obtain ⟨i, rfl, hg, hlow, hbl⟩ := hrel
    have HLW := Lib.hid hlow
    have HBL := Lib.hid hbl
    clear hlow hbl
    cases gk with
    | zero =>
      obtain rfl : i = n := by omega
      have hge : ¬ ((i : Int) < (i : Int)) := by omega
      have kb := HCB.out _ HLW.out
      go_wp2_with fail
      go_ret
      exact ⟨rfl, HBL.out⟩
    | succ g =>
      have hlt : (i : Int) < (n : Int) := by omega
      have hi0 : (0 : Int) ≤ (i : Int) := by omega
      have hic : (i : Int) < (c : Int) := by omega
      have hadd : IntKind.i64.wrap ((i : Int) + 1) = ((i + 1 : Nat) : Int) := IntWalk.i64_in _ (by omega)
      obtain ⟨x, hx⟩ : ∃ x, l[i]? = some x := ⟨_, List.getElem?_eq_getElem (by rw [HN.out]; omega)⟩
      obtain ⟨hcx, hfx⟩ := HLW.out i x hx
      rw [if_neg (Nat.lt_irrefl i)] at hcx
      obtain ⟨y, hy⟩ : ∃ y, x.toNat = y := ⟨_, rfl⟩
      rw [hy] at hcx
      by_cases hup : 65 ≤ y ∧ y ≤ 90
      · have h1 : (65 : Int) ≤ (y : Int) := by omega
        have h2 : (y : Int) ≤ 90 := by omega
        have hlu : (lowU x).toNat = y + 32 := by
          unfold lowU
          rw [hy, if_pos hup, UInt8.toNat_ofNat']
          omega
        have hw8 : IntKind.u8.wrap ((y : Int) + 32) = ((y + 32 : Nat) : Int) := by
          rw [show (y : Int) + 32 = ((y + 32 : Nat) : Int) by omega]
          simp [IntKind.wrap, IntKind.bits, IntKind.signed]
          omega
        have HT := Lib.hid (HLW.out.turn hx)
        rw [hlu] at HT
        have HBT : Hid (Below w.heap.size w _) := Lib.hid (HBL.out.setCell (p := ⟨w.heap.size, i, none⟩) (Nat.le_refl _) (.int .u8 ((y + 32 : Nat) : Int)))
        clear hx hy hlu hup
        go_wp2_with fail
        go_roundg g
        case measure => omega
        case rel => exact ⟨i + 1, rfl, by omega, HT.out, HBT.out⟩
      · have HT : Hid (LowAt _ w.heap.size l (i + 1)) := Lib.hid (HLW.out.same hx (by unfold lowU; rw [hy, if_neg hup]))
        clear hx hy
        by_cases h1 : 65 ≤ y
        · have h3 : (65 : Int) ≤ (y : Int) := by omega
          have h2 : ¬ ((y : Int) ≤ 90) := by omega
          clear hup h1
          go_wp2_with fail
          go_roundg g
          case measure => omega
          case rel => exact ⟨i + 1, rfl, by omega, HT.out, HBL.out⟩
        · have h3 : ¬ ((65 : Int) ≤ (y : Int)) := by omega
          clear hup h1
          go_wp2_with fail
          go_roundg g
          case measure => omega
          case rel => exact ⟨i + 1, rfl, by omega, HT.out, HBL.out⟩


/-- The walk's start: the node in a block of the call's own, its text judged. -/
structure Boxed (w w0 : World) (k : Int) (sn st : ByteArray) (av kv : Value) : Prop where
  below : Below w.heap.size w w0
  block : w0.heap[w.heap.size]? = some (.cells #[.int .i64 k, .string sn, .string st, av, kv] 25 (0, 0))
theorem Boxed.make (w : World) (k : Int) (sn st : ByteArray) (av kv : Value) : Boxed w (w.alloc (.cells #[.int .i64 k, .string sn, .string st, av, kv] 25)) k sn st av kv :=
  ⟨(Below.refl _ _).alloc (Nat.le_refl _) _, heap_alloc_new w _⟩
theorem Boxed.cells {w w0 W : World} {k : Int} {sn st : ByteArray} {av kv : Value} (h : Boxed w w0 k sn st av kv) (hb : Below w0.heap.size w0 W) : W.cell? ⟨w.heap.size, 0, none⟩ = some (.int .i64 k) ∧ W.cell? ⟨w.heap.size, 1, none⟩ = some (.string sn) ∧ W.cell? ⟨w.heap.size, 2, none⟩ = some (.string st) ∧ W.cell? ⟨w.heap.size, 3, none⟩ = some av ∧ W.cell? ⟨w.heap.size, 4, none⟩ = some kv := by
  have h1 := block_below hb h.block
  exact ⟨(cell_of_block h1 0).trans rfl, (cell_of_block h1 1).trans rfl, (cell_of_block h1 2).trans rfl, (cell_of_block h1 3).trans rfl, (cell_of_block h1 4).trans rfl⟩
set_option maxRecDepth 100000 in
set_option maxHeartbeats 8000000 in
/-- A node whose text XML has not, or with attributes or children where none may be, or of no kind: no. -/
theorem rfair_no {w : World} {k : Int} {sn : ByteArray} {x : List UInt8} {aa ka : Option Addr} {na nk ca ck : Nat} (hx : x.length ≤ 1000000) (h : hasB x = false ∨ (k ≠ 1 ∧ (0 < na ∨ 0 < nk)) ∨ (k ≠ 1 ∧ k ≠ 2 ∧ k ≠ 3 ∧ k ≠ 4)) : Calls Tryz.prog 10 #[.agg #[.int .i64 k, .string sn, .string (strB x), .slice aa na ca, .slice ka nk ck]] w (Leaves (.bool false) w) := by
  obtain ⟨w0, hw0⟩ : ∃ W, w.alloc (.cells #[.int .i64 k, .string sn, .string (strB x), .slice aa na ca, .slice ka nk ck] 25) = W := ⟨_, rfl⟩
  have hbx := Boxed.make w k sn (strB x) (.slice aa na ca) (.slice ka nk ck)
  rw [hw0] at hbx
  have HBT := Lib.hid (bad_text w0 x hx)
  rw [show w0.heap.size = w.heap.size + 1 by rw [← hw0]; simp] at HBT
  obtain ⟨S, hS⟩ : ∃ S, strB x = S := ⟨_, rfl⟩
  obtain ⟨q, hq⟩ : ∃ q, badL x = q := ⟨_, rfl⟩
  have hh : hasB x = decide (q < 0) := by rw [← hq]; rfl
  rw [hh] at h
  rw [hS] at hbx HBT hw0 ⊢
  rw [hq] at HBT
  have kc := Lib.run_convert_string_bytes (P := Tryz.prog) w0 9 53 5 S Tryz.underlying9 Tryz.underlying53 Tryz.underlying5
  have HW0 := Lib.hid hw0
  have HBW : Hid (Below w0.heap.size w0 (bytesWorld w0 5 S)) := Lib.hid (bytesWorld_below w0 S)
  have HBX := Lib.hid hbx
  obtain ⟨z0, z1, z2, z3, z4⟩ := hbx.cells (Below.refl _ _)
  rw [← HW0.out] at kc z0 z1 z2 z3 z4
  have HH := Lib.hid h
  clear hw0 hbx hS hq hx hh h
  go_enter Tryz.func10, Tryz.ntmps10
  go_wp2_with fail
  rw [HW0.out]
  with_reducible refine HBT.out.mono ?_
  rintro e w1 ⟨rfl, hb1⟩
  have HB1 := Lib.hid (below_then HBW.out hb1)
  have HB01 := Lib.hid (below_then HBX.out.below HB1.out)
  clear kc z0 z1 z2 z3 z4 hb1
  obtain ⟨z0, z1, z2, z3, z4⟩ := HBX.out.cells HB1.out
  by_cases hq0 : 0 ≤ q
  · go_wp2_with fail
    go_ret
    exact ⟨rfl, HB01.out⟩
  · have h2 := HH.out
    rw [decide_eq_true (show q < 0 by omega)] at h2
    rcases h2 with h2 | ⟨hk, h2⟩ | ⟨h1, h2, h3, h4⟩
    · cases h2
    · have e1 : (k != 1) = true := bne_iff_ne.2 hk
      by_cases ha : 0 < na
      · have hz : (0 : Int) < (na : Int) := by omega
        clear hk h2 ha
        go_wp2_with fail
        go_ret
        exact ⟨rfl, HB01.out⟩
      · have hz : ¬ ((0 : Int) < (na : Int)) := by omega
        have hz2 : (0 : Int) < (nk : Int) := by omega
        clear hk h2 ha
        go_wp2_with fail
        go_ret
        exact ⟨rfl, HB01.out⟩
    · have e1 : (k != 1) = true := bne_iff_ne.2 h1
      have e1' : (k == 1) = false := beq_eq_false_iff_ne.2 h1
      have e2 : (k == 2) = false := beq_eq_false_iff_ne.2 h2
      have e3 : (k == 3) = false := beq_eq_false_iff_ne.2 h3
      have e4 : (k == 4) = false := beq_eq_false_iff_ne.2 h4
      clear h1 h2 h3 h4
      by_cases ha : 0 < na
      · have hz : (0 : Int) < (na : Int) := by omega
        clear ha
        go_wp2_with fail
        go_ret
        exact ⟨rfl, HB01.out⟩
      · have hz : ¬ ((0 : Int) < (na : Int)) := by omega
        clear ha
        by_cases hk2 : 0 < nk
        · have hz2 : (0 : Int) < (nk : Int) := by omega
          clear hk2
          go_wp2_with fail
          go_ret
          exact ⟨rfl, HB01.out⟩
        · have hz2 : ¬ ((0 : Int) < (nk : Int)) := by omega
          clear hk2
          go_wp2_with fail
          go_ret
          exact ⟨rfl, HB01.out⟩

end Go.Proofs.YtocnedpclllbhaaGreatDoor
