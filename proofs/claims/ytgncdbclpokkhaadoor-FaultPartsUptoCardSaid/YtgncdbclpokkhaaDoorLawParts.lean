/-
  The walk of the statement FaultParts: true, for every code and two rows of texts. Conditions: the listed variables are laid; the code is an int; the texts' cells are there; the whole text is no longer than the library's Join can make.
-/
import Derived.Test.YtgncdbclpokkhaaDoorApp
import Derived.Test.YtgncdbclpokkhaaDoorLawCodes
namespace Go.Proofs.YtgncdbclpokkhaaDoor
open Go.RowKit Go.Extern.Stop Go.Stop Go.Extern

set_option maxRecDepth 100000 in
set_option maxHeartbeats 2000000 in
theorem law_parts_many (c : Int) (sa sb : Option Addr) (n m ca cb : Nat) (w : World) (ht : Tab w) (hg : Handle w) (hn : 50 < n + m) (hm : n + m ≤ 9223372036854775807) :
    Calls Tryd.prog 6 #[.int .i64 c, .slice sa n ca, .slice sb m cb] w (Leaves1 (.bool true) w) := by
  have HA := Lib.hid (awake_true w ht hg)
  have hd : decide ((50 : Int) < (n : Int) + (m : Int)) = true := by simp; omega
  go_enter Tryd.func6, Tryd.ntmps6
  go_wp2_with fail
  refine HA.out.mono ?_
  rintro e w1 ⟨rfl, hb⟩
  have HB := Lib.hid hb
  clear hb
  go_wp2_with fail
  go_ret
  exact ⟨rfl, HB.out⟩

/-- A row of texts by its address. -/
def RowOf (w : World) (sb : Option Addr) (ys : List ByteArray) : Prop := ∀ (j : Nat) y, ys[j]? = some y → ∃ b o, sb = some ⟨b, o, none⟩ ∧ w.cell? ⟨b, o + j, none⟩ = some (.string y)
theorem RowOf.below {w w' : World} {sb : Option Addr} {ys : List ByteArray} (h : RowOf w sb ys) (hb : Below w.heap.size w w') : RowOf w' sb ys := fun j y hj => by
  obtain ⟨b, o, h1, h2⟩ := h j y hj
  exact ⟨b, o, h1, (hb.cell (p := ⟨b, o + j, none⟩) (lt_of_cell h2)).trans h2⟩

/-- What stands behind the loop over the second row. -/
def LoopOut (c : Int) (ss : List ByteArray) (w : World) (v : Value) (w' : World) : Prop := ErrV w' c 1 ss v ∧ Below w.heap.size w w'

set_option maxRecDepth 100000 in
set_option maxHeartbeats 4000000 in
theorem law_parts (c : Int) (sa sb : Option Addr) (n m ca cb : Nat) (xs ys : List ByteArray) (R : ByteArray) (w : World) (ht : Tab w) (hg : Handle w) (hc0 : -9223372036854775808 ≤ c) (hc1 : c ≤ 9223372036854775807)
    (hn : n + m ≤ 50) (hxs : xs.length = n) (hys : ys.length = m) (hmk : Makes w c 1 (.slice sa n ca) xs.reverse) (hrow : RowOf w sb ys) (hxt : TextsOf w (.slice sa n ca) xs) (hyt : TextsOf w (.slice sb m cb) ys)
    (hR : c ≠ 0 → ∀ x w', TextsOf w' x (xs ++ ys) → Calls Tryd.prog 13 #[.int .i64 c, .int .i64 1, x] w' (Leaves1 (.string R) w'))
    (hRt : (⟨(Lib.join ((xs ++ ys).reverse.map (·.data.toList) ++ [plainText c 1]) [58, 32]).toArray⟩ : ByteArray) = R) (hsz : (Lib.join ((xs ++ ys).reverse.map (·.data.toList) ++ [plainText c 1]) [58, 32]).length ≤ 140737488355328) :
    Calls Tryd.prog 6 #[.int .i64 c, .slice sa n ca, .slice sb m cb] w (Leaves1 (.bool true) w) := by
  have HA := Lib.hid (awake_true w ht hg)
  have HM := Lib.hid hmk
  have HT := Lib.hid ht
  have HG := Lib.hid hg
  have HR := Lib.hid hR
  have HRT := Lib.hid hRt
  have HSZ := Lib.hid hsz
  have HX := Lib.hid hxs
  have HY := Lib.hid hys
  have HRow := Lib.hid hrow
  have HXT := Lib.hid hxt
  have HYT := Lib.hid hyt
  have hd : decide ((50 : Int) < (n : Int) + (m : Int)) = false := by simp; omega
  have hm50 : m ≤ 50 := by omega
  have hn50 : n ≤ 50 := by omega
  clear ht hg hmk hR hRt hsz hxs hys hrow hxt hyt
  go_enter Tryd.func6, Tryd.ntmps6
  go_wp2_with fail
  refine HA.out.mono ?_
  rintro e w1 ⟨rfl, hb⟩
  have HB1 := Lib.hid hb
  clear hb
  go_wp2_with fail
  refine (HM.out w1 HB1.out).mono ?_
  rintro e w2 ⟨v, rfl, hv, hb2⟩
  have HV := Lib.hid hv
  have HB2 := Lib.hid (Below.then HB1.out hb2)
  clear hv hb2
  go_wp2_with fail
  go_loopg [7, 8] m (fun g x i wr => ∃ k : Nat, k ≤ m ∧ g = m - k ∧ i = .int .i64 k ∧ LoopOut c ((ys.take k).reverse ++ xs.reverse) w x wr)
  case atStart => exact ⟨0, Nat.zero_le _, by omega, rfl, by simpa using HV.out, HB2.out⟩
  case round =>
    obtain ⟨k, hk, hgk, rfl, hv, hb⟩ := hrel
    have HGK := Lib.hid hgk
    have HV2 := Lib.hid hv
    have HBK := Lib.hid hb
    clear hgk hv hb
    by_cases hlt : k < m
    · have hdk : decide ((k : Int) < (m : Int)) = true := by simp; omega
      obtain ⟨y, hyk⟩ : ∃ y, ys[k]? = some y := ⟨_, List.getElem?_eq_getElem (by rw [HY.out]; exact hlt)⟩
      obtain ⟨b, o, hsb, hcell⟩ := (HRow.out.below HBK.out) k y hyk
      subst hsb
      have HYK := Lib.hid hyk
      clear hyk
      go_wp2_with fail
      refine (wrap_any y HV2.out).mono ?_
      rintro e w3 ⟨v3, rfl, hv3, hb3⟩
      have HV3 := Lib.hid hv3
      have HB3 := Lib.hid (Below.then HBK.out hb3)
      clear hv3 hb3
      go_wp2_with fail
      go_roundg (m - (k + 1))
      case measure => rw [HGK.out]; omega
      case rel => exact ⟨k + 1, by omega, rfl, by go_num, by rw [List.take_add_one, HYK.out, Option.toList_some, List.reverse_append]; exact HV3.out, HB3.out⟩
    · have hdk : decide ((k : Int) < (m : Int)) = false := by simp; omega
      have hall : (ys.take k).reverse ++ xs.reverse = (xs ++ ys).reverse := by rw [List.take_of_length_le (by rw [HY.out]; omega), List.reverse_append]
      have hv4 := HV2.out
      rw [hall] at hv4
      have HV4 := Lib.hid hv4
      clear hv4 hall HV2
      by_cases hc : c = 0
      · subst hc
        obtain rfl : u7 = Value.nilIface := by
          rcases HV4.out with ⟨_, h⟩ | ⟨h, _⟩
          · exact h
          · exact absurd rfl h
        go_wp2
        go_ret
        exact ⟨rfl, HBK.out⟩
      · have h0 : (c == 0) = false := beq_eq_false_iff_ne.2 hc
        have hch : Chain wr (plainV c 1) (xs ++ ys).reverse u7 := by
          rcases HV4.out with ⟨h, _⟩ | ⟨_, h⟩
          · exact absurd h hc
          · exact h
        have HCH := Lib.hid hch
        have HNC := Lib.hid hc
        clear hch hc
        go_wp2_with fail
        refine (depth_chain c 1 _ _ wr HCH.out (by simp [HX.out, HY.out]; omega)).mono ?_
        rintro e w5 ⟨rfl, hb⟩
        rw [show (((xs ++ ys).reverse.length : Nat) : Int) = (n : Int) + (m : Int) by rw [List.length_reverse, List.length_append, HX.out, HY.out]; simp]
        have HC5 := Lib.hid (HCH.out.below hb)
        have HB5 := Lib.hid (Below.then HBK.out hb)
        clear hb
        go_wp2_with fail
        refine (text_chain c 1 _ _ w5 hc0 hc1 (by omega) (by omega) (HT.out.below HB5.out) HC5.out (by simp [HX.out, HY.out]; omega) HSZ.out).mono ?_
        rintro e w6 ⟨rfl, hb⟩
        rw [HRT.out]
        have HB6 := Lib.hid (Below.then HB5.out hb)
        clear hb
        go_wp2_with (at_builtin; refine wpList_wanted rfl (fun K hK => wp_app (.tmp 48) (.tmp 49) rfl w6.heap.size _ _ [] xs rfl ?c1 rfl ?c2 ?c3 ?c4 ?c5))
        case c1 => exact World.ownsRow_made w6 #[] 0 (Nat.le_refl _) (by unfold maxLen; omega) rfl
        case c2 => exact (HXT.out.below HB6.out).below ((Below.refl _ _).alloc (Nat.le_refl _) _)
        case c3 => simp only [List.length_nil, HX.out]; omega
        case c4 => simp
        intro v7 w7 h7
        have hown6 := World.ownsRow_made (e := 9) (size := 1) w6 #[] 0 (Nat.le_refl _) (by unfold maxLen; omega) rfl
        have hb7 : Below w6.heap.size w6 w7 := ((Below.refl _ _).alloc (Nat.le_refl _) _).trans (app_below h7 hown6 (by simp))
        have hsz7 : w6.heap.size ≤ w7.heap.size := hb7.size
        have HB7 := Lib.hid (Below.then HB6.out hb7)
        have H67 := Lib.hid hb7
        have HO7 := Lib.hid h7.1
        clear h7 hown6 hb7
        refine hK _ _ ?_
        go_wp2_with (at_builtin; refine wpList_wanted rfl (fun K hK => wp_app (.tmp 50) (.tmp 51) rfl w6.heap.size _ _ xs ys rfl ?d1 rfl ?d2 ?d3 ?d4 ?d5))
        case d1 => exact HO7.out
        case d2 => exact (HYT.out.below HB7.out)
        case d3 => simp only [HX.out, HY.out]; omega
        case d4 => exact hsz7
        intro v8 w8 h8
        have hb8 : Below w6.heap.size w6 w8 := H67.out.trans (app_below h8 HO7.out hsz7)
        have HB8 := Lib.hid (Below.then HB6.out hb8)
        have HO8 := Lib.hid h8.1
        clear h8 hb8
        refine hK _ _ ?_
        go_wp2_with fail
        refine (HR.out HNC.out _ w8 (row_texts HO8.out)).mono ?_
        rintro e w9 ⟨rfl, hb9⟩
        have HB9 := Lib.hid (Below.then HB8.out hb9)
        clear hb9
        go_wp2_with fail
        go_ret
        exact ⟨rfl, HB9.out⟩
end Go.Proofs.YtgncdbclpokkhaaDoor
