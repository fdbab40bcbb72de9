/-
  The keys' paths between braces, told by the program. Conditions: the text is no longer than 2 to the 30; the tables and the library's bound are laid.
-/
import Derived.Test.YtojpjhfafbdpcaaGreatDoorKX
namespace Go.Proofs.YtojpjhfafbdpcaaGreatDoor
open Go.RowKit Go.Lib Go.Joins

theorem ktrim_calls (x : List UInt8) (w : World) (hs : x.length ≤ 1073741824) (hL : Laid w) : Calls Tryz.prog 48 #[.string (strB x)] w (Leaves (.string (strB (trimL x))) w) := by
  have h := trim_calls (strB x) w (by rw [strB_size]; exact hs) hL
  rw [strB_list] at h
  exact h
theorem trimL_len (l : List UInt8) : (trimL l).length ≤ l.length := by
  unfold trimL
  rw [List.length_take, List.length_drop]
  omega
theorem strB_nil (x : List UInt8) : ((strB x).toList == []) = x.isEmpty := by
  rw [ByteArray.toList_eq]
  cases x <;> rfl
/-- The first ones trimmed. -/
def trimK (ps : List (List UInt8)) (j : Nat) : List (List UInt8) := (ps.take j).map trimL ++ ps.drop j
theorem trimK_len (ps : List (List UInt8)) (j : Nat) : (trimK ps j).length = ps.length := by
  unfold trimK
  rw [List.length_append, List.length_map, List.length_take, List.length_drop]
  omega
theorem trimK_at {ps : List (List UInt8)} {j : Nat} {x : List UInt8} (hx : ps[j]? = some x) : (trimK ps j)[j]? = some x ∧ trimK ps (j + 1) = (trimK ps j).set j (trimL x) := by
  obtain ⟨hlt, rfl⟩ := List.getElem?_eq_some_iff.1 hx
  have hl : ((ps.take j).map trimL).length = j := by rw [List.length_map, List.length_take]; omega
  constructor
  · unfold trimK
    rw [List.getElem?_append_right (by omega), hl, Nat.sub_self, List.getElem?_drop, Nat.add_zero, List.getElem?_eq_getElem hlt]
  · unfold trimK
    rw [List.set_append, if_neg (by omega), hl, Nat.sub_self, List.drop_eq_getElem_cons hlt, List.set_cons_zero, List.take_succ_eq_append_getElem hlt, List.map_append, List.append_assoc]
    rfl
theorem strV_set (l : List (List UInt8)) (j : Nat) (x : List UInt8) : (strV (l.set j x)).toArray = (strV l).toArray.setIfInBounds j (.string (strB x)) := by
  unfold strV
  rw [List.map_set, List.setIfInBounds_toArray]
theorem StrIn.block {w : World} {b n0 n : Nat} {l : List (List UInt8)} (h : w.heap[b]? = some (.cells (strV l).toArray 9 (0, 0))) (hn : l.length = n) (hb : n0 ≤ b) (hs : n ≤ 2000000000) : StrIn w (fun k => n0 ≤ k) (.slice (some ⟨b, 0, none⟩) n n) l := by
  subst hn
  refine ⟨_, _, rfl, Nat.le_refl _, by unfold maxLen; omega, (fun e => by cases e), .inr ⟨b, 0, rfl, hb, fun i x hx => ?_⟩⟩
  refine (cell_of_block h (0 + i)).trans ?_
  rw [Nat.zero_add, List.getElem?_toArray]
  exact strV_at hx

/-- What a call that makes texts leaves, wherever they lie. -/
def TextsIn (l : List (List UInt8)) (w : World) (e : Ending) (w' : World) : Prop := ∃ v, e = .returned v ∧ StrIn w' (fun k => w.heap.size ≤ k) v l ∧ Below w.heap.size w w'

set_option maxRecDepth 100000 in
set_option maxHeartbeats 8000000 in
theorem keys_calls (t : List UInt8) (w : World) (hs : t.length ≤ 1073741823) (hE : KEnv w) : Calls Tryz.prog 54 #[.string (strB t)] w (TextsIn (keysT t) w) := by
  have HT := Lib.hid (ktrim_calls t w (by omega) hE.laid)
  have hnil := strB_nil (trimL t)
  unfold keysT
  by_cases h0 : trimL t = []
  · rw [if_pos h0]
    rw [h0] at HT
    have hz : strB [] = ⟨#[]⟩ := rfl
    rw [hz] at HT
    obtain ⟨s, hst⟩ : ∃ s, strB t = s := ⟨_, rfl⟩
    rw [hst] at HT ⊢
    clear hs hE hnil h0 hz hst
    go_enter Tryz.func54, Tryz.ntmps54
    go_wp2_with fail
    with_reducible refine HT.out.mono ?_
    rintro e w1 ⟨rfl, hb1⟩
    have HB1 := Lib.hid hb1
    clear hb1
    go_wp2
    go_ret
    exact ⟨_, rfl, StrIn.nil _ _, HB1.out⟩
  · rw [if_neg h0]
    have hem : (trimL t).isEmpty = false := by
      cases h : trimL t with
      | nil => exact absurd h h0
      | cons => rfl
    rw [hem] at hnil
    have HSP := Lib.hid (fun (W : World) (hb : Below w.heap.size w W) => split_calls t 44 W (by omega) (hE.mx.below hb))
    have HPF := Lib.hid (pieces_few 44 t)
    have HPS := Lib.hid (fun (p : List UInt8) (h : p ∈ pieces 44 t) => pieces_short h)
    obtain ⟨ps, hps⟩ : ∃ ps, pieces 44 t = ps := ⟨_, rfl⟩
    rw [hps] at HSP HPF HPS ⊢
    obtain ⟨n, hn⟩ : ∃ n, ps.length = n := ⟨_, rfl⟩
    have HN := Lib.hid hn
    have hnb : n ≤ 1073741824 := by have := HPF.out; omega
    have HS := Lib.hid hs
    have HE := Lib.hid hE
    obtain ⟨s, hst⟩ : ∃ s, strB t = s := ⟨_, rfl⟩
    obtain ⟨u, hu⟩ : ∃ s, strB (trimL t) = s := ⟨_, rfl⟩
    rw [hst] at HT HSP ⊢
    rw [hu] at HT hnil
    rw [hn] at HSP
    have hnp : ¬ u.toList = [] := fun e => by rw [e] at hnil; cases hnil
    clear hs hE h0 hem hps hn hst hu
    go_enter Tryz.func54, Tryz.ntmps54
    go_wp2_with fail
    with_reducible refine HT.out.mono ?_
    rintro e w1 ⟨rfl, hb1⟩
    have HB1 := Lib.hid hb1
    have HSP1 := Lib.hid (HSP.out w1 hb1)
    clear hb1 HSP
    go_wp2_with fail
    with_reducible refine HSP1.out.mono ?_
    rintro e w2 ⟨rfl, hw2⟩
    have HB2 : Hid (Below w1.heap.size w1 w2) := Lib.hid (by rw [hw2]; exact (Below.refl _ _).alloc (Nat.le_refl _) _)
    have HK2 : Hid (w2.heap[w1.heap.size]? = some (.cells (strV (trimK ps 0)).toArray 9 (0, 0))) := Lib.hid (by
      rw [hw2, show trimK ps 0 = ps from rfl]
      exact heap_alloc_new _ _)
    clear hw2 HSP1
    go_wp2_with fail
    go_loopg [13] n (fun gk i wr => ∃ (j : Nat), i = .int .i64 (j : Int) ∧ gk + j = n ∧ wr.heap[w1.heap.size]? = some (.cells (strV (trimK ps j)).toArray 9 (0, 0)) ∧ Below w1.heap.size w1 wr)
    case atStart => exact ⟨0, rfl, rfl, HK2.out, HB2.out⟩
    case round =>
      obtain ⟨j, rfl, hg, hk, hb⟩ := hrel
      have HG := Lib.hid hg
      have HK := Lib.hid hk
      have HB := Lib.hid hb
      clear hg hk hb HK2 HB2
      by_cases hlt : j < n
      · obtain ⟨g', rfl⟩ : ∃ g', gk = g' + 1 := ⟨gk - 1, by have := HG.out; omega⟩
        have hdd : decide ((j : Int) < (n : Int)) = true := by simp; omega
        have hji : (j : Int) < (n : Int) := by omega
        obtain ⟨x, hx⟩ : ∃ x, ps[j]? = some x := ⟨ps[j]'(by rw [HN.out]; exact hlt), List.getElem?_eq_getElem _⟩
        have hta := trimK_at hx
        have HTK := Lib.hid hta.2
        have c0 : wr.cell? ⟨w1.heap.size, j, none⟩ = some (.string (strB x)) := by
          refine (cell_of_block HK.out j).trans ?_
          rw [List.getElem?_toArray]
          exact strV_at hta.1
        have HC := Lib.hid (ktrim_calls x wr (by have := HPS.out x (List.mem_of_getElem? hx); have := HS.out; omega) (HE.out.laid.below (below_then HB1.out HB.out)))
        obtain ⟨z, hz⟩ : ∃ z, strB x = z := ⟨_, rfl⟩
        obtain ⟨y, hy⟩ : ∃ z, strB (trimL x) = z := ⟨_, rfl⟩
        rw [hz] at HC c0
        rw [hy] at HC
        have HY := Lib.hid hy
        clear hx hta hz hy
        go_wp2_with fail
        with_reducible refine HC.out.mono ?_
        rintro e w3 ⟨rfl, hb3⟩
        have HK3 := Lib.hid (block_below hb3 HK.out)
        have HB3 := Lib.hid (HB.out.trans (hb3.mono HB.out.size))
        have c3 := (hb3.cell (lt_of_cell c0)).trans c0
        have f3 := unfrozen_of_block HK3.out j
        clear hb3 HC HK c0
        go_wp2_with fail
        go_roundg g'
        case measure => omega
        case rel => exact ⟨j + 1, by go_num, by have := HG.out; omega, by rw [HTK.out, strV_set, HY.out]; exact block_setCell HK3.out _, HB3.out.setCell (p := ⟨w1.heap.size, j, none⟩) (Nat.le_refl _) _⟩
      · have hdd : decide ((j : Int) < (n : Int)) = false := by simp; omega
        have HI : Hid (trimK ps j = ps.map trimL) := Lib.hid (by
          unfold trimK
          rw [List.take_of_length_le (by have := HN.out; omega), List.drop_eq_nil_of_le (by have := HN.out; omega), List.append_nil])
        go_wp2
        go_ret
        exact ⟨_, rfl, StrIn.block (by rw [← HI.out]; exact HK.out) (by rw [List.length_map]; exact HN.out) HB1.out.size (by omega), below_then HB1.out HB.out⟩

end Go.Proofs.YtojpjhfafbdpcaaGreatDoor
