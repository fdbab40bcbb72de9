/-
  The reference's line: the rule of a line, if it is one. Condition: the line is no longer than 2 to the 30 less one.
-/
import Derived.Test.YtojpjhfafbdpcaaGreatDoorKE
import Derived.Test.YtojpjhfafbdpcaaGreatDoorKB
import Derived.Test.YtojpjhfafbdpcaaGreatDoorKU
import Derived.Test.YtojpjhfafbdpcaaGreatDoorKZl
import Derived.Test.YtojpjhfafbdpcaaGreatDoorKPk
import Derived.Test.YtojpjhfafbdpcaaGreatDoorTrimWalk
namespace Go.Proofs.YtojpjhfafbdpcaaGreatDoor
open Go.RowKit Go.Lib Go.Joins

def LineOut (l : List UInt8) (w : World) (e : Ending) (w' : World) : Prop := ∃ pv kv y ok, e = .returned (.tuple #[.agg #[pv, kv], .bool ok]) ∧ readW l = (if ok = true then some y else none) ∧ StrIn w' (fun k => w.heap.size ≤ k) pv (Rl.path y) ∧ StrIn w' (fun k => w.heap.size ≤ k) kv (Rl.keys y) ∧ Below w.heap.size w w'
theorem rtrimS_calls (x : List UInt8) (w : World) (hs : x.length ≤ 1073741824) : Calls Tryz.prog 30 #[.string (strB x)] w (Leaves (.string (strB (trimL x))) w) :=
  refTrim_calls (strB x) w (by rw [strB_size]; exact hs)
theorem strB_get {l : List UInt8} {j : Nat} (hj : j < l.length) (h : j < (strB l).size) : (strB l)[j]'h = l[j]'hj := rfl
theorem below_then' {w w1 w2 : World} (h : Below w.heap.size w w1) (k : Below w1.heap.size w1 w2) : Below w.heap.size w w2 := below_then h k
theorem size_nat {z : ByteArray} {k : Nat} (h : z.size = k) : (z.size : Int) = (k : Int) := by rw [h]

set_option maxRecDepth 100000 in
set_option maxHeartbeats 16000000 in
theorem rline_calls (l : List UInt8) (w : World) (hs : l.length ≤ 1073741823) : Calls Tryz.prog 31 #[.string (strB l)] w (LineOut l w) := by
  obtain ⟨W2, hW2⟩ : ∃ W2, (w.alloc (.cells #[.slice none 0 0, .slice none 0 0] 38)).alloc (.cells #[.slice none 0 0, .slice none 0 0] 38) = W2 := ⟨_, rfl⟩
  have HKB : Hid (W2.heap[w.heap.size]? = some (.cells #[.slice none 0 0, .slice none 0 0] 38 (0, 0))) := Lib.hid (by
    rw [← hW2, Below.heap_alloc _ _ _ (by simp)]
    exact heap_alloc_new _ _)
  have HKX : Hid (W2.heap[w.heap.size + 1]? = some (.cells #[.slice none 0 0, .slice none 0 0] 38 (0, 0))) := Lib.hid (by
    have h := heap_alloc_new (w.alloc (.cells #[.slice none 0 0, .slice none 0 0] 38)) (.cells #[.slice none 0 0, .slice none 0 0] 38)
    rw [hW2] at h
    simpa using h)
  have HB2 : Hid (Below w.heap.size w W2) := Lib.hid (by
    rw [← hW2]
    exact ((Below.refl _ _).alloc (Nat.le_refl _) _).alloc (by simp) _)
  have HW2 := Lib.hid hW2
  have HSZ := Lib.hid hs
  unfold LineOut
  clear hW2 hs
  rcases first_of 123 l with h | ⟨p, r, h, rfl⟩
  · have HRD : Hid (readW l = (if false = true then some (⟨[], []⟩ : Rl) else none)) := Lib.hid (by
      unfold readW
      rw [cut1_no h]
      rfl)
    have hzs := strB_size l
    have HZ : Hid (∀ (j : Nat) (hj : j < (strB l).size), (strB l)[j]'hj ≠ 123) := Lib.hid (fun j hj e => by
      have hj2 : j < l.length := by rw [← hzs]; exact hj
      rw [strB_get hj2 hj] at e
      exact h (e ▸ List.getElem_mem hj2))
    obtain ⟨z, hz⟩ : ∃ z, strB l = z := ⟨_, rfl⟩
    have hz31 : z.size ≤ 1073741823 := by rw [← hz, hzs]; exact HSZ.out
    rw [hz] at HZ ⊢
    clear h hzs hz
    go_enter Tryz.func31, Tryz.ntmps31
    go_wp2_with fail
    rw [HW2.out]
    go_loopg [5] z.size (fun gk i wr => ∃ (j : Nat), i = .int .i64 (j : Int) ∧ gk + j = z.size ∧ wr = W2)
    case atStart => exact ⟨0, rfl, rfl, rfl⟩
    case round =>
      obtain ⟨j, rfl, hg, rfl⟩ := hrel
      have HG := Lib.hid hg
      clear hg
      by_cases hlt : j < z.size
      · obtain ⟨g', rfl⟩ : ∃ g', gk = g' + 1 := ⟨gk - 1, by have := HG.out; omega⟩
        have hdd : decide ((j : Int) < (z.size : Int)) = true := by simp; omega
        have hji : (j : Int) < (z.size : Int) := by omega
        obtain ⟨x, hxi⟩ : ∃ x, z[j]'hlt = x := ⟨_, rfl⟩
        have hne : ((x.toNat : Int) != 123) = true := by
          have h1 := HZ.out j hlt
          rw [hxi] at h1
          rw [bne_iff_ne]
          intro e
          exact h1 (UInt8.toNat_inj.1 (by show x.toNat = 123; omega))
        go_wp2_with fail
        go_roundg g'
        case measure => omega
        case rel => exact ⟨j + 1, by go_num, by have := HG.out; omega, rfl⟩
      · have hdd : decide ((j : Int) < (z.size : Int)) = false := by simp; omega
        have hge : decide ((j : Int) ≥ (z.size : Int)) = true := by simp; omega
        have zb0 : wr.cell? ⟨w.heap.size, 0, none⟩ = some (.slice none 0 0) := (cell_of_block HKB.out 0).trans rfl
        have zb1 : wr.cell? ⟨w.heap.size, 1, none⟩ = some (.slice none 0 0) := (cell_of_block HKB.out 1).trans rfl
        have zx0 : wr.cell? ⟨w.heap.size + 1, 0, none⟩ = some (.slice none 0 0) := (cell_of_block HKX.out 0).trans rfl
        have zx1 : wr.cell? ⟨w.heap.size + 1, 1, none⟩ = some (.slice none 0 0) := (cell_of_block HKX.out 1).trans rfl
        have ub0 := unfrozen_of_block HKB.out 0
        have ub1 := unfrozen_of_block HKB.out 1
        obtain ⟨hkk, _, hbb, _⟩ := store_two (n := w.heap.size) (.slice none 0 0) (.slice none 0 0) HKB.out (show w.heap.size ≠ w.heap.size + 1 by omega) (Nat.le_refl _)
        have HKK := Lib.hid hkk
        have HBB := Lib.hid hbb
        clear hkk hbb
        go_wp2_with fail
        have g0 := (cell_of_block HKK.out 0).trans (show (#[(.slice none 0 0 : Value), .slice none 0 0] : Array Value)[0]? = some (.slice none 0 0) from rfl)
        have g1 := (cell_of_block HKK.out 1).trans (show (#[(.slice none 0 0 : Value), .slice none 0 0] : Array Value)[1]? = some (.slice none 0 0) from rfl)
        refine bodyPost_ret (v := .tuple #[.agg #[.slice none 0 0, .slice none 0 0], .bool false]) (by simp [results, Tryz.results31, go_sem, g0, g1]) rfl ⟨_, _, ⟨[], []⟩, false, rfl, HRD.out, StrIn.nil _ _, StrIn.nil _ _, ?_⟩
        exact HB2.out.trans HBB.out
  · have hzs : (strB (p ++ 123 :: r)).size = p.length + r.length + 1 := by rw [strB_size, List.length_append, List.length_cons]; omega
    have hl31 : p.length + r.length + 1 ≤ 1073741823 := by have := HSZ.out; rw [List.length_append, List.length_cons] at this; omega
    have HZ1 : Hid (∀ (j : Nat) (hj : j < (strB (p ++ 123 :: r)).size), j < p.length → (strB (p ++ 123 :: r))[j]'hj ≠ 123) := Lib.hid (fun j hj hjp e => by
      have hj2 : j < (p ++ 123 :: r).length := by rw [List.length_append, List.length_cons]; omega
      rw [strB_get hj2 hj, List.getElem_append_left hjp] at e
      exact h (e ▸ List.getElem_mem hjp))
    have HZ2 : Hid (∀ hj : p.length < (strB (p ++ 123 :: r)).size, (strB (p ++ 123 :: r))[p.length]'hj = 123) := Lib.hid (fun hj => by
      have hj2 : p.length < (p ++ 123 :: r).length := by rw [List.length_append, List.length_cons]; omega
      rw [strB_get hj2 hj, List.getElem_append_right (Nat.le_refl _)]
      simp)
    have HZ3 : Hid (∀ (hj : p.length + r.length < (strB (p ++ 123 :: r)).size), ((strB (p ++ 123 :: r))[p.length + r.length]'hj = 125 ↔ r.getLast? = some 125)) := Lib.hid (fun hj => by
      have hj2 : p.length + r.length < (p ++ 123 :: r).length := by rw [List.length_append, List.length_cons]; omega
      rw [strB_get hj2 hj]
      rcases List.eq_nil_or_concat r with h0 | ⟨m, b, h0⟩
      · subst h0
        simp
      · rw [List.concat_eq_append] at h0
        subst h0
        rw [List.getElem_append_right (by omega)]
        simp)
    have hex : (strB (p ++ 123 :: r)).extract 0 p.length = strB p := by
      rw [extract_strB, strB_list, List.drop_zero, Nat.sub_zero, List.take_append_of_le_length (Nat.le_refl _), List.take_length]
    have HEX2 : Hid (∀ m, r = m ++ [125] → (strB (p ++ 123 :: r)).extract (p.length + 1) (p.length + r.length) = strB m) := Lib.hid (fun m hm => by
      rw [extract_strB, strB_list, drop_at, hm, List.length_append, List.length_singleton, show p.length + (m.length + 1) - (p.length + 1) = m.length by omega, List.take_append_of_le_length (Nat.le_refl _), List.take_length])
    have HH := Lib.hid h
    obtain ⟨z, hz⟩ : ∃ z, strB (p ++ 123 :: r) = z := ⟨_, rfl⟩
    obtain ⟨pl, hpl⟩ : ∃ k, p.length = k := ⟨_, rfl⟩
    rw [hz] at HZ1 HZ2 HZ3 hzs hex HEX2 ⊢
    rw [hpl] at HZ1 HZ2 HZ3 hzs hex hl31 HEX2
    obtain ⟨k, hk⟩ : ∃ k, pl + r.length = k := ⟨_, rfl⟩
    rw [hk] at HZ3 hzs hl31 HEX2
    have HPL := Lib.hid hpl
    have HK := Lib.hid hk
    have HZS := Lib.hid hzs
    have hpk : pl ≤ k := by omega
    clear h hz hpl hk hzs
    go_enter Tryz.func31, Tryz.ntmps31
    go_wp2_with fail
    rw [HW2.out]
    go_loopg [5] pl (fun gk i wr => ∃ (j : Nat), i = .int .i64 (j : Int) ∧ gk + j = pl ∧ wr = W2)
    case atStart => exact ⟨0, rfl, rfl, rfl⟩
    case round =>
      obtain ⟨j, rfl, hg, rfl⟩ := hrel
      have HG := Lib.hid hg
      clear hg
      have hjz : j < z.size := by have := HG.out; have := HZS.out; omega
      have hdd : decide ((j : Int) < (z.size : Int)) = true := by simp; omega
      have hji : (j : Int) < (z.size : Int) := by omega
      obtain ⟨x, hxi⟩ : ∃ x, z[j]'hjz = x := ⟨_, rfl⟩
      by_cases hlt : j < pl
      · obtain ⟨g', rfl⟩ : ∃ g', gk = g' + 1 := ⟨gk - 1, by have := HG.out; omega⟩
        have hne : ((x.toNat : Int) != 123) = true := by
          have h1 := HZ1.out j hjz hlt
          rw [hxi] at h1
          rw [bne_iff_ne]
          intro e
          exact h1 (UInt8.toNat_inj.1 (by show x.toNat = 123; omega))
        go_wp2_with fail
        go_roundg g'
        case measure => omega
        case rel => exact ⟨j + 1, by go_num, by have := HG.out; omega, rfl⟩
      · obtain rfl : j = pl := by have := HG.out; omega
        have hx : x = 123 := by rw [← hxi]; exact HZ2.out hjz
        have hne : ((x.toNat : Int) != 123) = false := by rw [hx]; rfl
        have hzs := HZS.out
        have hge : decide ((j : Int) ≥ (z.size : Int)) = false := by simp; omega
        have hkz : k < z.size := by omega
        obtain ⟨y, hyi⟩ : ∃ y, z[k]'hkz = y := ⟨_, rfl⟩
        have hyl := HZ3.out hkz
        rw [hyi] at hyl
        have hcut := cut1_at HH.out r
        by_cases hlast : r.getLast? = some 125
        · have hy : y = 125 := hyl.2 hlast
          have hny : ((y.toNat : Int) != 125) = false := by rw [hy]; rfl
          obtain ⟨m, rfl⟩ : ∃ m, r = m ++ [125] := by
            rcases List.eq_nil_or_concat r with h0 | ⟨m, b, h0⟩
            · rw [h0] at hlast; cases hlast
            · rw [List.concat_eq_append] at h0
              subst h0
              rw [List.getLast?_append, List.getLast?_singleton] at hlast
              have : b = 125 := by simpa using hlast
              exact ⟨m, by rw [this]⟩
          have HT := Lib.hid (rtrimS_calls p wr (by have := HPL.out; omega))
          have HEX := Lib.hid hex
          have hrd : readW (p ++ 123 :: (m ++ [125])) = match trimL p with
            | b :: names => if b = 47 ∧ ruleW ⟨pieces 47 names, keysT m⟩ = true then some ⟨pieces 47 names, keysT m⟩ else none
            | [] => none := by
            unfold readW
            rw [hcut]
            dsimp only
            cases trimL p with
            | nil => rfl
            | cons b names =>
              dsimp only
              rw [List.dropLast_concat]
              simp only [hlast, true_and]
          have HRDM0 := Lib.hid hrd
          have HML : Hid (m.length ≤ 1073741823) := Lib.hid (by have := HK.out; rw [List.length_append, List.length_singleton] at this; omega)
          have HTPL := Lib.hid (trimL_len p)
          have hnil := strB_nil (trimL p)
          obtain ⟨tp, htp⟩ : ∃ s, trimL p = s := ⟨_, rfl⟩
          rw [htp] at HT hnil HRDM0 HTPL
          obtain ⟨pB, hpB⟩ : ∃ s, strB p = s := ⟨_, rfl⟩
          rw [hpB] at HT HEX
          have hex' := HEX.out
          clear hrd hcut hyl hlast hy hex htp hpB
          cases tp with
          | nil =>
            have HRD : Hid (readW (p ++ 123 :: (m ++ [125])) = (if false = true then some (⟨[], []⟩ : Rl) else none)) := Lib.hid (by rw [HRDM0.out]; rfl)
            have e0 : strB [] = ⟨#[]⟩ := rfl
            rw [e0] at HT
            clear hnil e0
            go_wp2_with fail
            try rw [hex']
            with_reducible refine HT.out.mono ?_
            rintro e w4 ⟨rfl, hb4⟩
            have HB4 := Lib.hid (below_then HB2.out hb4)
            have HKB4 := Lib.hid (block_below hb4 HKB.out)
            have HKX4 := Lib.hid (block_below hb4 HKX.out)
            clear hb4 HT
            have zb0 : w4.cell? ⟨w.heap.size, 0, none⟩ = some (.slice none 0 0) := (cell_of_block HKB4.out 0).trans rfl
            have zb1 : w4.cell? ⟨w.heap.size, 1, none⟩ = some (.slice none 0 0) := (cell_of_block HKB4.out 1).trans rfl
            have zx0 : w4.cell? ⟨w.heap.size + 1, 0, none⟩ = some (.slice none 0 0) := (cell_of_block HKX4.out 0).trans rfl
            have zx1 : w4.cell? ⟨w.heap.size + 1, 1, none⟩ = some (.slice none 0 0) := (cell_of_block HKX4.out 1).trans rfl
            have ub0 := unfrozen_of_block HKB4.out 0
            have ub1 := unfrozen_of_block HKB4.out 1
            obtain ⟨hkk, _, hbb, _⟩ := store_two (n := w.heap.size) (.slice none 0 0) (.slice none 0 0) HKB4.out (show w.heap.size ≠ w.heap.size + 1 by omega) (Nat.le_refl _)
            have HKK := Lib.hid hkk
            have HBB := Lib.hid hbb
            clear hkk hbb
            go_wp2_with fail
            have g0 := (cell_of_block HKK.out 0).trans (show (#[(.slice none 0 0 : Value), .slice none 0 0] : Array Value)[0]? = some (.slice none 0 0) from rfl)
            have g1 := (cell_of_block HKK.out 1).trans (show (#[(.slice none 0 0 : Value), .slice none 0 0] : Array Value)[1]? = some (.slice none 0 0) from rfl)
            refine bodyPost_ret (v := .tuple #[.agg #[.slice none 0 0, .slice none 0 0], .bool false]) (by simp [results, Tryz.results31, go_sem, g0, g1]) rfl ⟨_, _, ⟨[], []⟩, false, rfl, HRD.out, StrIn.nil _ _, StrIn.nil _ _, ?_⟩
            exact HB4.out.trans HBB.out
          | cons b names =>
            have hzz : (strB (b :: names)).size = names.length + 1 := by rw [strB_size]; rfl
            have HG0 : Hid (∀ h : 0 < (strB (b :: names)).size, (strB (b :: names))[0]'h = b) := Lib.hid (fun _ => rfl)
            have hex3 : (strB (b :: names)).extract 1 (strB (b :: names)).size = strB names := by
              rw [extract_strB, strB_list, hzz, List.drop_succ_cons, List.drop_zero, Nat.add_sub_cancel, List.take_length]
            have HNL : Hid (names.length + 1 ≤ 1073741823) := Lib.hid (by have h1 := HTPL.out; rw [List.length_cons] at h1; have := HPL.out; omega)
            obtain ⟨z2, hz2⟩ : ∃ s, strB (b :: names) = s := ⟨_, rfl⟩
            rw [hz2] at HT hnil hzz hex3 HG0
            rw [hzz] at hex3
            have hnil2 : (z2.toList == []) = false := hnil
            clear hnil hz2
            by_cases hb47 : b = 47
            · have hnb : ((b.toNat : Int) != 47) = false := by rw [hb47]; rfl
              have HRDM : Hid (readW (p ++ 123 :: (m ++ [125])) = if ruleW ⟨pieces 47 names, keysT m⟩ = true then some ⟨pieces 47 names, keysT m⟩ else none) := Lib.hid (by
                rw [HRDM0.out]
                dsimp only
                simp only [hb47, true_and])
              have HFEW : Hid (RlFew ⟨pieces 47 names, keysT m⟩) := Lib.hid ⟨fun x hx => by have h1 := pieces_short hx; have h2 := HNL.out; omega, fun x hx => by have h1 := keysT_len hx; have h2 := HML.out; omega⟩
              clear hb47
              have hz20 : 0 < z2.size := by omega
              have hb0 : z2[0]'hz20 = b := HG0.out hz20
              go_wp2_with fail
              try rw [hex']
              with_reducible refine HT.out.mono ?_
              rintro e w4 ⟨rfl, hb4⟩
              have HB4 := Lib.hid (below_then HB2.out hb4)
              have HKB4 := Lib.hid (block_below hb4 HKB.out)
              have HKX4 := Lib.hid (block_below hb4 HKX.out)
              clear hb4 hz20 hb0
              have hz20 : 0 < z2.size := by omega
              have hb0 : z2[0]'hz20 = b := HG0.out hz20
              have HSPL := Lib.hid (rsplit_at (strB names) 47 47 rfl w4 (by rw [strB_size]; have := HNL.out; omega))
              rw [strB_list] at HSPL
              obtain ⟨nmB, hnmB⟩ : ∃ s, strB names = s := ⟨_, rfl⟩
              rw [hnmB] at HSPL hex3
              have HEX3 := Lib.hid hex3
              have zx0 : w4.cell? ⟨w.heap.size + 1, 0, none⟩ = some (.slice none 0 0) := (cell_of_block HKX4.out 0).trans rfl
              clear hnmB HT
              go_wp2_with fail
              try rw [HEX3.out]
              with_reducible refine HSPL.out.mono ?_
              rintro e w5 ⟨v5, rfl, how5, hb5⟩
              have hin5 := how5.in
              obtain ⟨va, vc, rfl, _⟩ := hin5.form
              obtain ⟨n1, hn1⟩ : ∃ k, (pieces 47 names).length = k := ⟨_, rfl⟩
              rw [hn1] at hin5 ⊢
              have hX5 := block_below hb5 HKX4.out
              have HB5 := Lib.hid (below_then HB4.out hb5)
              have hkX := lt_of_block HKX4.out
              have hp5 : StrIn w5 (fun k => w.heap.size + 1 < k) (.slice va n1 vc) (pieces 47 names) := hin5.mono (fun k _ h => by omega)
              have HKB5 := Lib.hid (block_below hb5 HKB4.out)
              have u0 := unfrozen_of_block hX5 0
              have x0 : w5.cell? ⟨w.heap.size + 1, 0, none⟩ = some (.slice none 0 0) := (cell_of_block hX5 0).trans rfl
              obtain ⟨W6, hW6⟩ : ∃ W, w5.setCell ⟨w.heap.size + 1, 0, none⟩ (.slice va n1 vc) = W := ⟨_, rfl⟩
              have HX6 : Hid (W6.heap[w.heap.size + 1]? = some (.cells #[.slice va n1 vc, .slice none 0 0] 38 (0, 0))) := Lib.hid (by rw [← hW6]; exact block_setCell (i := 0) hX5 _)
              have hk6 : ∀ k, k ≠ w.heap.size + 1 → W6.heap[k]? = w5.heap[k]? := fun k hk => by rw [← hW6]; exact Below.heap_setCell _ _ _ _ hk
              have HKB6 : Hid (W6.heap[w.heap.size]? = some (.cells #[.slice none 0 0, .slice none 0 0] 38 (0, 0))) := Lib.hid ((hk6 _ (by omega)).trans HKB5.out)
              have HP6 : Hid (StrIn W6 (fun k => w.heap.size + 1 < k) (.slice va n1 vc) (pieces 47 names)) := Lib.hid (hp5.stored (B := w.heap.size + 1) (by omega) hk6)
              have HB6 : Hid (Below w.heap.size w W6) := Lib.hid (by rw [← hW6]; exact HB5.out.setCell (p := ⟨w.heap.size + 1, 0, none⟩) (by simp) _)
              have HW6 := Lib.hid hW6
              have HTM := Lib.hid (rtrimS_calls m W6 (by have := HML.out; omega))
              obtain ⟨mB, hmB⟩ : ∃ s, strB m = s := ⟨_, rfl⟩
              have hexm := HEX2.out m rfl
              rw [hmB] at HTM hexm
              have hkz1 : (j : Int) + 1 ≤ (k : Int) := by have := HK.out; rw [List.length_append, List.length_singleton] at this; omega
              have hpk1 : j + 1 ≤ k := by omega
              have hkz2 : k ≤ z.size := by omega
              clear hin5 hn1 hX5 hb5 how5 hp5 HKB5 hW6 hk6 hmB HSPL hkX zx0
              go_wp2_with (rw [HW6.out])
              try rw [HW6.out]
              try rw [hexm]
              with_reducible refine HTM.out.mono ?_
              rintro e w7 ⟨rfl, hb7⟩
              have HB7 := Lib.hid (below_then HB6.out hb7)
              have HX7 := Lib.hid (block_below hb7 HX6.out)
              have HKB7 := Lib.hid (block_below hb7 HKB6.out)
              have HP7 := Lib.hid (HP6.out.below hb7)
              have hnil := strB_nil (trimL m)
              have hkr := keysT_ref m
              have HTL2 := Lib.hid (trimL_len m)
              obtain ⟨tm, htm⟩ : ∃ s, trimL m = s := ⟨_, rfl⟩
              rw [htm] at hnil hkr HTL2 ⊢
              clear hb7 HTM HX6 HKB6 HP6 x0 u0 htm
              cases tm with
              | nil =>
                have HKR : Hid (keysT m = []) := Lib.hid (by rw [hkr]; rfl)
                have e0 : strB [] = ⟨#[]⟩ := rfl
                rw [e0]
                have HK7 : Hid (StrIn w7 (fun k => w.heap.size + 1 < k) (.slice none 0 0) (keysT m)) := Lib.hid (by rw [HKR.out]; exact StrIn.nil _ _)
                clear hnil hkr e0
                have HX0 : Hid (w7.cell? ⟨w.heap.size + 1, 0, none⟩ = some (.slice va n1 vc)) := Lib.hid ((cell_of_block HX7.out 0).trans rfl)
                have HX1 : Hid (w7.cell? ⟨w.heap.size + 1, 1, none⟩ = some (.slice none 0 0)) := Lib.hid ((cell_of_block HX7.out 1).trans rfl)
                have HRU := Lib.hid (rrule_calls (w := w7.drew) (r := ⟨pieces 47 names, keysT m⟩) (HP7.out.below (Below.refl _ _).drew) (HK7.out.below (Below.refl _ _).drew) HFEW.out)
                obtain ⟨q, hq⟩ : ∃ q, ruleW ⟨pieces 47 names, keysT m⟩ = q := ⟨_, rfl⟩
                rw [hq] at HRU
                have HFIN : Hid (readW (p ++ 123 :: (m ++ [125])) = (if q = true then some (⟨pieces 47 names, keysT m⟩ : Rl) else none)) := Lib.hid (by rw [HRDM.out, ← hq])
                clear hq
                go_upto_region 18 with (fail)
                refine wp_region_held_drew (S := fun W => W.cell? ⟨w.heap.size + 1, 0, none⟩ = some (.slice va n1 vc) ∧ W.cell? ⟨w.heap.size + 1, 1, none⟩ = some (.slice none 0 0)) (by kernel_rfl) ⟨HX0.out, HX1.out⟩ (fun hHeld => ?_)
                refine wpAnyH_take (i := 0) (v := ?_) rfl (by kernel_rfl) (by kernel_rfl) (by kernel_rfl) (fun _ _ _ h => h) (Or.inl ⟨by rfl, ?_⟩) (by assumption) ?_
                rotate_left
                · intro W hS
                  try dsimp only at hS
                  go_simp
                  try with_reducible rfl
                simp only [List.getElem_toArray, List.getElem_cons_zero, Act.put, List.setIfInBounds_toArray, List.set_cons_zero, List.set_cons_succ]
                refine wpAnyH_take (i := 1) (v := ?_) rfl (by kernel_rfl) (by kernel_rfl) (by kernel_rfl) (fun _ _ _ h => h) (Or.inl ⟨by rfl, ?_⟩) (by assumption) ?_
                rotate_left
                · intro W hS
                  try dsimp only at hS
                  go_simp
                  try with_reducible rfl
                simp only [List.getElem_toArray, List.getElem_cons_succ, List.getElem_cons_zero, Act.put, List.setIfInBounds_toArray, List.set_cons_zero, List.set_cons_succ]
                refine wpAnyH_ready (rs := [2]) (by kernel_rfl) (by simp) ?_
                refine AllReadyH.cons rfl (fun K hK => ?_) AllReadyH.nil
                go_simp
                with_reducible refine HRU.out.mono ?_
                rintro e wq ⟨rfl, hbq⟩
                have HBQ : Hid (Below w7.heap.size w7 wq) := Lib.hid (((Below.refl w7.heap.size w7).drew).trans hbq)
                have HKBQ := Lib.hid (block_below HBQ.out HKB7.out)
                have hc0 := (HBQ.out.cell (lt_of_cell HX0.out)).trans HX0.out
                have hc1 := (HBQ.out.cell (lt_of_cell HX1.out)).trans HX1.out
                clear hbq HRU
                refine hK.out _ _ ⟨hc0, hc1⟩ (fun hHeld => ?_)
                clear hK K
                try simp only [List.getElem_toArray, List.getElem_cons_succ, List.getElem_cons_zero, Act.put, List.setIfInBounds_toArray, List.set_cons_zero, List.set_cons_succ]
                have hsq := HKBQ.out
                have y0 : wq.cell? ⟨w.heap.size, 0, none⟩ = some (.slice none 0 0) := (cell_of_block hsq 0).trans rfl
                have y1 : wq.cell? ⟨w.heap.size, 1, none⟩ = some (.slice none 0 0) := (cell_of_block hsq 1).trans rfl
                have ub0 := unfrozen_of_block hsq 0
                have ub1 := unfrozen_of_block hsq 1
                have hd0 := (HBQ.out.cell (lt_of_cell HX0.out)).trans HX0.out
                have hd1 := (HBQ.out.cell (lt_of_cell HX1.out)).trans HX1.out
                obtain ⟨hkk, hcc, hbb, hoo⟩ := store_two (n := w.heap.size) (.slice va n1 vc) (.slice none 0 0) HKBQ.out (show w.heap.size ≠ w.heap.size + 1 by omega) (Nat.le_refl _)
                have HKK := Lib.hid hkk
                have HCC := Lib.hid hcc
                have HBB := Lib.hid hbb
                have HOO := Lib.hid hoo
                clear hsq hkk hcc hbb hoo
                refine wpAnyH_ready (rs := [3]) (by kernel_rfl) (by simp) ?_
                refine AllReadyH.cons rfl (fun K hK => ?_) AllReadyH.nil
                go_simp
                refine hK.out _ _ ⟨(HCC.out _).trans hd0, (HCC.out _).trans hd1⟩ (fun hHeld => ?_)
                clear hK K
                try simp only [List.getElem_toArray, List.getElem_cons_succ, List.getElem_cons_zero, Act.put, List.setIfInBounds_toArray, List.set_cons_zero, List.set_cons_succ]
                refine wpAnyH_take (i := 4) (v := ?_) rfl (by kernel_rfl) (by kernel_rfl) (by kernel_rfl) (fun _ _ _ h => h) (Or.inl ⟨by rfl, ?_⟩) (by assumption) ?_
                rotate_left
                · intro W hS
                  try dsimp only at hS
                  go_simp
                  try with_reducible rfl
                simp only [List.getElem_toArray, List.getElem_cons_succ, List.getElem_cons_zero, Act.put, List.setIfInBounds_toArray, List.set_cons_zero, List.set_cons_succ]
                refine wpAnyH_done (by kernel_rfl) ?_ _
                go_wp2_with fail
                have g0 := (cell_of_block HKK.out 0).trans (show (#[(.slice va n1 vc : Value), .slice none 0 0] : Array Value)[0]? = some (.slice va n1 vc) from rfl)
                have g1 := (cell_of_block HKK.out 1).trans (show (#[(.slice va n1 vc : Value), .slice none 0 0] : Array Value)[1]? = some (.slice none 0 0) from rfl)
                refine bodyPost_ret (v := .tuple #[.agg #[.slice va n1 vc, .slice none 0 0], .bool q]) (by simp [results, Tryz.results31, go_sem, g0, g1]) rfl ⟨_, _, ⟨pieces 47 names, keysT m⟩, q, rfl, HFIN.out, ?_, ?_, ?_⟩
                · exact ((HP7.out.below HBQ.out).stored (B := w.heap.size) (by omega) HOO.out).mono (fun k _ h => by omega)
                · exact ((HK7.out.below HBQ.out).stored (B := w.heap.size) (by omega) HOO.out).mono (fun k _ h => by omega)
                · exact (below_then' HB7.out HBQ.out).trans HBB.out
              | cons t0 tr =>
                have HKR : Hid (keysT m = (pieces 44 (t0 :: tr)).map trimL) := Lib.hid (by rw [hkr, if_neg (List.cons_ne_nil _ _)])
                have HSP8 := Lib.hid (rsplit_at (strB (t0 :: tr)) 44 44 rfl w7 (by rw [strB_size]; have := HTL2.out; have := HML.out; omega))
                rw [strB_list] at HSP8
                have HPS8 : Hid (∀ x ∈ pieces 44 (t0 :: tr), x.length ≤ 1073741823) := Lib.hid (fun x hx => by have h1 := pieces_short hx; have h2 := HTL2.out; have h3 := HML.out; omega)
                have HPL8 : Hid ((pieces 44 (t0 :: tr)).length ≤ 1073741825) := Lib.hid (by have h1 := pieces_few 44 (t0 :: tr); have h2 := HTL2.out; have h3 := HML.out; omega)
                obtain ⟨tB, htB⟩ : ∃ s, strB (t0 :: tr) = s := ⟨_, rfl⟩
                have hnil2 : (tB.toList == []) = false := by rw [← htB, hnil]; rfl
                have hnil3 : (tB.toList != []) = true := by rw [bne, hnil2]; rfl
                obtain ⟨ps, hps⟩ : ∃ ps, pieces 44 (t0 :: tr) = ps := ⟨_, rfl⟩
                rw [htB, hps] at HSP8
                rw [hps] at HKR HPS8 HPL8
                rw [htB]
                clear hnil hkr htB hps
                go_wp2_with fail
                with_reducible refine HSP8.out.mono ?_
                rintro e w8 ⟨v8, rfl, how8, hb8⟩
                have hin8 := how8.in
                obtain ⟨a8, c8, rfl, hlc8, hcm8, _⟩ := hin8.form
                obtain ⟨n8, hn8⟩ : ∃ k, ps.length = k := ⟨_, rfl⟩
                rw [hn8] at hin8 hlc8 ⊢
                have hm8 : n8 ≤ 9223372036854775807 := by unfold maxLen at hcm8; omega
                have HB8 := Lib.hid (below_then HB7.out hb8)
                have HX8 := Lib.hid (block_below hb8 HX7.out)
                have HKB8 := Lib.hid (block_below hb8 HKB7.out)
                have HP8 := Lib.hid (HP7.out.below hb8)
                have HIN8 := Lib.hid hin8.any
                have HN8 := Lib.hid hn8
                clear hb8 how8 hin8 hn8 hcm8 HSP8 HX7 HKB7 HP7
                go_wp2_with fail
                go_loopg [9] n8 (fun gk i wx => ∃ (j : Nat) (vk : Value), i = .int .i64 (j : Int) ∧ gk + j = n8 ∧ OwnS w8.heap.size wx vk ((ps.take j).map trimL) ∧ wx.heap[w.heap.size + 1]? = some (.cells #[.slice va n1 vc, vk] 38 (0, 0)) ∧ Keeps (fun k => k = w.heap.size + 1) w8 wx)
                case atStart => exact ⟨0, .slice none 0 0, rfl, rfl, OwnS.nil _ _, HX8.out, Keeps.refl _ _⟩
                case round =>
                  obtain ⟨i8, vk, rfl, hg, hown, hX, hkp⟩ := hrel
                  rename World => wx
                  obtain ⟨ka, kc, hvk, _⟩ := hown.in.form
                  obtain ⟨nk, hnk⟩ : ∃ k, ((ps.take i8).map trimL).length = k := ⟨_, rfl⟩
                  rw [hnk] at hvk
                  subst hvk
                  have HG8 := Lib.hid hg
                  have HOWN := Lib.hid hown
                  have HX := Lib.hid hX
                  have HKP := Lib.hid hkp
                  have HNK := Lib.hid hnk
                  have HW8 : Hid (w.heap.size + 1 < w8.heap.size) := Lib.hid (lt_of_block HX8.out)
                  clear hg hown hX hkp hnk
                  by_cases hlt8 : i8 < n8
                  · obtain ⟨g8, rfl⟩ : ∃ g8, gk = g8 + 1 := ⟨gk - 1, by have := HG8.out; omega⟩
                    have hdd8 : decide ((i8 : Int) < (n8 : Int)) = true := by simp; omega
                    have hji8 : (i8 : Int) < (n8 : Int) := by omega
                    obtain ⟨x8, hx8⟩ : ∃ x, ps[i8]? = some x := ⟨ps[i8]'(by rw [HN8.out]; exact hlt8), List.getElem?_eq_getElem _⟩
                    obtain ⟨b8, o8, hab8, c80⟩ := HIN8.out.at hx8
                    subst hab8
                    have hb8lt := lt_of_cell c80
                    have HB8N : Hid (b8 < w8.heap.size ∧ b8 ≠ w.heap.size + 1) := Lib.hid ⟨hb8lt, fun e => by
                      rw [e] at c80
                      exact absurd ((cell_of_block HX8.out _).symm.trans c80) (by
                        cases hq : (o8 + i8) with
                        | zero => simp
                        | succ q => cases q with
                          | zero => simp
                          | succ q => simp)⟩
                    have c8x : wx.cell? ⟨b8, o8 + i8, none⟩ = some (.string (strB x8)) := cell_keep c80 HKP.out HB8N.out.2
                    have HT8 := Lib.hid (rtrimS_calls x8 wx.drew (by have := HPS8.out x8 (List.mem_of_getElem? hx8); omega))
                    have HTK : Hid ((ps.take (i8 + 1)).map trimL = (ps.take i8).map trimL ++ [trimL x8]) := Lib.hid (by rw [List.take_add_one, hx8, Option.toList_some, List.map_append]; rfl)
                    have HNK2 : Hid (nk ≤ 2000000000) := Lib.hid (by rw [← HNK.out, List.length_map, List.length_take]; have := HPL8.out; omega)
                    have xx1 : wx.cell? ⟨w.heap.size + 1, 1, none⟩ = some (.slice ka nk kc) := (cell_of_block HX.out 1).trans rfl
                    have XX1 := Lib.hid xx1
                    have C8X := Lib.hid c8x
                    obtain ⟨yB, hyB⟩ : ∃ s, strB x8 = s := ⟨_, rfl⟩
                    rw [hyB] at HT8 C8X c8x
                    clear hx8 c80 hb8lt hyB
                    go_upto_region 17 with (fail)
                    refine wp_region_z (S := fun W => W.cell? ⟨w.heap.size + 1, 1, none⟩ = some (.slice ka nk kc) ∧ W.cell? ⟨b8, o8 + i8, none⟩ = some (.string yB)) 10 (by kernel_rfl) ⟨XX1.out, C8X.out⟩ (fun hHeld => ?_)
                    refine wpAnyZ_take (i := 0) (f := 12) (v := ?_) rfl (by kernel_rfl) (by kernel_rfl) (by kernel_rfl) (by kernel_rfl) (by kernel_rfl) (fun _ _ _ h => h) (Or.inl ⟨by rfl, ?_⟩) (by assumption) ?_
                    rotate_left
                    · intro W hS
                      try dsimp only at hS
                      go_simp
                      try with_reducible rfl
                    try simp only [List.getElem_toArray, List.getElem_cons_zero, Act.put, List.setIfInBounds_toArray, List.set_cons_zero, List.set_cons_succ]
                    refine wpAnyZ_take (i := 1) (f := 12) (v := ?_) rfl (by kernel_rfl) (by kernel_rfl) (by kernel_rfl) (by kernel_rfl) (by kernel_rfl) (fun _ _ _ h => h) (Or.inl ⟨by rfl, ?_⟩) (by assumption) ?_
                    rotate_left
                    · intro W hS
                      try dsimp only at hS
                      go_simp
                      try with_reducible rfl
                    try simp only [List.getElem_toArray, List.getElem_cons_succ, List.getElem_cons_zero, Act.put, List.setIfInBounds_toArray, List.set_cons_zero, List.set_cons_succ]
                    refine wpAnyZ_take (i := 2) (f := 12) (v := ?_) rfl (by kernel_rfl) (by kernel_rfl) (by kernel_rfl) (by kernel_rfl) (by kernel_rfl) (fun _ _ _ h => h) (Or.inl ⟨by rfl, ?_⟩) (by assumption) ?_
                    rotate_left
                    · intro W hS
                      try dsimp only at hS
                      go_simp
                      try with_reducible rfl
                    try simp only [List.getElem_toArray, List.getElem_cons_succ, List.getElem_cons_zero, Act.put, List.setIfInBounds_toArray, List.set_cons_zero, List.set_cons_succ]
                    refine wpAnyZ_take (i := 3) (f := 12) (v := ?_) rfl (by kernel_rfl) (by kernel_rfl) (by kernel_rfl) (by kernel_rfl) (by kernel_rfl) (fun _ _ _ h => h) (Or.inl ⟨by rfl, ?_⟩) (by assumption) ?_
                    rotate_left
                    · intro W hS
                      try dsimp only at hS
                      go_simp
                      try with_reducible rfl
                    try simp only [List.getElem_toArray, List.getElem_cons_succ, List.getElem_cons_zero, Act.put, List.setIfInBounds_toArray, List.set_cons_zero, List.set_cons_succ]
                    refine wpAnyZ_take (i := 4) (f := 12) (v := ?_) rfl (by kernel_rfl) (by kernel_rfl) (by kernel_rfl) (by kernel_rfl) (by kernel_rfl) (fun _ _ _ h => h) (Or.inl ⟨by rfl, ?_⟩) (by assumption) ?_
                    rotate_left
                    · intro W hS
                      try dsimp only at hS
                      go_simp
                      try with_reducible rfl
                    try simp only [List.getElem_toArray, List.getElem_cons_succ, List.getElem_cons_zero, Act.put, List.setIfInBounds_toArray, List.set_cons_zero, List.set_cons_succ]
                    refine wpAnyZ_take (i := 5) (f := 12) (v := ?_) rfl (by kernel_rfl) (by kernel_rfl) (by kernel_rfl) (by kernel_rfl) (by kernel_rfl) (fun _ _ _ h => h) (Or.inl ⟨by rfl, ?_⟩) (by assumption) ?_
                    rotate_left
                    · intro W hS
                      try dsimp only at hS
                      go_simp
                      try with_reducible rfl
                    try simp only [List.getElem_toArray, List.getElem_cons_succ, List.getElem_cons_zero, Act.put, List.setIfInBounds_toArray, List.set_cons_zero, List.set_cons_succ]
                    refine wpAnyZ_one (i := 6) (by kernel_rfl) rfl (fun K hK => ?_)
                    go_simp
                    with_reducible refine HT8.out.mono ?_
                    rintro e w9 ⟨rfl, hb9⟩
                    have HBX9 : Hid (Below wx.heap.size wx w9) := Lib.hid (((Below.refl wx.heap.size wx).drew).trans hb9)
                    have hX9 := block_below HBX9.out HX.out
                    have hown9 : OwnS w8.heap.size w9 (.slice ka nk kc) ((ps.take i8).map trimL) := HOWN.out.below HBX9.out
                    have hk9 : Keeps (fun k => k = w.heap.size + 1) w8 w9 := HKP.out.below HBX9.out HKP.out.size
                    have hc91 := (HBX9.out.cell (lt_of_cell XX1.out)).trans XX1.out
                    have hc98 := (HBX9.out.cell (lt_of_cell C8X.out)).trans C8X.out
                    obtain ⟨v10, w10, hrun, hown10, hkp10⟩ := hown9.append (trimL x8) hk9.size (by rw [HNK.out]; exact HNK2.out)
                    rw [← HTK.out] at hown10
                    obtain ⟨ka2, kc2, hv10, _⟩ := hown10.in.form
                    have hlen10 : ((ps.take (i8 + 1)).map trimL).length = nk + 1 := by rw [HTK.out, List.length_append, HNK.out]; rfl
                    rw [hlen10] at hv10
                    subst hv10
                    have hnew : ∀ k, (Value.slice ka nk kc).ownBlock = some k → w8.heap.size ≤ k := fun k e => HOWN.out.new k e
                    have hX10 := block_keep hX9 hkp10 (fun e => by have h1 := hnew _ e; have := HW8.out; omega)
                    have hk10 : Keeps (fun k => k = w.heap.size + 1) w8 w10 := hk9.trans hkp10 (fun k e => .inr (hnew k e))
                    have hc101 : w10.cell? ⟨w.heap.size + 1, 1, none⟩ = some (.slice ka nk kc) := (cell_of_block hX10 1).trans rfl
                    have hc108 : w10.cell? ⟨b8, o8 + i8, none⟩ = some (.string yB) := cell_keep hc98 hkp10 (fun e => by have h1 := hnew _ e; have := HB8N.out.1; omega)
                    have hca1 : (w9.alloc (.cells #[.string (strB (trimL x8))] 9)).cell? ⟨w.heap.size + 1, 1, none⟩ = some (.slice ka nk kc) := cell_alloc hc91 _
                    have hca8 : (w9.alloc (.cells #[.string (strB (trimL x8))] 9)).cell? ⟨b8, o8 + i8, none⟩ = some (.string yB) := cell_alloc hc98 _
                    have HRUN := Lib.hid hrun
                    have HX10 := Lib.hid hX10
                    have HO10 := Lib.hid hown10
                    have HK10 := Lib.hid hk10
                    clear hb9 hX9 hown9 hk9 hrun hown10 hkp10 hnew hX10 hk10 hlen10
                    refine hK.out _ _ ⟨hc91, hc98⟩ (fun hHeld => ?_)
                    clear hK K hc91 hc98
                    try simp only [List.getElem_toArray, List.getElem_cons_succ, List.getElem_cons_zero, Act.put, List.setIfInBounds_toArray, List.set_cons_zero, List.set_cons_succ]
                    refine wpAnyZ_one (i := 7) (by kernel_rfl) rfl (fun K hK => ?_)
                    go_simp
                    refine hK.out _ _ ⟨hca1, hca8⟩ (fun hHeld => ?_)
                    clear hK K hca1 hca8
                    try simp only [List.getElem_toArray, List.getElem_cons_succ, List.getElem_cons_zero, Act.put, List.setIfInBounds_toArray, List.set_cons_zero, List.set_cons_succ]
                    refine wpAnyZ_one (i := 8) (by kernel_rfl) rfl (fun K hK => ?_)
                    refine step_app HRUN.out (.tmp 70) (.tmp 76) rfl rfl rfl rfl (hK.out _ _ ⟨hc101, hc108⟩ (fun hHeld => ?_))
                    clear hK K hc101 hc108
                    try simp only [List.getElem_toArray, List.getElem_cons_succ, List.getElem_cons_zero, Act.put, List.setIfInBounds_toArray, List.set_cons_zero, List.set_cons_succ]
                    refine wpAnyZ_take (i := 9) (f := 12) (v := ?_) rfl (by kernel_rfl) (by kernel_rfl) (by kernel_rfl) (by kernel_rfl) (by kernel_rfl) (fun _ _ _ h => h) (Or.inl ⟨by rfl, ?_⟩) (by assumption) ?_
                    rotate_left
                    · intro W hS
                      try dsimp only at hS
                      go_simp
                      try with_reducible rfl
                    try simp only [List.getElem_toArray, List.getElem_cons_succ, List.getElem_cons_zero, Act.put, List.setIfInBounds_toArray, List.set_cons_zero, List.set_cons_succ]
                    have f10 := unfrozen_of_block HX10.out 1
                    have hX10 := HX10.out
                    have h101 : w10.cell? ⟨w.heap.size + 1, 1, none⟩ = some (.slice ka nk kc) := (cell_of_block hX10 1).trans rfl
                    clear hX10
                    refine wpAnyZ_last (by kernel_rfl) rfl (by kernel_rfl) (fun K hK => ?_)
                    go_simp
                    refine hK.out _ _ ?_
                    clear hK K
                    try simp only [List.getElem_toArray, List.getElem_cons_succ, List.getElem_cons_zero, Act.put, List.setIfInBounds_toArray, List.set_cons_zero, List.set_cons_succ]
                    have hk11 := (Keeps.refl (fun k => k = w.heap.size + 1) w10).setCell (p := ⟨w.heap.size + 1, 1, none⟩) (.inl rfl) (.slice ka2 (nk + 1) kc2)
                    have HX11 : Hid ((w10.setCell ⟨w.heap.size + 1, 1, none⟩ (.slice ka2 (nk + 1) kc2)).heap[w.heap.size + 1]? = some (.cells #[.slice va n1 vc, .slice ka2 (nk + 1) kc2] 38 (0, 0))) := Lib.hid (block_setCell (i := 1) HX10.out _)
                    have HO11 := Lib.hid (HO10.out.keep hk11 (fun k hk e => by have e' : k = w.heap.size + 1 := e; have := HW8.out; omega))
                    have HK11 := Lib.hid (HK10.out.trans hk11 (fun k e => .inl e))
                    clear hk11
                    go_wp2_with fail
                    go_roundg g8
                    case measure => omega
                    case rel => exact ⟨i8 + 1, _, by go_num, by have := HG8.out; omega, HO11.out, HX11.out, HK11.out⟩
                  · have hdd8 : decide ((i8 : Int) < (n8 : Int)) = false := by simp; omega
                    have HKE : Hid ((ps.take i8).map trimL = keysT m) := Lib.hid (by rw [HKR.out, List.take_of_length_le (by have := HN8.out; omega)])
                    have HBX : Hid (Below w.heap.size w wx) := Lib.hid (HB8.out.trans (HKP.out.toBelow HB8.out.size (fun k e => by have e' : k = w.heap.size + 1 := e; omega)))
                    have HKBX := Lib.hid (block_keep HKB8.out HKP.out (fun e => by have e' : w.heap.size = w.heap.size + 1 := e; omega))
                    have HPX : Hid (StrIn wx (fun k => w.heap.size + 1 < k) (.slice va n1 vc) (pieces 47 names)) := Lib.hid (HP8.out.keep HKP.out (fun k _ h e => by have e' : k = w.heap.size + 1 := e; omega) (fun k _ h => h))
                    have HKX2 : Hid (StrIn wx (fun k => w.heap.size + 1 < k) (.slice ka nk kc) (keysT m)) := Lib.hid (by
                      rw [← HKE.out]
                      exact HOWN.out.in.mono (fun k _ h => by have := HW8.out; omega))
                    have HX0 : Hid (wx.cell? ⟨w.heap.size + 1, 0, none⟩ = some (.slice va n1 vc)) := Lib.hid ((cell_of_block HX.out 0).trans rfl)
                    have HX1 : Hid (wx.cell? ⟨w.heap.size + 1, 1, none⟩ = some (.slice ka nk kc)) := Lib.hid ((cell_of_block HX.out 1).trans rfl)
                    have HRU := Lib.hid (rrule_calls (w := wx.drew) (r := ⟨pieces 47 names, keysT m⟩) (HPX.out.below (Below.refl _ _).drew) (HKX2.out.below (Below.refl _ _).drew) HFEW.out)
                    obtain ⟨q, hq⟩ : ∃ q, ruleW ⟨pieces 47 names, keysT m⟩ = q := ⟨_, rfl⟩
                    rw [hq] at HRU
                    have HFIN : Hid (readW (p ++ 123 :: (m ++ [125])) = (if q = true then some (⟨pieces 47 names, keysT m⟩ : Rl) else none)) := Lib.hid (by rw [HRDM.out, ← hq])
                    clear hq
                    go_upto_region 18 with (fail)
                    refine wp_region_held_drew (S := fun W => W.cell? ⟨w.heap.size + 1, 0, none⟩ = some (.slice va n1 vc) ∧ W.cell? ⟨w.heap.size + 1, 1, none⟩ = some (.slice ka nk kc)) (by kernel_rfl) ⟨HX0.out, HX1.out⟩ (fun hHeld => ?_)
                    refine wpAnyH_take (i := 0) (v := ?_) rfl (by kernel_rfl) (by kernel_rfl) (by kernel_rfl) (fun _ _ _ h => h) (Or.inl ⟨by rfl, ?_⟩) (by assumption) ?_
                    rotate_left
                    · intro W hS
                      try dsimp only at hS
                      go_simp
                      try with_reducible rfl
                    simp only [List.getElem_toArray, List.getElem_cons_zero, Act.put, List.setIfInBounds_toArray, List.set_cons_zero, List.set_cons_succ]
                    refine wpAnyH_take (i := 1) (v := ?_) rfl (by kernel_rfl) (by kernel_rfl) (by kernel_rfl) (fun _ _ _ h => h) (Or.inl ⟨by rfl, ?_⟩) (by assumption) ?_
                    rotate_left
                    · intro W hS
                      try dsimp only at hS
                      go_simp
                      try with_reducible rfl
                    simp only [List.getElem_toArray, List.getElem_cons_succ, List.getElem_cons_zero, Act.put, List.setIfInBounds_toArray, List.set_cons_zero, List.set_cons_succ]
                    refine wpAnyH_ready (rs := [2]) (by kernel_rfl) (by simp) ?_
                    refine AllReadyH.cons rfl (fun K hK => ?_) AllReadyH.nil
                    go_simp
                    with_reducible refine HRU.out.mono ?_
                    rintro e wq ⟨rfl, hbq⟩
                    have HBQ : Hid (Below wx.heap.size wx wq) := Lib.hid (((Below.refl wx.heap.size wx).drew).trans hbq)
                    have HKBQ := Lib.hid (block_below HBQ.out HKBX.out)
                    have hc0 := (HBQ.out.cell (lt_of_cell HX0.out)).trans HX0.out
                    have hc1 := (HBQ.out.cell (lt_of_cell HX1.out)).trans HX1.out
                    clear hbq HRU
                    refine hK.out _ _ ⟨hc0, hc1⟩ (fun hHeld => ?_)
                    clear hK K
                    try simp only [List.getElem_toArray, List.getElem_cons_succ, List.getElem_cons_zero, Act.put, List.setIfInBounds_toArray, List.set_cons_zero, List.set_cons_succ]
                    have hsq := HKBQ.out
                    have y0 : wq.cell? ⟨w.heap.size, 0, none⟩ = some (.slice none 0 0) := (cell_of_block hsq 0).trans rfl
                    have y1 : wq.cell? ⟨w.heap.size, 1, none⟩ = some (.slice none 0 0) := (cell_of_block hsq 1).trans rfl
                    have ub0 := unfrozen_of_block hsq 0
                    have ub1 := unfrozen_of_block hsq 1
                    have hd0 := (HBQ.out.cell (lt_of_cell HX0.out)).trans HX0.out
                    have hd1 := (HBQ.out.cell (lt_of_cell HX1.out)).trans HX1.out
                    obtain ⟨hkk, hcc, hbb, hoo⟩ := store_two (n := w.heap.size) (.slice va n1 vc) (.slice ka nk kc) HKBQ.out (show w.heap.size ≠ w.heap.size + 1 by omega) (Nat.le_refl _)
                    have HKK := Lib.hid hkk
                    have HCC := Lib.hid hcc
                    have HBB := Lib.hid hbb
                    have HOO := Lib.hid hoo
                    clear hsq hkk hcc hbb hoo
                    refine wpAnyH_ready (rs := [3]) (by kernel_rfl) (by simp) ?_
                    refine AllReadyH.cons rfl (fun K hK => ?_) AllReadyH.nil
                    go_simp
                    refine hK.out _ _ ⟨(HCC.out _).trans hd0, (HCC.out _).trans hd1⟩ (fun hHeld => ?_)
                    clear hK K
                    try simp only [List.getElem_toArray, List.getElem_cons_succ, List.getElem_cons_zero, Act.put, List.setIfInBounds_toArray, List.set_cons_zero, List.set_cons_succ]
                    refine wpAnyH_take (i := 4) (v := ?_) rfl (by kernel_rfl) (by kernel_rfl) (by kernel_rfl) (fun _ _ _ h => h) (Or.inl ⟨by rfl, ?_⟩) (by assumption) ?_
                    rotate_left
                    · intro W hS
                      try dsimp only at hS
                      go_simp
                      try with_reducible rfl
                    simp only [List.getElem_toArray, List.getElem_cons_succ, List.getElem_cons_zero, Act.put, List.setIfInBounds_toArray, List.set_cons_zero, List.set_cons_succ]
                    refine wpAnyH_done (by kernel_rfl) ?_ _
                    go_wp2_with fail
                    have g0 := (cell_of_block HKK.out 0).trans (show (#[(.slice va n1 vc : Value), .slice ka nk kc] : Array Value)[0]? = some (.slice va n1 vc) from rfl)
                    have g1 := (cell_of_block HKK.out 1).trans (show (#[(.slice va n1 vc : Value), .slice ka nk kc] : Array Value)[1]? = some (.slice ka nk kc) from rfl)
                    refine bodyPost_ret (v := .tuple #[.agg #[.slice va n1 vc, .slice ka nk kc], .bool q]) (by simp [results, Tryz.results31, go_sem, g0, g1]) rfl ⟨_, _, ⟨pieces 47 names, keysT m⟩, q, rfl, HFIN.out, ?_, ?_, ?_⟩
                    · exact ((HPX.out.below HBQ.out).stored (B := w.heap.size) (by omega) HOO.out).mono (fun k _ h => by omega)
                    · exact ((HKX2.out.below HBQ.out).stored (B := w.heap.size) (by omega) HOO.out).mono (fun k _ h => by omega)
                    · exact (below_then' HBX.out HBQ.out).trans HBB.out
            · have hnb : ((b.toNat : Int) != 47) = true := by
                rw [bne_iff_ne]
                intro e
                exact hb47 (UInt8.toNat_inj.1 (by show b.toNat = 47; omega))
              have HRD : Hid (readW (p ++ 123 :: (m ++ [125])) = (if false = true then some (⟨[], []⟩ : Rl) else none)) := Lib.hid (by
                rw [HRDM0.out]
                dsimp only
                rw [if_neg (fun e => hb47 e.1)]
                rfl)
              have hz20 : 0 < z2.size := by omega
              have hb0 : z2[0]'hz20 = b := HG0.out hz20
              clear hb47
              go_wp2_with fail
              try rw [hex']
              with_reducible refine HT.out.mono ?_
              rintro e w4 ⟨rfl, hb4⟩
              have HB4 := Lib.hid (below_then HB2.out hb4)
              have HKB4 := Lib.hid (block_below hb4 HKB.out)
              have HKX4 := Lib.hid (block_below hb4 HKX.out)
              clear hb4 HT
              have zb0 : w4.cell? ⟨w.heap.size, 0, none⟩ = some (.slice none 0 0) := (cell_of_block HKB4.out 0).trans rfl
              have zb1 : w4.cell? ⟨w.heap.size, 1, none⟩ = some (.slice none 0 0) := (cell_of_block HKB4.out 1).trans rfl
              have zx0 : w4.cell? ⟨w.heap.size + 1, 0, none⟩ = some (.slice none 0 0) := (cell_of_block HKX4.out 0).trans rfl
              have zx1 : w4.cell? ⟨w.heap.size + 1, 1, none⟩ = some (.slice none 0 0) := (cell_of_block HKX4.out 1).trans rfl
              have ub0 := unfrozen_of_block HKB4.out 0
              have ub1 := unfrozen_of_block HKB4.out 1
              obtain ⟨hkk, _, hbb, _⟩ := store_two (n := w.heap.size) (.slice none 0 0) (.slice none 0 0) HKB4.out (show w.heap.size ≠ w.heap.size + 1 by omega) (Nat.le_refl _)
              have HKK := Lib.hid hkk
              have HBB := Lib.hid hbb
              clear hkk hbb
              go_wp2_with fail
              have g0 := (cell_of_block HKK.out 0).trans (show (#[(.slice none 0 0 : Value), .slice none 0 0] : Array Value)[0]? = some (.slice none 0 0) from rfl)
              have g1 := (cell_of_block HKK.out 1).trans (show (#[(.slice none 0 0 : Value), .slice none 0 0] : Array Value)[1]? = some (.slice none 0 0) from rfl)
              refine bodyPost_ret (v := .tuple #[.agg #[.slice none 0 0, .slice none 0 0], .bool false]) (by simp [results, Tryz.results31, go_sem, g0, g1]) rfl ⟨_, _, ⟨[], []⟩, false, rfl, HRD.out, StrIn.nil _ _, StrIn.nil _ _, ?_⟩
              exact HB4.out.trans HBB.out
        · have hy : y ≠ 125 := fun e => hlast (hyl.1 e)
          have hny : ((y.toNat : Int) != 125) = true := by
            rw [bne_iff_ne]
            intro e
            exact hy (UInt8.toNat_inj.1 (by show y.toNat = 125; omega))
          have HRD : Hid (readW (p ++ 123 :: r) = (if false = true then some (⟨[], []⟩ : Rl) else none)) := Lib.hid (by
            unfold readW
            rw [hcut]
            dsimp only
            cases trimL p with
            | nil => rfl
            | cons b names =>
              dsimp only
              rw [if_neg (fun e => hlast e.2.1)]
              rfl)
          clear hyl hcut hlast hy hex
          have zb0 : wr.cell? ⟨w.heap.size, 0, none⟩ = some (.slice none 0 0) := (cell_of_block HKB.out 0).trans rfl
          have zb1 : wr.cell? ⟨w.heap.size, 1, none⟩ = some (.slice none 0 0) := (cell_of_block HKB.out 1).trans rfl
          have zx0 : wr.cell? ⟨w.heap.size + 1, 0, none⟩ = some (.slice none 0 0) := (cell_of_block HKX.out 0).trans rfl
          have zx1 : wr.cell? ⟨w.heap.size + 1, 1, none⟩ = some (.slice none 0 0) := (cell_of_block HKX.out 1).trans rfl
          have ub0 := unfrozen_of_block HKB.out 0
          have ub1 := unfrozen_of_block HKB.out 1
          obtain ⟨hkk, _, hbb, _⟩ := store_two (n := w.heap.size) (.slice none 0 0) (.slice none 0 0) HKB.out (show w.heap.size ≠ w.heap.size + 1 by omega) (Nat.le_refl _)
          have HKK := Lib.hid hkk
          have HBB := Lib.hid hbb
          clear hkk hbb
          go_wp2_with fail
          have g0 := (cell_of_block HKK.out 0).trans (show (#[(.slice none 0 0 : Value), .slice none 0 0] : Array Value)[0]? = some (.slice none 0 0) from rfl)
          have g1 := (cell_of_block HKK.out 1).trans (show (#[(.slice none 0 0 : Value), .slice none 0 0] : Array Value)[1]? = some (.slice none 0 0) from rfl)
          refine bodyPost_ret (v := .tuple #[.agg #[.slice none 0 0, .slice none 0 0], .bool false]) (by simp [results, Tryz.results31, go_sem, g0, g1]) rfl ⟨_, _, ⟨[], []⟩, false, rfl, HRD.out, StrIn.nil _ _, StrIn.nil _ _, ?_⟩
          exact HB2.out.trans HBB.out
end Go.Proofs.YtojpjhfafbdpcaaGreatDoor
