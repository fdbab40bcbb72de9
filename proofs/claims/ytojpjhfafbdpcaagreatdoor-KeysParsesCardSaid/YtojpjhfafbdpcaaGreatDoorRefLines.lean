/-
  The reference's Lines: the bytes one by one, a 13 turned into 10 or left out. Condition: the text is shorter than 2 to the 30.
-/
import Derived.Test.YtojpjhfafbdpcaaGreatDoorLines
import Derived.Lib.ConvBytes
import Derived.Laws.IdiomStrings
import Derived.OwnWalk
import Derived.Maps.AppendAt
namespace Go.Proofs.YtojpjhfafbdpcaaGreatDoor
open Go.RowKit Go.Lib

theorem info5 : (Tryz.prog.info? 5).map (fun i => (i.zero, i.size, i.bytes)) = some (some (.int .u8 0), 1, 1) := by kernel_rfl

/-- The cells of a row of bytes. -/
def cellsB (l : List UInt8) : List Value := l.map fun x => Value.int .u8 (x.toNat : Int)

theorem eols_cons (b : UInt8) (t : List UInt8) : eols (b :: t) = if b = 13 then (if t.head? = some 10 then eols t else 10 :: eols t) else b :: eols t := by rw [eols]

/-- string(b) of a row that the call owns. -/
theorem back_own {w : World} {B : Nat} {v : Value} {l : List UInt8} (h : w.ownsRow B 5 1 v l.length (cellsB l)) : (convert 60 9 v).run Tryz.prog w = .ok (.string ⟨l.toArray⟩) w := by
  rcases h.2 with ⟨h1, h0⟩ | ⟨g, cap, cur, rfl, hg, hgb, hcap, hcm, hcur, htk⟩
  · have hl : l = [] := List.length_eq_zero_iff.1 h0
    subst hl h1
    rw [run_convert_bytes_string w 60 9 5 none 0 0 Tryz.underlying60 Tryz.underlying5 Tryz.underlying9]
    simp [Conv.bytesToString]
    rfl
  · refine run_convert_bytes_back w 60 9 5 ⟨g, 0, none⟩ cap l Tryz.underlying60 Tryz.underlying5 Tryz.underlying9 (fun j hj => ?_)
    exact h.cells (g := g) rfl j _ (by rw [cellsB, List.getElem?_map, List.getElem?_eq_getElem hj]; rfl)


set_option maxRecDepth 100000 in
set_option maxHeartbeats 2000000 in
theorem refLines_calls (s : ByteArray) (w : World) (hs : s.size ≤ 1073741824) : Calls Tryz.prog 29 #[.string s] w (Leaves (.string ⟨(eols s.data.toList).toArray⟩) w) := by
  have hlen : s.data.toList.length = s.size := Array.length_toList
  obtain ⟨i0, hi, hz0, hz1, hz2⟩ := info_parts info5
  obtain ⟨q, hq⟩ : ∃ q, eols s.data.toList = q := ⟨_, rfl⟩
  rw [hq]
  have HQ := Lib.hid hq
  clear hq
  go_enter Tryz.func29, Tryz.ntmps29
  go_wp2
  go_loopg [3, 4] s.size (fun g v k wr => ∃ (i : Nat) (acc : List UInt8), k = .int .i64 i ∧ g + i = s.size ∧ acc.length ≤ i ∧ acc ++ eols (s.data.toList.drop i) = q ∧ wr.ownsRow w.heap.size 5 1 v acc.length (cellsB acc) ∧ Below w.heap.size w wr)
  case atStart => exact ⟨0, [], rfl, rfl, Nat.le_refl _, by rw [List.drop_zero]; exact HQ.out, World.ownsRow_nil _ _ _ _, Below.refl _ _⟩
  case round =>
    obtain ⟨i, acc, rfl, hg, hal, hacc, hown, hb⟩ := hrel
    have HG := Lib.hid hg
    have HACC := Lib.hid hacc
    have HB := Lib.hid hb
    have hBw : w.heap.size ≤ wr.heap.size := HB.out.size
    clear hg hacc hb HQ
    by_cases hlt : i < s.size
    · have hd : decide ((i : Int) < (s.size : Int)) = true := by simp; omega
      have hii : (i : Int) < (s.size : Int) := by omega
      have hx : s.data.toList.drop i = s[i]'hlt :: s.data.toList.drop (i + 1) := List.drop_eq_getElem_cons (by omega)
      obtain ⟨x, hxi⟩ : ∃ x, s[i]'hlt = x := ⟨_, rfl⟩
      rw [hxi] at hx
      have HX := Lib.hid hx
      have lx := x.toNat_lt
      clear hx
      by_cases h13 : x = 13
      · have hne : ((x.toNat : Int) != 13) = false := by rw [h13]; rfl
        by_cases hend : i + 1 < s.size
        · have hd2 : decide ((i : Int) + 1 ≥ (s.size : Int)) = false := by simp; omega
          have hi2 : (i : Int) + 1 < (s.size : Int) := by omega
          have hy0 : s.data.toList.drop (i + 1) = s[i + 1]'hend :: s.data.toList.drop (i + 1 + 1) := List.drop_eq_getElem_cons (by omega)
          obtain ⟨y, hyi⟩ : ∃ y, s[i + 1]'hend = y := ⟨_, rfl⟩
          rw [hyi] at hy0
          have ly := y.toNat_lt
          have HY := Lib.hid hy0
          clear hy0
          by_cases h10 : y = 10
          · have hne2 : ((y.toNat : Int) != 10) = false := by rw [h10]; rfl
            have HH : Hid ((s.data.toList.drop (i + 1)).head? = some 10) := Lib.hid (by rw [HY.out, h10]; rfl)
            go_wp2
            go_roundg (gk - 1)
            case measure => have := HG.out; omega
            case rel => exact ⟨i + 1, acc, by go_num, by have := HG.out; omega, by omega, by rw [← HACC.out, HX.out, eols_cons, if_pos h13, if_pos HH.out], hown, HB.out⟩
          · have hne2 : ((y.toNat : Int) != 10) = true := by
              rw [bne_iff_ne]
              intro h
              exact h10 (UInt8.toNat_inj.1 (show y.toNat = 10 by omega))
            have HH : Hid (¬ (s.data.toList.drop (i + 1)).head? = some 10) := Lib.hid (by rw [HY.out]; simp only [List.head?_cons, Option.some.injEq]; exact h10)
            go_wp2_with (at_builtin; refine wpList_append_own _ rfl (.tmp 33) (.tmp 34) 60 rfl w.heap.size 5 i0 (.int .u8 0) 1 1 Tryz.underlying60 hi hz0 hz1 hz2 rfl (by decide) _ _ _ rfl (hown.alloc _) ⟨wr.heap.size, 0, none⟩ 1 1 [.int .u8 10] rfl rfl ?c1 ?c2 ?c3 ?c4 ?c5 ?_)
            case c1 => exact cell_one_new _ _ _
            case c2 => intro u hu; obtain rfl := List.mem_singleton.1 hu; rfl
            case c3 => unfold maxLen; omega
            case c4 => omega
            case c5 => simp; omega
            intro t' w1 hown1 hgrow _
            have hb1 : Below w.heap.size w w1 := (HB.out.alloc hBw _).grown hgrow (by simp; omega) (fun k hk => (hown.lt k hk).1)
            have hown2 : w1.ownsRow w.heap.size 5 1 t' (acc ++ [10]).length (cellsB (acc ++ [10])) := by simpa [cellsB] using hown1
            have HB1 := Lib.hid hb1
            have HO := Lib.hid hown2
            clear hown hown1 hown2 hgrow hb1 hBw
            go_wp2
            go_roundg (gk - 1)
            case measure => have := HG.out; omega
            case rel => exact ⟨i + 1, acc ++ [10], by go_num, by have := HG.out; omega, by simp; omega, by rw [← HACC.out, HX.out, eols_cons, if_pos h13, if_neg HH.out, List.append_assoc]; rfl, HO.out, HB1.out⟩
        · have hd2 : decide ((i : Int) + 1 ≥ (s.size : Int)) = true := by simp; omega
          have HH : Hid (¬ (s.data.toList.drop (i + 1)).head? = some 10) := Lib.hid (by rw [List.drop_eq_nil_of_le (by omega)]; simp)
          go_wp2_with (at_builtin; refine wpList_append_own _ rfl (.tmp 33) (.tmp 34) 60 rfl w.heap.size 5 i0 (.int .u8 0) 1 1 Tryz.underlying60 hi hz0 hz1 hz2 rfl (by decide) _ _ _ rfl (hown.alloc _) ⟨wr.heap.size, 0, none⟩ 1 1 [.int .u8 10] rfl rfl ?c1 ?c2 ?c3 ?c4 ?c5 ?_)
          case c1 => exact cell_one_new _ _ _
          case c2 => intro u hu; obtain rfl := List.mem_singleton.1 hu; rfl
          case c3 => unfold maxLen; omega
          case c4 => omega
          case c5 => simp; omega
          intro t' w1 hown1 hgrow _
          have hb1 : Below w.heap.size w w1 := (HB.out.alloc hBw _).grown hgrow (by simp; omega) (fun k hk => (hown.lt k hk).1)
          have hown2 : w1.ownsRow w.heap.size 5 1 t' (acc ++ [10]).length (cellsB (acc ++ [10])) := by simpa [cellsB] using hown1
          have HB1 := Lib.hid hb1
          have HO := Lib.hid hown2
          clear hown hown1 hown2 hgrow hb1 hBw
          go_wp2
          go_roundg (gk - 1)
          case measure => have := HG.out; omega
          case rel => exact ⟨i + 1, acc ++ [10], by go_num, by have := HG.out; omega, by simp; omega, by rw [← HACC.out, HX.out, eols_cons, if_pos h13, if_neg HH.out, List.append_assoc]; rfl, HO.out, HB1.out⟩
      · have hne : ((x.toNat : Int) != 13) = true := by
          rw [bne_iff_ne]
          intro h
          exact h13 (UInt8.toNat_inj.1 (show x.toNat = 13 by omega))
        go_wp2_with (at_builtin; refine wpList_append_own _ rfl (.tmp 15) (.tmp 19) 60 rfl w.heap.size 5 i0 (.int .u8 0) 1 1 Tryz.underlying60 hi hz0 hz1 hz2 rfl (by decide) _ _ _ rfl (hown.alloc _) ⟨wr.heap.size, 0, none⟩ 1 1 [.int .u8 (x.toNat : Int)] rfl rfl ?c1 ?c2 ?c3 ?c4 ?c5 ?_)
        case c1 => exact cell_one_new _ _ _
        case c2 => intro u hu; obtain rfl := List.mem_singleton.1 hu; rfl
        case c3 => unfold maxLen; omega
        case c4 => omega
        case c5 => simp; omega
        intro t' w1 hown1 hgrow _
        have hb1 : Below w.heap.size w w1 := (HB.out.alloc hBw _).grown hgrow (by simp; omega) (fun k hk => (hown.lt k hk).1)
        have hown2 : w1.ownsRow w.heap.size 5 1 t' (acc ++ [x]).length (cellsB (acc ++ [x])) := by simpa [cellsB] using hown1
        have HB1 := Lib.hid hb1
        have HO := Lib.hid hown2
        clear hown hown1 hown2 hgrow hb1 hBw
        go_wp2
        go_roundg (gk - 1)
        case measure => have := HG.out; omega
        case rel => exact ⟨i + 1, acc ++ [x], by go_num, by have := HG.out; omega, by simp; omega, by rw [← HACC.out, HX.out, eols_cons, if_neg h13, List.append_assoc]; rfl, HO.out, HB1.out⟩
    · have hd : decide ((i : Int) < (s.size : Int)) = false := by simp; omega
      have hfin : acc = q := by
        have := HACC.out
        rw [List.drop_eq_nil_of_le (by omega), eols, List.append_nil] at this
        exact this
      have hback := back_own hown
      rw [hfin] at hback
      clear hown
      go_wp2
      go_ret
      exact ⟨rfl, HB.out⟩

end Go.Proofs.YtojpjhfafbdpcaaGreatDoor
