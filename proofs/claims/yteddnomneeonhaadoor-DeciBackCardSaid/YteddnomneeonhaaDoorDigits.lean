/-
  The program's digits and millionths: whether a text has digits alone; the millionths that the digits ahead of a point and behind it are. Condition: the texts are shorter than 2 to the 30.
-/
import Derived.Test.YteddnomneeonhaaDoorBase
import Derived.Test.YteddnomneeonhaaDoorTextPure
import Derived.Lib.OthersKept
import Derived.Lib.TrimUEq
namespace Go.Proofs.YteddnomneeonhaaDoor
open Go.RowKit Go.Lib

theorem iter_below {w w' : World} {k : Nat} {o : Obj} (hb : Below w.heap.size w w') (h : w.heap[k]? = some o) : w'.heap[k]? = some o := by
  rw [hb.block k (Array.getElem?_eq_some_iff.1 h).1, h]

theorem rune_low (b : UInt8) (t : List UInt8) (h : isDg b = true) : decodeL (b :: t) = (b.toNat, 1) := by
  unfold isDg at h
  simp only [Bool.and_eq_true, decide_eq_true_eq] at h
  exact decodeL_ascii b t (by omega)
theorem rune_other (b : UInt8) (t : List UInt8) (h : isDg b = false) : (decodeL (b :: t)).1 < 48 ∨ 57 < (decodeL (b :: t)).1 := by
  by_cases hb : b.toNat < 128
  · rw [decodeL_ascii b t hb]
    unfold isDg at h
    simp only [Bool.and_eq_false_iff, decide_eq_false_iff_not] at h
    show b.toNat < 48 ∨ 57 < b.toNat
    omega
  · rw [decodeL_N]
    have := decodeN_high (b :: t).length ((b :: t).getD 0 0).toNat ((b :: t).getD 1 0).toNat ((b :: t).getD 2 0).toNat ((b :: t).getD 3 0).toNat (by show 128 ≤ b.toNat; omega)
    omega

set_option maxRecDepth 100000 in
set_option maxHeartbeats 2000000 in
theorem digits_calls (s : ByteArray) (w : World) (_hs : s.size ≤ 1073741824) : Calls Tryd.prog 53 #[.string s] w (Leaves (.bool (s.data.toList.all isDg)) w) := by
  have hlen : s.data.toList.length = s.size := Array.length_toList
  obtain ⟨q, hq⟩ : ∃ q, s.data.toList.all isDg = q := ⟨_, rfl⟩
  rw [hq]
  have HQ := Lib.hid hq
  clear hq
  go_enter Tryd.func53, Tryd.ntmps53
  go_wp2
  go_loopg [] s.size (fun g wr => ∃ pos : Nat, wr.heap[w.heap.size]? = some (.stringIter s pos) ∧ g + pos = s.size ∧ (s.data.toList.drop pos).all isDg = q ∧ Below w.heap.size w wr)
  case atStart => exact ⟨0, World.iter_heap w s 0, rfl, HQ.out, (Below.refl _ w).alloc (Nat.le_refl _) _⟩
  case round =>
    obtain ⟨pos, hit, hg, hall, hb⟩ := hrel
    have HG := Lib.hid hg
    have HA := Lib.hid hall
    have HB := Lib.hid hb
    clear hg hall hb
    by_cases hp : pos < s.size
    · have hnx : ∀ ty, (Instr.next (.pointer (some ⟨w.heap.size, 0, none⟩)) true ty).run Tryd.prog wr = _ := fun ty => Lib.run_next_any_at wr w.heap.size s pos ty hit hp
      have hbw2 := Lib.hid (Lib.below_iterAt HB.out (k := w.heap.size) (by omega) s (pos + (Utf8.decode s pos).2))
      have hit2 := Lib.hid (Lib.iterAt_heap wr w.heap.size s pos (pos + (Utf8.decode s pos).2) hit)
      obtain ⟨x, hx⟩ : ∃ x, s.data.toList.drop pos = x :: s.data.toList.drop (pos + 1) := ⟨_, List.drop_eq_getElem_cons (by omega)⟩
      have hdd : Utf8.decode s pos = decodeL (x :: s.data.toList.drop (pos + 1)) := by rw [← decodeL_drop, hx]
      cases hxd : isDg x with
      | true =>
        have hlow := rune_low x (s.data.toList.drop (pos + 1)) hxd
        rw [hdd, hlow] at hbw2 hit2
        simp only [hdd, hlow] at hnx
        have HN : Hid ((s.data.toList.drop (pos + 1)).all isDg = q) := Lib.hid (by have := HA.out; rw [hx, List.all_cons, hxd, Bool.true_and] at this; exact this)
        have hr : 48 ≤ x.toNat ∧ x.toNat ≤ 57 := by unfold isDg at hxd; simpa using hxd
        obtain ⟨hr1, hr2⟩ := hr
        have hd1 : decide ((x.toNat : Int) < 48) = false := by simp; omega
        have hd2 : decide (57 < (x.toNat : Int)) = false := by simp; omega
        clear hx hdd hlow hxd
        go_wp2
        go_roundg (gk - 1)
        case measure => have := HG.out; omega
        case rel => exact ⟨pos + 1, hit2.out, by have := HG.out; omega, HN.out, hbw2.out⟩
      | false =>
        have hoth := rune_other x (s.data.toList.drop (pos + 1)) hxd
        rw [← hdd] at hoth
        obtain ⟨⟨r, z⟩, hrz⟩ : ∃ d, Utf8.decode s pos = d := ⟨_, rfl⟩
        simp only [hrz] at hnx hbw2 hit2 hoth
        have HN : Hid (q = false) := Lib.hid (by have := HA.out; rw [hx, List.all_cons, hxd, Bool.false_and] at this; exact this.symm)
        clear hx hdd hxd hrz
        rcases hoth with ho | ho
        · have hd1 : decide ((r : Int) < 48) = true := by simp; omega
          go_wp2
          go_ret
          exact ⟨by rw [HN.out]; rfl, hbw2.out⟩
        · have hd1 : decide ((r : Int) < 48) = false := by simp; omega
          have hd2 : decide (57 < (r : Int)) = true := by simp; omega
          go_wp2
          go_ret
          exact ⟨by rw [HN.out]; rfl, hbw2.out⟩
    · have hnx : ∀ ty, (Instr.next (.pointer (some ⟨w.heap.size, 0, none⟩)) true ty).run Tryd.prog wr = _ := fun ty => Lib.run_next_end_at wr w.heap.size s pos ty hit hp
      have HN : Hid (q = true) := Lib.hid (by have := HA.out; rw [List.drop_eq_nil_of_le (by omega)] at this; exact this.symm)
      go_wp2
      go_ret
      exact ⟨by rw [HN.out]; rfl, HB.out⟩

theorem valD_ge : ∀ (l : List UInt8) (u : Nat), u ≤ valD u l
  | [], u => Nat.le_refl _
  | b :: t, u => by
    have := valD_ge t (u * 10 + dgV b)
    show u ≤ valD (u * 10 + dgV b) t
    omega

/-- What the program's millionths tells. -/
def milP (A B : List UInt8) : Int × Bool := if 1000000000 < valD 0 A then (0, false) else ((sixD (valD 0 A) 6 B : Nat), true)
def AheadR (A : List UInt8) (M : Nat) (pos : Nat) (v : Int) : Prop := ∃ u : Nat, v = u ∧ valD u (A.drop pos) = M ∧ u ≤ 1000000000
def BehindR (B : List UInt8) (Q : Nat) (i : Nat) (v : Int) : Prop := ∃ u : Nat, v = u ∧ sixD u (6 - i) (B.drop i) = Q ∧ u + 1 ≤ 1000000001 * 10 ^ i

theorem behind_bound {B : List UInt8} {Q i : Nat} {v : Int} (h : BehindR B Q i v) (hi : i < 6) : 0 ≤ v ∧ v ≤ 100000000100000 := by
  obtain ⟨u, rfl, _, hb⟩ := h
  have : 10 ^ i ≤ 10 ^ 5 := Nat.pow_le_pow_right (by decide) (by omega)
  have h2 : 1000000001 * 10 ^ i ≤ 1000000001 * 100000 := Nat.mul_le_mul_left _ (by simpa using this)
  omega
theorem behind_step {B : List UInt8} {Q i : Nat} {v : Int} (h : BehindR B Q i v) (hi : i < 6) (d : Nat) (hd : d ≤ 9) (hs : ∀ u k, sixD u (k + 1) (B.drop i) = sixD (u * 10 + d) k (B.drop (i + 1))) : BehindR B Q (i + 1) (v * 10 + d) := by
  obtain ⟨u, rfl, hQ, hb⟩ := h
  refine ⟨u * 10 + d, by omega, ?_, ?_⟩
  · rw [show 6 - i = 6 - (i + 1) + 1 by omega, hs] at hQ
    exact hQ
  · rw [Nat.pow_succ, ← Nat.mul_assoc]
    omega

set_option maxRecDepth 100000 in
set_option maxHeartbeats 2000000 in
theorem millionths_calls (s b : ByteArray) (w : World) (_hs : s.size ≤ 1073741824) (_hbs : b.size ≤ 1073741824) (hsd : s.data.toList.all isDg = true) (hbd : b.data.toList.all isDg = true) :
    Calls Tryd.prog 54 #[.string s, .string b] w (Leaves (.tuple #[.int .i64 (milP s.data.toList b.data.toList).1, .bool (milP s.data.toList b.data.toList).2]) w) := by
  have hlen : s.data.toList.length = s.size := Array.length_toList
  have hlenb : b.data.toList.length = b.size := Array.length_toList
  obtain ⟨M, hM⟩ : ∃ M, valD 0 s.data.toList = M := ⟨_, rfl⟩
  obtain ⟨⟨qv, qb⟩, hq⟩ : ∃ q, milP s.data.toList b.data.toList = q := ⟨_, rfl⟩
  rw [hq]
  unfold milP at hq
  rw [hM] at hq
  have HQ := Lib.hid hq
  have HM := Lib.hid hM
  clear hq hM
  go_enter Tryd.func54, Tryd.ntmps54
  go_wp2
  go_loopg [6] s.size (fun g v6 wr => ∃ (pos : Nat) (v : Int), v6 = .int .i64 v ∧ wr.heap[w.heap.size]? = some (.stringIter s pos) ∧ g + pos = s.size ∧ AheadR s.data.toList M pos v ∧ Below w.heap.size w wr)
  case atStart => exact ⟨0, 0, rfl, World.iter_heap w s 0, rfl, ⟨0, rfl, HM.out, by omega⟩, (Below.refl _ w).alloc (Nat.le_refl _) _⟩
  case round =>
    obtain ⟨pos, v, rfl, hit, hg, ⟨u, hu, hall, hub⟩, hb⟩ := hrel
    have HG := Lib.hid hg
    have HA := Lib.hid hall
    have HB := Lib.hid hb
    have HU := Lib.hid hu
    have v0 : 0 ≤ v := by omega
    have v1 : v ≤ 1000000000 := by omega
    clear hg hall hb hu
    by_cases hp : pos < s.size
    · have hnx : ∀ ty, (Instr.next (.pointer (some ⟨w.heap.size, 0, none⟩)) true ty).run Tryd.prog wr = _ := fun ty => Lib.run_next_any_at wr w.heap.size s pos ty hit hp
      have hbw2 := Lib.hid (Lib.below_iterAt HB.out (k := w.heap.size) (by omega) s (pos + (Utf8.decode s pos).2))
      have hit2 := Lib.hid (Lib.iterAt_heap wr w.heap.size s pos (pos + (Utf8.decode s pos).2) hit)
      have hx : s.data.toList.drop pos = s.data.toList[pos]'(by omega) :: s.data.toList.drop (pos + 1) := List.drop_eq_getElem_cons (by omega)
      have hxd : isDg (s.data.toList[pos]'(by omega)) = true := List.all_eq_true.1 hsd _ (List.getElem_mem _)
      obtain ⟨x, hxx⟩ : ∃ x, s.data.toList[pos]'(by omega) = x := ⟨_, rfl⟩
      rw [hxx] at hx hxd
      have hdd : Utf8.decode s pos = decodeL (x :: s.data.toList.drop (pos + 1)) := by rw [← decodeL_drop, hx]
      have hlow := rune_low x (s.data.toList.drop (pos + 1)) hxd
      rw [hdd, hlow] at hbw2 hit2
      simp only [hdd, hlow] at hnx
      have hr : 48 ≤ x.toNat ∧ x.toNat ≤ 57 := by unfold isDg at hxd; simpa using hxd
      have hn : valD (u * 10 + dgV x) (s.data.toList.drop (pos + 1)) = M := by have := HA.out; rw [hx] at this; exact this
      obtain ⟨r, hrr⟩ : ∃ r : Int, (x.toNat : Int) = r := ⟨_, rfl⟩
      have hdv : ((u * 10 + dgV x : Nat) : Int) = v * 10 + (r - 48) := by
        have := HU.out
        have e : dgV x = x.toNat - 48 := rfl
        omega
      rw [hrr] at hnx
      have hr1 : 48 ≤ r := by omega
      have hr2 : r ≤ 57 := by omega
      have HN := Lib.hid hn
      have HDV := Lib.hid hdv
      clear hx hdd hlow hxd hxx hr hn hdv hrr hsd hbd
      by_cases hbig : 1000000000 < v * 10 + (r - 48)
      · have hres : Hid (qv = 0 ∧ qb = false) := Lib.hid (by
          have h1 := valD_ge (s.data.toList.drop (pos + 1)) (u * 10 + dgV x)
          rw [HN.out] at h1
          have h2 := HDV.out
          have h3 := HQ.out
          rw [if_pos (by omega)] at h3
          exact ⟨(congrArg Prod.fst h3).symm, (congrArg Prod.snd h3).symm⟩)
        go_wp2
        go_ret2
        exact ⟨by rw [hres.out.1, hres.out.2]; rfl, hbw2.out⟩
      · go_wp2
        go_roundg (gk - 1)
        case measure => have := HG.out; omega
        case rel => exact ⟨pos + 1, v * 10 + (r - 48), rfl, hit2.out, by have := HG.out; omega, ⟨u * 10 + dgV x, HDV.out.symm, HN.out, by have := HDV.out; omega⟩, hbw2.out⟩
    · have hnx : ∀ ty, (Instr.next (.pointer (some ⟨w.heap.size, 0, none⟩)) true ty).run Tryd.prog wr = _ := fun ty => Lib.run_next_end_at wr w.heap.size s pos ty hit hp
      have hMu : u = M := by have := HA.out; rw [List.drop_eq_nil_of_le (by omega)] at this; exact this
      have HRES : Hid (qv = ((sixD M 6 b.data.toList : Nat) : Int) ∧ qb = true) := Lib.hid (by
        have h3 := HQ.out
        rw [if_neg (by omega)] at h3
        exact ⟨(congrArg Prod.fst h3).symm, (congrArg Prod.snd h3).symm⟩)
      have HST : Hid (BehindR b.data.toList (sixD M 6 b.data.toList) 0 v) := Lib.hid ⟨u, HU.out, by rw [hMu]; rfl, by omega⟩
      clear HQ HM
      go_wp2
      go_loopg [6, 23] 6 (fun g v6 v23 wr2 => ∃ (i : Nat) (x : Int), v6 = .int .i64 x ∧ v23 = .int .i64 i ∧ g + i = 6 ∧ BehindR b.data.toList (sixD M 6 b.data.toList) i x ∧ wr2 = wr)
      case atStart => exact ⟨0, v, rfl, rfl, rfl, HST.out, rfl⟩
      case round =>
        obtain ⟨i, x, rfl, rfl, hg, hrel, rfl⟩ := hrel
        have HG2 := Lib.hid hg
        have HREL := Lib.hid hrel
        clear hg hrel HST
        by_cases hi : i < 6
        · have hbd2 := behind_bound HREL.out hi
          obtain ⟨x0, x1⟩ := hbd2
          by_cases hib : i < b.size
          · have hc : b.data.toList.drop i = b.data.toList[i]'(by omega) :: b.data.toList.drop (i + 1) := List.drop_eq_getElem_cons (by omega)
            have hcd : isDg (b.data.toList[i]'(by omega)) = true := List.all_eq_true.1 hbd _ (List.getElem_mem _)
            have hib2 : (i : Int) < (b.size : Int) := by omega
            have hcb : b[i]'hib = b.data.toList[i]'(by omega) := rfl
            obtain ⟨c, hcc⟩ : ∃ c, b.data.toList[i]'(by omega) = c := ⟨_, rfl⟩
            rw [hcc] at hc hcd hcb
            have hr : 48 ≤ c.toNat ∧ c.toNat ≤ 57 := by unfold isDg at hcd; simpa using hcd
            have hstep := behind_step HREL.out hi (dgV c) (by unfold dgV; omega) (fun u k => by rw [hc]; rfl)
            obtain ⟨r, hrr⟩ : ∃ r : Int, (c.toNat : Int) = r := ⟨_, rfl⟩
            have hr1 : 48 ≤ r := by omega
            have hr2 : r ≤ 57 := by omega
            have hdg : ((dgV c : Nat) : Int) = r - 48 := by
              have e : dgV c = c.toNat - 48 := rfl
              omega
            rw [hdg] at hstep
            have HSTEP := Lib.hid hstep
            have HDD : Hid (hib = hib) := Lib.hid rfl
            clear hc hcd hcc hr hstep hdg hsd hbd
            go_wp2
            go_roundg (gk - 1)
            case measure => have := HG2.out; omega
            case rel => exact ⟨i + 1, x * 10 + (r - 48), rfl, by go_num, by have := HG2.out; omega, HSTEP.out, rfl⟩
          · have hib2 : decide ((i : Int) < (b.size : Int)) = false := by simp; omega
            have hstep := behind_step HREL.out hi 0 (by omega) (fun u k => by rw [List.drop_eq_nil_of_le (by omega), List.drop_eq_nil_of_le (by omega)]; rfl)
            have HSTEP : Hid (BehindR b.data.toList (sixD M 6 b.data.toList) (i + 1) (x * 10)) := Lib.hid (by simpa using hstep)
            clear hstep
            go_wp2
            go_roundg (gk - 1)
            case measure => have := HG2.out; omega
            case rel => exact ⟨i + 1, x * 10, rfl, by go_num, by have := HG2.out; omega, HSTEP.out, rfl⟩
        · have hi6 : i = 6 := by have := HG2.out; omega
          subst hi6
          have hfin : Hid (x = qv ∧ qb = true) := Lib.hid (by
            obtain ⟨u2, h1, h2, _⟩ := HREL.out
            rw [show 6 - 6 = 0 from rfl, sixD_zero] at h2
            exact ⟨by rw [h1, HRES.out.1, ← h2], HRES.out.2⟩)
          go_wp2
          go_ret2
          exact ⟨by rw [hfin.out.2, ← hfin.out.1]; rfl, HB.out⟩

end Go.Proofs.YteddnomneeonhaaDoor
