/-
  The name with which a text begins, told by the program. Conditions: the text is no longer than 2 to the 30; what a name is is told.
-/
import Derived.Test.YtkpgbcackphdbaaDoorQD
import Derived.Test.YtkpgbcackphdbaaDoorName
namespace Go.Proofs.YtkpgbcackphdbaaDoor
open Go.RowKit Go.Lib Go.Joins

def fitV (fb : Bool) : Value := if fb = true then .func (.func 43) #[] #[] else .func (.func 44) #[] #[]
set_option maxRecDepth 100000 in
set_option maxHeartbeats 4000000 in
theorem begun_calls (l : List UInt8) (w : World) (hl : l.length ≤ 1073741824) (hL : Laid w) : Calls Tryd.prog 29 #[.string (strB l)] w (Leaves (.string (strB (begun l))) w) := by
  have hs1 := strB_size l
  have hle := nmLen_le l.length true l
  have hdec := fun j => decodeL_drop (strB l) j
  have htk := take_strB l
  obtain ⟨N, hN⟩ : ∃ N, nmLen l.length true l = N := ⟨_, rfl⟩
  have hbg : begun l = l.take N := by unfold begun; rw [hN]
  have hful : N = l.length → strB (begun l) = strB l := fun e => by rw [hbg, e, List.take_length]
  rw [hN] at hle
  rw [strB_list] at hdec
  obtain ⟨q, hq⟩ : ∃ q, strB (begun l) = q := ⟨_, rfl⟩
  rw [hbg] at hq
  rw [hbg, hq] at hful ⊢
  have hst : ∀ p, N = p → (strB l).extract 0 p = q := fun p e => by rw [htk, ← e, hq]
  obtain ⟨s, hs⟩ : ∃ s, strB l = s := ⟨_, rfl⟩
  rw [hs] at hs1 hdec hful hst ⊢
  have HST := Lib.hid hst
  have HFU := Lib.hid hful
  have HDEC := Lib.hid hdec
  have HNN := Lib.hid hN
  have HLE := Lib.hid hle
  have HL := Lib.hid hL
  have HSZ := Lib.hid hs1
  clear hst hful hdec hN hle hL hq hbg htk hs
  go_enter Tryd.func29, Tryd.ntmps29
  go_wp2
  go_loopg [3] s.size (fun g v wr => ∃ (fb : Bool) (pos : Nat), v = fitV fb ∧ wr.heap[w.heap.size]? = some (.stringIter s pos) ∧ s.size ≤ g + pos ∧ pos ≤ s.size ∧ pos + nmLen g fb (l.drop pos) = N ∧ Below w.heap.size w wr)
  case atStart => exact ⟨true, 0, rfl, World.iter_heap w s 0, by omega, by omega, by rw [List.drop_zero, Nat.zero_add, HSZ.out]; exact HNN.out, (Below.refl _ _).alloc (Nat.le_refl _) _⟩
  case round =>
    obtain ⟨fb, pos, rfl, hit, hg, hps, hnm, hb⟩ := hrel
    have HG := Lib.hid hg
    have HNM := Lib.hid hnm
    have HB := Lib.hid hb
    clear hg hnm hb
    by_cases hp : pos < s.size
    · have hnx : ∀ ty, (Instr.next (.pointer (some ⟨w.heap.size, 0, none⟩)) true ty).run Tryd.prog wr = _ := fun ty => Lib.run_next_any_at wr w.heap.size s pos ty hit hp
      have hbw2 := Lib.hid (Lib.below_iterAt HB.out (k := w.heap.size) (by omega) s (pos + (Utf8.decode s pos).2))
      have hit2 := Lib.hid (Lib.iterAt_heap wr w.heap.size s pos (pos + (Utf8.decode s pos).2) hit)
      obtain ⟨g', rfl⟩ : ∃ g', gk = g' + 1 := ⟨gk - 1, by have := HG.out; omega⟩
      have hne : l.drop pos ≠ [] := fun e => by
        have := congrArg List.length e
        rw [List.length_drop, List.length_nil] at this
        have := HSZ.out
        omega
      have hwd := decodeL_width hne
      rw [List.length_drop, HDEC.out] at hwd
      have hst : (if fitsQ fb (Utf8.decode s pos).1 = true then pos + ((Utf8.decode s pos).2 + nmLen g' false (l.drop (pos + (Utf8.decode s pos).2))) else pos) = N := by
        have := HNM.out
        rw [nmLen, if_neg hne, HDEC.out, List.drop_drop] at this
        rw [← this]
        split
        · rfl
        · rfl
      obtain ⟨⟨r, z⟩, hrz⟩ : ∃ d, Utf8.decode s pos = d := ⟨_, rfl⟩
      simp only [hrz] at hnx hbw2 hit2 hst hwd
      have HST2 := Lib.hid hst
      have HWD := Lib.hid hwd
      have hps0 : (0 : Int) ≤ (pos : Int) := by omega
      have hps1 : (pos : Int) ≤ (s.size : Int) := by omega
      clear hst hrz HNM hne hwd hp
      cases fb with
      | true =>
        rw [show fitV true = .func (.func 43) #[] #[] from rfl]
        go_wp2_with fail
        refine (firsts_calls r _ (HL.out.below hbw2.out).2.2.1).mono ?_
        rintro e w2 ⟨rfl, hb2⟩
        have hbw3 := Lib.hid (below_then hbw2.out hb2)
        have hit2' := Lib.hid (iter_below hb2 hit2.out)
        clear hb2
        obtain ⟨x, hx⟩ : ∃ x, inTab firstsT (r : Int) = x := ⟨_, rfl⟩
        rw [hx]
        have HX : Hid (fitsQ true r = x) := Lib.hid hx
        clear hx
        cases x with
        | false =>
          have e3 := HST.out pos (by have := HST2.out; rw [if_neg (by rw [HX.out]; decide)] at this; exact this.symm)
          go_wp2
          go_ret
          exact ⟨rfl, hbw3.out⟩
        | true =>
          have HN2 : Hid (pos + z + nmLen g' false (l.drop (pos + z)) = N) := Lib.hid (by have := HST2.out; rw [if_pos HX.out] at this; omega)
          go_wp2
          go_roundg g'
          case measure => omega
          case rel => exact ⟨false, pos + z, rfl, hit2'.out, by have := HG.out; have := HWD.out; omega, by have := HWD.out; have := HSZ.out; omega, HN2.out, hbw3.out⟩
      | false =>
        rw [show fitV false = .func (.func 44) #[] #[] from rfl]
        go_wp2_with fail
        refine (further_calls r _ (HL.out.below hbw2.out).2.2.2 (HL.out.below hbw2.out).2.2.1).mono ?_
        rintro e w2 ⟨rfl, hb2⟩
        have hbw3 := Lib.hid (below_then hbw2.out hb2)
        have hit2' := Lib.hid (iter_below hb2 hit2.out)
        clear hb2
        obtain ⟨x, hx⟩ : ∃ x, (inTab furtherT (r : Int) || inTab firstsT (r : Int)) = x := ⟨_, rfl⟩
        rw [hx]
        have HX : Hid (fitsQ false r = x) := Lib.hid hx
        clear hx
        cases x with
        | false =>
          have e3 := HST.out pos (by have := HST2.out; rw [if_neg (by rw [HX.out]; decide)] at this; exact this.symm)
          go_wp2
          go_ret
          exact ⟨rfl, hbw3.out⟩
        | true =>
          have HN2 : Hid (pos + z + nmLen g' false (l.drop (pos + z)) = N) := Lib.hid (by have := HST2.out; rw [if_pos HX.out] at this; omega)
          go_wp2
          go_roundg g'
          case measure => omega
          case rel => exact ⟨false, pos + z, rfl, hit2'.out, by have := HG.out; have := HWD.out; omega, by have := HWD.out; have := HSZ.out; omega, HN2.out, hbw3.out⟩
    · have hnx : ∀ ty, (Instr.next (.pointer (some ⟨w.heap.size, 0, none⟩)) true ty).run Tryd.prog wr = _ := fun ty => Lib.run_next_end_at wr w.heap.size s pos ty hit hp
      have hq : q = s := HFU.out (by
        have h1 := HNM.out
        have h2 := HSZ.out
        have h3 := HLE.out
        omega)
      subst hq
      clear HST HFU
      go_wp2
      go_ret
      exact ⟨rfl, HB.out⟩
end Go.Proofs.YtkpgbcackphdbaaDoor
