/-
  The reference's Do, at every operation. Conditions: the disk lies in memory; names are short, bytes, files and troubles few.
  The reference's Load. Conditions: the files lie in memory; all of them together are no more than 2 to the 30 bytes; names are small.
  Two disks side by side, the program's and the reference's. No condition.
-/
import Derived.Test.YtacfcfbleogioaaGreatDoorRDoDT
import Derived.Test.YtacfcfbleogioaaGreatDoorRDoCE
import Derived.Test.YtacfcfbleogioaaGreatDoorRDoU
import Derived.Test.YtacfcfbleogioaaGreatDoorRPuts
import Derived.Test.YtacfcfbleogioaaGreatDoorLiveB
namespace Go.Proofs.YtacfcfbleogioaaGreatDoor
open Go.RowKit Go.Lib Go.Joins

theorem rdo_calls (s t : ByteArray) (n : Int) (a : Option Addr) (b : List Nat) (m c : Nat) (w : World) {S O : Nat → Prop} {B : Nat} {d : Dsk} {k : Nat} (hk : 1 ≤ k ∧ k ≤ 6) (hh : DoHyp w S O B d s t a b m c) :
    Calls Tryz.prog 66 #[.pointer (some ⟨B, 0, none⟩), .int .i64 (k : Int), .string s, .string t, .int .i64 n, .slice a m c] w (RDoes w S B (.int .i64 (step d ⟨k, s, t, n, b⟩).1) (step d ⟨k, s, t, n, b⟩).2) := by
  cases hdown : d.down with
  | true => exact rdo_down s t n a b m c w hh hdown
  | false =>
    by_cases hr : ref d ⟨k, s, t, n, b⟩ = 0
    · cases ht : tro d.tr (d.ops + 1) with
      | none =>
        rcases (show k = 1 ∨ k = 2 ∨ k = 3 ∨ k = 4 ∨ k = 5 ∨ k = 6 by omega) with rfl | rfl | rfl | rfl | rfl | rfl
        · exact rdo_1 s t n a b m c w hh hdown hr ht
        · exact rdo_2 s t n a b m c w hh hdown hr ht
        · exact rdo_3 s t n a b m c w hh hdown hr ht
        · exact rdo_4 s t n a b m c w hh hdown hr ht
        · exact rdo_5 s t n a b m c w hh hdown hr ht
        · exact rdo_6 s t n a b m c w hh hdown hr ht
      | some tt =>
        by_cases h2 : k = 2
        · subst h2
          rcases Int.lt_or_le 0 tt.part with hp | hp
          · exact rdo_t2p s t n a b m c w hh hdown hr ht hp
          · exact rdo_t2n s t n a b m c w hh hdown hr ht hp
        · exact rdo_tn s t n a b m c w hh hk h2 hdown hr ht
    · by_cases h2 : k = 2
      · subst h2
        exact rdo_ref2 s t n a b m c w hh hdown hr
      · exact rdo_ref s t n a b m c w hh hk h2 hdown hr

end Go.Proofs.YtacfcfbleogioaaGreatDoor

namespace Go.Proofs.YtacfcfbleogioaaGreatDoor
open Go.RowKit Go.Lib Go.Joins

def okR (d : Dsk) (f : FilI) : Bool := !(fnd f.name d.L).isSome && nmd f.name && decide (0 ≤ f.safe) && decide (f.safe ≤ (f.data.length : Int))
def loadR : List FilI → Dsk → Option Dsk
  | [], d => some d
  | f :: L, d => if okR d f then loadR L (addF f d) else none
def finR (q : Option Dsk) : Option Dsk :=
  match q with
  | none => none
  | some d => if d.L.length ≤ 64 ∧ (used d.L : Int) ≤ d.room then some d else none
theorem addF_len (f : FilI) (d : Dsk) : (addF f d).L.length = d.L.length + 1 := len_ins _ _
theorem addF_used (f : FilI) (d : Dsk) : used (addF f d).L = used d.L + f.data.length := used_ins (fil f) d.L
theorem loadR_mono : ∀ {L : List FilI} {d d' : Dsk}, loadR L d = some d' → d.L.length ≤ d'.L.length ∧ used d.L ≤ used d'.L ∧ d'.room = d.room
  | [], d, d', h => by
    obtain rfl : d = d' := by simpa [loadR] using h
    exact ⟨Nat.le_refl _, Nat.le_refl _, rfl⟩
  | f :: L, d, d', h => by
    unfold loadR at h
    split at h
    · obtain ⟨h1, h2, h3⟩ := loadR_mono h
      have := addF_len f d
      have := addF_used f d
      exact ⟨by omega, by omega, h3⟩
    · cases h
theorem takes_ok (d : Dsk) (f : FilI) : takesB d f = (okR d f && decide (d.L.length < 64) && decide ((f.data.length : Int) ≤ d.room - (used d.L : Int))) := by
  unfold takesB okR
  cases nmd f.name <;> cases (fnd f.name d.L).isSome <;> cases decide (d.L.length < 64) <;> cases decide (0 ≤ f.safe) <;> cases decide (f.safe ≤ (f.data.length : Int)) <;> rfl
theorem loadS_R : ∀ (L : List FilI) (d : Dsk), d.L.length ≤ 64 → (used d.L : Int) ≤ d.room → loadS L d = finR (loadR L d)
  | [], d, h1, h2 => by
    show some d = if d.L.length ≤ 64 ∧ (used d.L : Int) ≤ d.room then some d else none
    rw [if_pos ⟨h1, h2⟩]
  | f :: L, d, h1, h2 => by
    unfold loadS loadR
    rw [takes_ok]
    cases ho : okR d f with
    | false => rfl
    | true =>
      have e1 := addF_len f d
      have e2 := addF_used f d
      by_cases hc : d.L.length < 64 ∧ (f.data.length : Int) ≤ d.room - (used d.L : Int)
      · rw [decide_eq_true hc.1, decide_eq_true hc.2]
        show loadS L (addF f d) = finR (loadR L (addF f d))
        exact loadS_R L (addF f d) (by omega) (by show _ ≤ d.room; omega)
      · have e3 : (true && decide (d.L.length < 64) && decide ((f.data.length : Int) ≤ d.room - (used d.L : Int))) = false := by
          cases h5 : decide (d.L.length < 64)
          · rfl
          · cases h6 : decide ((f.data.length : Int) ≤ d.room - (used d.L : Int))
            · rfl
            · exact absurd ⟨of_decide_eq_true h5, of_decide_eq_true h6⟩ hc
        rw [e3]
        show none = finR (loadR L (addF f d))
        cases hl : loadR L (addF f d) with
        | none => rfl
        | some d' =>
          obtain ⟨m1, m2, m3⟩ := loadR_mono hl
          have m3' : d'.room = d.room := m3
          show none = if d'.L.length ≤ 64 ∧ (used d'.L : Int) ≤ d'.room then some d' else none
          rw [if_neg]
          rintro ⟨a1, a2⟩
          rw [m3'] at a2
          exact hc ⟨by omega, by omega⟩
theorem loadS_inv : ∀ {L : List FilI} {d d' : Dsk}, Inv d → (∀ f ∈ L, ∀ c ∈ f.data, c < 256) → loadS L d = some d' → Inv d'
  | [], d, d', hi, _, h => by
    obtain rfl : d = d' := by simpa [loadS] using h
    exact hi
  | f :: L, d, d', hi, hb, h => by
    unfold loadS at h
    split at h
    · next ht => exact loadS_inv (takes_inv hi ht (hb f (List.mem_cons_self ..))).1 (fun g hg => hb g (List.mem_cons_of_mem _ hg)) h
    · cases h
theorem loadR_drop {L : List FilI} {i : Nat} {f : FilI} (hi : L[i]? = some f) (d : Dsk) : loadR (L.drop i) d = if okR d f then loadR (L.drop (i + 1)) (addF f d) else none := by
  obtain ⟨h1, rfl⟩ := List.getElem?_eq_some_iff.1 hi
  rw [List.drop_eq_getElem_cons h1]
  rfl

/-- What the reference's Load answers. -/
def RLoadOut (q : Option Dsk) (w : World) (e : Ending) (w' : World) : Prop :=
  match q with
  | none => e = .returned (.tuple #[.pointer none, .int .i64 80]) ∧ Below w.heap.size w w'
  | some d => ∃ B S, e = .returned (.tuple #[.pointer (some ⟨B, 0, none⟩), .int .i64 0]) ∧ RefD w' S B d ∧ Fresh Non w.heap.size S ∧ Below w.heap.size w w'

theorem fils_bytes {w : World} {S : Nat → Prop} {a : Option Addr} {L : List FilI} (h : Fils w S a L) : ∀ f ∈ L, ∀ c ∈ f.data, c < 256 := by
  intro f hf
  obtain ⟨i, hi⟩ := List.mem_iff_getElem?.1 hf
  obtain ⟨b, o, da, dc, _, _, _, _, _, hr, _⟩ := fils_at h hi
  exact hr.1

set_option maxRecDepth 100000 in
set_option maxHeartbeats 16000000 in
theorem rload_calls (a0 : Option Addr) (L : List FilI) (cap0 n : Nat) (room : Int) (w : World) {S0 : Nat → Prop} (hr : Fils w S0 a0 L) (hn : L.length = n) (ht : total L ≤ 1073741824) (hnm : ∀ f ∈ L, f.name.size ≤ 1099511627776) (hcm : n ≤ 1000) (hroom : room ≤ 9223372036854775807) :
    Calls Tryz.prog 10 #[.slice a0 n cap0, .int .i64 room] w (RLoadOut (loadS L (dsk0 room)) w) := by
  have hi0 := inv_dsk0 hroom
  have HINVQ : Hid (∀ d', loadS L (dsk0 room) = some d' → Inv d') := Lib.hid (fun d' h => loadS_inv hi0 (fils_bytes hr) h)
  have hfin : loadS L (dsk0 room) = finR (loadR L (dsk0 room)) := loadS_R L (dsk0 room) hi0.most hi0.fit
  rw [hfin] at HINVQ ⊢
  obtain ⟨q, hq⟩ : ∃ q, loadR L (dsk0 room) = q := ⟨_, rfl⟩
  rw [hq] at HINVQ ⊢
  have HQ := Lib.hid hq
  have HNEW := Lib.hid (rnew_calls room w hroom)
  have HR := Lib.hid hr
  have HN := Lib.hid hn
  have HT := Lib.hid ht
  have HNM := Lib.hid hnm
  clear hq hr hn ht hnm hi0 hfin
  go_enter Tryz.func10, Tryz.ntmps10
  go_wp2_with fail
  with_reducible refine HNEW.out.mono ?_
  rintro e w1 ⟨B, S, rfl, hd1, hf1, hb1⟩
  have HD1 := Lib.hid hd1.2
  have HF1 := Lib.hid hf1
  have HB1 := Lib.hid hb1
  clear hd1 hf1 hb1
  go_wp2
  go_loopg [7, 8] n (fun g idx _ wr => ∃ (i : Nat) (d : Dsk) (S : Nat → Prop), idx = .int .i64 (i : Int) ∧ g + i = n ∧ RHas wr S B d ∧ (∀ k, S k → w.heap.size ≤ k) ∧ loadR (L.drop i) d = q ∧ used d.L + total (L.drop i) ≤ 1073741824 ∧ d.L.length = i ∧ (∀ g ∈ d.L, g.name.size ≤ 1099511627776) ∧ d.room ≤ 9223372036854775807 ∧ Below w.heap.size w wr)
  case atStart => exact ⟨0, _, S, rfl, rfl, HD1.out, fun k e => by rcases HF1.out k e with h | h; exact h.elim; exact h, HQ.out, by show used [] + total L ≤ _; have := HT.out; simp [used]; omega, rfl, (fun g hg => by cases hg), by show max room 0 ≤ _; omega, HB1.out⟩
  case round =>
    obtain ⟨i, d, Si, rfl, hg, hD, hS, hld, hus, hdl, hns, hrm, hb⟩ := hrel
    have HG := Lib.hid hg
    have HD := Lib.hid hD
    have HS := Lib.hid hS
    have HLD := Lib.hid hld
    have HUS := Lib.hid hus
    have HDL := Lib.hid hdl
    have HNS := Lib.hid hns
    have HRM := Lib.hid hrm
    have HB := Lib.hid hb
    clear hg hD hS hld hus hb hdl hns hrm
    by_cases hlt : i < n
    · obtain ⟨g', rfl⟩ : ∃ g', gk = g' + 1 := ⟨gk - 1, by have := HG.out; omega⟩
      have hd : decide ((i : Int) < (n : Int)) = true := by simp; omega
      obtain ⟨f, hfi⟩ : ∃ f, L[i]? = some f := ⟨L[i]'(by rw [HN.out]; omega), List.getElem?_eq_getElem _⟩
      have hfm : f ∈ L := List.mem_of_getElem? hfi
      obtain ⟨b, o, da, dc, rfl, hSb, r0, r1, r2, hrow, hac, hlc, hcm2⟩ := fils_at (HR.out.below HB.out) hfi
      have htd := total_drop hfi
      have hld := loadR_drop hfi d
      have hlenD : f.data.length ≤ 1073741824 := by have := HUS.out; omega
      have hnz := HNM.out f hfm
      have huadd : used (addF f d).L + total (L.drop (i + 1)) ≤ 1073741824 := by
        have h1 := addF_used f d
        have := HUS.out
        omega
      have hbel : Below wr.heap.size wr (wr.alloc (.cells #[.string f.name, .slice da f.data.length dc, .int .i64 f.safe] 63)) := (Below.refl _ _).alloc (Nat.le_refl _) _
      have hx : (wr.alloc (.cells #[.string f.name, .slice da f.data.length dc, .int .i64 f.safe] 63)).heap[wr.heap.size]? = some (.cells #[.string f.name, .slice da f.data.length dc, .int .i64 f.safe] 63 (0, 0)) := heap_alloc_new wr _
      obtain ⟨W, hW⟩ : ∃ W, wr.alloc (.cells #[.string f.name, .slice da f.data.length dc, .int .i64 f.safe] 63) = W := ⟨_, rfl⟩
      rw [hW] at hbel hx
      have w0 : W.cell? ⟨wr.heap.size, 0, none⟩ = some (.string f.name) := (cell_of_block hx 0).trans rfl
      have w1c : W.cell? ⟨wr.heap.size, 1, none⟩ = some (.slice da f.data.length dc) := (cell_of_block hx 1).trans rfl
      have w2c : W.cell? ⟨wr.heap.size, 2, none⟩ = some (.int .i64 f.safe) := (cell_of_block hx 2).trans rfl
      have HDW := Lib.hid (HD.out.below hbel)
      have HBW := Lib.hid (below_then HB.out (hbel.mono (Nat.le_refl _)))
      have HBWr := Lib.hid hbel
      have hml : d.L.length ≤ 1000 := by rw [HDL.out]; omega
      have hat := rat_any f.name W HDW.out hml
      have HMAY := Lib.hid (may_calls f.name W hnz)
      have HROWW := Lib.hid (hrow.below hbel)
      have HAC := Lib.hid hac
      have HLD2 := Lib.hid hld
      have HUADD := Lib.hid huadd
      have HNZ := Lib.hid hnz
      have HLEN := Lib.hid hlenD
      have HBX := Lib.hid hx
      clear hfi hfm hrow htd hld hnz huadd hbel hx hSb hac hlc hcm2 hml
      -- what is told
      have hok : okR d f = (!(fnd f.name d.L).isSome && nmd f.name && decide (0 ≤ f.safe) && decide (f.safe ≤ (f.data.length : Int))) := rfl
      rw [hok] at HLD2
      clear hok
      cases hfn : fnd f.name d.L with
      | some f2 =>
        obtain ⟨j, hj, _⟩ := ixF_some (i := 0) hfn
        rw [hj, Nat.zero_add] at hat
        have HAT := Lib.hid hat
        rw [hfn] at HLD2
        have HQN : Hid (q = none) := Lib.hid (by rw [← HLD.out, HLD2.out]; rfl)
        have hj0 : decide ((0 : Int) ≤ (j : Int)) = true := by simp
        clear hat hj hfn
        go_wp2_with fail
        with_reducible refine HAT.out.mono ?_
        rintro e w3 ⟨rfl, rfl⟩
        go_wp2
        go_ret2
        rw [HQN.out]
        exact ⟨rfl, HBW.out⟩
      | none =>
        rw [ixF_none hfn] at hat
        have HAT := Lib.hid hat
        rw [hfn] at HLD2
        have HFN := Lib.hid hfn
        clear hat hfn
        cases hnmd : nmd f.name with
        | false =>
          rw [hnmd] at HLD2 HMAY
          have HQN : Hid (q = none) := Lib.hid (by rw [← HLD.out, HLD2.out]; rfl)
          clear hnmd
          go_wp2_with fail
          with_reducible refine HAT.out.mono ?_
          rintro e w3 ⟨rfl, rfl⟩
          go_wp2_with fail
          with_reducible refine HMAY.out.mono ?_
          rintro e w3 ⟨rfl, rfl⟩
          go_wp2
          go_ret2
          rw [HQN.out]
          exact ⟨rfl, HBW.out⟩
        | true =>
          rw [hnmd] at HLD2 HMAY
          have HNMD := Lib.hid hnmd
          clear hnmd
          obtain ⟨z, hz⟩ : ∃ z, f.safe = z := ⟨_, rfl⟩
          obtain ⟨ln, hln⟩ : ∃ ln, f.data.length = ln := ⟨_, rfl⟩
          rw [hz] at w2c r2 hW
          rw [hln] at w1c r1 hW hlenD
          rw [hz, hln] at HLD2
          have HZ := Lib.hid hz
          have HLN := Lib.hid hln
          clear hz hln
          by_cases hz0 : z < 0
          · have dz : decide (z < 0) = true := by simpa using hz0
            have HQN : Hid (q = none) := Lib.hid (by rw [← HLD.out, HLD2.out, decide_eq_false (by omega : ¬ 0 ≤ z)]; rfl)
            go_wp2_with fail
            with_reducible refine HAT.out.mono ?_
            rintro e w3 ⟨rfl, rfl⟩
            go_wp2_with fail
            with_reducible refine HMAY.out.mono ?_
            rintro e w3 ⟨rfl, rfl⟩
            go_wp2
            go_ret2
            rw [HQN.out]
            exact ⟨rfl, HBW.out⟩
          have dz : decide (z < 0) = false := by simpa using hz0
          by_cases hz1 : (ln : Int) < z
          · have dl : decide ((ln : Int) < z) = true := by simpa using hz1
            have HQN : Hid (q = none) := Lib.hid (by rw [← HLD.out, HLD2.out, decide_eq_false (by omega : ¬ z ≤ (ln : Int))]; simp)
            go_wp2_with fail
            with_reducible refine HAT.out.mono ?_
            rintro e w3 ⟨rfl, rfl⟩
            go_wp2_with fail
            with_reducible refine HMAY.out.mono ?_
            rintro e w3 ⟨rfl, rfl⟩
            go_wp2
            go_ret2
            rw [HQN.out]
            exact ⟨rfl, HBW.out⟩
          have dl : decide ((ln : Int) < z) = false := by simpa using hz1
          have HLD3 : Hid (loadR (L.drop (i + 1)) (addF f d) = q) := Lib.hid (by rw [← HLD.out, HLD2.out, decide_eq_true (by omega : 0 ≤ z), decide_eq_true (by omega : z ≤ (ln : Int))]; rfl)
          have hput : Calls Tryz.prog 38 #[.pointer (some ⟨B, 0, none⟩), .agg #[.string f.name, .slice da ln dc, .int .i64 z]] W (RPutOut W Si B (addF f d)) := by
            have hs : (((fil f).safe : Nat) : Int) = z := by show ((f.safe.toNat : Nat) : Int) = z; have := HZ.out; omega
            have := rput_calls (fil f) da dc W HDW.out (by rw [HDL.out]; omega) HNZ.out HNS.out HROWW.out HAC.out HLEN.out
            rw [hs] at this
            have e : (fil f).data.length = ln := HLN.out
            rw [e] at this
            exact this
          have HPUT := Lib.hid hput
          clear hput hz0 hz1 HLD2
          go_wp2_with fail
          with_reducible refine HAT.out.mono ?_
          rintro e w3 ⟨rfl, rfl⟩
          go_wp2_with fail
          with_reducible refine HMAY.out.mono ?_
          rintro e w3 ⟨rfl, rfl⟩
          go_wp2_with fail
          with_reducible refine HPUT.out.mono ?_
          rintro e w5 ⟨rfl, S5, h5, hf5, hk5⟩
          have HH5 := Lib.hid h5
          have HF5 := Lib.hid hf5
          have HK5 := Lib.hid hk5
          clear h5 hf5 hk5
          go_wp2
          go_roundg g'
          case measure => omega
          case rel =>
            refine ⟨i + 1, addF f d, S5, by go_num, by have := HG.out; omega, HH5.out, fun k e => ?_, HLD3.out, HUADD.out, by rw [addF_len, HDL.out], fun g hg => ?_, HRM.out, HBW.out.trans (HK5.out.toBelow HBW.out.size HS.out)⟩
            · rcases HF5.out k e with h4 | h4
              · exact HS.out k h4
              · have := HBW.out.size; omega
            · rcases mem_ins.1 hg with rfl | hg
              · exact HNZ.out
              · exact HNS.out g hg
    · have hd : decide ((i : Int) < (n : Int)) = false := by simp; omega
      have hin : i = n := by have := HG.out; omega
      have HQS : Hid (q = some d) := Lib.hid (by
        rw [← HLD.out, List.drop_eq_nil_of_le (by rw [HN.out]; omega)]
        rfl)
      have hudd : used d.L ≤ 1073741824 := by have := HUS.out; omega
      have HDLn : Hid (d.L.length = n) := Lib.hid (HDL.out.trans hin)
      have hml : d.L.length ≤ 1000 := by rw [HDLn.out]; exact hcm
      have HU := Lib.hid (fun (j : Nat) => (rused_any (wr.drewN j) (HD.out.keep ((Keeps.refl Non wr).drewN j) (fun _ _ h => h)) hml hudd).mono (R' := fun e w' => e = .returned (.int .i64 (used d.L : Int)) ∧ w' = wr.drewN j) (fun e w' h => ⟨h.1, h.2.symm⟩))
      have hb0 : wr.cell? ⟨B, 0, none⟩ = some (.int .i64 d.room) := by
        obtain ⟨_, lv, ta, tn, tc, Sd, St, h⟩ := HD.out
        exact (cell_of_block h.blk 0).trans rfl
      obtain ⟨R, hR⟩ : ∃ R, d.room = R := ⟨_, rfl⟩
      obtain ⟨U, hU⟩ : ∃ U, used d.L = U := ⟨_, rfl⟩
      rw [hR] at hb0
      rw [hU] at HU
      have HRR := Lib.hid hR
      have HUU := Lib.hid hU
      clear hin hml hR hU hudd
      by_cases h64 : 64 < n
      · have d64 : decide ((64 : Int) < (n : Int)) = true := by simp; omega
        have HEQ : Hid (finR q = none) := Lib.hid (by
          rw [HQS.out]
          show (if d.L.length ≤ 64 ∧ (used d.L : Int) ≤ d.room then some d else none) = none
          rw [if_neg (by rw [HDLn.out]; omega)])
        go_wp2
        go_quiet (fail)
        go_wp2
        go_ret2
        rw [HEQ.out]
        exact ⟨rfl, HB.out.trans (below_draws _ _ _)⟩
      have d64 : decide ((64 : Int) < (n : Int)) = false := by simp; omega
      by_cases hru : R < (U : Int)
      · have dru : decide (R < (U : Int)) = true := by simpa using hru
        have HEQ : Hid (finR q = none) := Lib.hid (by
          rw [HQS.out]
          show (if d.L.length ≤ 64 ∧ (used d.L : Int) ≤ d.room then some d else none) = none
          rw [if_neg (by rw [HUU.out, HRR.out]; omega)])
        clear hru
        go_wp2
        go_quiet ((exact Calls.quiet_of_same (HU.out _)))
        go_wp2
        go_ret2
        rw [HEQ.out]
        exact ⟨rfl, HB.out.trans (below_draws _ _ _)⟩
      · have dru : decide (R < (U : Int)) = false := by simpa using hru
        have HEQ : Hid (finR q = some d) := Lib.hid (by
          rw [HQS.out]
          show (if d.L.length ≤ 64 ∧ (used d.L : Int) ≤ d.room then some d else none) = some d
          rw [if_pos ⟨by rw [HDLn.out]; omega, by rw [HUU.out, HRR.out]; omega⟩])
        have HINV := Lib.hid (HINVQ.out d HEQ.out)
        clear hru
        go_wp2
        go_quiet ((exact Calls.quiet_of_same (HU.out _)))
        go_wp2
        go_ret2
        rw [HEQ.out]
        exact ⟨B, Si, rfl, ⟨HINV.out, HD.out.keep ((Keeps.refl Non wr).drewN nq) (fun _ _ h => h)⟩, fun k e => .inr (HS.out k e), HB.out.trans (below_draws _ _ _)⟩

end Go.Proofs.YtacfcfbleogioaaGreatDoor

namespace Go.Proofs.YtacfcfbleogioaaGreatDoor
open Go.RowKit Go.Lib Go.Joins

/-- The program's disk and the reference's, in blocks of their own. -/
structure Both (w0 w : World) (S1 : Nat → Prop) (B1 : Nat) (d : Dsk) (S2 : Nat → Prop) (B2 : Nat) (e : Dsk) : Prop where
  live : Live w0 w S1 B1 d
  ref : RefD w S2 B2 e
  own : ∀ k, S2 k → w0.heap.size ≤ k
  dis : ∀ k, S1 k → ¬ S2 k
theorem Both.turn1 {w0 w w' : World} {S1 S2 : Nat → Prop} {B1 B2 : Nat} {d d' e : Dsk} (h : Both w0 w S1 B1 d S2 B2 e) (ht : Turns w S1 B1 d' w') : ∃ S1', Both w0 w' S1' B1 d' S2 B2 e := by
  obtain ⟨S', h1, h2, h3⟩ := h.live.turns ht
  refine ⟨S', h1, h.ref.keep h3 (fun k e hk => h.dis k hk e), h.own, fun k e hk => ?_⟩
  rcases h2 k e with h4 | h4
  · exact h.dis k h4 hk
  · have := h.ref.2.1 k hk; omega
theorem Both.turn2 {w0 w w' : World} {S1 S2 : Nat → Prop} {B1 B2 : Nat} {d e e' : Dsk} (h : Both w0 w S1 B1 d S2 B2 e) (ht : RTurns w S2 B2 e' w') : ∃ S2', Both w0 w' S1 B1 d S2' B2 e' := by
  obtain ⟨S', h1, h2, h3⟩ := ht
  refine ⟨S', ⟨h.live.disk.keep h3 (fun k e => h.dis k e), h.live.own, h.live.bel.trans (h3.toBelow h.live.bel.size h.own)⟩, h1, fun k e => ?_, fun k e hk => ?_⟩
  · rcases h2 k e with h4 | h4
    · exact h.own k h4
    · exact Nat.le_trans h.live.bel.size h4
  · rcases h2 k hk with h4 | h4
    · exact h.dis k e h4
    · have := h.live.disk.2.1 k e; omega
theorem Both.quiet {w0 w w' : World} {S1 S2 : Nat → Prop} {B1 B2 : Nat} {d e : Dsk} (h : Both w0 w S1 B1 d S2 B2 e) (hb : Below w.heap.size w w') : Both w0 w' S1 B1 d S2 B2 e :=
  ⟨h.live.quiet hb, h.ref.below hb, h.own, h.dis⟩
theorem Both.off2 {w0 w : World} {S1 S2 : Nat → Prop} {B1 B2 : Nat} {d e : Dsk} (h : Both w0 w S1 B1 d S2 B2 e) : ∀ k, k < w0.heap.size → ¬ S2 k := fun k hk e => by have := h.own k e; omega

end Go.Proofs.YtacfcfbleogioaaGreatDoor
