/-
  The walk of the law ManGreatest at every list. Conditions: the slices lead to what they are said to, no longer than 2 to the 40; the library's table of powers of ten and its two errors are laid; errors.errorType holds its handle.
-/
import Derived.Test.YtacfcfbleogioaaGreatDoorMLaw
import Derived.Test.YtacfcfbleogioaaGreatDoorMNew
import Derived.Test.YtacfcfbleogioaaGreatDoorMWrite
import Derived.Test.YtacfcfbleogioaaGreatDoorMRef
import Derived.Test.YtacfcfbleogioaaGreatDoorMAwake
import Derived.Test.YtacfcfbleogioaaGreatDoorFCode
namespace Go.Proofs.YtacfcfbleogioaaGreatDoor
open Go.RowKit Go.Lib Go.Joins

/-- Blocks of before. -/
def Was0 (w0 : World) : Nat → Prop := fun k => k < w0.heap.size
/-- A manifest in memory: where its numbers lie. -/
structure ManI where
  m : Mfs
  a : Option Addr
  c : Nat
/-- A slice leads to these manifests. -/
def Mans (w : World) (S : Nat → Prop) (a : Option Addr) (L : List ManI) : Prop := ∀ (i : Nat) (x : ManI), L[i]? = some x → ∃ b o, a = some ⟨b, o, none⟩ ∧ S b ∧ b < w.heap.size ∧ IRow w S x.a x.m.segs ∧ (x.a = none → x.c = 0) ∧
  w.cell? ⟨b, o + i * 3, none⟩ = some (.int .i64 x.m.gen) ∧ w.cell? ⟨b, o + i * 3 + 1, none⟩ = some (.int .i64 x.m.last) ∧ w.cell? ⟨b, o + i * 3 + 2, none⟩ = some (.slice x.a x.m.segs.length x.c)

/-- The law's state: a disk, the best manifest's box. -/
structure GL (w0 w : World) (S : Nat → Prop) (B Bx i : Nat) (d : Dsk) (best : Mfs) (ab : Option Addr) (cb : Nat) : Prop where
  live : Live w0 w S B d
  gr : Gr d best i
  box : w.heap[Bx]? = some (.cells #[.int .i64 best.gen, .int .i64 best.last, .slice ab best.segs.length cb] 25 (0, 0))
  off : ¬ S Bx
  own : w0.heap.size ≤ Bx
  row : IRow w0 (Was0 w0) ab best.segs
  len : best.segs.length ≤ 1000
theorem Gr.stay {d : Dsk} {best : Mfs} {i : Nat} (h : Gr d best i) : Gr d best (i + 1) :=
  ⟨h.down, h.tr, h.room, h.few.mono (by omega) (by omega), by have := h.len; omega, h.all, h.best⟩
theorem GL.turn {w0 w w' : World} {S S' : Nat → Prop} {B Bx i j : Nat} {d d' : Dsk} {best : Mfs} {ab : Option Addr} {cb : Nat} (h : GL w0 w S B Bx i d best ab cb) (hl : Live w0 w' S' B d') (hf : Fresh S w.heap.size S') (hk : Keeps S w w') (hg : Gr d' best j) : GL w0 w' S' B Bx j d' best ab cb :=
  ⟨hl, hg, block_keep h.box hk h.off, fun e => by rcases hf _ e with h1 | h1; exact h.off h1; have := lt_of_block h.box; omega, h.own, h.row, h.len⟩
theorem GL.below {w0 w w' : World} {S : Nat → Prop} {B Bx i : Nat} {d : Dsk} {best : Mfs} {ab : Option Addr} {cb : Nat} (h : GL w0 w S B Bx i d best ab cb) (hb : Below w.heap.size w w') : GL w0 w' S B Bx i d best ab cb :=
  ⟨h.live.quiet hb, h.gr, block_below hb h.box, h.off, h.own, h.row, h.len⟩
theorem GL.lay {w0 w w' : World} {S : Nat → Prop} {B Bx i j : Nat} {d : Dsk} {best m : Mfs} {ab am : Option Addr} {cb cm : Nat} (h : GL w0 w S B Bx i d best ab cb) (hk : Keeps (One Bx) w w') (hg : Gr d m j)
    (hb : w'.heap[Bx]? = some (.cells #[.int .i64 m.gen, .int .i64 m.last, .slice am m.segs.length cm] 25 (0, 0))) (hr : IRow w0 (Was0 w0) am m.segs) (hl : m.segs.length ≤ 1000) : GL w0 w' S B Bx j d m am cm :=
  ⟨⟨h.live.disk.keep hk (fun k hS e => h.off (by rw [← show k = Bx from e]; exact hS)), h.live.own, h.live.bel.trans (hk.toBelow h.live.bel.size (fun k e => by rw [show k = Bx from e]; exact h.own))⟩, hg, hb, h.off, h.own, hr, hl⟩
theorem few_dsk0 {room : Int} (h : room ≤ 9223372036854775807) : Few (dsk0 room) 0 0 :=
  ⟨⟨by unfold dsk0; show 0 ≤ max room 0; omega, by unfold dsk0; show max room 0 ≤ _; omega, List.Pairwise.nil, Nat.zero_le _, fun f hf => (by cases hf), fun f hf => (by cases hf), fun f hf => (by cases hf), by show ((used [] : Nat) : Int) ≤ max room 0; simp [used]; omega⟩, Nat.le_refl _, Int.le_refl _, Int.le_refl _⟩
theorem gr0 : Gr (dsk0 65536) ⟨0, 0, []⟩ 0 :=
  ⟨rfl, rfl, rfl, (few_dsk0 (by decide)).mono (by omega) (by omega), Nat.le_refl _, fun f h => (by cases h), .inl ⟨rfl, rfl⟩⟩

set_option maxRecDepth 100000 in
set_option maxHeartbeats 16000000 in
theorem law_great (a : Option Addr) (l : List ManI) (n c : Nat) (w : World) (ht : Tab w) (he : Errs w) (hgd : Handle w) (hl : Mans w (Was0 w) a l) (hn : l.length = n) (_hb : n ≤ 140737488355328) :
    Calls Tryz.prog 6 #[.slice a n c] w (Leaves (.bool true) w) := by
  have HTAB := Lib.hid ht
  have HER := Lib.hid he
  have HGD := Lib.hid hgd
  have HMS := Lib.hid hl
  have HN := Lib.hid hn
  clear ht he hgd hl hn
  go_enter Tryz.func6, Tryz.ntmps6
  go_wp2_with fail
  with_reducible refine (awake8_calls w HTAB.out).mono ?_
  rintro e w1 ⟨rfl, hb1⟩
  have HB1 := Lib.hid hb1
  clear hb1
  go_wp2_with fail
  with_reducible refine (new_calls 65536 _ (by decide)).mono ?_
  rintro e w2 ⟨B, S1, rfl, hd2, hf2, hb2⟩
  have HL2 : Hid (Live w w2 S1 B (dsk0 65536)) := Lib.hid (Live.born HB1.out hd2 hf2 hb2)
  clear hd2 hf2 hb2 HB1
  obtain ⟨W3, hW3⟩ : ∃ W, w2.alloc (.cells #[.int .i64 0, .int .i64 0, .slice none 0 0] 25) = W := ⟨_, rfl⟩
  have hbx : W3.heap[w2.heap.size]? = some (.cells #[.int .i64 0, .int .i64 0, .slice none 0 0] 25 (0, 0)) := by rw [← hW3]; exact heap_alloc_new _ _
  have HGL0 : Hid (GL w W3 S1 B w2.heap.size 0 (dsk0 65536) ⟨0, 0, []⟩ none 0) := Lib.hid
    ⟨HL2.out.quiet (by rw [← hW3]; exact (Below.refl _ _).alloc (Nat.le_refl _) _), gr0, hbx, fun e => by have := HL2.out.disk.2.1 _ e; omega, HL2.out.bel.size, .inl rfl, Nat.zero_le _⟩
  obtain ⟨Bx, hBx⟩ : ∃ Bx, w2.heap.size = Bx := ⟨_, rfl⟩
  rw [hBx] at HGL0
  have HW3 := Lib.hid hW3
  have HBX := Lib.hid hBx
  clear hbx HL2 hW3 hBx
  go_wp2_with fail
  rw [HW3.out]
  try rw [HBX.out]
  go_loopg [5] n (fun gk idx wr => ∃ (i : Nat) (S : Nat → Prop) (d : Dsk) (best : Mfs) (ab : Option Addr) (cb : Nat), idx = .int .i64 (i : Int) ∧ gk + i = n ∧ i ≤ 12 ∧ GL w wr S B Bx i d best ab cb)
  case atStart => exact ⟨0, S1, _, _, none, 0, rfl, rfl, by decide, HGL0.out⟩
  case round =>
    obtain ⟨i, S, d, best, ab, cb, rfl, hg, hi12, hgl⟩ := hrel
    have HG := Lib.hid hg
    have HGL := Lib.hid hgl
    clear hg hgl HGL0
    by_cases hlt : i < n ∧ i < 12
    · obtain ⟨hlt, h12⟩ := hlt
      obtain ⟨g', rfl⟩ : ∃ g', gk = g' + 1 := ⟨gk - 1, by have := HG.out; omega⟩
      have hdd : decide ((i : Int) < (n : Int)) = true := by simp; omega
      have hdd3 : decide ((i : Int) < 12) = true := by simp; omega
      obtain ⟨x, hx⟩ : ∃ x, l[i]? = some x := ⟨l[i]'(by rw [HN.out]; exact hlt), List.getElem?_eq_getElem _⟩
      obtain ⟨⟨xg, xl, xs⟩, xa, xc⟩ := x
      obtain ⟨xb, xo, rfl, _, hxlt, hir, hx0, e0, e1, e2⟩ := HMS.out i _ hx
      dsimp only at hir hx0 e0 e1 e2
      have hbw := HGL.out.live.bel
      have k0 : wr.cell? ⟨xb, xo + i * 3, none⟩ = some (.int .i64 xg) := (hbw.cell (p := ⟨xb, xo + i * 3, none⟩) hxlt).trans e0
      have k1 : wr.cell? ⟨xb, xo + i * 3 + 1, none⟩ = some (.int .i64 xl) := (hbw.cell (p := ⟨xb, xo + i * 3 + 1, none⟩) hxlt).trans e1
      have k2 : wr.cell? ⟨xb, xo + i * 3 + 2, none⟩ = some (.slice xa xs.length xc) := (hbw.cell (p := ⟨xb, xo + i * 3 + 2, none⟩) hxlt).trans e2
      obtain ⟨z, hz⟩ : ∃ z, xs.length = z := ⟨_, rfl⟩
      rw [hz] at k2 e2
      have HZ := Lib.hid hz
      have HIR := Lib.hid hir
      have HE0 := Lib.hid (And.intro e0 (And.intro e1 e2))
      clear hir e0 e1 e2 hbw hx hz
      by_cases hbig : 1000 < z
      · have hd1 : decide ((z : Int) > 1000) = true := by simp; omega
        have hd2 : decide ((1000 : Int) < (z : Int)) = true := by simp; omega
        have HBW := Lib.hid HGL.out.live.bel
        go_wp2
        go_ret
        exact ⟨rfl, HBW.out⟩
      have hd1 : decide ((z : Int) > 1000) = false := by simp; omega
      have hd2 : decide ((1000 : Int) < (z : Int)) = false := by simp; omega
      have HMW := Lib.hid (mwrite_calls xg xl xa xs z xc HGL.out.live HTAB.out (HIR.out.below HGL.out.live.bel) HZ.out (by omega) hx0 HGL.out.gr.few (by omega) (by omega))
      cases hmm : mayM ⟨xg, xl, xs⟩ with
      | false =>
        rw [show wrM d ⟨xg, xl, xs⟩ = (80, d) from if_pos hmm] at HMW
        go_wp2_with fail
        with_reducible refine HMW.out.mono ?_
        rintro e w4 ⟨ev, rfl, herr, S4, hl4, hf4, hk4, _⟩
        have hgl4 := HGL.out.turn hl4 hf4 hk4 HGL.out.gr.stay
        have hbw := hgl4.live.bel
        have k0 : w4.cell? ⟨xb, xo + i * 3, none⟩ = some (.int .i64 xg) := (hbw.cell (p := ⟨xb, xo + i * 3, none⟩) hxlt).trans HE0.out.1
        have k1 : w4.cell? ⟨xb, xo + i * 3 + 1, none⟩ = some (.int .i64 xl) := (hbw.cell (p := ⟨xb, xo + i * 3 + 1, none⟩) hxlt).trans HE0.out.2.1
        have k2 : w4.cell? ⟨xb, xo + i * 3 + 2, none⟩ = some (.slice xa z xc) := (hbw.cell (p := ⟨xb, xo + i * 3 + 2, none⟩) hxlt).trans HE0.out.2.2
        have HMY := Lib.hid (rmay8_calls xg xl xa xs z xc w4 (HIR.out.below hbw) HZ.out (by omega))
        rw [hmm] at HMY
        have HGL4 := Lib.hid hgl4
        have HERR := Lib.hid herr
        clear hgl4 hbw herr hl4 hf4 hk4 HMW hmm
        go_wp2_with fail
        with_reducible refine HMY.out.mono ?_
        rintro e w5 ⟨rfl, hb5⟩
        have HC := Lib.hid (code_calls 80 xg ev w5 (HERR.out.below hb5) (HGD.out.below (below_then HGL4.out.live.bel hb5)))
        have HB5 := Lib.hid hb5
        clear hb5 HERR HMY
        go_wp2_with fail
        with_reducible refine HC.out.mono ?_
        rintro e w6 ⟨rfl, hb6⟩
        have HGL6 := Lib.hid (HGL4.out.below (below_then HB5.out hb6))
        clear hb6 HC
        go_wp2
        go_roundg g'
        case measure => omega
        case rel => exact ⟨i + 1, S4, d, best, ab, cb, by go_num, by have := HG.out; omega, by omega, HGL6.out⟩
      | true =>
        obtain ⟨hc0, hgr⟩ := HGL.out.gr.next h12 hmm
        rw [hc0] at HMW
        have HGR := Lib.hid hgr
        obtain ⟨d4, hd4⟩ : ∃ d4, (wrM d ⟨xg, xl, xs⟩).2 = d4 := ⟨_, rfl⟩
        rw [hd4] at HMW HGR
        clear hc0 hgr hd4
        go_wp2_with fail
        with_reducible refine HMW.out.mono ?_
        rintro e w4 ⟨ev, rfl, herr, S4, hl4, hf4, hk4, _⟩
        have hbw := hl4.bel
        have k0 : w4.cell? ⟨xb, xo + i * 3, none⟩ = some (.int .i64 xg) := (hbw.cell (p := ⟨xb, xo + i * 3, none⟩) hxlt).trans HE0.out.1
        have k1 : w4.cell? ⟨xb, xo + i * 3 + 1, none⟩ = some (.int .i64 xl) := (hbw.cell (p := ⟨xb, xo + i * 3 + 1, none⟩) hxlt).trans HE0.out.2.1
        have k2 : w4.cell? ⟨xb, xo + i * 3 + 2, none⟩ = some (.slice xa z xc) := (hbw.cell (p := ⟨xb, xo + i * 3 + 2, none⟩) hxlt).trans HE0.out.2.2
        have HMY := Lib.hid (rmay8_calls xg xl xa xs z xc w4 (HIR.out.below hbw) HZ.out (by omega))
        rw [hmm] at HMY
        have HGB : Hid (∀ W, Below w4.heap.size w4 W → (best.gen ≤ xg → ∀ W', Keeps (One Bx) W W' → W'.heap[Bx]? = some (.cells #[.int .i64 xg, .int .i64 xl, .slice xa z xc] 25 (0, 0)) → GL w W' S4 B Bx (i + 1) d4 ⟨xg, xl, xs⟩ xa xc) ∧ (xg < best.gen → GL w W S4 B Bx (i + 1) d4 best ab cb)) := Lib.hid (fun W hb => by
          refine ⟨fun hle W' hk' hbx' => ?_, fun hle => ?_⟩
          · have hg := HGR.out
            rw [if_pos hle] at hg
            have hdisk := (hl4.quiet hb)
            have hboxW := block_below hb (block_keep HGL.out.box hk4 HGL.out.off)
            have hoff : ¬ S4 Bx := fun e => by
              rcases hf4 _ e with h1 | h1
              · exact HGL.out.off h1
              · have := lt_of_block HGL.out.box; omega
            exact ⟨⟨hdisk.disk.keep hk' (fun k hS e => hoff (by rw [← show k = Bx from e]; exact hS)), hdisk.own, hdisk.bel.trans (hk'.toBelow hdisk.bel.size (fun k e => by rw [show k = Bx from e]; exact HGL.out.own))⟩, hg, by rw [HZ.out]; exact hbx', hoff, HGL.out.own, HIR.out, by rw [HZ.out]; omega⟩
          · have hg := HGR.out
            rw [if_neg (by omega)] at hg
            exact (HGL.out.turn hl4 hf4 hk4 hg).below hb)
        have HL4 := Lib.hid hl4
        have HK4 := Lib.hid (block_keep HGL.out.box hk4 HGL.out.off)
        have HERR := Lib.hid herr
        clear hbw herr hl4 hf4 hk4 HMW hmm
        go_wp2_with fail
        with_reducible refine HMY.out.mono ?_
        rintro e w5 ⟨rfl, hb5⟩
        have HC := Lib.hid (code_calls 0 xg ev w5 (HERR.out.below hb5) (HGD.out.below (below_then HL4.out.bel hb5)))
        have HB5 := Lib.hid hb5
        clear hb5 HERR HMY
        go_wp2_with fail
        with_reducible refine HC.out.mono ?_
        rintro e w6 ⟨rfl, hb6⟩
        have HB6 := Lib.hid (below_then HB5.out hb6)
        have hbw := below_then HL4.out.bel HB6.out
        have k0 : w6.cell? ⟨xb, xo + i * 3, none⟩ = some (.int .i64 xg) := (hbw.cell (p := ⟨xb, xo + i * 3, none⟩) hxlt).trans HE0.out.1
        have k1 : w6.cell? ⟨xb, xo + i * 3 + 1, none⟩ = some (.int .i64 xl) := (hbw.cell (p := ⟨xb, xo + i * 3 + 1, none⟩) hxlt).trans HE0.out.2.1
        have k2 : w6.cell? ⟨xb, xo + i * 3 + 2, none⟩ = some (.slice xa z xc) := (hbw.cell (p := ⟨xb, xo + i * 3 + 2, none⟩) hxlt).trans HE0.out.2.2
        have hbx := block_below HB6.out HK4.out
        have b0 : w6.cell? ⟨Bx, 0, none⟩ = some (.int .i64 best.gen) := (cell_of_block hbx 0).trans rfl
        have b1 : w6.cell? ⟨Bx, 1, none⟩ = some (.int .i64 best.last) := (cell_of_block hbx 1).trans rfl
        have b2 : w6.cell? ⟨Bx, 2, none⟩ = some (.slice ab best.segs.length cb) := (cell_of_block hbx 2).trans rfl
        have q0 := unfrozen_of_block hbx 0
        have q1 := unfrozen_of_block hbx 1
        have q2 := unfrozen_of_block hbx 2
        have HBX6 := Lib.hid hbx
        clear hbw hbx hb6 HC
        by_cases hle : best.gen ≤ xg
        · have dl : decide (xg ≥ best.gen) = true := by simpa using hle
          have dl2 : decide (best.gen ≤ xg) = true := by simpa using hle
          have HF := Lib.hid ((HGB.out _ HB6.out).1 hle)
          clear hle HGR HGB
          go_wp2_with fail
          go_quiet (fail)
          go_wp2
          obtain ⟨r1, _, r3⟩ := box3_set (w := w) (W := w6.drewN nq) (b := Bx) HBX6.out HGL.out.own (below_then (below_then HL4.out.bel HB6.out) (below_drewN _ _)) (.int .i64 xg) (.int .i64 xl) (.slice xa z xc)
          have HGL7 := Lib.hid (HF.out _ (((Keeps.refl (One Bx) w6).drewN nq).trans r3 (fresh_refl _ _)) r1)
          clear r1 r3 HF
          go_roundg g'
          case measure => omega
          case rel => exact ⟨i + 1, S4, d4, _, xa, xc, by go_num, by have := HG.out; omega, by omega, HGL7.out⟩
        · have dl : decide (xg ≥ best.gen) = false := by simpa using hle
          have dl2 : decide (best.gen ≤ xg) = false := by simpa using hle
          have HF := Lib.hid ((HGB.out _ HB6.out).2 (by omega))
          clear hle HGR HGB
          go_wp2_with fail
          go_quiet (fail)
          go_wp2
          go_roundg g'
          case measure => omega
          case rel => exact ⟨i + 1, S4, d4, best, ab, cb, by go_num, by have := HG.out; omega, by omega, HF.out.below (below_drewN _ _)⟩
    · have hcond : ¬ i < n ∨ ¬ i < 12 := by omega
      have HU : Hid (used d.L ≤ 1073741824) := Lib.hid (by have := HGL.out.gr.few.used; omega)
      have HNW := Lib.hid (newest_calls wr HGL.out.live.disk HU.out (HTAB.out.below HGL.out.live.bel) (HER.out.below HGL.out.live.bel))
      unfold NewOut at HNW
      obtain ⟨hg0, hgz, hgp⟩ := HGL.out.gr.gen
      have HBX8 := Lib.hid HGL.out.box
      have HBW := Lib.hid HGL.out.live.bel
      have HROW := Lib.hid HGL.out.row
      obtain ⟨m, hm⟩ : ∃ m, (newB d.L).getD noM = m := ⟨_, rfl⟩
      have hmb : m = best ∧ (newB d.L).isSome = decide (0 < best.gen) := by
        by_cases h0 : best.gen = 0
        · obtain ⟨h1, h2⟩ := hgz h0
          rw [h1] at hm ⊢
          exact ⟨by rw [← hm, h2]; rfl, by rw [h0]; rfl⟩
        · have h1 := hgp (by omega)
          rw [h1] at hm ⊢
          exact ⟨hm.symm, (decide_eq_true (by omega)).symm⟩
      rw [hm, hmb.2, hmb.1] at HNW
      clear hm hmb
      obtain ⟨⟨mg, ml, ms⟩, hmm⟩ : ∃ x, best = x := ⟨_, rfl⟩
      rw [hmm] at HNW HBX8 HROW
      dsimp only at HNW HBX8 HROW
      have HMLEN : Hid (ms.length ≤ 1000) := Lib.hid (by have := HGL.out.len; rw [hmm] at this; exact this)
      obtain ⟨y, hy⟩ : ∃ y, ms.length = y := ⟨_, rfl⟩
      rw [hy] at HBX8 HMLEN
      have HY := Lib.hid hy
      have HG0 : Hid (0 ≤ mg) := Lib.hid (by rw [hmm] at hg0; exact hg0)
      clear hmm hgz hgp hg0 HGL hy HU
      have HEND : Hid (∀ W8 a7 c7 S7, Below wr.heap.size wr W8 → IRow W8 S7 a7 ms → Calls Tryz.prog 13 #[.agg #[.int .i64 mg, .int .i64 ml, .slice a7 y c7], .agg #[.int .i64 mg, .int .i64 ml, .slice ab y cb]] W8 (Leaves (.bool true) W8)) := Lib.hid (fun W8 a7 c7 S7 hb hir => by
        have := rsame8_calls mg ml mg ml a7 ab ms ms y c7 y cb W8 hir HY.out (by have := HMLEN.out; omega) (HROW.out.below (below_then HBW.out hb)) HY.out (by have := HMLEN.out; omega)
        rwa [sameM_self] at this)
      by_cases hin : i < n
      · have h12 : ¬ i < 12 := by omega
        have hdd : decide ((i : Int) < (n : Int)) = true := by simp; omega
        have hdd3 : decide ((i : Int) < 12) = false := by simp; omega
        go_wp2_with fail
        with_reducible refine HNW.out.mono ?_
        rintro e w7 ⟨v, rfl, hmv, hb7⟩
        obtain ⟨a7, c7, S7, hv, hir7, _, _, _, _⟩ := hmv
        have hv2 : v = .agg #[.int .i64 mg, .int .i64 ml, .slice a7 y c7] := by rw [hv, manV, HY.out]
        clear hv
        subst hv2
        obtain ⟨W8, hW8⟩ : ∃ W, w7.alloc (.cells #[.int .i64 mg, .int .i64 ml, .slice a7 y c7] 25) = W := ⟨_, rfl⟩
        have hb78 : Below w7.heap.size w7 W8 := by rw [← hW8]; exact (Below.refl _ _).alloc (Nat.le_refl _) _
        have hbm : W8.heap[w7.heap.size]? = some (.cells #[.int .i64 mg, .int .i64 ml, .slice a7 y c7] 25 (0, 0)) := by rw [← hW8]; exact heap_alloc_new _ _
        have hbb := block_below (below_then hb7 hb78) HBX8.out
        have m0 : W8.cell? ⟨w7.heap.size, 0, none⟩ = some (.int .i64 mg) := (cell_of_block hbm 0).trans rfl
        have m1 : W8.cell? ⟨w7.heap.size, 1, none⟩ = some (.int .i64 ml) := (cell_of_block hbm 1).trans rfl
        have m2 : W8.cell? ⟨w7.heap.size, 2, none⟩ = some (.slice a7 y c7) := (cell_of_block hbm 2).trans rfl
        have b0 : W8.cell? ⟨Bx, 0, none⟩ = some (.int .i64 mg) := (cell_of_block hbb 0).trans rfl
        have b1 : W8.cell? ⟨Bx, 1, none⟩ = some (.int .i64 ml) := (cell_of_block hbb 1).trans rfl
        have b2 : W8.cell? ⟨Bx, 2, none⟩ = some (.slice ab y cb) := (cell_of_block hbb 2).trans rfl
        have hsm := HEND.out W8 a7 c7 S7 (below_then hb7 hb78) (hir7.below hb78)
        have HSM := Lib.hid hsm
        have HB8 := Lib.hid (below_then HBW.out (below_then hb7 hb78))
        clear hb7 hb78 hbm hbb hsm hir7 HNW HEND
        by_cases h0 : 0 < mg
        · have d0 : decide (mg > 0) = true := by simpa using h0
          have d1 : decide ((0 : Int) < mg) = true := by simpa using h0
          rw [d1]
          go_wp2_with fail
          clear hW8
          with_reducible refine HSM.out.mono ?_
          rintro e w9 ⟨rfl, hb9⟩
          have HB9 := Lib.hid (below_then HB8.out hb9)
          clear hb9
          go_wp2_with fail
          go_ret
          exact ⟨rfl, HB9.out⟩
        · have d0 : decide (mg > 0) = false := by simpa using h0
          have d1 : decide ((0 : Int) < mg) = false := by simpa using h0
          rw [d1]
          go_wp2_with fail
          clear hW8
          with_reducible refine HSM.out.mono ?_
          rintro e w9 ⟨rfl, hb9⟩
          have HB9 := Lib.hid (below_then HB8.out hb9)
          clear hb9
          go_wp2_with fail
          go_ret
          exact ⟨rfl, HB9.out⟩
      · have hdd : decide ((i : Int) < (n : Int)) = false := by simp; omega
        go_wp2_with fail
        with_reducible refine HNW.out.mono ?_
        rintro e w7 ⟨v, rfl, hmv, hb7⟩
        obtain ⟨a7, c7, S7, hv, hir7, _, _, _, _⟩ := hmv
        have hv2 : v = .agg #[.int .i64 mg, .int .i64 ml, .slice a7 y c7] := by rw [hv, manV, HY.out]
        clear hv
        subst hv2
        obtain ⟨W8, hW8⟩ : ∃ W, w7.alloc (.cells #[.int .i64 mg, .int .i64 ml, .slice a7 y c7] 25) = W := ⟨_, rfl⟩
        have hb78 : Below w7.heap.size w7 W8 := by rw [← hW8]; exact (Below.refl _ _).alloc (Nat.le_refl _) _
        have hbm : W8.heap[w7.heap.size]? = some (.cells #[.int .i64 mg, .int .i64 ml, .slice a7 y c7] 25 (0, 0)) := by rw [← hW8]; exact heap_alloc_new _ _
        have hbb := block_below (below_then hb7 hb78) HBX8.out
        have m0 : W8.cell? ⟨w7.heap.size, 0, none⟩ = some (.int .i64 mg) := (cell_of_block hbm 0).trans rfl
        have m1 : W8.cell? ⟨w7.heap.size, 1, none⟩ = some (.int .i64 ml) := (cell_of_block hbm 1).trans rfl
        have m2 : W8.cell? ⟨w7.heap.size, 2, none⟩ = some (.slice a7 y c7) := (cell_of_block hbm 2).trans rfl
        have b0 : W8.cell? ⟨Bx, 0, none⟩ = some (.int .i64 mg) := (cell_of_block hbb 0).trans rfl
        have b1 : W8.cell? ⟨Bx, 1, none⟩ = some (.int .i64 ml) := (cell_of_block hbb 1).trans rfl
        have b2 : W8.cell? ⟨Bx, 2, none⟩ = some (.slice ab y cb) := (cell_of_block hbb 2).trans rfl
        have hsm := HEND.out W8 a7 c7 S7 (below_then hb7 hb78) (hir7.below hb78)
        have HSM := Lib.hid hsm
        have HB8 := Lib.hid (below_then HBW.out (below_then hb7 hb78))
        clear hb7 hb78 hbm hbb hsm hir7 HNW HEND
        by_cases h0 : 0 < mg
        · have d0 : decide (mg > 0) = true := by simpa using h0
          have d1 : decide ((0 : Int) < mg) = true := by simpa using h0
          rw [d1]
          go_wp2_with fail
          clear hW8
          with_reducible refine HSM.out.mono ?_
          rintro e w9 ⟨rfl, hb9⟩
          have HB9 := Lib.hid (below_then HB8.out hb9)
          clear hb9
          go_wp2_with fail
          go_ret
          exact ⟨rfl, HB9.out⟩
        · have d0 : decide (mg > 0) = false := by simpa using h0
          have d1 : decide ((0 : Int) < mg) = false := by simpa using h0
          rw [d1]
          go_wp2_with fail
          clear hW8
          with_reducible refine HSM.out.mono ?_
          rintro e w9 ⟨rfl, hb9⟩
          have HB9 := Lib.hid (below_then HB8.out hb9)
          clear hb9
          go_wp2_with fail
          go_ret
          exact ⟨rfl, HB9.out⟩

end Go.Proofs.YtacfcfbleogioaaGreatDoor
