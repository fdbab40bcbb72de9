/-
  Package fault's peel and Depth by their contracts: the texts of the wraps, outermost first, and what is within them all. Condition: fewer than 1000 wraps.
-/
import Derived.Test.YtgncdbclpokkhaaDoorMade
import Derived.Laws.AppendOwn
import Derived.OwnWalk
import Derived.Maps.AppendAt
namespace Go.Proofs.YtgncdbclpokkhaaDoor
open Go.RowKit Go.Extern.Stop Go.Stop Go.Extern

theorem info9 : (Tryd.prog.info? 9).map (fun i => (i.zero, i.size, i.bytes)) = some (some (.string ⟨#[]⟩), 1, 16) := by kernel_rfl

/-- The texts as a slice of new memory, what is within, and new blocks. -/
def PeelOut (T : List ByteArray) (bare : Value) (w : World) (e : Ending) (w' : World) : Prop :=
  ∃ t, e = .returned (.tuple #[t, bare]) ∧ w'.ownsRow w.heap.size 9 1 t T.length (T.map Value.string) ∧ Below w.heap.size w w'

set_option maxRecDepth 100000 in
set_option maxHeartbeats 1000000 in
theorem peel_nil (w : World) : Calls Tryd.prog 18 #[.nilIface] w (PeelOut [] .nilIface w) := by
  have n47 := asNilat47
  go_enter Tryd.func18, Tryd.ntmps18
  go_wp2
  refine wp_loop_rounds 1 ?_
  rw [rounds_succ]
  go_wp2
  go_ret2
  exact ⟨_, rfl, World.ownsRow_nil _ _ _ _, Below.refl _ _⟩

theorem row_step {w1 : World} {B : Nat} {pre : List ByteArray} {s : ByteArray} {t : Value} (h : w1.ownsRow B 9 1 t (pre.length + 1) (pre.map Value.string ++ [Value.string s])) :
    w1.ownsRow B 9 1 t (pre ++ [s]).length ((pre ++ [s]).map Value.string) := by
  simpa using h

set_option maxRecDepth 100000 in
set_option maxHeartbeats 2000000 in
theorem peel_chain (c a : Int) (ss : List ByteArray) (v : Value) (w : World) (hch : Chain w (plainV c a) ss v) (hlen : ss.length < 1000) : Calls Tryd.prog 18 #[v] w (PeelOut ss (.iface 40 (.agg #[.int .i64 c, .int .i64 a])) w) := by
  have p47 := as47at47
  have p40 := as40at47
  obtain ⟨i0, hi, hz0, hz1, hz2⟩ := info_parts info9
  obtain ⟨B, hB⟩ : ∃ B, B = w.heap.size := ⟨_, rfl⟩
  go_enter Tryd.func18, Tryd.ntmps18
  go_wp2
  go_loopg [0, 4] (ss.length) (fun g x t wr => ∃ pre rest, g = rest.length ∧ pre ++ rest = ss ∧ Chain w (plainV c a) rest x ∧ wr.ownsRow B 9 1 t pre.length (pre.map Value.string) ∧ Below B w wr ∧ B ≤ wr.heap.size)
  case atStart => exact ⟨[], ss, rfl, rfl, hch, World.ownsRow_nil _ _ _ _, Below.refl _ _, Nat.le_of_eq hB⟩
  case round =>
    obtain ⟨pre, rest, hg, hs, hc, hown, hb, hBw⟩ := hrel
    have HG := Lib.hid hg
    have HS := Lib.hid hs
    have HB := Lib.hid hb
    have HH := Lib.hid hB
    have HC := Lib.hid hch
    clear hg hs hb hB hch
    cases rest with
    | nil =>
      obtain rfl : _ = plainV c a := hc
      unfold plainV
      go_wp2
      go_ret2
      exact ⟨_, rfl, by rw [← HH.out]; have h1 := HS.out; rw [List.append_nil] at h1; subst h1; exact hown, by rw [← HH.out]; exact HB.out⟩
    | cons s r =>
      obtain ⟨b, v', rfl, hc0, hc1, hr⟩ := hc
      have hbB : b < B := by rw [HH.out]; exact lt_of_cell hc0
      have hc0' : wr.cell? ⟨b, 0, none⟩ = some (.string s) := (HB.out.cell (p := ⟨b, 0, none⟩) hbB).trans hc0
      have HR := Lib.hid hr
      have HC1 := Lib.hid hc1
      clear hr hc0 hc1
      have hlen2 : pre.length + 1 ≤ 1000 := by have h1 := congrArg List.length HS.out; simp at h1; omega
      go_wp2_with (at_builtin; refine wpList_append_own _ rfl (.tmp 16) (.tmp 21) 23 rfl B 9 i0 (.string ⟨#[]⟩) 1 16 Tryd.underlying23 hi hz0 hz1 hz2 rfl (by decide) _ _ _ rfl (hown.alloc _) ⟨wr.heap.size, 0, none⟩ 1 1 [.string s] rfl rfl ?c1 ?c2 ?c3 ?c4 ?c5 ?_)
      case c1 => exact cell_one_new _ _ _
      case c2 => intro u hu; obtain rfl := List.mem_singleton.1 hu; rfl
      case c3 => unfold maxLen; omega
      case c4 => omega
      case c5 => simp; omega
      intro t' w1 hown1 hgrow _
      have hb1 : Below B w w1 := (HB.out.alloc hBw _).grown hgrow (by simp; omega) (fun k hk => (hown.lt k hk).1)
      have hc1' : w1.cell? ⟨b, 1, none⟩ = some v' := (hb1.cell (p := ⟨b, 1, none⟩) hbB).trans HC1.out
      have hBw1 : B ≤ w1.heap.size := Nat.le_trans (by simp; omega) hgrow.size
      have HO := Lib.hid (row_step hown1)
      have HB1 := Lib.hid hb1
      clear hown hown1 hgrow hb1 hc0' hBw
      go_wp2
      go_roundg r.length
      case measure => rw [HG.out]; simp
      case rel => exact ⟨pre ++ [s], r, rfl, by simpa using HS.out, HR.out, HO.out, HB1.out, hBw1⟩

/-- What Depth leaves. -/
theorem depth_nil (w : World) : Calls Tryd.prog 11 #[.nilIface] w (Leaves1 (.int .i64 0) w) := by
  have H := Lib.hid (peel_nil w)
  go_enter Tryd.func11, Tryd.ntmps11
  go_wp2_with fail
  refine H.out.mono ?_
  rintro e w' ⟨t, rfl, hown, hb⟩
  have HB := Lib.hid hb
  clear hb
  rcases hown.2 with ⟨rfl, _⟩ | ⟨g, cap, cur, rfl, _⟩
  · clear hown
    go_wp2_with fail
    go_ret
    exact ⟨rfl, HB.out⟩
  · clear hown
    go_wp2_with fail
    go_ret
    exact ⟨rfl, HB.out⟩
theorem depth_chain (c a : Int) (ss : List ByteArray) (v : Value) (w : World) (hch : Chain w (plainV c a) ss v) (hlen : ss.length < 1000) : Calls Tryd.prog 11 #[v] w (Leaves1 (.int .i64 ss.length) w) := by
  have H := Lib.hid (peel_chain c a ss v w hch hlen)
  clear hch
  go_enter Tryd.func11, Tryd.ntmps11
  go_wp2_with fail
  refine H.out.mono ?_
  rintro e w' ⟨t, rfl, hown, hb⟩
  have HB := Lib.hid hb
  clear hb
  rcases hown.2 with ⟨rfl, h0⟩ | ⟨g, cap, cur, rfl, _⟩
  · have H0 := Lib.hid h0
    clear hown h0
    go_wp2_with fail
    go_ret
    exact ⟨by rw [H0.out]; rfl, HB.out⟩
  · clear hown
    go_wp2_with fail
    go_ret
    exact ⟨rfl, HB.out⟩
end Go.Proofs.YtgncdbclpokkhaaDoor
