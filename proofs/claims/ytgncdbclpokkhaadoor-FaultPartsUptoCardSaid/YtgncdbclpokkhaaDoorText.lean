/-
  Package fault's tell and Text by their contracts: the texts of the wraps, outermost first, and "code C at P" behind them, each two with ": " between; "ok" of no error. Conditions: code and place are ints; fewer than 1000 wraps; the whole is no longer than the library's Join can make.
-/
import Derived.Test.YtgncdbclpokkhaaDoorPeel
import Derived.Test.YtgncdbclpokkhaaDoorPlain
namespace Go.Proofs.YtgncdbclpokkhaaDoor
open Go.RowKit Go.Extern.Stop Go.Stop Go.Extern

set_option maxRecDepth 100000 in
theorem tell_nil (w : World) : Calls Tryd.prog 20 #[.nilIface] w (Leaves1 (.string ⟨[111, 107].toArray⟩) w) := by
  go_enter Tryd.func20, Tryd.ntmps20
  go_wp2
  go_ret
  exact ⟨rfl, Below.refl _ _⟩

set_option maxRecDepth 100000 in
theorem tell_plain (c a : Int) (hc0 : -9223372036854775808 ≤ c) (hc1 : c ≤ 9223372036854775807) (ha0 : -9223372036854775808 ≤ a) (ha1 : a ≤ 9223372036854775807) (w : World) (ht : Tab w) :
    Calls Tryd.prog 20 #[.iface 40 (.agg #[.int .i64 c, .int .i64 a])] w (Leaves1 (.string ⟨(plainText c a).toArray⟩) w) := by
  have hb0 : Below w.heap.size w (w.alloc (.cells #[.int .i64 c, .int .i64 a] 40)) := (Below.refl _ _).alloc (Nat.le_refl _) _
  have H := Lib.hid (error_plain c a hc0 hc1 ha0 ha1 _ (ht.below hb0))
  have h44 := as40at40
  clear ht hc0 hc1 ha0 ha1
  go_enter Tryd.func20, Tryd.ntmps20
  go_wp2_with fail
  refine H.out.mono ?_
  rintro e w' ⟨rfl, hb⟩
  have HB := Lib.hid hb
  clear hb
  go_wp2_with fail
  go_ret
  exact ⟨rfl, hb0.trans (HB.out.mono hb0.size)⟩

/-- The text of an error. -/
def textOf (c a : Int) (ss : List ByteArray) : List UInt8 := if c = 0 then [111, 107] else Lib.join (ss.map (·.data.toList) ++ [plainText c a]) [58, 32]

theorem join_at (g cap n : Nat) (xs : List ByteArray) (w : World) (hn : n = xs.length) (hcells : ∀ (j : Nat) x, xs[j]? = some x → w.cell? ⟨g, 0 + j, none⟩ = some (.string x)) (hbk : g < w.heap.size) (hcap : n ≤ cap) (hlt : n ≤ 1000)
    (hsz : (Lib.join (xs.map (·.data.toList)) [58, 32]).length ≤ 140737488355328) :
    Calls Tryd.prog 19 #[.slice (some ⟨g, 0, none⟩) n cap, .string ⟨#[58, 32]⟩] w (Leaves1 (.string ⟨(Lib.join (xs.map (·.data.toList)) [58, 32]).toArray⟩) w) := by
  subst hn
  exact Tryd.strings_Join g 0 cap xs ⟨#[58, 32]⟩ w hcells hbk (by omega) hcap hsz

/-- The row that was appended to is no nil slice; its cells are the texts. -/
theorem row_cells {w : World} {B : Nat} {t : Value} {ss : List ByteArray} {x : ByteArray} (h : w.ownsRow B 9 1 t (ss.length + 1) (ss.map Value.string ++ [Value.string x])) :
    ∃ g cap, t = .slice (some ⟨g, 0, none⟩) (ss.length + 1) cap ∧ B ≤ g ∧ g < w.heap.size ∧ ss.length + 1 ≤ cap ∧ ∀ (j : Nat) y, (ss ++ [x])[j]? = some y → w.cell? ⟨g, 0 + j, none⟩ = some (.string y) := by
  rcases h.2 with ⟨_, h0⟩ | ⟨g, cap, cur, rfl, hg, hgb, hcap, hcm, hcur, htk⟩
  · omega
  · refine ⟨g, cap, rfl, hg, (Array.getElem?_eq_some_iff.1 hgb).1, hcap, fun j y hj => ?_⟩
    have hc := h.cells (g := g) rfl j (.string y) (by rw [show ss.map Value.string ++ [Value.string x] = (ss ++ [x]).map Value.string by simp, List.getElem?_map, hj]; rfl)
    rw [← hc]
    congr 1
    simp [Addr.add]

set_option maxRecDepth 100000 in
set_option maxHeartbeats 2000000 in
theorem text_any (tl : List UInt8) (ss : List ByteArray) (bare v : Value) (w : World) (hp : Calls Tryd.prog 18 #[v] w (PeelOut ss bare w)) (hlen : ss.length < 1000)
    (htl : ∀ w', Below w.heap.size w w' → Calls Tryd.prog 20 #[bare] w' (Leaves1 (.string ⟨tl.toArray⟩) w')) (hsz : (Lib.join (ss.map (·.data.toList) ++ [tl]) [58, 32]).length ≤ 140737488355328) :
    Calls Tryd.prog 12 #[v] w (Leaves1 (.string ⟨(Lib.join (ss.map (·.data.toList) ++ [tl]) [58, 32]).toArray⟩) w) := by
  obtain ⟨i0, hi, hz0, hz1, hz2⟩ := info_parts info9
  have HP := Lib.hid hp
  have HT := Lib.hid htl
  have HZ := Lib.hid hsz
  clear hp htl hsz
  go_enter Tryd.func12, Tryd.ntmps12
  go_wp2_with fail
  refine HP.out.mono ?_
  rintro e w1 ⟨t, rfl, hown, hb⟩
  have HB := Lib.hid hb
  clear hb
  go_wp2_with fail
  refine (HT.out w1 HB.out).mono ?_
  rintro e w2 ⟨rfl, hb2⟩
  have hown2 : w2.ownsRow w.heap.size 9 1 t ss.length (ss.map Value.string) := hown.kept (row := none) ⟨hb2.os, hb2.tape, hb2.output, hb2.size, fun k hk _ => hb2.block k hk⟩ (by cases t.ownBlock <;> simp)
  have hBw : w.heap.size ≤ w2.heap.size := Nat.le_trans HB.out.size hb2.size
  have HB2 := Lib.hid (HB.out.trans (hb2.mono HB.out.size))
  clear hown hb2
  go_wp2_with (at_builtin; refine wpList_append_own _ rfl (.tmp 10) (.tmp 13) 23 rfl w.heap.size 9 i0 (.string ⟨#[]⟩) 1 16 Tryd.underlying23 hi hz0 hz1 hz2 rfl (by decide) _ _ _ rfl (hown2.alloc _) ⟨w2.heap.size, 0, none⟩ 1 1 [.string ⟨tl.toArray⟩] rfl rfl ?c1 ?c2 ?c3 ?c4 ?c5 ?_)
  case c1 => exact cell_one_new _ _ _
  case c2 => intro u hu; obtain rfl := List.mem_singleton.1 hu; rfl
  case c3 => unfold maxLen; omega
  case c4 => omega
  case c5 => simp; omega
  intro t' w3 hown3 hgrow _
  have hb3 : Below w.heap.size w w3 := (HB2.out.alloc hBw _).grown hgrow (by simp; omega) (fun k hk => (hown2.lt k hk).1)
  have HB3 := Lib.hid hb3
  obtain ⟨g, cap, rfl, hg, hgw, hcap, hcells⟩ := row_cells hown3
  have HJ := Lib.hid (join_at g cap (ss.length + 1) (ss ++ [⟨tl.toArray⟩]) w3 (by simp) hcells hgw hcap (by omega) (by simpa using HZ.out))
  clear hown2 hgrow hb3 hown3 hcells hBw
  go_wp2_with fail
  refine HJ.out.mono ?_
  rintro e w4 ⟨rfl, hb4⟩
  have HB4 := Lib.hid hb4
  clear hb4
  go_wp2_with fail
  go_ret
  exact ⟨by simp, HB3.out.trans (HB4.out.mono HB3.out.size)⟩

theorem text_nil (w : World) : Calls Tryd.prog 12 #[.nilIface] w (Leaves1 (.string ⟨[111, 107].toArray⟩) w) := by
  have h := text_any [111, 107] [] .nilIface .nilIface w (peel_nil w) (by simp) (fun w' _ => tell_nil w') (by simp [Lib.join])
  simpa [Lib.join] using h

theorem text_chain (c a : Int) (ss : List ByteArray) (v : Value) (w : World) (hc0 : -9223372036854775808 ≤ c) (hc1 : c ≤ 9223372036854775807) (ha0 : -9223372036854775808 ≤ a) (ha1 : a ≤ 9223372036854775807) (ht : Tab w)
    (hch : Chain w (plainV c a) ss v) (hlen : ss.length < 1000) (hsz : (Lib.join (ss.map (·.data.toList) ++ [plainText c a]) [58, 32]).length ≤ 140737488355328) :
    Calls Tryd.prog 12 #[v] w (Leaves1 (.string ⟨(Lib.join (ss.map (·.data.toList) ++ [plainText c a]) [58, 32]).toArray⟩) w) :=
  text_any (plainText c a) ss _ v w (peel_chain c a ss v w hch hlen) hlen (fun w' hb => tell_plain c a hc0 hc1 ha0 ha1 w' (ht.below hb)) hsz
end Go.Proofs.YtgncdbclpokkhaaDoor
