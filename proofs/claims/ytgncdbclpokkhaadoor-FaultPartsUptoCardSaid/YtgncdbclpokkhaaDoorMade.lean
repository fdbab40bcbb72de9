/-
  What the statements' own 'made' leaves: an error that wraps the plain one by the texts, the last one outermost; none, if the code is OK. Conditions: 50 texts or fewer; their cells are there.
-/
import Derived.Test.YtgncdbclpokkhaaDoorErr
namespace Go.Proofs.YtgncdbclpokkhaaDoor
open Go.RowKit Go.Extern.Stop Go.Stop Go.Extern

/-- The cells from ⟨b, o⟩ on hold the texts. -/
def TextsAt (w : World) (b o : Nat) (xs : List ByteArray) : Prop := ∀ j x, xs[j]? = some x → w.cell? ⟨b, o + j, none⟩ = some (.string x)

/-- An error around the plain one (c, a) by the texts ss, the outermost first; none where c is 0. -/
def ErrV (w : World) (c a : Int) (ss : List ByteArray) (v : Value) : Prop := (c = 0 ∧ v = .nilIface) ∨ (c ≠ 0 ∧ Chain w (plainV c a) ss v)

theorem ErrV.below {w w' : World} {c a : Int} {ss v} (h : ErrV w c a ss v) (hb : Below w.heap.size w w') : ErrV w' c a ss v := by
  rcases h with h | ⟨h1, h2⟩
  · exact Or.inl h
  · exact Or.inr ⟨h1, h2.below hb⟩

def MadeOut (c a : Int) (ss : List ByteArray) (w : World) (e : Ending) (w' : World) : Prop := ∃ v, e = .returned v ∧ ErrV w' c a ss v ∧ Below w.heap.size w w'

theorem new_any (c a : Int) (w : World) : Calls Tryd.prog 15 #[.int .i64 c, .int .i64 a] w (MadeOut c a [] w) := by
  by_cases hc : c = 0
  · subst hc
    exact (new_ok a w).mono fun e w' ⟨h1, h2⟩ => ⟨_, h1, Or.inl ⟨rfl, rfl⟩, by subst h2; exact Below.refl _ _⟩
  · exact (new_code c a w (beq_eq_false_iff_ne.2 hc)).mono fun e w' ⟨h1, h2⟩ => ⟨_, h1, Or.inr ⟨hc, rfl⟩, by subst h2; exact Below.refl _ _⟩

theorem wrap_any {c a : Int} {ss : List ByteArray} {v : Value} {w : World} (s : ByteArray) (h : ErrV w c a ss v) : Calls Tryd.prog 16 #[.string s, v] w (MadeOut c a (s :: ss) w) := by
  rcases h with ⟨h0, rfl⟩ | ⟨h0, h⟩
  · subst h0
    exact (wrap_nil s w).mono fun e w' ⟨h1, h2⟩ => ⟨_, h1, Or.inl ⟨rfl, rfl⟩, by subst h2; exact Below.refl _ _⟩
  · have hs := wrap_chain s h
    rcases h.shape with ⟨_, rfl⟩ | ⟨b, rfl, _⟩
    · exact (wrap_some s _ _ w).mono fun e w' ⟨h1, h2⟩ => ⟨_, h1, Or.inr ⟨h0, by subst h2; exact hs⟩, by subst h2; exact (Below.refl _ _).alloc (Nat.le_refl _) _⟩
    · exact (wrap_some s _ _ w).mono fun e w' ⟨h1, h2⟩ => ⟨_, h1, Or.inr ⟨h0, by subst h2; exact hs⟩, by subst h2; exact (Below.refl _ _).alloc (Nat.le_refl _) _⟩

set_option maxRecDepth 100000 in
set_option maxHeartbeats 1000000 in
theorem made_none (c a : Int) (sa : Option Addr) (cap : Nat) (w : World) : Calls Tryd.prog 8 #[.int .i64 c, .int .i64 a, .slice sa 0 cap] w (MadeOut c a [] w) := by
  go_enter Tryd.func8, Tryd.ntmps8
  go_wp2_with fail
  refine (new_any c a w).mono ?_
  rintro e w' ⟨v, rfl, hv, hb⟩
  have HV := Lib.hid hv
  have HB := Lib.hid hb
  clear hv hb
  go_wp2_with fail
  refine wp_loop_rounds 1 ?_
  rw [rounds_succ]
  go_wp2
  go_ret
  exact ⟨_, rfl, HV.out, HB.out⟩

set_option maxRecDepth 100000 in
set_option maxHeartbeats 1000000 in
theorem made_some (c a : Int) (b o cap : Nat) (xs : List ByteArray) (w : World) (hx : TextsAt w b o xs) (h50 : xs.length ≤ 50) (hbw : b < w.heap.size) :
    Calls Tryd.prog 8 #[.int .i64 c, .int .i64 a, .slice (some ⟨b, o, none⟩) xs.length cap] w (MadeOut c a xs.reverse w) := by
  obtain ⟨n, hn⟩ : ∃ n, n = xs.length := ⟨_, rfl⟩
  have HN := Lib.hid hn
  rw [← hn] at h50 ⊢
  clear hn
  have HX := Lib.hid hx
  clear hx
  go_enter Tryd.func8, Tryd.ntmps8
  go_wp2_with fail
  refine (new_any c a w).mono ?_
  rintro e w' ⟨v, rfl, hv, hb⟩
  have HV := Lib.hid hv
  have HB := Lib.hid hb
  clear hv hb
  go_wp2_with fail
  go_loopg [7, 8] n (fun g x i wr => ∃ k : Nat, k ≤ n ∧ g = n - k ∧ i = .int .i64 k ∧ ErrV wr c a (xs.take k).reverse x ∧ Below w.heap.size w wr)
  case atStart => exact ⟨0, Nat.zero_le _, by omega, rfl, by simpa using HV.out, HB.out⟩
  case round =>
    obtain ⟨k, hk, hg, rfl, hv, hb⟩ := hrel
    have HG := Lib.hid hg
    have HV2 := Lib.hid hv
    have HB2 := Lib.hid hb
    clear hg hv hb
    by_cases hlt : k < n
    · have hd : decide ((k : Int) < (n : Int)) = true := by simp; omega
      have hd2 : decide ((k : Int) < 50) = true := by simp; omega
      obtain ⟨x, hxk⟩ : ∃ x, xs[k]? = some x := ⟨_, List.getElem?_eq_getElem (by rw [← HN.out]; exact hlt)⟩
      have hcell : wr.cell? ⟨b, o + k, none⟩ = some (.string x) := by rw [HB2.out.cell (p := ⟨b, o + k, none⟩) hbw]; exact HX.out k x hxk
      have HXK := Lib.hid hxk
      clear hxk
      go_wp2_with fail
      refine (wrap_any x HV2.out).mono ?_
      rintro e w2 ⟨v2, rfl, hv2, hb2⟩
      have HV3 := Lib.hid hv2
      have HB3 := Lib.hid hb2
      clear hv2 hb2
      go_wp2_with fail
      go_roundg (n - (k + 1))
      case measure => rw [HG.out]; omega
      case rel => exact ⟨k + 1, by omega, rfl, by go_num, by rw [List.take_add_one, HXK.out, Option.toList_some, List.reverse_append]; exact HV3.out, HB2.out.trans (HB3.out.mono HB2.out.size)⟩
    · have hd : decide ((k : Int) < (n : Int)) = false := by simp; omega
      go_wp2
      go_ret
      exact ⟨_, rfl, by have h := HV2.out; rw [List.take_of_length_le (by have := HN.out; omega)] at h; exact h, HB2.out⟩
end Go.Proofs.YtgncdbclpokkhaaDoor
