/-
  Where the first rule is that a closure tells of; the rule of a path, told by the program and by the reference; frontiers. Condition: the slices lead to what they are said to.
-/
import Derived.Test.YtojpjhfafbdpcaaGreatDoorKM
import Derived.Test.YtojpjhfafbdpcaaGreatDoorDecode
import Derived.RowKitTokens
import Derived.LoopTactic
namespace Go.Proofs.YtojpjhfafbdpcaaGreatDoor
open Go.RowKit Go.Lib Go.Joins

/-- The number of the first one; -1: there is none. -/
def idxI (l : List Rl) (p : Rl → Bool) : Int := if l.findIdx p < l.length then (l.findIdx p : Int) else -1
theorem idxI_some {l : List Rl} {p : Rl → Bool} {i : Nat} {x : Rl} (hx : l[i]? = some x) (hp : p x = true) (hf : ∀ j y, j < i → l[j]? = some y → p y = false) : idxI l p = (i : Int) := by
  have hlt := (List.getElem?_eq_some_iff.1 hx).1
  have hi : l.findIdx p = i := (List.findIdx_eq hlt).2 ⟨by
    rw [List.getElem?_eq_getElem hlt] at hx
    rw [Option.some.inj hx]
    exact hp, fun j hj => hf j _ hj (List.getElem?_eq_getElem _)⟩
  unfold idxI
  rw [hi, if_pos hlt]
theorem idxI_none {l : List Rl} {p : Rl → Bool} (hf : ∀ (j : Nat) y, l[j]? = some y → p y = false) : idxI l p = -1 := by
  have hi : l.findIdx p = l.length := List.findIdx_eq_length.2 (fun x hx => by
    obtain ⟨j, hj⟩ := List.getElem?_of_mem hx
    exact hf j x hj)
  unfold idxI
  rw [hi, if_neg (Nat.lt_irrefl _)]
theorem idxI_cases (l : List Rl) (p : Rl → Bool) : (∃ (i : Nat) (x : Rl), idxI l p = (i : Int) ∧ l[i]? = some x ∧ p x = true ∧ l.any p = true ∧ i < l.length) ∨ (idxI l p = -1 ∧ l.any p = false) := by
  by_cases h : l.findIdx p < l.length
  · refine .inl ⟨l.findIdx p, l[l.findIdx p], by unfold idxI; rw [if_pos h], List.getElem?_eq_getElem h, List.findIdx_getElem, List.any_eq_true.2 ⟨_, List.getElem_mem h, List.findIdx_getElem⟩, h⟩
  · refine .inr ⟨by unfold idxI; rw [if_neg h], ?_⟩
    have : l.findIdx p = l.length := by have := List.findIdx_le_length (xs := l) (p := p); omega
    rw [List.findIdx_eq_length] at this
    rw [← Bool.not_eq_true, List.any_eq_true]
    rintro ⟨x, hx, hp⟩
    rw [this x hx] at hp
    cases hp

/-- A closure that tells of a rule by p, wherever what was there in wb is as it was. -/
def RPred (wb : World) (v : Value) (p : Rl → Bool) : Prop :=
  ∃ g lb, v = .func (.func g) #[] lb ∧ (∀ args w, (callFunc g args).run Tryz.prog w = .ok (.enter g args) w) ∧
    ∀ (W : World) (pv kv : Value) (x : Rl), Below wb.heap.size wb W → StrIn W Any pv x.path → StrIn W Any kv x.keys → Calls Tryz.prog g (#[.agg #[pv, kv]] ++ lb) W (Leaves (.bool (p x)) W)

set_option maxRecDepth 100000 in
set_option maxHeartbeats 4000000 in
theorem ifuncR_calls {S : Nat → Prop} {wb : World} {v f : Value} {l : List Rl} {p : Rl → Bool} {w : World} (hr : RlsIn w S v l) (hp : RPred wb f p) (hb : Below wb.heap.size wb w) :
    Calls Tryz.prog 62 #[v, f] w (Leaves (.int .i64 (idxI l p)) w) := by
  obtain ⟨g, lb, rfl, eg, hcl⟩ := hp
  obtain ⟨a, c, rfl, hlc, hcm, hnil⟩ := hr.form
  obtain ⟨n, hn⟩ : ∃ n, l.length = n := ⟨_, rfl⟩
  rw [hn] at hr hlc ⊢
  obtain ⟨Z, hZ⟩ : ∃ Z, idxI l p = Z := ⟨_, rfl⟩
  rw [hZ]
  have HZ := Lib.hid hZ
  have HR := Lib.hid hr
  have HN := Lib.hid hn
  have HCL := Lib.hid hcl
  have HB := Lib.hid hb
  have hm : n ≤ 9223372036854775807 := by unfold maxLen at hcm; omega
  clear hr hn hcl hb hZ hnil hlc hcm
  go_enter Tryz.func62, Tryz.ntmps62
  go_wp2
  go_loopg [8] n (fun gk idx wr => ∃ (i : Nat), idx = .int .i64 (i : Int) ∧ gk + i = n ∧ (∀ j x, j < i → l[j]? = some x → p x = false) ∧ Below w.heap.size w wr)
  case atStart => exact ⟨0, rfl, rfl, (fun j x h => absurd h (Nat.not_lt_zero _)), Below.refl _ _⟩
  case round =>
    obtain ⟨i, rfl, hg, hf, hbw⟩ := hrel
    have HG := Lib.hid hg
    have HF := Lib.hid hf
    have HBW := Lib.hid hbw
    clear hg hf hbw
    by_cases hlt : i < n
    · obtain ⟨g', rfl⟩ : ∃ g', gk = g' + 1 := ⟨gk - 1, by have := HG.out; omega⟩
      have hdd : decide ((i : Int) < (n : Int)) = true := by simp; omega
      obtain ⟨x, hx⟩ : ∃ x, l[i]? = some x := ⟨l[i]'(by rw [HN.out]; exact hlt), List.getElem?_eq_getElem _⟩
      obtain ⟨ab, ao, pv, kv, rfl, c0, c1, hpv, hkv⟩ := (HR.out.below HBW.out).at hx
      have HC := Lib.hid (HCL.out wr pv kv x (below_then HB.out HBW.out) hpv.any hkv.any)
      have HX := Lib.hid hx
      obtain ⟨q, hq⟩ : ∃ q, p x = q := ⟨_, rfl⟩
      rw [hq] at HC
      have HQ := Lib.hid hq
      clear hx hq hpv hkv
      go_wp2_with fail
      with_reducible refine HC.out.mono ?_
      rintro e w2 ⟨rfl, hb2⟩
      have HB2 := Lib.hid (below_then HBW.out hb2)
      clear hb2 HC
      cases q with
      | true =>
        have HI : Hid (Z = (i : Int)) := Lib.hid (by rw [← HZ.out]; exact idxI_some HX.out HQ.out HF.out)
        go_wp2
        go_ret
        exact ⟨by rw [HI.out]; rfl, HB2.out⟩
      | false =>
        go_wp2
        go_roundg g'
        case measure => omega
        case rel =>
          refine ⟨i + 1, by go_num, by have := HG.out; omega, fun j y hj hy => ?_, HB2.out⟩
          by_cases hji : j = i
          · subst hji
            have h1 := HX.out
            rw [h1] at hy
            rw [← Option.some.inj hy]
            exact HQ.out
          · exact HF.out j y (by omega) hy
    · have hdd : decide ((i : Int) < (n : Int)) = false := by simp; omega
      have HI : Hid (Z = -1) := Lib.hid (by
        rw [← HZ.out]
        refine idxI_none (fun j y hy => ?_)
        have := (List.getElem?_eq_some_iff.1 hy).1
        rw [HN.out] at this
        exact HF.out j y (by have := HG.out; omega) hy)
      go_wp2
      go_ret
      exact ⟨by rw [HI.out]; rfl, HBW.out⟩

/-! ### the rule of a path -/
def atP (p : List (List UInt8)) (r : Rl) : Bool := sameS r.path p
theorem any_atP (l : List Rl) (p : List (List UInt8)) : l.any (atP p) = has l p := by
  unfold has atP
  exact congrArg l.any (funext fun r => sameS_beq r.path p)
/-- Where the first rule of a path is. -/
def placeI (l : List Rl) (p : List (List UInt8)) : Int := idxI l (atP p)
theorem placeI_cases (l : List Rl) (p : List (List UInt8)) : (∃ (i : Nat) (x : Rl), placeI l p = (i : Int) ∧ l[i]? = some x ∧ x.path = p ∧ has l p = true ∧ i < l.length) ∨ (placeI l p = -1 ∧ has l p = false) := by
  rcases idxI_cases l (atP p) with ⟨i, x, h1, h2, h3, h4, h5⟩ | ⟨h1, h2⟩
  · exact .inl ⟨i, x, h1, h2, by unfold atP sameS at h3; exact of_decide_eq_true h3, by rw [← any_atP]; exact h4, h5⟩
  · exact .inr ⟨h1, by rw [← any_atP]; exact h2⟩
theorem placeI_ge (l : List Rl) (p : List (List UInt8)) : decide (0 ≤ placeI l p) = has l p := by
  rcases placeI_cases l p with ⟨i, x, h1, _, _, h4, _⟩ | ⟨h1, h2⟩
  · rw [h1, h4]
    exact decide_eq_true (by omega)
  · rw [h1, h2]
    rfl
theorem placeI_lt (l : List Rl) (p : List (List UInt8)) : decide (placeI l p < 0) = !has l p := by
  rw [← placeI_ge]
  by_cases h : placeI l p < 0
  · rw [decide_eq_true h, decide_eq_false (by omega)]
    rfl
  · rw [decide_eq_false h, decide_eq_true (by omega)]
    rfl

set_option maxRecDepth 100000 in
set_option maxHeartbeats 2000000 in
theorem cl_place {wb : World} {S : Nat → Prop} {bp : Nat} {pv : Value} {p : List (List UInt8)} (hk : wb.heap[bp]? = some (.cells #[pv] 36 (0, 0))) (hp : StrIn wb S pv p) :
    RPred wb (.func (.func 63) #[] #[.pointer (some ⟨bp, 0, none⟩)]) (atP p) := by
  refine ⟨_, _, rfl, enters_of Tryz.func63 (by kernel_rfl) rfl, fun W rv kv x hb hx hy => ?_⟩
  obtain ⟨a3, c3, rfl, _⟩ := hp.form
  have hk2 := block_below hb hk
  obtain ⟨W1, hW1⟩ : ∃ W1, W.alloc (.cells #[rv, kv] 38) = W1 := ⟨_, rfl⟩
  have hb1 : Below W.heap.size W W1 := by rw [← hW1]; exact (Below.refl _ _).alloc (Nat.le_refl _) _
  have c0 : W.cell? ⟨bp, 0, none⟩ = some (.slice a3 p.length c3) := (cell_of_block hk2 0).trans rfl
  have k0 := fun ob => cell_alloc c0 ob
  have HE := Lib.hid (eqS_calls (hx.below hb1) ((hp.below hb).below hb1))
  have HW1 := Lib.hid hW1
  have HB1 := Lib.hid hb1
  obtain ⟨a1, c1, rfl, _⟩ := hx.form
  obtain ⟨a2, c2, rfl, _⟩ := hy.form
  obtain ⟨q, hq⟩ : ∃ q, sameS x.path p = q := ⟨_, rfl⟩
  unfold atP
  rw [hq] at HE ⊢
  clear hk hb hx hy hp hk2 hb1 hW1 hq
  show Calls Tryz.prog 63 #[.agg #[_, _], .pointer (some ⟨bp, 0, none⟩)] W (Leaves (.bool q) W)
  go_enter Tryz.func63, Tryz.ntmps63
  go_wp2_with fail
  rw [HW1.out]
  with_reducible refine HE.out.mono ?_
  rintro e w2 ⟨rfl, hb2⟩
  have HB := Lib.hid (below_then HB1.out hb2)
  clear hb2
  go_wp2
  go_ret
  exact ⟨rfl, HB.out⟩

set_option maxRecDepth 100000 in
set_option maxHeartbeats 2000000 in
theorem place_calls {w : World} {S S' : Nat → Prop} {v pv : Value} {l : List Rl} {p : List (List UInt8)} (hl : RlsIn w S v l) (hp : StrIn w S' pv p) :
    Calls Tryz.prog 35 #[v, pv] w (Leaves (.int .i64 (placeI l p)) w) := by
  obtain ⟨W1, hW1⟩ : ∃ W1, w.alloc (.cells #[pv] 36) = W1 := ⟨_, rfl⟩
  have hb1 : Below w.heap.size w W1 := by rw [← hW1]; exact (Below.refl _ _).alloc (Nat.le_refl _) _
  have hk : W1.heap[w.heap.size]? = some (.cells #[pv] 36 (0, 0)) := by rw [← hW1]; exact heap_alloc_new _ _
  have HI := Lib.hid (ifuncR_calls (hl.below hb1) (cl_place hk (hp.below hb1)) (Below.refl _ _))
  have HW1 := Lib.hid hW1
  have HB1 := Lib.hid hb1
  obtain ⟨a1, c1, rfl, _⟩ := hl.form
  obtain ⟨a2, c2, rfl, _⟩ := hp.form
  obtain ⟨z, hz⟩ : ∃ z, placeI l p = z := ⟨_, rfl⟩
  have hz2 : idxI l (atP p) = z := hz
  rw [hz2] at HI
  rw [hz]
  clear hl hp hb1 hW1 hz hz2 hk
  go_enter Tryz.func35, Tryz.ntmps35
  go_wp2_with fail
  rw [HW1.out]
  go_wp2_with fail
  with_reducible refine HI.out.mono ?_
  rintro e w2 ⟨rfl, hb2⟩
  have HB := Lib.hid (below_then HB1.out hb2)
  clear hb2
  go_wp2
  go_ret
  exact ⟨rfl, HB.out⟩

end Go.Proofs.YtojpjhfafbdpcaaGreatDoor
