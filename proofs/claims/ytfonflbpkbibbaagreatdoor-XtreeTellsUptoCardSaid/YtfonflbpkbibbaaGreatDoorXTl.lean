/-
  A law for a region that draws its order and of which the last operation waits for all others; tokens in a slice of the call's own, and append to it; a document in memory; what All leaves, and its deferred call's two ends. Conditions: the slices lead to what they are said to; they are no longer than 2 to the 20. A law for a region that draws its order: a condition that holds behind every operation but some last ones, of which nothing is asked. No condition.
-/
import Derived.Deep.RegionHeld
import Derived.Test.YtfonflbpkbibbaaGreatDoorXJ
import Derived.Test.YtfonflbpkbibbaaGreatDoorXDe
namespace Go.Proofs.YtfonflbpkbibbaaGreatDoor
open Go

section
variable {P : Program} {ops : Array Oper} {Q : Exit → Act → World → Prop} {md : Region.Mode} {S : World → Prop} {z : Nat}

/-- Whatever order is picked from here on, and S holds behind every operation but number z. -/
def wpAnyZ (P : Program) (md : Region.Mode) (ops : Array Oper) (Q : Exit → Act → World → Prop) (S : World → Prop) (z : Nat) : Nat → Array Bool → Act → World → Prop
  | 0, listed, a, w => Region.ready md ops listed = [] ∧ Q .normal a w
  | fuel + 1, listed, a, w =>
    (Region.ready md ops listed = [] → Q .normal a w) ∧
    ∀ i ∈ Region.ready md ops listed, wpOp P ops Q i (fun a' w' => (i = z ∨ S w') ∧ wpAnyZ P md ops Q S z fuel (listed.setIfInBounds i true) a' w') a w

theorem wpAny_of_z : ∀ (fuel : Nat) (listed : Array Bool) (a : Act) (w : World), wpAnyZ P md ops Q S z fuel listed a w → wpAny P md ops Q fuel listed a w
  | 0, _, _, _, h => h
  | fuel + 1, _, _, _, h => ⟨h.1, fun i hi => wpOp_mono (fun a' w' h' => wpAny_of_z fuel _ a' w' h'.2) (h.2 i hi)⟩

/-- Whatever is listed has all listed that it waits for. -/
def Closed (md : Region.Mode) (ops : Array Oper) (listed : Array Bool) : Prop :=
  ∀ j o, ops[j]? = some o → listed.getD j false = true → ∀ e ∈ o.after, Region.binds md e = true → listed.getD e.on false = true
def closedB (md : Region.Mode) (ops : Array Oper) (listed : Array Bool) : Bool :=
  (List.range ops.size).all fun j => !listed.getD j false || ((ops[j]?).map (·.after.toList.all fun e => !Region.binds md e || listed.getD e.on false)).getD true
theorem closedB_spec {listed : Array Bool} (h : closedB md ops listed = true) : Closed md ops listed := by
  intro j o ho hj e he hb
  unfold closedB at h
  have hlt : j < ops.size := (Array.getElem?_eq_some_iff.1 ho).1
  have h1 := List.all_eq_true.1 h j (List.mem_range.2 hlt)
  rw [hj, ho] at h1
  simp only [Bool.not_true, Bool.false_or, Option.map_some, Option.getD_some] at h1
  have h2 := List.all_eq_true.1 h1 e (Array.mem_toList_iff.2 he)
  rw [hb] at h2
  simpa using h2
theorem getD_set {listed : Array Bool} {i j : Nat} (h : listed.getD j false = true) : (listed.setIfInBounds i true).getD j false = true := by
  by_cases hij : i = j
  · subst hij
    rcases Nat.lt_or_ge i listed.size with h' | h'
    · simp [h']
    · simp [Array.getElem?_eq_none h'] at h
  · rw [getD_set_ne false hij]; exact h
theorem Closed.step {listed : Array Bool} (h : Closed md ops listed) {i : Nat} (hi : i ∈ Region.ready md ops listed) : Closed md ops (listed.setIfInBounds i true) := by
  intro j o ho hj e he hb
  by_cases hij : i = j
  · subst hij
    obtain ⟨_, o', ho', hall⟩ := mem_ready.1 hi
    rw [ho] at ho'
    obtain rfl := Option.some.inj ho'
    exact getD_set (hall e he hb)
  · rw [getD_set_ne false hij] at hj
    exact getD_set (h j o ho hj e he hb)

/-- Number n waits for number i, through others. -/
def waits (md : Region.Mode) (ops : Array Oper) : Nat → Nat → Nat → Bool
  | 0, _, _ => false
  | fuel + 1, n, i => match ops[n]? with
    | none => false
    | some o => o.after.toList.any fun e => Region.binds md e && (e.on == i || waits md ops fuel e.on i)
theorem waits_spec {listed : Array Bool} (hc : Closed md ops listed) {i : Nat} : ∀ (fuel n : Nat) (o : Oper), ops[n]? = some o → waits md ops fuel n i = true →
    (∀ e ∈ o.after, Region.binds md e = true → listed.getD e.on false = true) → listed.getD i false = true
  | 0, n, o, _, h, _ => by cases h
  | fuel + 1, n, o, ho, h, hall => by
    unfold waits at h
    rw [ho] at h
    obtain ⟨e, he, h2⟩ := List.any_eq_true.1 h
    rw [Bool.and_eq_true, Bool.or_eq_true] at h2
    obtain ⟨hb, h3⟩ := h2
    have hl := hall e (Array.mem_toList_iff.1 he) hb
    rcases h3 with h3 | h3
    · rw [← beq_iff_eq.1 h3]; exact hl
    · cases fuel with
      | zero => cases h3
      | succ fuel =>
        cases hoe : ops[e.on]? with
        | none => unfold waits at h3; rw [hoe] at h3; cases h3
        | some oe => exact waits_spec hc (fuel + 1) e.on oe hoe h3 (hc e.on oe hoe hl)

theorem wpAnyZ_first {i f : Nat} {oi : Oper} {v : Value} (hi : ops[i]? = some oi) (hsel : ∀ (j : Nat) (o : Oper) cs b, ops[j]? = some o → o.op ≠ .select cs b)
    (hQ : ∀ c a w, Q (.panic c) (a.put oi.dst v) w → Q (.panic c) a w) (hz : waits md ops f z i = true) :
    ∀ (fuel : Nat) (listed : Array Bool) (a : Act) (w : World), Closed md ops listed →
      (∀ j oj, ops[j]? = some oj → j ≠ i → listed.getD j true = false → (∀ e ∈ oj.after, Region.binds md e = true → e.on ≠ i) → oi.apart ops oj = true) →
      i ∈ Region.ready md ops listed → YieldsIf P ops S oi v a → S w →
      wpAnyZ P md ops Q S z fuel (listed.setIfInBounds i true) (a.put oi.dst v) w → wpAnyZ P md ops Q S z (fuel + 1) listed a w := by
  intro fuel
  induction fuel with
  | zero =>
    intro listed a w _ _ hr hy hS H
    refine ⟨fun h => (by rw [h] at hr; cases hr), fun j hj => ?_⟩
    by_cases hji : j = i
    · subst hji; exact hy.wpOp hi hS ⟨.inr hS, H⟩
    · have := ready_mono hj hji
      rw [H.1] at this
      cases this
  | succ fuel ih =>
    intro listed a w hcl hfree hr hy hS H
    refine ⟨fun h => (by rw [h] at hr; cases hr), fun j hj => ?_⟩
    by_cases hji : j = i
    · subst hji; exact hy.wpOp hi hS ⟨.inr hS, H⟩
    · have h1 := H.2 j (ready_mono hj hji)
      obtain ⟨hjun, oj, hoj, hall⟩ := mem_ready.1 hj
      have hiun : listed.getD i false = false := by
        have h0 := (mem_ready.1 hr).1
        rcases Nat.lt_or_ge i listed.size with h' | h'
        · simp [h'] at h0 ⊢; exact h0
        · simp [Array.getElem?_eq_none h'] at h0
      have hjz : j ≠ z := by
        rintro rfl
        have := waits_spec hcl f j oj hoj hz hall
        rw [hiun] at this
        cases this
      have hnot : ∀ e ∈ oj.after, Region.binds md e = true → e.on ≠ i := fun e he hb heq => by
        have h1 := hall e he hb
        rw [heq, hiun] at h1
        cases h1
      have h2 := wpOp_putIf hoj (hfree j oj hoj hji hjun hnot) (fun cs b => hsel i oi cs b hi) (fun cs b => hsel j oj cs b hoj) hQ hy h1
      have hfree' : ∀ k ok, ops[k]? = some ok → k ≠ i → (listed.setIfInBounds j true).getD k true = false →
          (∀ e ∈ ok.after, Region.binds md e = true → e.on ≠ i) → oi.apart ops ok = true := fun k ok hk hki hun hno => by
        refine hfree k ok hk hki ?_ hno
        by_cases hjk : j = k
        · subst hjk; exact hjun
        · rw [getD_set_ne true hjk] at hun; exact hun
      refine wpOp_mono (fun a' w' h3 => ?_) h2
      have hS' : S w' := h3.2.1.resolve_left hjz
      refine ⟨.inr hS', ih (listed.setIfInBounds j true) a' w' (hcl.step hj) hfree' (ready_mono hr (Ne.symm hji)) h3.1 hS' ?_⟩
      rw [Array.setIfInBounds_comm _ _ hji]
      exact h3.2.2

/-- Take number i first. -/
theorem wpAnyZ_take {i f : Nat} {oi : Oper} {v : Value} {fuel : Nat} {listed : Array Bool} {a : Act} {w : World} (hi : ops[i]? = some oi)
    (hs : Region.noSelect ops = true) (hf : Region.free md ops listed i = true) (hr : (Region.ready md ops listed).contains i = true) (hz : waits md ops f z i = true) (hc : closedB md ops listed = true)
    (hQ : ∀ c a w, Q (.panic c) (a.put oi.dst v) w → Q (.panic c) a w) (hy : YieldsIf P ops S oi v a) (hS : S w)
    (h : wpAnyZ P md ops Q S z fuel (listed.setIfInBounds i true) (a.put oi.dst v) w) : wpAnyZ P md ops Q S z (fuel + 1) listed a w :=
  wpAnyZ_first hi (Region.noSelect_spec hs) hQ hz fuel listed a w (closedB_spec hc) (Region.free_spec hi hf) (by simpa using hr) hy hS h

/-- One operation alone may come up. -/
theorem wpAnyZ_one {i : Nat} {o : Oper} {fuel : Nat} {listed : Array Bool} {a : Act} {w : World} (hr : Region.ready md ops listed = [i]) (ho : ops[i]? = some o)
    (h : ∀ K' : Act → World → Prop, Shut (∀ a w, S w → (S w → wpAnyZ P md ops Q S z fuel (listed.setIfInBounds i true) a w) → K' a w) → if Region.wanted o (yielded ops a.tmps) = true then Oper.wp P o a w K' Q else K' (a.put o.dst undef) w) :
    wpAnyZ P md ops Q S z (fuel + 1) listed a w := by
  refine ⟨fun h0 => (by rw [hr] at h0; cases h0), fun j hj => ?_⟩
  rw [hr] at hj
  obtain rfl := List.mem_singleton.1 hj
  exact wpOp_step ho (fun K' hK => h K' (fun a w hS hW => hK a w ⟨.inr hS, hW hS⟩))
/-- Two may come up. -/
theorem wpAnyZ_two {i j : Nat} {oi oj : Oper} {fuel : Nat} {listed : Array Bool} {a : Act} {w : World} (hr : Region.ready md ops listed = [i, j]) (hoi : ops[i]? = some oi) (hoj : ops[j]? = some oj)
    (h1 : ∀ K' : Act → World → Prop, Shut (∀ a w, S w → (S w → wpAnyZ P md ops Q S z fuel (listed.setIfInBounds i true) a w) → K' a w) → if Region.wanted oi (yielded ops a.tmps) = true then Oper.wp P oi a w K' Q else K' (a.put oi.dst undef) w)
    (h2 : ∀ K' : Act → World → Prop, Shut (∀ a w, S w → (S w → wpAnyZ P md ops Q S z fuel (listed.setIfInBounds j true) a w) → K' a w) → if Region.wanted oj (yielded ops a.tmps) = true then Oper.wp P oj a w K' Q else K' (a.put oj.dst undef) w) :
    wpAnyZ P md ops Q S z (fuel + 1) listed a w := by
  refine ⟨fun h0 => (by rw [hr] at h0; cases h0), fun k hk => ?_⟩
  rw [hr] at hk
  rcases List.mem_cons.1 hk with rfl | hk
  · exact wpOp_step hoi (fun K' hK => h1 K' (fun a w hS hW => hK a w ⟨.inr hS, hW hS⟩))
  · obtain rfl := List.mem_singleton.1 hk
    exact wpOp_step hoj (fun K' hK => h2 K' (fun a w hS hW => hK a w ⟨.inr hS, hW hS⟩))
/-- The last one. -/
theorem wpAnyZ_last {o : Oper} {fuel : Nat} {listed : Array Bool} {a : Act} {w : World} (hr : Region.ready md ops listed = [z]) (ho : ops[z]? = some o) (hd : Region.ready md ops (listed.setIfInBounds z true) = [])
    (h : ∀ K' : Act → World → Prop, Shut (∀ a w, Q .normal a w → K' a w) → if Region.wanted o (yielded ops a.tmps) = true then Oper.wp P o a w K' Q else K' (a.put o.dst undef) w) :
    wpAnyZ P md ops Q S z (fuel + 1) listed a w := by
  refine ⟨fun h0 => (by rw [hr] at h0; cases h0), fun j hj => ?_⟩
  rw [hr] at hj
  obtain rfl := List.mem_singleton.1 hj
  refine wpOp_step ho (fun K' hK => h K' (fun a w hq => hK a w ⟨.inl rfl, ?_⟩))
  cases fuel with
  | zero => exact ⟨hd, hq⟩
  | succ fuel => exact ⟨fun _ => hq, fun i hi => by rw [hd] at hi; cases hi⟩
theorem wpAnyZ_done {listed : Array Bool} {a : Act} {w : World} (hr : Region.ready md ops listed = []) (h : Q .normal a w) : ∀ fuel, wpAnyZ P md ops Q S z fuel listed a w
  | 0 => ⟨hr, h⟩
  | _ + 1 => ⟨fun _ => h, by rw [hr]; simp⟩

/-- The beginning. -/
theorem wp_region_z {id : Nat} {a : Act} {w : World} (z : Nat) (hm : P.follows .mixedOrders = true) (hS : S w.drew)
    (h : S w.drew → wpAnyZ P .any ops Q S z ops.size (Array.replicate ops.size false) a w.drew) : (Code.region id ops true).wp P Q a w :=
  wp_region_any hm (wpAny_of_z _ _ _ _ (h hS))

end
end Go.Proofs.YtfonflbpkbibbaaGreatDoor
namespace Go.Proofs.YtfonflbpkbibbaaGreatDoor
open Go.RowKit Go.Lib Go.Joins

/-- The cells of tokens, each with its attributes' value. -/
def tksC : List (Tk × Value) → List Value
  | [] => []
  | x :: t => .int .i64 (x.1.kind : Int) :: .int .i64 (x.1.at_ : Int) :: .string (strB x.1.name) :: .string (strB x.1.text) :: x.2 :: tksC t
theorem tksC_app : ∀ (l m : List (Tk × Value)), tksC (l ++ m) = tksC l ++ tksC m
  | [], _ => rfl
  | x :: t, m => by rw [List.cons_append]; show _ :: _ :: _ :: _ :: _ :: tksC (t ++ m) = _; rw [tksC_app t m]; rfl
theorem tksC_len : ∀ l : List (Tk × Value), (tksC l).length = l.length * 5
  | [] => rfl
  | x :: t => by show (tksC t).length + 1 + 1 + 1 + 1 + 1 = _; rw [tksC_len t, List.length_cons]; omega
theorem tksC_at : ∀ {l : List (Tk × Value)} {i : Nat} {x : Tk × Value}, l[i]? = some x → (tksC l)[i * 5]? = some (.int .i64 (x.1.kind : Int)) ∧ (tksC l)[i * 5 + 1]? = some (.int .i64 (x.1.at_ : Int)) ∧ (tksC l)[i * 5 + 2]? = some (.string (strB x.1.name)) ∧ (tksC l)[i * 5 + 3]? = some (.string (strB x.1.text)) ∧ (tksC l)[i * 5 + 4]? = some x.2
  | [], _, _, h => by simp at h
  | y :: t, 0, x, h => by
    obtain rfl : y = x := by simpa using h
    exact ⟨rfl, rfl, rfl, rfl, rfl⟩
  | y :: t, i + 1, x, h => by
    rw [List.getElem?_cons_succ] at h
    obtain ⟨h1, h2, h3, h4, h5⟩ := tksC_at h
    rw [show (i + 1) * 5 = i * 5 + 1 + 1 + 1 + 1 + 1 by omega]
    exact ⟨h1, h2, h3, h4, h5⟩
theorem infoT : (Tryz.prog.info? 63).map (fun i => (i.zero, i.size, i.bytes)) = some (some (.agg #[.int .i64 0, .int .i64 0, .string ⟨#[]⟩, .string ⟨#[]⟩, .slice none 0 0]), 5, 72) := by kernel_rfl

/-- Tokens in a slice that was made since n0, each with attributes in a slice that was. -/
structure OwnT (n0 : Nat) (w : World) (v : Value) (ps : List (Tk × Value)) : Prop where
  row : w.ownsRow 0 63 5 v ps.length (tksC ps)
  new : ∀ k, v.ownBlock = some k → n0 ≤ k
  atts : ∀ p, p ∈ ps → OwnA n0 w p.2 p.1.attrs
  apart : ∀ p, p ∈ ps → ∀ k, p.2.ownBlock = some k → v.ownBlock ≠ some k
theorem OwnT.nil (n0 : Nat) (w : World) : OwnT n0 w (.slice none 0 0) [] := ⟨World.ownsRow_nil _ _ _ _, (fun k e => by cases e), (fun _ h => by cases h), (fun _ h => by cases h)⟩
theorem OwnT.keep {n0 : Nat} {w w' : World} {O : Nat → Prop} {v : Value} {ps : List (Tk × Value)} (h : OwnT n0 w v ps) (hk : Keeps O w w') (hO : ∀ k, n0 ≤ k → ¬ O k) : OwnT n0 w' v ps :=
  ⟨ownsRow_keep h.row hk (fun k e => hO k (h.new k e)), h.new, fun p hp => (h.atts p hp).keep hk hO, h.apart⟩
theorem OwnT.older {n0 n1 : Nat} {w : World} {v : Value} {ps : List (Tk × Value)} (h : OwnT n1 w v ps) (hn : n0 ≤ n1) : OwnT n0 w v ps := ⟨h.row, fun k e => Nat.le_trans hn (h.new k e), fun p hp => (h.atts p hp).older hn, h.apart⟩
theorem OwnT.lt {n0 : Nat} {w : World} {v : Value} {ps : List (Tk × Value)} (h : OwnT n0 w v ps) : ∀ k, v.ownBlock = some k → k < w.heap.size := fun k e => (h.row.lt k e).2
theorem OwnT.form {n0 : Nat} {w : World} {v : Value} {ps : List (Tk × Value)} (h : OwnT n0 w v ps) : ∃ a c, v = .slice a ps.length c := by
  rcases h.row.2 with ⟨h1, h0⟩ | ⟨g, cap, cur, h1, _⟩
  · exact ⟨none, 0, by rw [h1, h0]⟩
  · exact ⟨_, cap, h1⟩
theorem OwnA.one {n0 : Nat} {w : World} {v : Value} {l : List (List UInt8 × List UInt8)} (h : OwnA n0 w v l) : v.oneCell' = true := by
  obtain ⟨a, c, rfl, _⟩ := h.form
  rfl
theorem tksC_one : ∀ {l : List (Tk × Value)} {u : Value}, (∀ p, p ∈ l → p.2.oneCell' = true) → u ∈ tksC l → u.oneCell' = true
  | [], _, _, h => by cases h
  | x :: t, u, hx, h => by
    have h2 : u = .int .i64 (x.1.kind : Int) ∨ u = .int .i64 (x.1.at_ : Int) ∨ u = .string (strB x.1.name) ∨ u = .string (strB x.1.text) ∨ u = x.2 ∨ u ∈ tksC t := by
      have : u ∈ (.int .i64 (x.1.kind : Int) :: .int .i64 (x.1.at_ : Int) :: .string (strB x.1.name) :: .string (strB x.1.text) :: x.2 :: tksC t : List Value) := h
      simpa using this
    rcases h2 with rfl | rfl | rfl | rfl | rfl | h2
    · rfl
    · rfl
    · rfl
    · rfl
    · exact hx x (List.mem_cons_self ..)
    · exact tksC_one (fun p hp => hx p (List.mem_cons_of_mem _ hp)) h2
/-- One more token, laid out in a literal. -/
theorem OwnT.append {n0 : Nat} {w : World} {v : Value} {ps : List (Tk × Value)} (h : OwnT n0 w v ps) (x : Tk) (xv : Value) (hx : OwnA n0 w xv x.attrs) (hap : ∀ k, xv.ownBlock = some k → v.ownBlock ≠ some k) (hn : n0 ≤ w.heap.size) (hs : ps.length ≤ 1000000) :
    ∃ v' w', (∀ ty, (Builtin.append_ #[54, 54] ty #[v, .slice (some ⟨w.heap.size, 0, none⟩) 1 1]).run Tryz.prog (w.alloc (.cells #[.int .i64 (x.kind : Int), .int .i64 (x.at_ : Int), .string (strB x.name), .string (strB x.text), xv] 63)) = .ok v' w') ∧ OwnT n0 w' v' (ps ++ [(x, xv)]) ∧ Keeps (fun k => v.ownBlock = some k) w w' := by
  obtain ⟨v', w', h1, h2, h3, h4⟩ := append_any (w := w.alloc (.cells #[.int .i64 (x.kind : Int), .int .i64 (x.at_ : Int), .string (strB x.name), .string (strB x.text), xv] 63)) Tryz.underlying54 infoT rfl (by decide) (h.row.alloc _) (b := ⟨w.heap.size, 0, none⟩) (m := 1) (c := 1) (news := tksC [(x, xv)]) rfl (newA_cells w (tksC [(x, xv)]) _)
    (fun u hu => tksC_one (fun p hp => by rw [List.mem_singleton.1 hp]; exact hx.one) hu) (by unfold maxLen; omega) (by omega)
  have hk : Keeps (fun k => v.ownBlock = some k) w w' := ((Keeps.refl _ w).alloc _).grown h3 (fun k e => .inl e)
  refine ⟨v', w', h1, ⟨by rw [List.length_append, tksC_app]; exact h2, fun k e => ?_, fun p hp => ?_, fun p hp k e hv => ?_⟩, hk⟩
  · rcases h4 k e with h5 | h5
    · exact h.new k h5
    · simp at h5; omega
  · rcases List.mem_append.1 hp with h5 | h5
    · have h6 := h.atts p h5
      exact ⟨ownsRow_keep h6.row hk (fun k e hv => h.apart p h5 k e hv), h6.new⟩
    · rw [List.mem_singleton.1 h5]
      exact ⟨ownsRow_keep hx.row hk (fun k e hv => hap k e hv), hx.new⟩
  · have hlt : k < w.heap.size := by
      rcases List.mem_append.1 hp with h5 | h5
      · exact (h.atts p h5).lt k e
      · rw [List.mem_singleton.1 h5] at e
        exact hx.lt k e
    rcases h4 k hv with h5 | h5
    · rcases List.mem_append.1 hp with h6 | h6
      · exact h.apart p h6 k e h5
      · rw [List.mem_singleton.1 h6] at e
        exact hap k e h5
    · simp at h5; omega

/-- A document's bytes in memory. -/
structure DocAt (w : World) (a : Option Addr) (c : Nat) (l : List UInt8) : Prop where
  row : l.length = 0 ∨ ∃ b o, a = some ⟨b, o, none⟩ ∧ ∀ k, k < l.length → w.cell? ⟨b, o + k, none⟩ = some (.int .u8 (fs l k : Int))
  nul : a = none → c = 0
  cap : l.length ≤ c
  most : c ≤ maxLen
theorem DocAt.row8 {w : World} {a : Option Addr} {c : Nat} {l : List UInt8} (h : DocAt w a c l) : Row8 w a l.length (fs l) :=
  ⟨fs_lt l, by have := h.cap; have := h.most; unfold maxLen at this; omega, h.row⟩
theorem DocAt.keep {w w' : World} {a : Option Addr} {c : Nat} {l : List UInt8} (h : DocAt w a c l) (hb : Below w.heap.size w w') : DocAt w' a c l where
  row := by
    rcases h.row with h0 | ⟨b, o, h1, h2⟩
    · exact .inl h0
    · exact .inr ⟨b, o, h1, fun k hk => (hb.cell (lt_of_cell (h2 k hk))).trans (h2 k hk)⟩
  nul := h.nul
  cap := h.cap
  most := h.most
theorem DocAt.scan {w : World} {a : Option Addr} {c : Nat} {l : List UInt8} (h : DocAt w a c l) (hf : l.length ≤ 65536) : ScAt (w.alloc (.cells #[.slice a l.length c, .int .i64 0] 106)) w.heap.size a c l 0 l where
  blk := heap_alloc_new w _
  row := by
    rcases (h.keep ((Below.refl _ _).alloc (Nat.le_refl _) _)).row with h0 | ⟨b, o, h1, h2⟩
    · exact .inl h0
    · by_cases h0 : l.length = 0
      · exact .inl h0
      · refine .inr ⟨b, o, h1, ?_, h2⟩
        rcases h.row with h3 | ⟨b', o', h3, h4⟩
        · omega
        · rw [h1] at h3
          cases h3
          have := lt_of_cell (h4 0 (by omega))
          omega
  nul := h.nul
  cap := h.cap
  most := h.most
  few := hf
  fits := Nat.zero_le _
  left := rfl
/-- What All leaves. -/
def AllOut (w : World) : Sx (List Tk) → Ending → World → Prop
  | .ok ts _ _, e, w' => ∃ v ps, e = .returned (.tuple #[v, .nilIface]) ∧ ps.map Prod.fst = ts ∧ OwnT w.heap.size w' v ps ∧ Below w.heap.size w w'
  | .no cd p, e, w' => ∃ ev, e = .returned (.tuple #[.slice none 0 0, ev]) ∧ cd ≠ 0 ∧ ErrAt w.heap.size w' (cd : Int) (p : Int) ev ∧ Below w.heap.size w w'

theorem results_put (k : Nat) (hk : k ≠ 2 ∧ k ≠ 3) (v : Value) (tmps : Array Value) : results Tryz.f35 (tmps.setIfInBounds k v) = results Tryz.f35 tmps := by
  have h2 : (tmps.setIfInBounds k v).getD 2 undef = tmps.getD 2 undef := by
    rw [Array.getD_eq_getD_getElem?, Array.getD_eq_getD_getElem?, Array.getElem?_setIfInBounds_ne hk.1]
  have h3 : (tmps.setIfInBounds k v).getD 3 undef = tmps.getD 3 undef := by
    rw [Array.getD_eq_getD_getElem?, Array.getD_eq_getD_getElem?, Array.getElem?_setIfInBounds_ne hk.2]
  unfold results
  simp only [Tryz.results35, Array.mapM_eq_mapM_toList, List.mapM_cons, List.mapM_nil, h2, h3]
theorem leaves_put (k : Nat) (hk : k ≠ 2 ∧ k ≠ 3) (v : Value) (tmps : Array Value) (R : Ending → World → Prop) : ∀ (ds : List Deferred) (u : FrameMode) (w : World), Go.Leaves Tryz.prog Tryz.f35 (tmps.setIfInBounds k v) R ds u w → Go.Leaves Tryz.prog Tryz.f35 tmps R ds u w
  | [], .returning, w, h => by
    unfold Go.Leaves at h ⊢
    rw [results_put k hk v tmps] at h
    exact h
  | [], .panicking chain, w, h => h
  | [], .run, w, h => h
  | d :: ds, u, w, h => by
    obtain ⟨h1, fv, cap, f, args, h2, h3, h4⟩ := h
    refine ⟨h1, fv, cap, f, args, h2, h3, h4.mono fun e u' w' he => ?_⟩
    cases e with
    | returned x => exact leaves_put k hk v tmps R ds _ w' he
    | panicked chain => exact leaves_put k hk v tmps R ds _ w' he
    | outgrown => exact he

end Go.Proofs.YtfonflbpkbibbaaGreatDoor
namespace Go.Proofs.YtfonflbpkbibbaaGreatDoor
open Go.RowKit Go.Lib Go.Joins

/-- All's results' variables. -/
structure AtP (w0 : Nat) (W : World) (v : Value) : Prop where
  p : W.heap[w0]? = some (.cells #[v] 54 (0, 0))
  q : W.heap[w0 + 1]? = some (.cells #[.nilIface] 31 (0, 0))
theorem AtP.cells {w0 : Nat} {W : World} {v : Value} (h : AtP w0 W v) : W.cell? ⟨w0, 0, none⟩ = some v ∧ W.cell? ⟨w0 + 1, 0, none⟩ = some .nilIface ∧ W.frozen? ⟨w0, 0, none⟩ = false ∧ W.frozen? ⟨w0 + 1, 0, none⟩ = false :=
  ⟨by rw [World.cell?, h.p]; rfl, by rw [World.cell?, h.q]; rfl, unfrozen_of_block h.p 0, unfrozen_of_block h.q 0⟩
theorem AtP.keep {w0 : Nat} {W W' : World} {v : Value} {O : Nat → Prop} (h : AtP w0 W v) (hk : Keeps O W W') (h1 : ¬ O w0) (h2 : ¬ O (w0 + 1)) : AtP w0 W' v := ⟨block_keep h.p hk h1, block_keep h.q hk h2⟩
/-- All's deferred call. -/
def dfr (w0 : Nat) : List Deferred := [{ target := .fn (.func 61) #[.pointer (some ⟨w0, 0, none⟩), .pointer (some ⟨w0 + 1, 0, none⟩)], args := #[] }]
set_option maxRecDepth 100000 in
set_option maxHeartbeats 4000000 in
theorem all_panic {w W : World} (cd pl : Nat) (hcd : cd ≠ 0) (tmps : Array Value) (h2 : tmps.getD 2 undef = .pointer (some ⟨w.heap.size, 0, none⟩)) (h3 : tmps.getD 3 undef = .pointer (some ⟨w.heap.size + 1, 0, none⟩)) (x : Value) (hP : AtP w.heap.size W x) (hb : Below w.heap.size w W) :
    Go.Leaves Tryz.prog Tryz.f35 tmps (AllOut w (.no cd pl)) (dfr w.heap.size) (.panicking [{ v := wrongV cd pl, recovered := false }]) W := by
  obtain ⟨c0, c1, f0, f1⟩ := hP.cells
  refine leaves_cons (f := 61) (args := #[.pointer (some ⟨w.heap.size, 0, none⟩), .pointer (some ⟨w.heap.size + 1, 0, none⟩)]) (by simp) (by simp [go_sem]) ?_
  refine (catch_wrong w.heap.size (w.heap.size + 1) cd pl hcd [] x .nilIface W c0 c1 f0 f1 (by omega)).mono ?_
  rintro e u' w'' ⟨rfl, rfl, w1, b, hb1, hbn, d0, d1, rfl⟩
  have hP1 := hP.keep (keeps_below hb1 Non) (fun h => h) (fun h => h)
  have hbb : Below w.heap.size w w1 := hb.trans (hb1.mono hb.size)
  have hlt0 := lt_of_block hP1.p
  have hlt1 := lt_of_block hP1.q
  have hB : Below w.heap.size w ((w1.setCell ⟨w.heap.size, 0, none⟩ (.slice none 0 0)).setCell ⟨w.heap.size + 1, 0, none⟩ (.iface 115 (.pointer (some ⟨b, 0, none⟩)))) :=
    Below.setCell (Below.setCell hbb (p := ⟨w.heap.size, 0, none⟩) (Nat.le_refl _) _) (p := ⟨w.heap.size + 1, 0, none⟩) (Nat.le_succ _) _
  have hltb := lt_of_block hP.q
  have hb0 : b ≠ w.heap.size := by omega
  have hb2 : b ≠ w.heap.size + 1 := by omega
  have k0 : ((w1.setCell ⟨w.heap.size, 0, none⟩ (.slice none 0 0)).setCell ⟨w.heap.size + 1, 0, none⟩ (.iface 115 (.pointer (some ⟨b, 0, none⟩)))).cell? ⟨b, 0, none⟩ = some (.string segS) :=
    (World.cell?_of_block ((Below.heap_setCell _ ⟨w.heap.size + 1, 0, none⟩ _ b hb2).trans (Below.heap_setCell w1 ⟨w.heap.size, 0, none⟩ _ b hb0))).trans d0
  have k1 : ((w1.setCell ⟨w.heap.size, 0, none⟩ (.slice none 0 0)).setCell ⟨w.heap.size + 1, 0, none⟩ (.iface 115 (.pointer (some ⟨b, 0, none⟩)))).cell? ⟨b, 1, none⟩ = some (plainV cd pl) :=
    (World.cell?_of_block ((Below.heap_setCell _ ⟨w.heap.size + 1, 0, none⟩ _ b hb2).trans (Below.heap_setCell w1 ⟨w.heap.size, 0, none⟩ _ b hb0))).trans d1
  have hle := hb.size
  obtain ⟨e0, e1, _, _⟩ := hP1.cells
  have hz : AllOut w (.no cd pl) (.returned (.tuple #[.slice none 0 0, .iface 115 (.pointer (some ⟨b, 0, none⟩))])) ((w1.setCell ⟨w.heap.size, 0, none⟩ (.slice none 0 0)).setCell ⟨w.heap.size + 1, 0, none⟩ (.iface 115 (.pointer (some ⟨b, 0, none⟩)))) :=
    ⟨_, rfl, hcd, .inr ⟨by omega, b, rfl, k0, k1, by omega⟩, hB⟩
  clear k0 k1 hB hP hP1 d0 d1 c0 c1 f0 f1 hb hb1 hbb
  rw [Array.getD_eq_getD_getElem?] at h2 h3
  simp [Go.Leaves, settle, results, Tryz.results35, go_sem, h2, h3, e0, e1]
  exact hz
set_option maxRecDepth 100000 in
set_option maxHeartbeats 4000000 in
theorem all_return {w W : World} (tmps : Array Value) (h2 : tmps.getD 2 undef = .pointer (some ⟨w.heap.size, 0, none⟩)) (h3 : tmps.getD 3 undef = .pointer (some ⟨w.heap.size + 1, 0, none⟩)) (x : Value) (hP : AtP w.heap.size W x) (R : Ending → World → Prop) (hR : R (.returned (.tuple #[x, .nilIface])) W) :
    Go.Leaves Tryz.prog Tryz.f35 tmps R (dfr w.heap.size) .returning W := by
  obtain ⟨c0, c1, f0, f1⟩ := hP.cells
  refine leaves_cons (f := 61) (args := #[.pointer (some ⟨w.heap.size, 0, none⟩), .pointer (some ⟨w.heap.size + 1, 0, none⟩)]) (by simp) (by simp [go_sem]) ?_
  refine (catch_idle2 ⟨w.heap.size, 0, none⟩ ⟨w.heap.size + 1, 0, none⟩ W).mono ?_
  rintro e u' w'' ⟨rfl, rfl, rfl⟩
  clear hP f0 f1
  rw [Array.getD_eq_getD_getElem?] at h2 h3
  simp [Go.Leaves, settle, results, Tryz.results35, go_sem, h2, h3, c0, c1]
  exact hR

end Go.Proofs.YtfonflbpkbibbaaGreatDoor
namespace Go.Proofs.YtfonflbpkbibbaaGreatDoor
open Go

section
variable {P : Program} {ops : Array Oper} {Q : Exit → Act → World → Prop} {md : Region.Mode} {S : World → Prop} {Z : List Nat}

/-- Whatever order is picked from here on, and S holds behind every operation but those of Z. -/
def wpAnyL (P : Program) (md : Region.Mode) (ops : Array Oper) (Q : Exit → Act → World → Prop) (S : World → Prop) (Z : List Nat) : Nat → Array Bool → Act → World → Prop
  | 0, listed, a, w => Region.ready md ops listed = [] ∧ Q .normal a w
  | fuel + 1, listed, a, w =>
    (Region.ready md ops listed = [] → Q .normal a w) ∧
    ∀ i ∈ Region.ready md ops listed, wpOp P ops Q i (fun a' w' => (i ∈ Z ∨ S w') ∧ wpAnyL P md ops Q S Z fuel (listed.setIfInBounds i true) a' w') a w

theorem wpAny_of_l : ∀ (fuel : Nat) (listed : Array Bool) (a : Act) (w : World), wpAnyL P md ops Q S Z fuel listed a w → wpAny P md ops Q fuel listed a w
  | 0, _, _, _, h => h
  | fuel + 1, _, _, _, h => ⟨h.1, fun i hi => wpOp_mono (fun a' w' h' => wpAny_of_l fuel _ a' w' h'.2) (h.2 i hi)⟩

theorem wpAnyL_first {i f : Nat} {oi : Oper} {v : Value} (hi : ops[i]? = some oi) (hsel : ∀ (j : Nat) (o : Oper) cs b, ops[j]? = some o → o.op ≠ .select cs b)
    (hQ : ∀ c a w, Q (.panic c) (a.put oi.dst v) w → Q (.panic c) a w) (hz : ∀ z ∈ Z, waits md ops f z i = true) :
    ∀ (fuel : Nat) (listed : Array Bool) (a : Act) (w : World), Closed md ops listed →
      (∀ j oj, ops[j]? = some oj → j ≠ i → listed.getD j true = false → (∀ e ∈ oj.after, Region.binds md e = true → e.on ≠ i) → oi.apart ops oj = true) →
      i ∈ Region.ready md ops listed → YieldsIf P ops S oi v a → S w →
      wpAnyL P md ops Q S Z fuel (listed.setIfInBounds i true) (a.put oi.dst v) w → wpAnyL P md ops Q S Z (fuel + 1) listed a w := by
  intro fuel
  induction fuel with
  | zero =>
    intro listed a w _ _ hr hy hS H
    refine ⟨fun h => (by rw [h] at hr; cases hr), fun j hj => ?_⟩
    by_cases hji : j = i
    · subst hji; exact hy.wpOp hi hS ⟨.inr hS, H⟩
    · have := ready_mono hj hji
      rw [H.1] at this
      cases this
  | succ fuel ih =>
    intro listed a w hcl hfree hr hy hS H
    refine ⟨fun h => (by rw [h] at hr; cases hr), fun j hj => ?_⟩
    by_cases hji : j = i
    · subst hji; exact hy.wpOp hi hS ⟨.inr hS, H⟩
    · have h1 := H.2 j (ready_mono hj hji)
      obtain ⟨hjun, oj, hoj, hall⟩ := mem_ready.1 hj
      have hiun : listed.getD i false = false := by
        have h0 := (mem_ready.1 hr).1
        rcases Nat.lt_or_ge i listed.size with h' | h'
        · simp [h'] at h0 ⊢; exact h0
        · simp [Array.getElem?_eq_none h'] at h0
      have hjz : j ∉ Z := by
        intro hjZ
        have := waits_spec hcl f j oj hoj (hz j hjZ) hall
        rw [hiun] at this
        cases this
      have hnot : ∀ e ∈ oj.after, Region.binds md e = true → e.on ≠ i := fun e he hb heq => by
        have h1 := hall e he hb
        rw [heq, hiun] at h1
        cases h1
      have h2 := wpOp_putIf hoj (hfree j oj hoj hji hjun hnot) (fun cs b => hsel i oi cs b hi) (fun cs b => hsel j oj cs b hoj) hQ hy h1
      have hfree' : ∀ k ok, ops[k]? = some ok → k ≠ i → (listed.setIfInBounds j true).getD k true = false →
          (∀ e ∈ ok.after, Region.binds md e = true → e.on ≠ i) → oi.apart ops ok = true := fun k ok hk hki hun hno => by
        refine hfree k ok hk hki ?_ hno
        by_cases hjk : j = k
        · subst hjk; exact hjun
        · rw [getD_set_ne true hjk] at hun; exact hun
      refine wpOp_mono (fun a' w' h3 => ?_) h2
      have hS' : S w' := h3.2.1.resolve_left hjz
      refine ⟨.inr hS', ih (listed.setIfInBounds j true) a' w' (hcl.step hj) hfree' (ready_mono hr (Ne.symm hji)) h3.1 hS' ?_⟩
      rw [Array.setIfInBounds_comm _ _ hji]
      exact h3.2.2

/-- Take number i first. -/
theorem wpAnyL_take {i f : Nat} {oi : Oper} {v : Value} {fuel : Nat} {listed : Array Bool} {a : Act} {w : World} (hi : ops[i]? = some oi)
    (hs : Region.noSelect ops = true) (hf : Region.free md ops listed i = true) (hr : (Region.ready md ops listed).contains i = true) (hz : (Z.all fun z => waits md ops f z i) = true) (hc : closedB md ops listed = true)
    (hQ : ∀ c a w, Q (.panic c) (a.put oi.dst v) w → Q (.panic c) a w) (hy : YieldsIf P ops S oi v a) (hS : S w)
    (h : wpAnyL P md ops Q S Z fuel (listed.setIfInBounds i true) (a.put oi.dst v) w) : wpAnyL P md ops Q S Z (fuel + 1) listed a w :=
  wpAnyL_first hi (Region.noSelect_spec hs) hQ (List.all_eq_true.1 hz) fuel listed a w (closedB_spec hc) (Region.free_spec hi hf) (by simpa using hr) hy hS h

/-- One operation alone may come up. -/
theorem wpAnyL_one {i : Nat} {o : Oper} {fuel : Nat} {listed : Array Bool} {a : Act} {w : World} (hr : Region.ready md ops listed = [i]) (ho : ops[i]? = some o)
    (h : ∀ K' : Act → World → Prop, Shut (∀ a w, S w → (S w → wpAnyL P md ops Q S Z fuel (listed.setIfInBounds i true) a w) → K' a w) → if Region.wanted o (yielded ops a.tmps) = true then Oper.wp P o a w K' Q else K' (a.put o.dst undef) w) :
    wpAnyL P md ops Q S Z (fuel + 1) listed a w := by
  refine ⟨fun h0 => (by rw [hr] at h0; cases h0), fun j hj => ?_⟩
  rw [hr] at hj
  obtain rfl := List.mem_singleton.1 hj
  exact wpOp_step ho (fun K' hK => h K' (fun a w hS hW => hK a w ⟨.inr hS, hW hS⟩))
/-- Two may come up. -/
theorem wpAnyL_two {i j : Nat} {oi oj : Oper} {fuel : Nat} {listed : Array Bool} {a : Act} {w : World} (hr : Region.ready md ops listed = [i, j]) (hoi : ops[i]? = some oi) (hoj : ops[j]? = some oj)
    (h1 : ∀ K' : Act → World → Prop, Shut (∀ a w, S w → (S w → wpAnyL P md ops Q S Z fuel (listed.setIfInBounds i true) a w) → K' a w) → if Region.wanted oi (yielded ops a.tmps) = true then Oper.wp P oi a w K' Q else K' (a.put oi.dst undef) w)
    (h2 : ∀ K' : Act → World → Prop, Shut (∀ a w, S w → (S w → wpAnyL P md ops Q S Z fuel (listed.setIfInBounds j true) a w) → K' a w) → if Region.wanted oj (yielded ops a.tmps) = true then Oper.wp P oj a w K' Q else K' (a.put oj.dst undef) w) :
    wpAnyL P md ops Q S Z (fuel + 1) listed a w := by
  refine ⟨fun h0 => (by rw [hr] at h0; cases h0), fun k hk => ?_⟩
  rw [hr] at hk
  rcases List.mem_cons.1 hk with rfl | hk
  · exact wpOp_step hoi (fun K' hK => h1 K' (fun a w hS hW => hK a w ⟨.inr hS, hW hS⟩))
  · obtain rfl := List.mem_singleton.1 hk
    exact wpOp_step hoj (fun K' hK => h2 K' (fun a w hS hW => hK a w ⟨.inr hS, hW hS⟩))
/-- From here on only operations of Z come: nothing more is asked behind them. -/
def onlyZ (Z : List Nat) (ops : Array Oper) (listed : Array Bool) : Bool := (List.range ops.size).all fun j => listed.getD j true || Z.contains j
theorem onlyZ_step {listed : Array Bool} {i : Nat} (h : onlyZ Z ops listed = true) : onlyZ Z ops (listed.setIfInBounds i true) = true := by
  unfold onlyZ at h ⊢
  rw [List.all_eq_true] at h ⊢
  intro j hj
  have h1 := h j hj
  rw [Bool.or_eq_true] at h1 ⊢
  rcases h1 with h1 | h1
  · left
    by_cases hij : i = j
    · subst hij
      rcases Nat.lt_or_ge i listed.size with h' | h'
      · simp [h']
      · simp [Array.getElem?_eq_none (show (listed.setIfInBounds i true).size ≤ i by simpa using h')]
    · rw [getD_set_ne true hij]; exact h1
  · exact .inr h1
theorem wpAnyL_free : ∀ (fuel : Nat) (listed : Array Bool) (a : Act) (w : World), onlyZ Z ops listed = true → wpAnyL P md ops Q (fun _ => True) [] fuel listed a w → wpAnyL P md ops Q S Z fuel listed a w
  | 0, _, _, _, _, h => h
  | fuel + 1, listed, a, w, hz, h => ⟨h.1, fun i hi => wpOp_mono (fun a' w' h' => ⟨.inl (by
      obtain ⟨hun, o, ho, _⟩ := mem_ready.1 hi
      have hlt : i < ops.size := (Array.getElem?_eq_some_iff.1 ho).1
      have h1 := List.all_eq_true.1 hz i (List.mem_range.2 hlt)
      rw [hun, Bool.false_or] at h1
      exact List.contains_iff_mem.1 h1), wpAnyL_free fuel _ a' w' (onlyZ_step hz) h'.2⟩) (h.2 i hi)⟩
theorem wpAnyL_done {listed : Array Bool} {a : Act} {w : World} (hr : Region.ready md ops listed = []) (h : Q .normal a w) : ∀ fuel, wpAnyL P md ops Q S Z fuel listed a w
  | 0 => ⟨hr, h⟩
  | _ + 1 => ⟨fun _ => h, by rw [hr]; simp⟩

/-- The beginning. -/
theorem wp_region_l {id : Nat} {a : Act} {w : World} (Z : List Nat) (hm : P.follows .mixedOrders = true) (hS : S w.drew)
    (h : S w.drew → wpAnyL P .any ops Q S Z ops.size (Array.replicate ops.size false) a w.drew) : (Code.region id ops true).wp P Q a w :=
  wp_region_any hm (wpAny_of_l _ _ _ _ (h hS))

end
end Go.Proofs.YtfonflbpkbibbaaGreatDoor
