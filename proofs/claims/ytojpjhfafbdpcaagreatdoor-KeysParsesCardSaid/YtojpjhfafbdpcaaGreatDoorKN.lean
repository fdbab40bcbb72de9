/-
  keys.Parse: a text's rules, or its error. Conditions: the text is no longer than 2 to the 30 less one; the tables and the library's bound are laid.
-/
import Derived.Test.YtojpjhfafbdpcaaGreatDoorKL
import Derived.Test.YtojpjhfafbdpcaaGreatDoorKB
import Derived.Test.YtojpjhfafbdpcaaGreatDoorKV
namespace Go.Proofs.YtojpjhfafbdpcaaGreatDoor
open Go.RowKit Go.Lib Go.Joins Go.Shelf
attribute [local go_sem] Oper.semAt_some

theorem ErrAt.keep {B : Nat} {w w' : World} {O : Nat → Prop} {c n : Int} {v : Value} (h : ErrAt B w c n v) (hk : Keeps O w w') (hO : ∀ k, B ≤ k → ¬ O k) : ErrAt B w' c n v := by
  rcases h with h | ⟨h0, b, h1, h2, h3, h4⟩
  · exact .inl h
  · exact .inr ⟨h0, b, h1, cell_keep h2 hk (hO b h4), cell_keep h3 hk (hO b h4), h4⟩
/-- append, as one step inside a fence. -/
theorem step_appIn {F : Fence} {n : Nat} {P : Program} {ops : Array Oper} {rest : List Oper} {o : Oper} {a : Act} {w w' : World} {Q : Exit → Act → World → Prop} {t t' : TypeId} {vs vx v : Value}
    (hrun : ∀ ty, (Builtin.append_ #[t, t'] ty #[vs, vx]).run P w = .ok v w') (s x : Operand) (hg : o.guard = none) (hop : o.op = Op.call { callee := Callee.builtin Builtin.append, args := #[s, x], argTypes := #[t, t'] })
    (hs : a.eval s = vs) (hx : a.eval x = vx) (hK : wpListIn F n P ops Q rest (a.put o.dst v) w') : wpListIn F n P ops Q (o :: rest) a w := by
  refine wpListIn_plain hg fun K hK' => ?_
  unfold Oper.wpIn
  refine ⟨?_, ?_⟩
  · simp [Oper.about, hop, resolve, Target.leads, Sem.run_pure]
  · rw [Oper.semAt_plain F _ _ (by rw [hop]; intro c hc'; cases hc')]
    simp [execOp, hop, resolve, invoke, builtin, hs, hx, hrun, Result.andThen]
    exact hK' _ _ hK
theorem klines_box (s : ByteArray) (w : World) : Calls Tryz.prog 24 #[.string s] w fun e w' => e = .returned (.func (.func 45) #[] #[.pointer (some ⟨w.heap.size, 0, none⟩)]) ∧ w' = w.alloc (.cells #[.string s] 9) := by
  go_enter Tryz.func24, Tryz.ntmps24
  go_wp2
  go_ret
  exact ⟨rfl, rfl⟩
/-- Between two lines. -/
structure PJv (w : World) (b : Nat) (rec : Obj) (n2 : Nat) (cp : List (Nat × List UInt8)) (v : Value) (ps : List (Rl × Value × Value)) (W : World) : Prop where
  lo : b + 6 ≤ n2
  rb : W.heap[b]? = some (.cells #[.slice none 0 0] 23 (0, 0))
  eb : W.heap[b + 1]? = some (.cells #[.nilIface] 25 (0, 0))
  lb : W.heap[b + 2]? = some (.cells #[v] 23 (0, 0))
  db : W.heap[b + 4]? = some (.deferred (some []))
  lp : W.heap[b + 5]? = some rec
  own : OwnR n2 W v ps
  few : ps.length ≤ 64
  go : ∀ rest, goC (cp ++ rest) [] = goC rest (ps.map (fun p => p.1))
  below : Below b w W
def PJ (w : World) (b : Nat) (rec : Obj) (n2 : Nat) (cp : List (Nat × List UInt8)) (W : World) : Prop := ∃ v ps, PJv w b rec n2 cp v ps W
/-- Left in the middle. -/
structure PX (w : World) (b : Nat) (d : List UInt8) (rec : Obj) (n2 : Nat) (W : World) : Prop where
  lo : b + 6 ≤ n2
  rb : W.heap[b]? = some (.cells #[.slice none 0 0] 23 (0, 0))
  eb : ∃ ev c n, W.heap[b + 1]? = some (.cells #[ev] 25 (0, 0)) ∧ ErrAt n2 W ((c : Nat) : Int) ((n : Nat) : Int) ev ∧ parseW d = .error (c, n)
  db : W.heap[b + 4]? = some (.deferred (some []))
  lp : W.heap[b + 5]? = some rec
  below : Below b w W
theorem PJv.keep {w W W' : World} {b : Nat} {rec : Obj} {n2 : Nat} {cp : List (Nat × List UInt8)} {v : Value} {ps : List (Rl × Value × Value)} {O : Nat → Prop} (h : PJv w b rec n2 cp v ps W) (hk : Keeps O W W') (h1 : ∀ k, k < b + 6 → ¬ O k) (h2 : ∀ k, n2 ≤ k → ¬ O k) : PJv w b rec n2 cp v ps W' := by
  refine ⟨h.lo, block_keep h.rb hk (h1 _ (by omega)), block_keep h.eb hk (h1 _ (by omega)), block_keep h.lb hk (h1 _ (by omega)), block_keep h.db hk (h1 _ (by omega)), block_keep h.lp hk (h1 _ (by omega)), h.own.keep hk h2, h.few, h.go, ?_⟩
  exact h.below.trans ⟨hk.os, hk.tape, hk.output, hk.size, fun k hk2 => hk.block k (by have := lt_of_block h.rb; omega) (h1 k (by omega))⟩
theorem PX.keep {w W W' : World} {b : Nat} {d : List UInt8} {rec : Obj} {n2 : Nat} {O : Nat → Prop} (h : PX w b d rec n2 W) (hk : Keeps O W W') (h1 : ∀ k, k < b + 6 → ¬ O k) (h2 : ∀ k, n2 ≤ k → ¬ O k) : PX w b d rec n2 W' := by
  obtain ⟨ev, c, n, e1, e2, e3⟩ := h.eb
  refine ⟨h.lo, block_keep h.rb hk (h1 _ (by omega)), ⟨ev, c, n, block_keep e1 hk (h1 _ (by omega)), e2.keep hk h2, e3⟩, block_keep h.db hk (h1 _ (by omega)), block_keep h.lp hk (h1 _ (by omega)), ?_⟩
  exact h.below.trans ⟨hk.os, hk.tape, hk.output, hk.size, fun k hk2 => hk.block k (by have := lt_of_block h.rb; omega) (h1 k (by omega))⟩
/-- In the middle of a round. -/
structure Mid (w : World) (b : Nat) (busy : Obj) (n2 : Nat) (v : Value) (ps : List (Rl × Value × Value)) (W Wi : World) : Prop where
  rb : Wi.heap[b]? = some (.cells #[.slice none 0 0] 23 (0, 0))
  eb : Wi.heap[b + 1]? = some (.cells #[.nilIface] 25 (0, 0))
  lb : Wi.heap[b + 2]? = some (.cells #[v] 23 (0, 0))
  db : Wi.heap[b + 4]? = some (.deferred (some []))
  lp : Wi.heap[b + 5]? = some busy
  own : OwnR n2 Wi v ps
  below : Below b w Wi
  th : Keeps (Theirs (b + 6) n2) W Wi
theorem PJv.mid {w W : World} {b : Nat} {rec : Obj} {n2 : Nat} {cp : List (Nat × List UInt8)} {v : Value} {ps : List (Rl × Value × Value)} (h : PJv w b rec n2 cp v ps W) (busy : Obj) : Mid w b busy n2 v ps W (W.putObj (b + 5) busy) := by
  have hl := h.lo
  have hlt := lt_of_block h.lp
  refine ⟨(put_other (by omega) _).trans h.rb, (put_other (by omega) _).trans h.eb, (put_other (by omega) _).trans h.lb, (put_other (by omega) _).trans h.db, put_same h.lp _, h.own.keep (keeps_put (Keeps.refl (One (b + 5)) W) (.inl rfl) _) (fun k hk e => by unfold One at e; omega), ?_, keeps_put (Keeps.refl _ W) (.inl (.inl (by omega))) _⟩
  have k1 := keeps_put (Keeps.refl (One (b + 5)) W) (.inl rfl) busy
  exact h.below.trans ⟨k1.os, k1.tape, k1.output, k1.size, fun k hk2 => k1.block k (by omega) (by unfold One; omega)⟩
theorem Mid.next {w W Wi Wj : World} {b : Nat} {busy : Obj} {n2 : Nat} {v : Value} {ps : List (Rl × Value × Value)} (h : Mid w b busy n2 v ps W Wi) (hb : Below Wi.heap.size Wi Wj) : Mid w b busy n2 v ps W Wj :=
  ⟨block_below hb h.rb, block_below hb h.eb, block_below hb h.lb, block_below hb h.db, block_below hb h.lp, h.own.keep (keeps_below hb Non) (fun _ _ e => e), h.below.trans ⟨hb.os, hb.tape, hb.output, hb.size, fun k hk => hb.block k (by have := lt_of_block h.rb; omega)⟩, h.th.below hb h.th.size⟩
/-- .. stored into the results. -/
theorem Mid.fail {w W Wi Wj : World} {b : Nat} {busy : Obj} {n2 : Nat} {v : Value} {ps : List (Rl × Value × Value)} (h : Mid w b busy n2 v ps W Wi) (hl : b + 6 ≤ n2) (hn : n2 ≤ W.heap.size) (hb : Below Wi.heap.size Wi Wj) {d : List UInt8} {c n : Nat} {ev : Value} (he : ErrAt Wi.heap.size Wj (c : Int) (n : Int) ev) (hp : parseW d = .error (c, n)) :
    ((Wj.setCell ⟨b, 0, none⟩ (.slice none 0 0)).setCell ⟨b + 1, 0, none⟩ ev).heap[b + 5]? = some busy ∧
    ∀ o, PX w b d o n2 (((Wj.setCell ⟨b, 0, none⟩ (.slice none 0 0)).setCell ⟨b + 1, 0, none⟩ ev).putObj (b + 5) o) ∧ Keeps (Theirs (b + 6) n2) W (((Wj.setCell ⟨b, 0, none⟩ (.slice none 0 0)).setCell ⟨b + 1, 0, none⟩ ev).putObj (b + 5) o) := by
  have m := h.next hb
  have hlt := lt_of_block m.lp
  have hk : ∀ k, k ≠ b → k ≠ b + 1 → ((Wj.setCell ⟨b, 0, none⟩ (.slice none 0 0)).setCell ⟨b + 1, 0, none⟩ ev).heap[k]? = Wj.heap[k]? := fun k h1 h2 =>
    (Below.heap_setCell _ ⟨b + 1, 0, none⟩ _ k h2).trans (Below.heap_setCell _ ⟨b, 0, none⟩ _ k h1)
  have k0 := ((Keeps.refl (fun k => k = b ∨ k = b + 1 ∨ k = b + 5) Wj).setCell (p := ⟨b, 0, none⟩) (.inl (.inl rfl)) (.slice none 0 0)).setCell (p := ⟨b + 1, 0, none⟩) (.inl (.inr (.inl rfl))) ev
  have e5 := (hk (b + 5) (by omega) (by omega)).trans m.lp
  refine ⟨e5, fun o => ?_⟩
  have k1 := keeps_put k0 (l := b + 5) (.inl (.inr (.inr rfl))) o
  have hsz := h.th.size
  refine ⟨⟨hl, ?_, ⟨ev, c, n, ?_, ?_, hp⟩, ?_, put_same e5 _, ?_⟩, ?_⟩
  · refine (put_other (by omega) _).trans ((Below.heap_setCell _ ⟨b + 1, 0, none⟩ _ b (by show b ≠ b + 1; omega)).trans ?_)
    exact block_setCell (i := 0) m.rb _
  · refine (put_other (by omega) _).trans ?_
    exact block_setCell (i := 0) ((Below.heap_setCell _ ⟨b, 0, none⟩ _ (b + 1) (by show b + 1 ≠ b; omega)).trans m.eb) _
  · exact (he.low (by omega)).keep k1 (fun k h1 h2 => by rcases h2 with h2 | h2 | h2 <;> omega)
  · exact (put_other (by omega) _).trans ((hk (b + 4) (by omega) (by omega)).trans m.db)
  · exact m.below.trans ⟨k1.os, k1.tape, k1.output, k1.size, fun k hk2 => k1.block k (by omega) (fun h2 => by rcases h2 with h2 | h2 | h2 <;> omega)⟩
  · exact m.th.trans k1 (fun k h2 => .inl (.inl (by rcases h2 with h2 | h2 | h2 <;> omega)))

/-- What Parse leaves. -/
def ParseOut (d : List UInt8) (w : World) (e : Ending) (w' : World) : Prop := ∃ v ev, e = .returned (.tuple #[v, ev]) ∧ Below w.heap.size w w' ∧
  ((∃ l, parseW d = .ok l ∧ RlsIn w' (fun k => w.heap.size ≤ k) v l ∧ ev = .nilIface) ∨ (∃ c n, parseW d = .error (c, n) ∧ v = .slice none 0 0 ∧ ErrAt w.heap.size w' ((c : Nat) : Int) ((n : Nat) : Int) ev))

set_option maxRecDepth 100000 in
set_option maxHeartbeats 8000000 in
theorem parse_calls (d : List UInt8) (w : World) (hd : d.length ≤ 1073741823) (hE : KEnv w) : Calls Tryz.prog 9 #[.string (strB d)] w (ParseOut d w) := by
  refine (callsIn_wide (n := 20)).1 ?_
  obtain ⟨W3, hW3⟩ : ∃ W3, ((w.alloc (.cells #[.slice none 0 0] 23)).alloc (.cells #[.nilIface] 25)).alloc (.cells #[.slice none 0 0] 23) = W3 := ⟨_, rfl⟩
  have HBX := Lib.hid (klines_box (strB d) W3)
  have HW3 := Lib.hid hW3
  have HD := Lib.hid hd
  have HE := Lib.hid hE
  obtain ⟨sd, hsd⟩ : ∃ s, strB d = s := ⟨_, rfl⟩
  rw [hsd] at HBX ⊢
  have HSD := Lib.hid hsd
  clear hd hE hsd hW3
  refine callsIn_of_wp_marks Tryz.func9 rfl trivial ?_ rfl
  simp only [Tryz.ntmps9, List.size_toArray, List.length_cons, List.length_nil, Nat.reduceAdd, Nat.reduceSub, Array.replicate_succ, Array.replicate_zero, List.push_toArray, List.append_toArray, List.nil_append, List.cons_append]
  gi_wp2_with fail
  rw [HW3.out]
  refine ⟨trivial, (callsIn_wide.2 HBX.out).mono ?_⟩
  rintro e w4 ⟨rfl, hw4⟩
  gi_wp2_with fail
  rw [← hw4]
  have hs3 : W3.heap.size = w.heap.size + 3 := by rw [← HW3.out]; simp
  have h4s : w4.heap.size = w.heap.size + 4 := by rw [hw4]; simp [hs3]
  have hib : ∀ L : Obj, ((w4.alloc (.deferred (some []))).alloc L).heap.size = w.heap.size + 6 ∧ Below w.heap.size w ((w4.alloc (.deferred (some []))).alloc L) ∧ ((w4.alloc (.deferred (some []))).alloc L).cell? ⟨W3.heap.size, 0, none⟩ = some (.string sd) ∧
      ∀ W', Below (w.heap.size + 6) ((w4.alloc (.deferred (some []))).alloc L) W' → PJ w w.heap.size L W'.heap.size [] W' := by
    intro L
    have e1 := Below.heap_alloc w (.cells #[.slice none 0 0] 23)
    have e2 := Below.heap_alloc (w.alloc (.cells #[.slice none 0 0] 23)) (.cells #[.nilIface] 25)
    have e3 := Below.heap_alloc ((w.alloc (.cells #[.slice none 0 0] 23)).alloc (.cells #[.nilIface] 25)) (.cells #[.slice none 0 0] 23)
    have n1 := heap_alloc_new w (.cells #[.slice none 0 0] 23)
    have n2 := heap_alloc_new (w.alloc (.cells #[.slice none 0 0] 23)) (.cells #[.nilIface] 25)
    have n3 := heap_alloc_new ((w.alloc (.cells #[.slice none 0 0] 23)).alloc (.cells #[.nilIface] 25)) (.cells #[.slice none 0 0] 23)
    rw [HW3.out] at e3 n3
    simp only [World.size_alloc] at e1 e2 e3 n1 n2 n3
    have e4 := Below.heap_alloc W3 (.cells #[.string sd] 9)
    have n4 := heap_alloc_new W3 (.cells #[.string sd] 9)
    rw [← hw4, hs3] at e4 n4
    have e5 := Below.heap_alloc w4 (.deferred (some []))
    have n5 := heap_alloc_new w4 (.deferred (some []))
    rw [h4s] at e5 n5
    have e6 := Below.heap_alloc (w4.alloc (.deferred (some []))) L
    have n6 := heap_alloc_new (w4.alloc (.deferred (some []))) L
    simp only [World.size_alloc, h4s] at e6 n6
    obtain ⟨W6, hW6⟩ : ∃ W6, (w4.alloc (.deferred (some []))).alloc L = W6 := ⟨_, rfl⟩
    have hs6 : W6.heap.size = w.heap.size + 6 := by rw [← hW6]; simp [h4s]
    rw [hW6] at e6 n6 ⊢
    have hbl : Below w.heap.size w W6 := by
      rw [← hW6]
      refine (Below.alloc ?_ (by omega) _).alloc (by simp; omega) _
      rw [hw4]
      refine Below.alloc ?_ (by omega) _
      rw [← HW3.out]
      exact (((Below.refl _ _).alloc (by omega) _).alloc (by simp) _).alloc (by simp; omega) _
    have b0 : W6.heap[w.heap.size]? = some (.cells #[.slice none 0 0] 23 (0, 0)) := by
      rw [e6 _ (by omega), e5 _ (by omega), e4 _ (by omega), e3 _ (by omega), e2 _ (by omega), n1]
    have b1 : W6.heap[w.heap.size + 1]? = some (.cells #[.nilIface] 25 (0, 0)) := by
      rw [e6 _ (by omega), e5 _ (by omega), e4 _ (by omega), e3 _ (by omega), n2]
    have b2 : W6.heap[w.heap.size + 2]? = some (.cells #[.slice none 0 0] 23 (0, 0)) := by
      rw [e6 _ (by omega), e5 _ (by omega), e4 _ (by omega), n3]
    have b3 : W6.heap[w.heap.size + 3]? = some (.cells #[.string sd] 9 (0, 0)) := by
      rw [e6 _ (by omega), e5 _ (by omega), n4]
    have b4 : W6.heap[w.heap.size + 4]? = some (.deferred (some [])) := by
      rw [e6 _ (by omega), n5]
    refine ⟨hs6, hbl, by rw [hs3]; exact (cell_of_block b3 0).trans rfl, fun W' hb => ?_⟩
    rw [← hs6] at hb
    have hsz := hb.size
    exact ⟨.slice none 0 0, [], by omega, block_below hb b0, block_below hb b1, block_below hb b2, block_below hb b4, block_below hb n6, OwnR.nil _ _, by decide, fun _ => rfl, below_then hbl hb⟩
  have HIB := Lib.hid hib
  have HS3 := Lib.hid hs3
  clear hib hw4 hs3
  refine rf_use (gf := 45) (lb := #[.pointer (some ⟨W3.heap.size, 0, none⟩)]) (by decide) rfl (enters_of Tryz.func45 (by kernel_rfl) rfl) (fun fn rec hrec => ?_)
  rw [h4s] at hrec ⊢
  obtain ⟨hsz, hbl, hct, h0⟩ := HIB.out (rec .ready none)
  obtain ⟨W5, hW5⟩ : ∃ W5, (w4.alloc (.deferred (some []))).alloc (rec .ready none) = W5 := ⟨_, rfl⟩
  rw [hW5] at hsz hbl hct h0 ⊢
  have HHY : Hid (∀ n2 cp (x : Nat × List UInt8) W, PJ w w.heap.size (rec .ready none) n2 cp W → n2 ≤ W.heap.size → (∃ r, counted d = cp ++ x :: r) → ∀ m, YieldAt Fence.wide m Tryz.prog (w.heap.size + 5) #[.int .i64 (x.1 : Int), .string (strB x.2)] W fun e W' =>
      (e = .returned (.bool true) ∧ PJ w w.heap.size (rec .ready none) n2 (cp ++ [x]) W' ∧ Keeps (Theirs (w.heap.size + 6) n2) W W') ∨ (e = .returned (.bool false) ∧ PX w w.heap.size d (rec .done (some .ret)) n2 W' ∧ Keeps (Theirs (w.heap.size + 6) n2) W W')) := Lib.hid (by
    clear h0 hct hsz hbl hW5
    rintro n2 cp x W ⟨v, ps, hj⟩ hn2 ⟨r, hr⟩ m
    have hxl : x.2.length ≤ 1073741823 := by
      have h1 := counted_short (d := d) (x := x) (by rw [hr]; simp)
      have := HD.out
      omega
    have hpa : parseW d = goC (x :: r) (ps.map (fun p => p.1)) := by rw [parseW_goC, hr, hj.go]
    have m6 := hj.mid (rec .busy none)
    have HOWN := Lib.hid hj.own
    have HGO := Lib.hid hj.go
    have HLO := Lib.hid hj.lo
    have HFEW := Lib.hid hj.few
    have hlp := hj.lp
    have hs6 : (W.putObj (w.heap.size + 5) (rec .busy none)).heap.size = W.heap.size := by simp [World.putObj]
    obtain ⟨xs, hxs⟩ : ∃ y, strB x.2 = y := ⟨_, rfl⟩
    rw [hxs]
    refine yield_use hrec hlp rfl { tmps := #[.string sd, undef, .pointer (some ⟨w.heap.size, 0, none⟩), .pointer (some ⟨w.heap.size + 1, 0, none⟩), .pointer (some ⟨w.heap.size + 1 + 1, 0, none⟩), .int .i64 (x.1 : Int), .string xs, undef, undef, .string sd, .func (.func 45) #[] #[.pointer (some ⟨W3.heap.size, 0, none⟩)], .int .i64 (x.1 : Int), .string xs, undef, undef, undef, undef, undef, undef, undef, undef, undef, undef, undef, undef, undef, undef, undef, undef, undef, undef, undef, undef, undef, undef, undef, undef, undef, undef, undef, undef, undef, undef, undef, undef], defers := [] } ?_ ?_
    · intro K hK
      gi_wp2_with fail
      exact hK
    · have HRD := Lib.hid (read_calls x.2 (W.putObj (w.heap.size + 5) (rec .busy none)) hxl (HE.out.below m6.below))
      have hrw := readW_prog x.2
      unfold ReadOut at HRD
      obtain ⟨rr, hrr⟩ : ∃ y, progR x.2 = y := ⟨_, rfl⟩
      obtain ⟨ok, hok⟩ : ∃ y, okR x.2 = y := ⟨_, rfl⟩
      rw [hrr, hok] at HRD hrw
      have hokr : ok = true → ruleW rr = true := by
        intro h
        rw [← hok] at h
        unfold okR at h
        rw [Bool.and_eq_true, hrr] at h
        exact h.2
      rw [hxs] at HRD
      have HOK := Lib.hid hokr
      have HRW := Lib.hid hrw
      have HPA := Lib.hid hpa
      obtain ⟨W6, hW6⟩ : ∃ W6, W.putObj (w.heap.size + 5) (rec .busy none) = W6 := ⟨_, rfl⟩
      rw [hW6] at HRD m6 hs6
      rw [hW6]
      have HM6 := Lib.hid m6
      have HN2 : Hid (n2 ≤ W6.heap.size) := Lib.hid (by omega)
      have HS6 := Lib.hid hs6
      have HNW := Lib.hid hn2
      clear hrr hok hokr hrw hpa hW6 m6 hn2 hj hr hlp hs6 hxl hrec
      gi_wp2_with fail
      refine ⟨trivial, (fun h => nomatch h), (CallsIn.inRound _ (callsIn_wide.2 HRD.out)).mono ?_⟩
      rintro e w7 ⟨pv, kv, rfl, hp7, hk7, hb7⟩
      have HM7 := Lib.hid (HM6.out.next hb7)
      obtain ⟨pa, pc, rfl, _⟩ := hp7.form
      obtain ⟨ka, kc, rfl, _⟩ := hk7.form
      have HN7 : Hid (n2 ≤ W6.heap.size ∧ W6.heap.size ≤ w7.heap.size) := Lib.hid ⟨HN2.out, hb7.size⟩
      obtain ⟨n1, hn1⟩ : ∃ n1, rr.path.length = n1 := ⟨_, rfl⟩
      obtain ⟨n3, hn3⟩ : ∃ n3, rr.keys.length = n3 := ⟨_, rfl⟩
      rw [hn1] at hp7
      rw [hn3] at hk7
      rw [hn1, hn3]
      have HP7 := Lib.hid hp7
      have HK7 := Lib.hid hk7
      have hk8 : (w7.alloc (.cells #[.slice none 0 0, .slice none 0 0] 38)).heap[w7.heap.size]? = some (.cells #[.slice none 0 0, .slice none 0 0] 38 (0, 0)) := heap_alloc_new _ _
      have hb8 := (Below.refl w7.heap.size w7).alloc (Nat.le_refl _) (.cells #[.slice none 0 0, .slice none 0 0] 38)
      obtain ⟨w8, hw8⟩ : ∃ w8, w7.alloc (.cells #[.slice none 0 0, .slice none 0 0] 38) = w8 := ⟨_, rfl⟩
      rw [hw8] at hk8 hb8
      have HW8 := Lib.hid hw8
      have u0 := unfrozen_of_block hk8 0
      have u1 := unfrozen_of_block hk8 1
      have z0 : w8.cell? ⟨w7.heap.size, 0, none⟩ = some (.slice none 0 0) := (cell_of_block hk8 0).trans rfl
      have z1 : w8.cell? ⟨w7.heap.size, 1, none⟩ = some (.slice none 0 0) := (cell_of_block hk8 1).trans rfl
      have hn0 : w7.heap.size ≠ w7.heap.size + 1 := by omega
      obtain ⟨hkk, _, hbb, hoo⟩ := store_two (n := w7.heap.size) (.slice pa n1 pc) (.slice ka n3 kc) hk8 hn0 (Nat.le_refl _)
      have HB9 := Lib.hid (hb8.trans hbb)
      have HM9 := Lib.hid (HM7.out.next HB9.out)
      have hpp : ∀ k, k < w7.heap.size → ¬ (k = w7.heap.size) := fun k h => by omega
      have HP9 : Hid (StrIn ((w8.setCell ⟨w7.heap.size, 0, none⟩ (.slice pa n1 pc)).setCell ⟨w7.heap.size, 1, none⟩ (.slice ka n3 kc)) (fun k => n2 ≤ k ∧ v.ownBlock ≠ some k) (.slice pa n1 pc) rr.path) := Lib.hid ((HP7.out.below HB9.out).mono (fun k _ h => ⟨Nat.le_trans HN7.out.1 h, fun e => by have h1 := HOWN.out.lt k e; have := HS6.out; omega⟩))
      have HK9 : Hid (StrIn ((w8.setCell ⟨w7.heap.size, 0, none⟩ (.slice pa n1 pc)).setCell ⟨w7.heap.size, 1, none⟩ (.slice ka n3 kc)) (fun k => n2 ≤ k ∧ v.ownBlock ≠ some k) (.slice ka n3 kc) rr.keys) := Lib.hid ((HK7.out.below HB9.out).mono (fun k _ h => ⟨Nat.le_trans HN7.out.1 h, fun e => by have h1 := HOWN.out.lt k e; have := HS6.out; omega⟩))
      obtain ⟨la, lc, hv, _⟩ := HM9.out.own.in.form
      rw [List.length_map] at hv
      obtain ⟨k, hk⟩ : ∃ k, ps.length = k := ⟨_, rfl⟩
      rw [hk] at hv
      have HK := Lib.hid hk
      have cl : ((w8.setCell ⟨w7.heap.size, 0, none⟩ (.slice pa n1 pc)).setCell ⟨w7.heap.size, 1, none⟩ (.slice ka n3 kc)).cell? ⟨w.heap.size + 1 + 1, 0, none⟩ = some (.slice la k lc) := by
        have h := (cell_of_block HM9.out.lb 0).trans (show (#[v] : Array Value)[0]? = some v from rfl)
        rw [← hv]
        exact h
      have cp0 : ((w8.setCell ⟨w7.heap.size, 0, none⟩ (.slice pa n1 pc)).setCell ⟨w7.heap.size, 1, none⟩ (.slice ka n3 kc)).cell? ⟨w7.heap.size, 0, none⟩ = some (.slice pa n1 pc) := (cell_of_block hkk 0).trans rfl
      have cp1 : ((w8.setCell ⟨w7.heap.size, 0, none⟩ (.slice pa n1 pc)).setCell ⟨w7.heap.size, 1, none⟩ (.slice ka n3 kc)).cell? ⟨w7.heap.size, 1, none⟩ = some (.slice ka n3 kc) := (cell_of_block hkk 1).trans rfl
      have HKK := Lib.hid hkk
      have HV := Lib.hid hv
      clear hw8 hk8 hb8 hn0 hkk hbb hoo hb7 hp7 hk7 HRD HM6 hpp hv hk
      cases ok with
      | false =>
        have HER : Hid (parseW d = .error (20, x.1)) := Lib.hid (by rw [HPA.out, goC, HRW.out]; rfl)
        have HFL := Lib.hid (fail_calls 20 (x.1 : Int) ((w8.setCell ⟨w7.heap.size, 0, none⟩ (.slice pa n1 pc)).setCell ⟨w7.heap.size, 1, none⟩ (.slice ka n3 kc)) rfl)
        unfold FailOut at HFL
        gi_wp2_with (rw [HW8.out])
        refine ⟨trivial, (fun h => nomatch h), (CallsIn.inRound _ (callsIn_wide.2 HFL.out)).mono ?_⟩
        rintro e wj ⟨ev, rfl, hea, hbj⟩
        have m10 := HM9.out.next hbj
        have HEA := Lib.hid hea
        obtain ⟨eb, rfl⟩ : ∃ eb, ev = .iface 91 (.pointer (some ⟨eb, 0, none⟩)) := by
          rcases hea with ⟨h0, _⟩ | ⟨_, eb, h1, _⟩
          · exact absurd h0 (by decide)
          · exact ⟨eb, h1⟩
        have c0 : wj.cell? ⟨w.heap.size, 0, none⟩ = some (.slice none 0 0) := (cell_of_block m10.rb 0).trans rfl
        have c1 : wj.cell? ⟨w.heap.size + 1, 0, none⟩ = some .nilIface := (cell_of_block m10.eb 0).trans rfl
        have v0 := unfrozen_of_block m10.rb 0
        have v1 := unfrozen_of_block m10.eb 0
        have HFF := Lib.hid (HM9.out.fail HLO.out HNW.out hbj HEA.out HER.out)
        clear hea hbj m10 z0 z1 u0 u1 cl cp0 cp1
        gi_wp2_with fail
        exact ⟨HFF.out.1, .inr ⟨rfl, (HFF.out.2 _).1, (HFF.out.2 _).2⟩⟩
      | true =>
        have hne := ruleW_path (HOK.out rfl)
        have HST := Lib.hid (stands_calls (HM9.out.own.in) HP9.out hne)
        rw [HV.out] at HST
        obtain ⟨q, hq⟩ : ∃ q, placedW (ps.map (fun p => p.1)) rr.path = q := ⟨_, rfl⟩
        rw [hq] at HST
        have HRW2 : Hid (readW x.2 = some rr) := Lib.hid HRW.out
        have hml : (ps.map (fun p => p.1)).length = k := by rw [List.length_map]; exact HK.out
        by_cases h64 : k = 64
        · have he64 : ((k : Int) == 64) = true := by rw [h64]; rfl
          have HER : Hid (parseW d = .error (20, x.1)) := Lib.hid (by rw [HPA.out, goC, HRW2.out]; dsimp only; rw [if_pos (hml.trans h64)])
          have HFL := Lib.hid (fail_calls 20 (x.1 : Int) ((w8.setCell ⟨w7.heap.size, 0, none⟩ (.slice pa n1 pc)).setCell ⟨w7.heap.size, 1, none⟩ (.slice ka n3 kc)) rfl)
          unfold FailOut at HFL
          clear hne hq hml HST HRW2 h64
          gi_wp2_with (rw [HW8.out])
          refine ⟨trivial, (fun h => nomatch h), (CallsIn.inRound _ (callsIn_wide.2 HFL.out)).mono ?_⟩
          rintro e wj ⟨ev, rfl, hea, hbj⟩
          have m10 := HM9.out.next hbj
          have HEA := Lib.hid hea
          obtain ⟨eb, rfl⟩ : ∃ eb, ev = .iface 91 (.pointer (some ⟨eb, 0, none⟩)) := by
            rcases hea with ⟨h0, _⟩ | ⟨_, eb, h1, _⟩
            · exact absurd h0 (by decide)
            · exact ⟨eb, h1⟩
          have c0 : wj.cell? ⟨w.heap.size, 0, none⟩ = some (.slice none 0 0) := (cell_of_block m10.rb 0).trans rfl
          have c1 : wj.cell? ⟨w.heap.size + 1, 0, none⟩ = some .nilIface := (cell_of_block m10.eb 0).trans rfl
          have v0 := unfrozen_of_block m10.rb 0
          have v1 := unfrozen_of_block m10.eb 0
          have HFF := Lib.hid (HM9.out.fail HLO.out HNW.out hbj HEA.out HER.out)
          clear hea hbj m10 z0 z1 u0 u1 cl cp0 cp1
          gi_wp2_with fail
          exact ⟨HFF.out.1, .inr ⟨rfl, (HFF.out.2 _).1, (HFF.out.2 _).2⟩⟩
        · have he64 : ((k : Int) == 64) = false := by rw [beq_eq_false_iff_ne]; omega
          have HG : Hid (∀ rest, goC (x :: rest) (ps.map (fun p => p.1)) = if q = true then goC rest (ps.map (fun p => p.1) ++ [rr]) else .error (21, x.1)) := Lib.hid (fun rest => by
            rw [goC, HRW2.out]
            dsimp only
            rw [if_neg (fun h => h64 (hml.symm.trans h)), hq])
          have HLT : Hid (k ≠ 64) := Lib.hid h64
          clear hne hq hml h64
          gi_wp2_with (rw [HW8.out])
          refine ⟨trivial, (fun h => nomatch h), (CallsIn.inRound _ (callsIn_wide.2 HST.out)).mono ?_⟩
          rintro e w10 ⟨rfl, hb10⟩
          have HM10 := Lib.hid (HM9.out.next hb10)
          have HP10 := Lib.hid (HP9.out.below hb10)
          have HK10 := Lib.hid (HK9.out.below hb10)
          have hkk10 := block_below hb10 HKK.out
          have cp0 : w10.cell? ⟨w7.heap.size, 0, none⟩ = some (.slice pa n1 pc) := (cell_of_block hkk10 0).trans rfl
          have cp1 : w10.cell? ⟨w7.heap.size, 1, none⟩ = some (.slice ka n3 kc) := (cell_of_block hkk10 1).trans rfl
          have cl : w10.cell? ⟨w.heap.size + 1 + 1, 0, none⟩ = some (.slice la k lc) := by
            have h := (cell_of_block HM10.out.lb 0).trans (show (#[v] : Array Value)[0]? = some v from rfl)
            rw [← HV.out]
            exact h
          have HS10 : Hid (n2 ≤ w10.heap.size) := Lib.hid (by have := HM10.out.th.size; have := HNW.out; omega)
          clear hb10 hkk10 z0 z1 u0 u1 HST HB9 HM9 HM7 HP7 HK7 HP9 HK9 HKK
          cases q with
          | false =>
            have HER : Hid (parseW d = .error (21, x.1)) := Lib.hid (by rw [HPA.out, HG.out]; rfl)
            have HFL := Lib.hid (fail_calls 21 (x.1 : Int) w10 rfl)
            unfold FailOut at HFL
            gi_wp2_with fail
            refine ⟨trivial, (fun h => nomatch h), (CallsIn.inRound _ (callsIn_wide.2 HFL.out)).mono ?_⟩
            rintro e wj ⟨ev, rfl, hea, hbj⟩
            have m10 := HM10.out.next hbj
            have HEA := Lib.hid hea
            obtain ⟨eb, rfl⟩ : ∃ eb, ev = .iface 91 (.pointer (some ⟨eb, 0, none⟩)) := by
              rcases hea with ⟨h0, _⟩ | ⟨_, eb, h1, _⟩
              · exact absurd h0 (by decide)
              · exact ⟨eb, h1⟩
            have c0 : wj.cell? ⟨w.heap.size, 0, none⟩ = some (.slice none 0 0) := (cell_of_block m10.rb 0).trans rfl
            have c1 : wj.cell? ⟨w.heap.size + 1, 0, none⟩ = some .nilIface := (cell_of_block m10.eb 0).trans rfl
            have v0 := unfrozen_of_block m10.rb 0
            have v1 := unfrozen_of_block m10.eb 0
            have HFF := Lib.hid (HM10.out.fail HLO.out HNW.out hbj HEA.out HER.out)
            clear hea hbj m10
            gi_wp2_with fail
            exact ⟨HFF.out.1, .inr ⟨rfl, (HFF.out.2 _).1, (HFF.out.2 _).2⟩⟩
          | true =>
            obtain ⟨v', w11, hrun, hown, hkp⟩ := HM10.out.own.append rr (.slice pa n1 pc) (.slice ka n3 kc) HP10.out HK10.out HS10.out (by have := HFEW.out; omega)
            rw [HV.out] at hrun
            obtain ⟨va, vc, hv2, _⟩ := hown.in.form
            rw [List.length_map, List.length_append, HK.out] at hv2
            have hv3 : v' = .slice va (k + 1) vc := hv2
            subst hv3
            have HRUN := Lib.hid hrun
            have HOWN2 := Lib.hid hown
            have HKP := Lib.hid hkp
            have HDN : Hid (w11.cell? ⟨w.heap.size + 1 + 1, 0, none⟩ = some (.slice la k lc) ∧ w11.frozen? ⟨w.heap.size + 1 + 1, 0, none⟩ = false ∧ (w11.setCell ⟨w.heap.size + 1 + 1, 0, none⟩ (.slice va (k + 1) vc)).heap[w.heap.size + 5]? = some (rec .busy none) ∧
                PJv w w.heap.size (rec .ready none) n2 (cp ++ [x]) (.slice va (k + 1) vc) (ps ++ [(rr, .slice pa n1 pc, .slice ka n3 kc)]) ((w11.setCell ⟨w.heap.size + 1 + 1, 0, none⟩ (.slice va (k + 1) vc)).putObj (w.heap.size + 5) (rec .ready none)) ∧
                Keeps (Theirs (w.heap.size + 6) n2) W ((w11.setCell ⟨w.heap.size + 1 + 1, 0, none⟩ (.slice va (k + 1) vc)).putObj (w.heap.size + 5) (rec .ready none))) := Lib.hid (by
              have m := HM10.out
              have hlo := HLO.out
              have hnw := HNW.out
              have hob : ∀ j, v.ownBlock = some j → n2 ≤ j := fun j e => HOWN.out.new j e
              have b0 := block_keep m.rb hkp (fun e => by have := hob _ e; omega)
              have b1 := block_keep m.eb hkp (fun e => by have := hob _ e; omega)
              have b2 := block_keep m.lb hkp (fun e => by have := hob _ e; omega)
              have b4 := block_keep m.db hkp (fun e => by have := hob _ e; omega)
              have b5 := block_keep m.lp hkp (fun e => by have := hob _ e; omega)
              have kk := keeps_put ((Keeps.refl (fun j => j = w.heap.size + 2 ∨ j = w.heap.size + 5) w11).setCell (p := ⟨w.heap.size + 1 + 1, 0, none⟩) (.inl (.inl rfl)) (.slice va (k + 1) vc)) (l := w.heap.size + 5) (.inl (.inr rfl)) (rec .ready none)
              have e5 : (w11.setCell ⟨w.heap.size + 1 + 1, 0, none⟩ (.slice va (k + 1) vc)).heap[w.heap.size + 5]? = some (rec .busy none) := (Below.heap_setCell w11 ⟨w.heap.size + 1 + 1, 0, none⟩ _ (w.heap.size + 5) (by show w.heap.size + 5 ≠ w.heap.size + 1 + 1; omega)).trans b5
              refine ⟨?_, unfrozen_of_block b2 0, e5, ⟨hlo, ?_, ?_, ?_, ?_, put_same e5 _, hown.keep kk (fun j h1 h2 => by rcases h2 with h2 | h2 <;> omega), ?_, fun rest => ?_, ?_⟩, ?_⟩
              · rw [← HV.out]
                exact (cell_of_block b2 0).trans rfl
              · exact block_keep b0 kk (fun h2 => by rcases h2 with h2 | h2 <;> omega)
              · exact block_keep b1 kk (fun h2 => by rcases h2 with h2 | h2 <;> omega)
              · exact (put_other (by omega) _).trans (block_setCell (i := 0) b2 _)
              · exact block_keep b4 kk (fun h2 => by rcases h2 with h2 | h2 <;> omega)
              · rw [List.length_append]
                have h1 := HFEW.out
                have h2 := HLT.out
                have h3 := HK.out
                show ps.length + 1 ≤ 64
                omega
              · rw [List.append_assoc, HGO.out]
                exact (HG.out rest).trans (by rw [if_pos rfl, List.map_append]; rfl)
              · exact (m.below.trans ⟨hkp.os, hkp.tape, hkp.output, hkp.size, fun j hj => hkp.block j (by have := m.below.size; omega) (fun e => by have := hob _ e; omega)⟩).trans ⟨kk.os, kk.tape, kk.output, kk.size, fun j hj => kk.block j (by have := m.below.size; have := hkp.size; omega) (fun h2 => by rcases h2 with h2 | h2 <;> omega)⟩
              · exact (m.th.trans hkp (fun j e => .inl (.inr (hob j e)))).trans kk (fun j h2 => .inl (.inl (by rcases h2 with h2 | h2 <;> omega))))
            have hd1 := HDN.out.1
            have hd2 := HDN.out.2.1
            clear hrun hown hkp HG hv2
            gi_wp2_with (gi_at_builtin; refine step_appIn HRUN.out (.tmp 36) (.tmp 38) rfl rfl rfl rfl ?_)
            exact ⟨HDN.out.2.2.1, .inl ⟨rfl, ⟨_, _, HDN.out.2.2.2.1⟩, HDN.out.2.2.2.2⟩⟩)
  have HW5 := Lib.hid hW5
  rw [← HSD.out] at hct
  rw [← hsz] at h0
  have HHY2 : Hid (∀ n2 cp (x : Nat × List UInt8) W, PJ w w.heap.size (rec .ready none) n2 cp W → W5.heap.size ≤ n2 → n2 ≤ W.heap.size → (∃ r, counted d = cp ++ x :: r) → ∀ m, YieldAt Fence.wide m Tryz.prog (w.heap.size + 5) #[.int .i64 (x.1 : Int), .string (strB x.2)] W fun e W' =>
      (e = .returned (.bool true) ∧ PJ w w.heap.size (rec .ready none) n2 (cp ++ [x]) W' ∧ Keeps (Theirs W5.heap.size n2) W W') ∨ (e = .returned (.bool false) ∧ PX w w.heap.size d (rec .done (some .ret)) n2 W' ∧ Keeps (Theirs W5.heap.size n2) W W')) := Lib.hid (by
    intro n2 cp x W h1 _ h2 h3 m
    rw [hsz]
    exact HHY.out n2 cp x W h1 h2 h3 m)
  have hmine : ∀ n2 k, k < w.heap.size + 6 → ¬ Mine W5.heap.size n2 k := fun n2 k h1 h2 => by have := h2.1; omega
  have hmine2 : ∀ n2 k, n2 ≤ k → ¬ Mine W5.heap.size n2 k := fun n2 k h1 h2 => by have := h2.2; omega
  refine (lines_in (w.heap.size + 5) d HD.out W3.heap.size (PJ w w.heap.size (rec .ready none)) (PX w w.heap.size d (rec .done (some .ret))) W5 (HE.out.below hbl)
    (fun n2 cp W hj => by obtain ⟨v, ps, hj⟩ := hj; exact HE.out.below hj.below)
    (fun n2 cp W W' hj _ hk => by obtain ⟨v, ps, hj⟩ := hj; exact ⟨v, ps, hj.keep hk (hmine n2) (hmine2 n2)⟩)
    (fun n2 W W' hj _ hk => hj.keep hk (hmine n2) (hmine2 n2))
    HHY2.out hct h0 19 (by decide)).mono ?_
  rintro e W7 ⟨hv, ⟨n2, v, ps, hj⟩ | ⟨n2, hj⟩⟩
  · refine ⟨hv, .inl ⟨hj.lp, ?_⟩⟩
    have k9 := keeps_put (Keeps.refl (One (w.heap.size + 5)) W7) (l := w.heap.size + 5) (.inl rfl) (rec .exhausted none)
    have hlo := hj.lo
    have b0 := block_keep hj.rb k9 (fun e => by unfold One at e; omega)
    have b1 := block_keep hj.eb k9 (fun e => by unfold One at e; omega)
    have b2 := block_keep hj.lb k9 (fun e => by unfold One at e; omega)
    have b4 := block_keep hj.db k9 (fun e => by unfold One at e; omega)
    have hown := hj.own.keep k9 (fun k hk e => by unfold One at e; omega)
    have hbel : Below w.heap.size w (W7.putObj (w.heap.size + 5) (rec .exhausted none)) := hj.below.trans ⟨k9.os, k9.tape, k9.output, k9.size, fun k hk => k9.block k (by have := hj.below.size; omega) (fun e => by unfold One at e; omega)⟩
    have hgo := hj.go []
    rw [List.append_nil, goC, ← parseW_goC] at hgo
    obtain ⟨W8, hW8⟩ : ∃ W8, W7.putObj (w.heap.size + 5) (rec .exhausted none) = W8 := ⟨_, rfl⟩
    rw [hW8] at b0 b1 b2 b4 hown hbel ⊢
    obtain ⟨la, lc, hv2, _⟩ := hown.in.form
    rw [List.length_map] at hv2
    have HOWN := Lib.hid hown
    have HBEL := Lib.hid hbel
    have HGO := Lib.hid hgo
    have HB4 := Lib.hid b4
    have HB0 := Lib.hid b0
    have HB1 := Lib.hid b1
    have HLO := Lib.hid hlo
    cases ps with
    | nil =>
      subst hv2
      have cl : W8.cell? ⟨w.heap.size + 1 + 1, 0, none⟩ = some (.slice la ([] : List (Rl × Value × Value)).length lc) := (cell_of_block b2 0).trans rfl
      rw [List.length_nil] at cl
      have HER : Hid (parseW d = .error (20, 0)) := Lib.hid HGO.out
      have HFL := Lib.hid (fail_calls 20 0 W8 rfl)
      unfold FailOut at HFL
      clear hj hv hW5 h0 hct hbl hsz hmine hmine2 HHY HHY2 HIB hrec b0 b1 b2 b4 hown hbel hgo hW8 k9 hlo
      unfold markA
      gi_wp2_with fail
      refine ⟨trivial, (callsIn_wide.2 HFL.out).mono ?_⟩
      rintro e wj ⟨ev, rfl, hea, hbj⟩
      have HEA := Lib.hid hea
      obtain ⟨eb, rfl⟩ : ∃ eb, ev = .iface 91 (.pointer (some ⟨eb, 0, none⟩)) := by
        rcases hea with ⟨h0, _⟩ | ⟨_, eb, h1, _⟩
        · exact absurd h0 (by decide)
        · exact ⟨eb, h1⟩
      have d0 := block_below hbj HB0.out
      have d1 := block_below hbj HB1.out
      have c0 : wj.cell? ⟨w.heap.size, 0, none⟩ = some (.slice none 0 0) := (cell_of_block d0 0).trans rfl
      have c1 : wj.cell? ⟨w.heap.size + 1, 0, none⟩ = some .nilIface := (cell_of_block d1 0).trans rfl
      have v0 := unfrozen_of_block d0 0
      have v1 := unfrozen_of_block d1 0
      have HBJ := Lib.hid hbj
      clear hea hbj d0 d1 cl
      gi_wp2_with fail
      have d0 := block_below HBJ.out HB0.out
      have d1 := block_below HBJ.out HB1.out
      have d4 := block_below HBJ.out HB4.out
      have k10 := ((Keeps.refl (fun k => k = w.heap.size ∨ k = w.heap.size + 1) wj).setCell (p := ⟨w.heap.size, 0, none⟩) (.inl (.inl rfl)) (.slice none 0 0)).setCell (p := ⟨w.heap.size + 1, 0, none⟩) (.inl (.inr rfl)) (.iface 91 (.pointer (some ⟨eb, 0, none⟩)))
      have e0 : ((wj.setCell ⟨w.heap.size, 0, none⟩ (.slice none 0 0)).setCell ⟨w.heap.size + 1, 0, none⟩ (.iface 91 (.pointer (some ⟨eb, 0, none⟩)))).heap[w.heap.size]? = some (.cells #[.slice none 0 0] 23 (0, 0)) := (Below.heap_setCell _ ⟨w.heap.size + 1, 0, none⟩ _ w.heap.size (by show w.heap.size ≠ w.heap.size + 1; omega)).trans (block_setCell (i := 0) d0 _)
      have e1 : ((wj.setCell ⟨w.heap.size, 0, none⟩ (.slice none 0 0)).setCell ⟨w.heap.size + 1, 0, none⟩ (.iface 91 (.pointer (some ⟨eb, 0, none⟩)))).heap[w.heap.size + 1]? = some (.cells #[.iface 91 (.pointer (some ⟨eb, 0, none⟩))] 25 (0, 0)) := block_setCell (i := 0) ((Below.heap_setCell _ ⟨w.heap.size, 0, none⟩ _ (w.heap.size + 1) (by show w.heap.size + 1 ≠ w.heap.size; omega)).trans d1) _
      have e4 : ((wj.setCell ⟨w.heap.size, 0, none⟩ (.slice none 0 0)).setCell ⟨w.heap.size + 1, 0, none⟩ (.iface 91 (.pointer (some ⟨eb, 0, none⟩)))).heap[w.heap.size + 4]? = some (.deferred (some [])) := block_keep d4 k10 (fun h => by rcases h with h | h <;> omega)
      refine ⟨by simp, .inl ⟨_, _, rfl, run_takeDeferred e4, ?_⟩⟩
      have g0 : (((wj.setCell ⟨w.heap.size, 0, none⟩ (.slice none 0 0)).setCell ⟨w.heap.size + 1, 0, none⟩ (.iface 91 (.pointer (some ⟨eb, 0, none⟩)))).putObj (w.heap.size + 4) (.deferred none)).cell? ⟨w.heap.size, 0, none⟩ = some (.slice none 0 0) := (cell_of_block ((put_other (by omega) _).trans e0) 0).trans rfl
      have g1 : (((wj.setCell ⟨w.heap.size, 0, none⟩ (.slice none 0 0)).setCell ⟨w.heap.size + 1, 0, none⟩ (.iface 91 (.pointer (some ⟨eb, 0, none⟩)))).putObj (w.heap.size + 4) (.deferred none)).cell? ⟨w.heap.size + 1, 0, none⟩ = some (.iface 91 (.pointer (some ⟨eb, 0, none⟩))) := (cell_of_block ((put_other (by omega) _).trans e1) 0).trans rfl
      have k11 := keeps_put (k10.mono (S' := fun k => w.heap.size ≤ k) (fun k _ h => by rcases h with h | h <;> omega)) (l := w.heap.size + 4) (.inl (by omega)) (.deferred none)
      have hbf : Below w.heap.size w (((wj.setCell ⟨w.heap.size, 0, none⟩ (.slice none 0 0)).setCell ⟨w.heap.size + 1, 0, none⟩ (.iface 91 (.pointer (some ⟨eb, 0, none⟩)))).putObj (w.heap.size + 4) (.deferred none)) := (below_then HBEL.out HBJ.out).trans ⟨k11.os, k11.tape, k11.output, k11.size, fun k hk => k11.block k (by have := (below_then HBEL.out HBJ.out).size; omega) (by omega)⟩
      have k12 := keeps_put (k10.mono (S' := fun k => k < W8.heap.size) (fun k _ h => by have h1 := lt_of_block HB4.out; rcases h with h | h <;> omega)) (l := w.heap.size + 4) (.inl (lt_of_block HB4.out)) (.deferred none)
      obtain ⟨WF, hWF⟩ : ∃ WF, ((wj.setCell ⟨w.heap.size, 0, none⟩ (.slice none 0 0)).setCell ⟨w.heap.size + 1, 0, none⟩ (.iface 91 (.pointer (some ⟨eb, 0, none⟩)))).putObj (w.heap.size + 4) (.deferred none) = WF := ⟨_, rfl⟩
      rw [hWF] at g0 g1 k12 hbf ⊢
      refine ⟨.tuple #[.slice none 0 0, .iface 91 (.pointer (some ⟨eb, 0, none⟩))], by simp [results, Tryz.results9, go_sem, g0, g1], _, _, rfl, hbf, ?_⟩
      exact .inr ⟨20, 0, HER.out, rfl, (HEA.out.keep k12 (fun k h1 h2 => by omega)).low HBEL.out.size⟩
    | cons p t =>
      obtain ⟨k, hk⟩ : ∃ k, (p :: t).length = k := ⟨_, rfl⟩
      rw [hk] at hv2
      subst hv2
      have hk0 : k ≠ 0 := by rw [← hk]; simp
      have hz : ((k : Int) == 0) = false := by rw [beq_eq_false_iff_ne]; omega
      have cl : W8.cell? ⟨w.heap.size + 1 + 1, 0, none⟩ = some (.slice la k lc) := (cell_of_block b2 0).trans rfl
      have c0 : W8.cell? ⟨w.heap.size, 0, none⟩ = some (.slice none 0 0) := (cell_of_block b0 0).trans rfl
      have c1 : W8.cell? ⟨w.heap.size + 1, 0, none⟩ = some .nilIface := (cell_of_block b1 0).trans rfl
      have v0 := unfrozen_of_block b0 0
      have v1 := unfrozen_of_block b1 0
      clear hj hv hW5 h0 hct hbl hsz hmine hmine2 HHY HHY2 HIB hrec b0 b1 b2 b4 hown hbel hgo hW8 k9 hlo hk hk0
      unfold markA
      gi_wp2_with fail
      have d0 := HB0.out
      have d1 := HB1.out
      have d4 := HB4.out
      have k10 := ((Keeps.refl (fun k => k = w.heap.size ∨ k = w.heap.size + 1) W8).setCell (p := ⟨w.heap.size, 0, none⟩) (.inl (.inl rfl)) (.slice la k lc)).setCell (p := ⟨w.heap.size + 1, 0, none⟩) (.inl (.inr rfl)) .nilIface
      have e0 : ((W8.setCell ⟨w.heap.size, 0, none⟩ (.slice la k lc)).setCell ⟨w.heap.size + 1, 0, none⟩ .nilIface).heap[w.heap.size]? = some (.cells #[.slice la k lc] 23 (0, 0)) := (Below.heap_setCell _ ⟨w.heap.size + 1, 0, none⟩ _ w.heap.size (by show w.heap.size ≠ w.heap.size + 1; omega)).trans (block_setCell (i := 0) d0 _)
      have e1 : ((W8.setCell ⟨w.heap.size, 0, none⟩ (.slice la k lc)).setCell ⟨w.heap.size + 1, 0, none⟩ .nilIface).heap[w.heap.size + 1]? = some (.cells #[.nilIface] 25 (0, 0)) := block_setCell (i := 0) ((Below.heap_setCell _ ⟨w.heap.size, 0, none⟩ _ (w.heap.size + 1) (by show w.heap.size + 1 ≠ w.heap.size; omega)).trans d1) _
      have e4 : ((W8.setCell ⟨w.heap.size, 0, none⟩ (.slice la k lc)).setCell ⟨w.heap.size + 1, 0, none⟩ .nilIface).heap[w.heap.size + 4]? = some (.deferred (some [])) := block_keep d4 k10 (fun h => by rcases h with h | h <;> omega)
      refine ⟨by simp, .inl ⟨_, _, rfl, run_takeDeferred e4, ?_⟩⟩
      have g0 : (((W8.setCell ⟨w.heap.size, 0, none⟩ (.slice la k lc)).setCell ⟨w.heap.size + 1, 0, none⟩ .nilIface).putObj (w.heap.size + 4) (.deferred none)).cell? ⟨w.heap.size, 0, none⟩ = some (.slice la k lc) := (cell_of_block ((put_other (by omega) _).trans e0) 0).trans rfl
      have g1 : (((W8.setCell ⟨w.heap.size, 0, none⟩ (.slice la k lc)).setCell ⟨w.heap.size + 1, 0, none⟩ .nilIface).putObj (w.heap.size + 4) (.deferred none)).cell? ⟨w.heap.size + 1, 0, none⟩ = some (.nilIface) := (cell_of_block ((put_other (by omega) _).trans e1) 0).trans rfl
      have k11 := keeps_put (k10.mono (S' := fun k => w.heap.size ≤ k) (fun k _ h => by rcases h with h | h <;> omega)) (l := w.heap.size + 4) (.inl (by omega)) (.deferred none)
      have hbf : Below w.heap.size w (((W8.setCell ⟨w.heap.size, 0, none⟩ (.slice la k lc)).setCell ⟨w.heap.size + 1, 0, none⟩ .nilIface).putObj (w.heap.size + 4) (.deferred none)) := (HBEL.out).trans ⟨k11.os, k11.tape, k11.output, k11.size, fun k hk => k11.block k (by have := (HBEL.out).size; omega) (by omega)⟩
      have k12 := keeps_put (k10.mono (S' := fun k => k < w.heap.size + 6) (fun k _ h => by rcases h with h | h <;> omega)) (l := w.heap.size + 4) (.inl (by omega)) (.deferred none)
      obtain ⟨WF, hWF⟩ : ∃ WF, ((W8.setCell ⟨w.heap.size, 0, none⟩ (.slice la k lc)).setCell ⟨w.heap.size + 1, 0, none⟩ .nilIface).putObj (w.heap.size + 4) (.deferred none) = WF := ⟨_, rfl⟩
      rw [hWF] at g0 g1 k12 hbf ⊢
      refine ⟨.tuple #[.slice la k lc, .nilIface], by simp [results, Tryz.results9, go_sem, g0, g1], _, _, rfl, hbf, ?_⟩
      exact .inl ⟨_, HGO.out, (HOWN.out.keep k12 (fun k h1 h2 => by have := HLO.out; omega)).in.mono (fun k _ h => by have := HLO.out; omega), rfl⟩
  · refine ⟨hv, .inr ⟨.ret, hj.lp, ?_⟩⟩
    have k9 := keeps_put (Keeps.refl (One (w.heap.size + 5)) W7) (l := w.heap.size + 5) (.inl rfl) (rec .exhausted (some .ret))
    obtain ⟨ev, c, n, he1, he2, he3⟩ := hj.eb
    have hlo := hj.lo
    have d0 := block_keep hj.rb k9 (fun e => by unfold One at e; omega)
    have d1 := block_keep he1 k9 (fun e => by unfold One at e; omega)
    have d4 := block_keep hj.db k9 (fun e => by unfold One at e; omega)
    have hea := he2.keep k9 (fun k hk e => by unfold One at e; omega)
    have hbel : Below w.heap.size w (W7.putObj (w.heap.size + 5) (rec .exhausted (some .ret))) := hj.below.trans ⟨k9.os, k9.tape, k9.output, k9.size, fun k hk => k9.block k (by have := hj.below.size; omega) (fun e => by unfold One at e; omega)⟩
    obtain ⟨W8, hW8⟩ : ∃ W8, W7.putObj (w.heap.size + 5) (rec .exhausted (some .ret)) = W8 := ⟨_, rfl⟩
    rw [hW8] at d0 d1 d4 hea hbel ⊢
    clear hW5 h0 hct hbl hsz hmine hmine2 HHY HHY2 HIB hrec hj hv k9 hW8
    unfold markA
    gi_wp2_with fail
    have k10 := Keeps.refl (fun k => k = w.heap.size ∨ k = w.heap.size + 1) W8
    have e0 : (W8).heap[w.heap.size]? = some (.cells #[.slice none 0 0] 23 (0, 0)) := d0
    have e1 : (W8).heap[w.heap.size + 1]? = some (.cells #[ev] 25 (0, 0)) := d1
    have e4 : (W8).heap[w.heap.size + 4]? = some (.deferred (some [])) := d4
    refine ⟨by simp, .inl ⟨_, _, rfl, run_takeDeferred e4, ?_⟩⟩
    have g0 : ((W8).putObj (w.heap.size + 4) (.deferred none)).cell? ⟨w.heap.size, 0, none⟩ = some (.slice none 0 0) := (cell_of_block ((put_other (by omega) _).trans e0) 0).trans rfl
    have g1 : ((W8).putObj (w.heap.size + 4) (.deferred none)).cell? ⟨w.heap.size + 1, 0, none⟩ = some (ev) := (cell_of_block ((put_other (by omega) _).trans e1) 0).trans rfl
    have k11 := keeps_put (k10.mono (S' := fun k => w.heap.size ≤ k) (fun k _ h => by rcases h with h | h <;> omega)) (l := w.heap.size + 4) (.inl (by omega)) (.deferred none)
    have hbf : Below w.heap.size w ((W8).putObj (w.heap.size + 4) (.deferred none)) := (hbel).trans ⟨k11.os, k11.tape, k11.output, k11.size, fun k hk => k11.block k (by have := (hbel).size; omega) (by omega)⟩
    have k12 := keeps_put (k10.mono (S' := fun k => k < w.heap.size + 6) (fun k _ h => by rcases h with h | h <;> omega)) (l := w.heap.size + 4) (.inl (by omega)) (.deferred none)
    obtain ⟨WF, hWF⟩ : ∃ WF, (W8).putObj (w.heap.size + 4) (.deferred none) = WF := ⟨_, rfl⟩
    rw [hWF] at g0 g1 k12 hbf ⊢
    refine ⟨.tuple #[.slice none 0 0, ev], by simp [results, Tryz.results9, go_sem, g0, g1], _, _, rfl, hbf, ?_⟩
    exact .inr ⟨c, n, he3, rfl, (hea.keep k12 (fun k h1 h2 => by omega)).low (by omega)⟩

end Go.Proofs.YtojpjhfafbdpcaaGreatDoor
