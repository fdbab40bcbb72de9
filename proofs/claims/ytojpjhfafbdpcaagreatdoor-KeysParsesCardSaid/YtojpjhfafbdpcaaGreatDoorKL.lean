/-
  The lines of a text that count, as an iterator over strings.SplitSeq: what its loop's body is handed. Conditions: the text is no longer than 2 to the 30; the tables and the library's bound are laid; the body leaves the iterator's own blocks as they are.
-/
import Derived.Test.YtojpjhfafbdpcaaGreatDoorKH
namespace Go.Proofs.YtojpjhfafbdpcaaGreatDoor
open Go.RowKit Go.Lib Go.Joins Go.Shelf
attribute [local go_sem] Oper.semAt_some

/-- The lines that count, each with its number. -/
def cntL : Nat → List (List UInt8) → List (Nat × List UInt8)
  | _, [] => []
  | n, t :: ts => if idle t = true then cntL (n + 1) ts else (n, t) :: cntL (n + 1) ts
theorem cntL_app : ∀ (a : List (List UInt8)) (n : Nat) (b : List (List UInt8)), cntL n (a ++ b) = cntL n a ++ cntL (n + a.length) b
  | [], n, b => rfl
  | t :: ts, n, b => by
    rw [List.cons_append, cntL, cntL, cntL_app ts (n + 1) b, List.length_cons, show n + 1 + ts.length = n + (ts.length + 1) by omega]
    split
    · rfl
    · rfl
def counted (d : List UInt8) : List (Nat × List UInt8) := cntL 1 ((pieces 10 (eols d)).map trimL)
/-- What is made of lines that count. -/
def goC : List (Nat × List UInt8) → List Rl → Except (Nat × Nat) (List Rl)
  | [], acc => if acc.isEmpty = true then .error (20, 0) else .ok acc
  | x :: ts, acc => match readW x.2 with
      | none => .error (20, x.1)
      | some r => if acc.length = 64 then .error (20, x.1) else if placedW acc r.path = true then goC ts (acc ++ [r]) else .error (21, x.1)
theorem goW_goC : ∀ (ts : List (List UInt8)) (n : Nat) (acc : List Rl), goW ts n acc = goC (cntL n ts) acc
  | [], _, _ => rfl
  | t :: ts, n, acc => by
    rw [goW, cntL]
    split
    · exact goW_goC ts (n + 1) acc
    · rw [goC]
      dsimp only
      cases readW t with
      | none => rfl
      | some r =>
        dsimp only
        split
        · rfl
        · split
          · exact goW_goC ts (n + 1) _
          · rfl
theorem parseW_goC (d : List UInt8) : parseW d = goC (counted d) [] := goW_goC _ _ _
theorem counted_short {d : List UInt8} {x : Nat × List UInt8} (h : x ∈ counted d) : x.2.length ≤ d.length := by
  have : ∀ (ts : List (List UInt8)) (n : Nat), x ∈ cntL n ts → x.2 ∈ ts := by
    intro ts
    induction ts with
    | nil => intro n h; cases h
    | cons t ts ih =>
      intro n h
      rw [cntL] at h
      split at h
      · exact List.mem_cons_of_mem _ (ih _ h)
      · rcases List.mem_cons.1 h with rfl | h
        · exact List.mem_cons_self ..
        · exact List.mem_cons_of_mem _ (ih _ h)
  obtain ⟨p, hp, he⟩ := List.mem_map.1 (this _ _ h)
  rw [← he]
  have h1 := trimL_len p
  have h2 := pieces_short hp
  have h3 := eols_length d
  omega

theorem klines_calls (x : List UInt8) (w : World) (hs : x.length ≤ 1073741824) (hm : MaxLen w) : Calls Tryz.prog 47 #[.string (strB x)] w (Leaves (.string (strB (eols x))) w) := by
  have h := lines_calls (strB x) w (by rw [strB_size]; exact hs) hm
  rw [strB_list] at h
  exact h
/-- The iterator's own blocks. -/
def Mine (n1 n2 : Nat) : Nat → Prop := fun k => n1 ≤ k ∧ k < n2
def Theirs (n1 n2 : Nat) : Nat → Prop := fun k => k < n1 ∨ n2 ≤ k

theorem round_in {F : Fence} {n : Nat} {P : Program} {l : Nat} {f : FuncId} {tmps : Array Value} {assign body : Code} {w : World} {R : Ending → World → Prop} (l' : Nat) (h : RoundIn F n P l f tmps assign body w R) : RoundIn (F.inRound l') n P l f tmps assign body w R := h
/-- The statement, its loop's record named. -/
theorem rf_use {P : Program} {n : Nat} (hn : 1 ≤ n) {g : Operand} {ps : Array Tmp} {assign body : Code} {Q : Exit → Act → World → Prop} {a : Act} {w : World} {gf : Nat} {lb : Array Value}
    (hg : a.eval g = .func (.func gf) #[] lb) (eg : ∀ args w, (callFunc gf args).run P w = .ok (.enter gf args) w)
    (h : ∀ (fn : FuncId) (rec : LoopState → Option Code → Obj), (∀ st pe, rec st pe = .loop (recR fn a.tmps ps assign body w.heap.size st pe)) → CallsIn Fence.wide (n - 1) P gf (#[.func (.yield (w.heap.size + 1)) #[] #[]] ++ lb) ((w.alloc (.deferred (some []))).alloc (rec .ready none))
      (fun e W2 => (∃ v, e = .returned v) ∧
        ((W2.heap[w.heap.size + 1]? = some (rec .ready none) ∧ Q .normal (markA a w.heap.size) (W2.putObj (w.heap.size + 1) (rec .exhausted none))) ∨
        (∃ c, W2.heap[w.heap.size + 1]? = some (rec .done (some c)) ∧ c.wpIn Fence.wide n P Q (markA a w.heap.size) (W2.putObj (w.heap.size + 1) (rec .exhausted (some c))))))) :
    (Code.rangeFunc g ps assign body).wpIn Fence.wide n P Q a w :=
  rf_law hn hg eg (fun fn => h fn _ (fun _ _ => rfl))
theorem yield_use {P : Program} {m : Nat} {l : Nat} {W : World} {R : Ending → World → Prop} {args : Array Value} {fn : FuncId} {tmps : Array Value} {ps : Array Tmp} {assign body : Code} {D : Nat} {rec : LoopState → Option Code → Obj}
    (hrec : ∀ st pe, rec st pe = .loop (recR fn tmps ps assign body D st pe)) (hl : W.heap[l]? = some (rec .ready none)) (hsz : args.size = ps.size) (a1 : Act)
    (hassign : ∀ K : Act → World → Prop, K a1 W → assign.wpIn (Fence.wide.inRound l) m P (Exit.then K (fun _ _ _ => False)) { tmps := (ps.zip args).foldl (fun t (p, v) => t.setIfInBounds p v) tmps, defers := [] } W)
    (hbody : body.wpIn (Fence.wide.inRound l) m P (rdPost l (rec .busy none) (rec .ready none) (rec .done (some .ret)) R) a1 (W.putObj l (rec .busy none))) :
    YieldAt Fence.wide m P l args W R := by
  rw [hrec] at hl
  rw [hrec, hrec, hrec] at hbody
  exact yield_law hl hsz a1 hassign hbody
/-- The iterator's own blocks, after so many lines. -/
structure InB (l m0 z : Nat) (rec : Obj) (i : Nat) (W : World) : Prop where
  yb : W.heap[m0]? = some (.cells #[.func (.yield l) #[] #[]] 68 (0, 0))
  ab : W.heap[m0 + 1]? = some (.cells #[.int .i64 (i : Int)] 3 (0, 0))
  sb : ∃ u, W.heap[z]? = some (.cells #[u] 9 (0, 0))
  pb : W.heap[z + 1]? = some (.cells #[.string ⟨#[10]⟩] 9 (0, 0))
  vb : W.heap[z + 1 + 1]? = some (.cells #[.int .i64 0] 3 (0, 0))
  db : W.heap[z + 1 + 1 + 1]? = some (.deferred (some []))
  lb : W.heap[z + 1 + 1 + 1 + 1]? = some rec
theorem InB.keep {l m0 z : Nat} {rec : Obj} {i : Nat} {W W' : World} {O : Nat → Prop} (h : InB l m0 z rec i W) (hz : m0 + 2 ≤ z) (hk : Keeps O W W') (hO : ∀ k, m0 ≤ k → k < z + 1 + 1 + 1 + 1 + 1 → ¬ O k) : InB l m0 z rec i W' := by
  obtain ⟨u, hu⟩ := h.sb
  exact ⟨block_keep h.yb hk (hO _ (by omega) (by omega)), block_keep h.ab hk (hO _ (by omega) (by omega)), ⟨u, block_keep hu hk (hO _ (by omega) (by omega))⟩, block_keep h.pb hk (hO _ (by omega) (by omega)),
    block_keep h.vb hk (hO _ (by omega) (by omega)), block_keep h.db hk (hO _ (by omega) (by omega)), block_keep h.lb hk (hO _ (by omega) (by omega))⟩
theorem InB.cell {l m0 z : Nat} {rec : Obj} {i : Nat} {W : World} (h : InB l m0 z rec i W) (hz : m0 + 2 ≤ z) (v : Value) : InB l m0 z rec i (W.setCell ⟨z, 0, none⟩ v) := by
  obtain ⟨u, hu⟩ := h.sb
  have hk : ∀ k, k ≠ z → (W.setCell ⟨z, 0, none⟩ v).heap[k]? = W.heap[k]? := fun k e => Below.heap_setCell W ⟨z, 0, none⟩ v k e
  exact ⟨(hk _ (by omega)).trans h.yb, (hk _ (by omega)).trans h.ab, ⟨v, by exact block_setCell (i := 0) hu v⟩, (hk _ (by omega)).trans h.pb, (hk _ (by omega)).trans h.vb, (hk _ (by omega)).trans h.db, (hk _ (by omega)).trans h.lb⟩
theorem InB.put {l m0 z : Nat} {rec : Obj} {i : Nat} {W : World} (h : InB l m0 z rec i W) (hz : m0 + 2 ≤ z) (rec' : Obj) : InB l m0 z rec' i (W.putObj (z + 1 + 1 + 1 + 1) rec') := by
  obtain ⟨u, hu⟩ := h.sb
  exact ⟨(put_other (by omega) _).trans h.yb, (put_other (by omega) _).trans h.ab, ⟨u, (put_other (by omega) _).trans hu⟩, (put_other (by omega) _).trans h.pb, (put_other (by omega) _).trans h.vb, (put_other (by omega) _).trans h.db, put_same h.lb _⟩
theorem InB.turn {l m0 z : Nat} {rec : Obj} {i : Nat} {W : World} (h : InB l m0 z rec i W) (hz : m0 + 2 ≤ z) (j : Nat) : InB l m0 z rec j (W.setCell ⟨m0 + 1, 0, none⟩ (.int .i64 (j : Int))) := by
  obtain ⟨u, hu⟩ := h.sb
  have hk : ∀ k, k ≠ m0 + 1 → (W.setCell ⟨m0 + 1, 0, none⟩ (.int .i64 (j : Int))).heap[k]? = W.heap[k]? := fun k e => Below.heap_setCell W ⟨m0 + 1, 0, none⟩ _ k e
  exact ⟨(hk _ (by omega)).trans h.yb, by exact block_setCell (i := 0) h.ab _, ⟨u, (hk _ (by omega)).trans hu⟩, (hk _ (by omega)).trans h.pb, (hk _ (by omega)).trans h.vb, (hk _ (by omega)).trans h.db, (hk _ (by omega)).trans h.lb⟩
theorem InB.below {l m0 z : Nat} {rec : Obj} {i : Nat} {W W' : World} (h : InB l m0 z rec i W) (hz : m0 + 2 ≤ z) (hb : Below W.heap.size W W') : InB l m0 z rec i W' := h.keep hz (keeps_below hb Non) (fun _ _ _ e => e)
theorem InB.same {l m0 z : Nat} {rec : Obj} {i : Nat} {W W' : World} {O : Nat → Prop} (h : InB l m0 z rec i W) (hk : Keeps O W W') (hO : ¬ O z) : W'.cell? ⟨z, 0, none⟩ = W.cell? ⟨z, 0, none⟩ := by
  obtain ⟨u, hu⟩ := h.sb
  exact World.cell?_of_block (hk.block z (lt_of_block hu) hO)
theorem idle_eq (t : List UInt8) : (((strB t).toList == []) || Lib.hasPrefix (strB t).data.toList (⟨#[35]⟩ : ByteArray).data.toList) = idle t := by
  rw [strB_nil]
  unfold idle Lib.hasPrefix
  show (t.isEmpty || List.isPrefixOf [35] t) = _
  cases t with
  | nil => rfl
  | cons b t =>
    simp [List.isPrefixOf]
    exact Bool.beq_comm

set_option maxRecDepth 100000 in
set_option maxHeartbeats 8000000 in
theorem lines_in (l : Nat) (d : List UInt8) (hd : d.length ≤ 1073741823) (bt : Nat) (JO : Nat → List (Nat × List UInt8) → World → Prop) (Jx : Nat → World → Prop) (W0 : World) (hE : KEnv W0)
    (hEnv : ∀ n2 cp W, JO n2 cp W → KEnv W)
    (hAb : ∀ n2 cp W W', JO n2 cp W → n2 ≤ W.heap.size → Keeps (Mine W0.heap.size n2) W W' → JO n2 cp W')
    (hAx : ∀ n2 W W', Jx n2 W → n2 ≤ W.heap.size → Keeps (Mine W0.heap.size n2) W W' → Jx n2 W')
    (hY : ∀ n2 cp x W, JO n2 cp W → W0.heap.size ≤ n2 → n2 ≤ W.heap.size → (∃ r, counted d = cp ++ x :: r) → ∀ m, YieldAt Fence.wide m Tryz.prog l #[.int .i64 (x.1 : Int), .string (strB x.2)] W fun e W' =>
      (e = .returned (.bool true) ∧ JO n2 (cp ++ [x]) W' ∧ Keeps (Theirs W0.heap.size n2) W W') ∨ (e = .returned (.bool false) ∧ Jx n2 W' ∧ Keeps (Theirs W0.heap.size n2) W W'))
    (hbt : W0.cell? ⟨bt, 0, none⟩ = some (.string (strB d))) (h0 : ∀ W', Below W0.heap.size W0 W' → JO W'.heap.size [] W') (n : Nat) (hn : 8 ≤ n) :
    CallsIn Fence.wide n Tryz.prog 45 #[.func (.yield l) #[] #[], .pointer (some ⟨bt, 0, none⟩)] W0 fun e W' => (∃ v, e = .returned v) ∧ ((∃ n2, JO n2 (counted d) W') ∨ ∃ n2, Jx n2 W') := by
  have h1n : 1 ≤ n := by omega
  obtain ⟨W2, hW2⟩ : ∃ W2, (W0.alloc (.cells #[.func (.yield l) #[] #[]] 68)).alloc (.cells #[.int .i64 0] 3) = W2 := ⟨_, rfl⟩
  have hb2 : Below W0.heap.size W0 W2 := by rw [← hW2]; exact ((Below.refl _ _).alloc (Nat.le_refl _) _).alloc (by simp) _
  have HKY : Hid (W2.heap[W0.heap.size]? = some (.cells #[.func (.yield l) #[] #[]] 68 (0, 0))) := Lib.hid (by
    rw [← hW2]
    exact (Below.heap_alloc _ _ _ (by simp)).trans (heap_alloc_new _ _))
  have HKA : Hid (W2.heap[W0.heap.size + 1]? = some (.cells #[.int .i64 0] 3 (0, 0))) := Lib.hid (by
    have h := heap_alloc_new (W0.alloc (.cells #[.func (.yield l) #[] #[]] 68)) (.cells #[.int .i64 0] 3)
    rw [hW2] at h
    simpa using h)
  have ct : W2.cell? ⟨bt, 0, none⟩ = some (.string (strB d)) := cell_below hb2 hbt
  have HLN := Lib.hid (klines_calls d W2 (by omega) (hE.mx.below hb2))
  obtain ⟨sd, hsd⟩ : ∃ s, strB d = s := ⟨_, rfl⟩
  obtain ⟨se, hse⟩ : ∃ s, strB (eols d) = s := ⟨_, rfl⟩
  rw [hsd] at ct HLN hbt
  rw [hse] at HLN
  have HSE := Lib.hid hse
  have HB2 := Lib.hid hb2
  have HW2 := Lib.hid hW2
  have HENV := Lib.hid hEnv
  have HAB := Lib.hid hAb
  have HAX := Lib.hid hAx
  have HY := Lib.hid hY
  have H0 := Lib.hid h0
  have HD := Lib.hid hd
  clear hsd hse hb2 hW2 hEnv hAb hAx hY h0 hd hE
  have cb : W0.cell? ⟨bt, 0, none⟩ = some (.string sd) := hbt
  have cb1 := fun ob => cell_alloc cb ob
  have cb2 := fun ob ob2 => cell_alloc (cell_alloc cb ob) ob2
  refine callsIn_of_wp_marks Tryz.func45 rfl trivial ?_ rfl
  simp only [Tryz.ntmps45, List.size_toArray, List.length_cons, List.length_nil, Nat.reduceAdd, Nat.reduceSub, Array.replicate_succ, Array.replicate_zero, List.push_toArray, List.append_toArray, List.nil_append, List.cons_append]
  gi_wp2_with fail
  rw [HW2.out]
  refine ⟨trivial, (callsIn_wide.2 HLN.out).mono ?_⟩
  rintro e w3 ⟨rfl, hb3⟩
  have HSQ := Lib.hid (seq_calls se w3)
  have HB3 := Lib.hid (below_then HB2.out hb3)
  have HKY3 := Lib.hid (block_below hb3 HKY.out)
  have HKA3 := Lib.hid (block_below hb3 HKA.out)
  clear hb3 HLN HKY HKA ct cb cb1 cb2 hbt HB2 HW2
  gi_wp2_with fail
  refine ⟨trivial, (callsIn_wide.2 HSQ.out).mono ?_⟩
  rintro e w4 ⟨rfl, hw4⟩
  gi_wp2_with fail
  have HZ : Hid (W0.heap.size + 2 ≤ w3.heap.size) := Lib.hid (lt_of_block HKA3.out)
  have h4s : w4.heap.size = w3.heap.size + 1 + 1 + 1 := by rw [hw4]; simp
  rw [← hw4]
  have hib : ∀ D L : Obj, w4.heap.size = w4.heap.size → D = .deferred (some []) → InB l W0.heap.size w3.heap.size L 0 ((w4.alloc D).alloc L) ∧ ((w4.alloc D).alloc L).heap[w3.heap.size]? = some (.cells #[.string se] 9 (0, 0)) ∧ ((w4.alloc D).alloc L).heap.size = w3.heap.size + 1 + 1 + 1 + 1 + 1 ∧ Below W0.heap.size W0 ((w4.alloc D).alloc L) := by
    intro D L _ hD
    have hz := HZ.out
    have e1 := Below.heap_alloc w3 (.cells #[.string se] 9)
    have e2 := Below.heap_alloc (w3.alloc (.cells #[.string se] 9)) (.cells #[.string { data := #[10] }] 9)
    have e3 := Below.heap_alloc ((w3.alloc (.cells #[.string se] 9)).alloc (.cells #[.string { data := #[10] }] 9)) (.cells #[.int .i64 0] 3)
    have n1 := heap_alloc_new w3 (.cells #[.string se] 9)
    have n2 := heap_alloc_new (w3.alloc (.cells #[.string se] 9)) (.cells #[.string { data := #[10] }] 9)
    have n3 := heap_alloc_new ((w3.alloc (.cells #[.string se] 9)).alloc (.cells #[.string { data := #[10] }] 9)) (.cells #[.int .i64 0] 3)
    rw [← hw4] at e3 n3
    simp only [World.size_alloc] at e1 e2 e3 n1 n2 n3
    have e4 := Below.heap_alloc w4 D
    have e5 := Below.heap_alloc (w4.alloc D) L
    have n4 := heap_alloc_new w4 D
    have n5 := heap_alloc_new (w4.alloc D) L
    simp only [World.size_alloc, h4s] at e4 e5 n4 n5
    have up : ∀ k, k < w3.heap.size → ((w4.alloc D).alloc L).heap[k]? = w3.heap[k]? := fun k hk => by
      rw [e5 k (by omega), e4 k (by omega), e3 k (by omega), e2 k (by omega), e1 k (by omega)]
    have hse : ((w4.alloc D).alloc L).heap[w3.heap.size]? = some (.cells #[.string se] 9 (0, 0)) := by
      rw [e5 _ (by omega), e4 _ (by omega), e3 _ (by omega), e2 _ (by omega), n1]
    refine ⟨⟨(up _ (by omega)).trans HKY3.out, (up _ (by omega)).trans HKA3.out, ⟨.string se, hse⟩, ?_, ?_, ?_, ?_⟩, hse, ?_, ?_⟩
    · rw [e5 _ (by omega), e4 _ (by omega), e3 _ (by omega), n2]
    · rw [e5 _ (by omega), e4 _ (by omega), n3]
    · rw [e5 _ (by omega), n4, hD]
    · exact n5
    · simp [h4s]
    · refine ((HB3.out.trans ?_).alloc (by omega) _).alloc (by simp; omega) _
      rw [hw4]
      exact (((Below.refl _ _).alloc (by omega) _).alloc (by simp; omega) _).alloc (by simp; omega) _
  have hf : ∀ (x : List UInt8) (pre : List (List UInt8)) (r : List (List UInt8)), pieces 10 (eols d) = pre ++ x :: r → x.length ≤ d.length ∧ pre.length ≤ d.length ∧ (idle (trimL x) = false → ∃ r', counted d = cntL 1 (pre.map trimL) ++ (pre.length + 1, trimL x) :: r') ∧
      cntL 1 ((pre ++ [x]).map trimL) = if idle (trimL x) = true then cntL 1 (pre.map trimL) else cntL 1 (pre.map trimL) ++ [(pre.length + 1, trimL x)] := by
    intro x pre r hr
    have e1 := eols_length d
    refine ⟨?_, ?_, ?_, ?_⟩
    · have h1 : x ∈ pieces 10 (eols d) := by rw [hr]; simp
      have h2 := pieces_short h1
      omega
    · have h2 := pieces_few 10 (eols d)
      rw [hr, List.length_append, List.length_cons] at h2
      omega
    · intro hi
      unfold counted
      rw [hr, List.map_append, cntL_app, List.map_cons, cntL, hi, List.length_map, Nat.add_comm 1]
      exact ⟨_, rfl⟩
    · rw [List.map_append, cntL_app, List.map_cons, List.map_nil, cntL, List.length_map, Nat.add_comm 1]
      split
      · exact List.append_nil _
      · rfl
  have HF := Lib.hid hf
  have HIB := Lib.hid hib
  have HW4 := Lib.hid hw4
  clear hf hib hw4
  refine rf_use (gf := 91) (lb := #[.pointer (some ⟨w3.heap.size + 1, 0, none⟩), .pointer (some ⟨w3.heap.size, 0, none⟩), .pointer (some ⟨w3.heap.size + 1 + 1, 0, none⟩)]) h1n rfl (enters_of Tryz.func91 (by kernel_rfl) rfl) (fun fn rec hrec => ?_)
  rw [h4s] at hrec ⊢
  obtain ⟨hi0, hs0, hz0, hb0⟩ := HIB.out (.deferred (some [])) (rec .ready none) rfl rfl
  have hz := HZ.out
  refine (seq1_in (n - 1) (by omega) (w3.heap.size + 1 + 1 + 1 + 1) w3.heap.size (w3.heap.size + 1) (w3.heap.size + 1 + 1) (eols d) (by have := eols_length d; have := HD.out; omega)
    (fun pre W => w3.heap.size + 1 + 1 + 1 + 1 + 1 ≤ W.heap.size ∧ JO (w3.heap.size + 1 + 1 + 1 + 1 + 1) (cntL 1 (pre.map trimL)) W ∧ InB l W0.heap.size w3.heap.size (rec .ready none) pre.length W)
    (fun W => w3.heap.size + 1 + 1 + 1 + 1 + 1 ≤ W.heap.size ∧ Jx (w3.heap.size + 1 + 1 + 1 + 1 + 1) W ∧ ∃ i, InB l W0.heap.size w3.heap.size (rec .done (some .ret)) i W)
    (fun pre W v hj => ⟨by simp [World.setCell]; exact hj.1, HAB.out _ _ _ _ hj.2.1 hj.1 ((Keeps.refl _ _).setCell (.inl ⟨by simp; omega, by simp; omega⟩) _), hj.2.2.cell hz v⟩)
    (fun pre W hj => ⟨(cell_of_block hj.2.2.pb 0).trans rfl, (cell_of_block hj.2.2.vb 0).trans rfl, by obtain ⟨u, hu⟩ := hj.2.2.sb; exact unfrozen_of_block hu 0⟩)
    ?_ _ ⟨by omega, by have h := H0.out _ hb0; rw [hz0] at h; exact h, hi0⟩ (by rw [HSE.out]; exact (cell_of_block hs0 0).trans rfl)).mono ?_
  · rintro pre x W ⟨hn2, hj, hi⟩ ⟨r, hr⟩
    obtain ⟨f1, f2, f3, f4⟩ := HF.out x pre r hr
    refine yield_use hrec hi.lb rfl { tmps := #[.func (.yield l) #[] #[], .pointer (some ⟨bt, 0, none⟩), .pointer (some ⟨W0.heap.size, 0, none⟩), .pointer (some ⟨W0.heap.size + 1, 0, none⟩), .string (strB x), .string sd, .string se,
      .func (.func 91) #[] #[.pointer (some ⟨w3.heap.size + 1, 0, none⟩), .pointer (some ⟨w3.heap.size, 0, none⟩), .pointer (some ⟨w3.heap.size + 1 + 1, 0, none⟩)], .string (strB x), undef, undef, undef, undef, undef, undef, undef, undef, undef, undef, undef, undef, undef, undef, undef], defers := [] } ?_ ?_
    · intro K hK
      gi_wp2_with fail
      exact hK
    · have HSAME : Hid (∀ W8 W3 : World, Below (W.putObj (w3.heap.size + 1 + 1 + 1 + 1) (rec .busy none)).heap.size ((W.putObj (w3.heap.size + 1 + 1 + 1 + 1) (rec .busy none)).setCell ⟨W0.heap.size + 1, 0, none⟩ (.int .i64 ((pre.length + 1 : Nat) : Int))) W8 → Keeps (Theirs W0.heap.size (w3.heap.size + 1 + 1 + 1 + 1 + 1)) W8 W3 →
          w3.heap.size + 1 + 1 + 1 + 1 + 1 ≤ W3.heap.size ∧ W3.heap[w3.heap.size + 1 + 1 + 1 + 1]? = some (rec .busy none) ∧ (∀ o, (W3.putObj (w3.heap.size + 1 + 1 + 1 + 1) o).cell? ⟨w3.heap.size, 0, none⟩ = W.cell? ⟨w3.heap.size, 0, none⟩) ∧ (∀ o, InB l W0.heap.size w3.heap.size o (pre.length + 1) (W3.putObj (w3.heap.size + 1 + 1 + 1 + 1) o)) ∧ (∀ o, Keeps (Mine W0.heap.size (w3.heap.size + 1 + 1 + 1 + 1 + 1)) W3 (W3.putObj (w3.heap.size + 1 + 1 + 1 + 1) o))) := Lib.hid (by
        intro W8 W3 hb8 hk
        have i6 := (hi.put hz (rec .busy none)).turn hz (pre.length + 1)
        have i8 := i6.below hz (by simpa [World.setCell] using hb8)
        have i3 := i8.keep hz hk (fun k h1 h2 h3 => by rcases h3 with h3 | h3 <;> omega)
        have hmn : ∀ k, Mine W0.heap.size (w3.heap.size + 1 + 1 + 1 + 1 + 1) k → ¬ Theirs W0.heap.size (w3.heap.size + 1 + 1 + 1 + 1 + 1) k := fun k h1 h2 => by obtain ⟨h1, h3⟩ := h1; rcases h2 with h2 | h2 <;> omega
        have hl8 := lt_of_block i8.lb
        have hl3 := lt_of_block i3.lb
        refine ⟨by omega, i3.lb, fun o => ?_, fun o => i3.put hz o, fun o => keeps_put (Keeps.refl _ _) (.inl ⟨by omega, by omega⟩) o⟩
        obtain ⟨u, hu⟩ := hi.sb
        have g1 : (W.putObj (w3.heap.size + 1 + 1 + 1 + 1) (rec .busy none)).heap[w3.heap.size]? = W.heap[w3.heap.size]? := put_other (by omega) _
        have g2 := Below.heap_setCell (W.putObj (w3.heap.size + 1 + 1 + 1 + 1) (rec .busy none)) ⟨W0.heap.size + 1, 0, none⟩ (.int .i64 ((pre.length + 1 : Nat) : Int)) w3.heap.size (by show w3.heap.size ≠ W0.heap.size + 1; omega)
        have hl1 := lt_of_block (g1.trans hu)
        have g3 := hb8.block w3.heap.size hl1
        have g4 := hk.block w3.heap.size (by omega) (hmn _ ⟨by omega, by omega⟩)
        have g5 : (W3.putObj (w3.heap.size + 1 + 1 + 1 + 1) o).heap[w3.heap.size]? = W3.heap[w3.heap.size]? := put_other (by omega) _
        exact World.cell?_of_block (g5.trans (g4.trans (g3.trans (g2.trans g1)))))
      have HK8 : Hid (∀ W8 : World, Below (W.putObj (w3.heap.size + 1 + 1 + 1 + 1) (rec .busy none)).heap.size ((W.putObj (w3.heap.size + 1 + 1 + 1 + 1) (rec .busy none)).setCell ⟨W0.heap.size + 1, 0, none⟩ (.int .i64 ((pre.length + 1 : Nat) : Int))) W8 →
          Keeps (Mine W0.heap.size (w3.heap.size + 1 + 1 + 1 + 1 + 1)) W W8 ∧ InB l W0.heap.size w3.heap.size (rec .busy none) (pre.length + 1) W8) := Lib.hid (by
        intro W8 hb8
        have i6 := (hi.put hz (rec .busy none)).turn hz (pre.length + 1)
        have i8 := i6.below hz (by simpa [World.setCell] using hb8)
        refine ⟨?_, i8⟩
        have k6 := keeps_put (Keeps.refl (Mine W0.heap.size (w3.heap.size + 1 + 1 + 1 + 1 + 1)) W) (l := w3.heap.size + 1 + 1 + 1 + 1) (.inl ⟨by omega, by omega⟩) (rec .busy none)
        have k7 := k6.setCell (p := ⟨W0.heap.size + 1, 0, none⟩) (.inl ⟨by simp, by simp; omega⟩) (.int .i64 ((pre.length + 1 : Nat) : Int))
        exact k7.below hb8 k6.size)
      have i6 := hi.put hz (rec .busy none)
      have HE7 : Hid (KEnv ((W.putObj (w3.heap.size + 1 + 1 + 1 + 1) (rec .busy none)).setCell ⟨W0.heap.size + 1, 0, none⟩ (.int .i64 ((pre.length + 1 : Nat) : Int)))) := Lib.hid (by
        refine HENV.out _ _ _ (HAB.out _ _ _ _ hj hn2 (HK8.out _ (Below.refl _ _)).1))
      have HN2 := Lib.hid hn2
      have HJ := Lib.hid hj
      have hs6 : W.heap.size ≤ (W.putObj (w3.heap.size + 1 + 1 + 1 + 1) (rec .busy none)).heap.size := by simp [World.putObj]
      obtain ⟨W6, hW6⟩ : ∃ W6, W.putObj (w3.heap.size + 1 + 1 + 1 + 1) (rec .busy none) = W6 := ⟨_, rfl⟩
      rw [hW6] at HSAME HK8 HE7 i6 hs6
      rw [hW6]
      have c1 : W6.cell? ⟨W0.heap.size + 1, 0, none⟩ = some (.int .i64 (pre.length : Int)) := (cell_of_block i6.ab 0).trans rfl
      have u1 := unfrozen_of_block i6.ab 0
      have hpl : (pre.length : Int) ≤ 1073741823 := by have := HD.out; omega
      have HTR := Lib.hid (ktrim_calls x (W6.setCell ⟨W0.heap.size + 1, 0, none⟩ (.int .i64 ((pre.length + 1 : Nat) : Int))) (by have := HD.out; omega) HE7.out.laid)
      have HPX := Lib.hid (fun (W : World) => Tryz.strings_HasPrefix (strB (trimL x)) ⟨#[35]⟩ W)
      have hid1 := idle_eq (trimL x)
      have HF3 := Lib.hid f3
      have HF4 := Lib.hid f4
      obtain ⟨px, hpx⟩ : ∃ q, Lib.hasPrefix (strB (trimL x)).data.toList (⟨#[35]⟩ : ByteArray).data.toList = q := ⟨_, rfl⟩
      rw [hpx] at HPX hid1
      obtain ⟨pi, hpi⟩ : ∃ q, idle (trimL x) = q := ⟨_, rfl⟩
      rw [hpi] at HF3 HF4 hid1
      obtain ⟨t, ht⟩ : ∃ t, trimL x = t := ⟨_, rfl⟩
      rw [ht] at HF3 HF4
      obtain ⟨y, hy⟩ : ∃ y, strB (trimL x) = y := ⟨_, rfl⟩
      rw [hy] at hid1 HTR HPX
      have HYT : Hid (strB t = y) := Lib.hid (by rw [← ht]; exact hy)
      obtain ⟨xs, hxs⟩ : ∃ y, strB x = y := ⟨_, rfl⟩
      rw [hxs] at HTR ⊢
      have hcast : ((pre.length + 1 : Nat) : Int) = (pre.length : Int) + 1 := rfl
      obtain ⟨pl, hpl2⟩ : ∃ pl, (pre.length : Int) = pl := ⟨_, rfl⟩
      rw [hcast, hpl2] at HTR HSAME HK8
      rw [hpl2] at c1 hpl
      have hpl0 : 0 ≤ pl := by omega
      have HPL := Lib.hid hpl2
      clear hn2 hj hi hr f1 f2 f3 f4 hW6 i6 hs6 HE7 hpx hpi ht hy hxs hcast hpl2 hi0 hs0 hz0 hb0 hrec
      gi_wp2_with fail
      refine ⟨trivial, fun _ => by omega, (CallsIn.inRound _ (callsIn_wide.2 HTR.out)).mono ?_⟩
      rintro e W8 ⟨rfl, hb8⟩
      have hb8' : Below W6.heap.size (W6.setCell ⟨W0.heap.size + 1, 0, none⟩ (.int .i64 (pl + 1))) W8 := by simpa [World.setCell] using hb8
      obtain ⟨k8, i8⟩ := HK8.out W8 hb8'
      have HJ8 : Hid (JO (w3.heap.size + 1 + 1 + 1 + 1 + 1) (cntL 1 (pre.map trimL)) W8) := Lib.hid (HAB.out _ _ _ _ HJ.out HN2.out k8)
      have hs8 := lt_of_block i8.lb
      have HS8 : Hid (w3.heap.size + 1 + 1 + 1 + 1 + 1 ≤ W8.heap.size) := Lib.hid (by omega)
      have cy8 : W8.cell? ⟨W0.heap.size, 0, none⟩ = some (.func (.yield l) #[] #[]) := (cell_of_block i8.yb 0).trans rfl
      have ca8 : W8.cell? ⟨W0.heap.size + 1, 0, none⟩ = some (.int .i64 (pl + 1)) := (cell_of_block i8.ab 0).trans (by rw [← HPL.out]; rfl)
      have HSM := Lib.hid (fun W3 => HSAME.out W8 W3 hb8')
      clear hb8 hb8' k8 i8 hs8 c1 u1 HTR HSAME HK8
      have hidle : pi = true → w3.heap.size + 1 + 1 + 1 + 1 + 1 ≤ (W8.putObj (w3.heap.size + 1 + 1 + 1 + 1) (rec .ready none)).heap.size ∧ JO (w3.heap.size + 1 + 1 + 1 + 1 + 1) (cntL 1 ((pre ++ [x]).map trimL)) (W8.putObj (w3.heap.size + 1 + 1 + 1 + 1) (rec .ready none)) ∧ InB l W0.heap.size w3.heap.size (rec .ready none) (pre ++ [x]).length (W8.putObj (w3.heap.size + 1 + 1 + 1 + 1) (rec .ready none)) := by
        intro hp
        obtain ⟨g1, g2, g3, g4, g5⟩ := HSM.out W8 (Keeps.refl _ _)
        rw [HF4.out, if_pos hp, List.length_append]
        exact ⟨by simp [World.putObj]; exact g1, HAB.out _ _ _ _ HJ8.out HS8.out (g5 _), g4 _⟩
      have HID := Lib.hid hidle
      clear hidle
      cases hq : y.toList == [] with
      | true =>
        rw [hq, Bool.true_or] at hid1
        have HPI := Lib.hid hid1
        clear hid1
        gi_wp2_with fail
        refine ⟨trivial, ?_⟩
        gi_wp2_with fail
        obtain ⟨g1, g2, g3, g4, g5⟩ := HSM.out W8 (Keeps.refl _ _)
        exact ⟨g2, .inl ⟨rfl, HID.out HPI.out.symm, g3 _⟩⟩
      | false =>
        rw [hq, Bool.false_or] at hid1
        have HPI := Lib.hid hid1
        clear hid1
        cases hpx2 : px with
        | true =>
          rw [hpx2] at HPX HPI
          gi_wp2_with fail
          refine ⟨trivial, fun _ => by omega, (CallsIn.inRound _ (callsIn_wide.2 (HPX.out W8))).mono ?_⟩
          rintro e w' ⟨rfl, rfl⟩
          gi_wp2_with fail
          obtain ⟨g1, g2, g3, g4, g5⟩ := HSM.out w' (Keeps.refl _ _)
          exact ⟨g2, .inl ⟨rfl, HID.out HPI.out.symm, g3 _⟩⟩
        | false =>
          rw [hpx2] at HPX HPI
          have hfp := HF3.out HPI.out.symm
          have hyo := HY.out (w3.heap.size + 1 + 1 + 1 + 1 + 1) (cntL 1 (pre.map trimL)) (pre.length + 1, t) W8 HJ8.out (by have := HZ.out; omega) HS8.out hfp
          simp only at hyo
          rw [HYT.out] at hyo
          have hcast : ((pre.length + 1 : Nat) : Int) = (pre.length : Int) + 1 := rfl
          rw [hcast, HPL.out] at hyo
          obtain ⟨fn, tmps, assign, body, hyr, hR⟩ := hyo (n - 1 - 1 - 1)
          have HR := Lib.hid hR
          clear hyo hcast hfp hR
          gi_wp2_with fail
          refine ⟨trivial, fun _ => by omega, (CallsIn.inRound _ (callsIn_wide.2 (HPX.out W8))).mono ?_⟩
          rintro e w' ⟨rfl, rfl⟩
          gi_wp2_with fail
          refine ⟨fun _ => by omega, ?_⟩
          with_reducible refine RoundIn.mono (round_in _ HR.out) ?_
          rintro e W3 (⟨rfl, hJ3, hk3⟩ | ⟨rfl, hJx3, hk3⟩)
          · have HJ3 := Lib.hid hJ3
            have HS := Lib.hid (HSM.out W3 hk3)
            clear hJ3 hk3 hyr cy8 ca8
            gi_wp2_with fail
            obtain ⟨g1, g2, g3, g4, g5⟩ := HS.out
            refine ⟨g2, .inl ⟨rfl, ⟨by simp [World.putObj]; exact g1, ?_, ?_⟩, g3 _⟩⟩
            · rw [HF4.out, ← HPI.out, if_neg (by simp)]
              exact HAB.out _ _ _ _ HJ3.out g1 (g5 _)
            · rw [List.length_append]
              exact g4 _
          · have HJ3 := Lib.hid hJx3
            have HS := Lib.hid (HSM.out W3 hk3)
            clear hJx3 hk3 hyr cy8 ca8
            gi_wp2_with fail
            obtain ⟨g1, g2, g3, g4, g5⟩ := HS.out
            exact ⟨g2, .inr ⟨rfl, by simp [World.putObj]; exact g1, HAX.out _ _ _ HJ3.out g1 (g5 _), ⟨_, g4 _⟩⟩⟩
  · rintro e W5 ⟨hv, ⟨hn2, hj, hi⟩ | ⟨hn2, hj, i, hi⟩⟩
    · have k9 := keeps_put (Keeps.refl (Mine W0.heap.size (w3.heap.size + 1 + 1 + 1 + 1 + 1)) W5) (l := w3.heap.size + 1 + 1 + 1 + 1) (.inl ⟨by omega, by omega⟩) (rec .exhausted none)
      have HJ9 := Lib.hid (HAB.out _ _ _ _ hj hn2 k9)
      have hK := (hi.put hz (rec .exhausted none)).db
      have HSZ : Hid (w3.heap.size + 1 + 1 + 1 + 1 + 1 ≤ (W5.putObj (w3.heap.size + 1 + 1 + 1 + 1) (rec .exhausted none)).heap.size) := Lib.hid (by simp [World.putObj]; exact hn2)
      refine ⟨hv, .inl ⟨hi.lb, ?_⟩⟩
      obtain ⟨W9, hW9⟩ : ∃ W9, W5.putObj (w3.heap.size + 1 + 1 + 1 + 1) (rec .exhausted none) = W9 := ⟨_, rfl⟩
      rw [hW9] at HJ9 hK HSZ ⊢
      clear hW9 k9 hj hi hn2 hv hi0 hs0 hz0 hb0 hrec
      gi_wp2_with fail
      refine ⟨by simp, .inl ⟨_, _, rfl, run_takeDeferred hK, ?_⟩⟩
      exact ⟨_, results_none rfl _ _ _, ⟨_, rfl⟩, .inl ⟨_, HAB.out _ _ _ _ HJ9.out HSZ.out (keeps_put (Keeps.refl _ _) (.inl ⟨by omega, by omega⟩) _)⟩⟩
    · have k9 := keeps_put (Keeps.refl (Mine W0.heap.size (w3.heap.size + 1 + 1 + 1 + 1 + 1)) W5) (l := w3.heap.size + 1 + 1 + 1 + 1) (.inl ⟨by omega, by omega⟩) (rec .exhausted (some .ret))
      have HJ9 := Lib.hid (HAX.out _ _ _ hj hn2 k9)
      have hK := (hi.put hz (rec .exhausted (some .ret))).db
      have HSZ : Hid (w3.heap.size + 1 + 1 + 1 + 1 + 1 ≤ (W5.putObj (w3.heap.size + 1 + 1 + 1 + 1) (rec .exhausted (some .ret))).heap.size) := Lib.hid (by simp [World.putObj]; exact hn2)
      refine ⟨hv, .inr ⟨.ret, hi.lb, ?_⟩⟩
      obtain ⟨W9, hW9⟩ : ∃ W9, W5.putObj (w3.heap.size + 1 + 1 + 1 + 1) (rec .exhausted (some .ret)) = W9 := ⟨_, rfl⟩
      rw [hW9] at HJ9 hK HSZ ⊢
      clear hW9 k9 hj hi hn2 hv hi0 hs0 hz0 hb0 hrec
      gi_wp2_with fail
      refine ⟨by simp, .inl ⟨_, _, rfl, run_takeDeferred hK, ?_⟩⟩
      exact ⟨_, results_none rfl _ _ _, ⟨_, rfl⟩, .inr ⟨_, HAX.out _ _ _ HJ9.out HSZ.out (keeps_put (Keeps.refl _ _) (.inl ⟨by omega, by omega⟩) _)⟩⟩

end Go.Proofs.YtojpjhfafbdpcaaGreatDoor
