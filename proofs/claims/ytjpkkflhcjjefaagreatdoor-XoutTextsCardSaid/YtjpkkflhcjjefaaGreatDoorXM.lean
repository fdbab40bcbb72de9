/-
 Runs and references between them, told by a document's scan into a builder of its own: characters and values.
-/
import Derived.Test.YtjpkkflhcjjefaaGreatDoorXI
namespace Go.Proofs.YtjpkkflhcjjefaaGreatDoor
open Go.RowKit Go.Lib Go.Joins
set_option maxHeartbeats 32000000
theorem toldS_char {s : List UInt8} {n : Nat} (h : toldS s = some n) : inTab charsT (n : Int) = true := by
 unfold toldS at h
 split at h
 ·cases h; decide
 split at h
 ·cases h; decide
 split at h
 ·cases h; decide
 split at h
 ·cases h; decide
 split at h
 ·cases h; decide
 have key : ∀ q : Option Nat, charS q = some n → inTab charsT (n : Int) = true := by
  intro q hq
  cases q with
  | none => cases hq
  | some v =>
   change (if inTab charsT (v : Int) = true then some v else none) = some n at hq
   by_cases hv : inTab charsT (v : Int) = true
   ·rw [if_pos hv] at hq; cases hq; exact hv
   ·rw [if_neg hv] at hq; cases hq
 split at h
 ·exact key _ h
 split at h
 ·exact key _ h
 ·cases h
theorem refS_char {i : Nat} {r : List UInt8} {n j : Nat} {u : List UInt8} (h : refS i r = .ok n j u) : inTab charsT (n : Int) = true ∧ i + 2 ≤ j := by
 unfold refS at h
 cases hc : cutS [59] (r.drop 1) with
 | none => rw [hc] at h; cases h
 | some q =>
  rw [hc] at h
  dsimp only at h
  cases ht : toldS q.1 with
  | none => rw [ht] at h; cases h
  | some v =>
   rw [ht] at h
   cases h
   exact ⟨toldS_char ht, by omega⟩
theorem rune_cells {n : Nat} (h : inTab charsT (n : Int) = true) : Lib.runeCells (n : Int) = Lib.byteCells (encB n) ∧ (encB n).length ≤ 4 ∧ n < 1114112 := by
 have hc := (chars_nat n).1 h
 have hv : Lib.validRune (n : Int) = true := by
  unfold Lib.validRune
  rw [decide_eq_true_eq]
  omega
 refine ⟨?_, ?_, by omega⟩
 ·rw [encL_cells _ hv]
  unfold encL encB Lib.byteCells
  rw [if_neg (by omega), Int.toNat_natCast, List.map_map]
  apply List.map_congr_left
  intro x hx
  have := encN_lt n x hx
  show Value.int .u8 (x : Int) = Value.int .u8 ((UInt8.ofNat x).toNat : Int)
  rw [UInt8.toNat_ofNat', Nat.mod_eq_of_lt this]
 ·unfold encB
  rw [List.length_map]
  unfold encN
  repeat' split
  all_goals simp
theorem builder_keeps {T e : TypeId} {b0 b B : Nat} {bs : List Value} {w w' : World} (h : Lib.IsBuilderF T e b0 b bs w) (hk : Keeps (One B) w w') (hB : B < b0) : Lib.IsBuilderF T e b0 b bs w' := by
 have key : ∀ p, Lib.BuilderAtF T e b0 b p bs w → Lib.BuilderAtF T e b0 b p bs w' := by
  rintro p ⟨h1, v, h2, h3, h4⟩
  refine ⟨h1, v, ?_, ?_, h4⟩
  ·exact (hk.block b (lt_of_block h2) (fun e => by have e' : b = B := e; omega)).trans h2
  ·refine ⟨h3.1, ?_⟩
   rcases h3.2 with h5 | ⟨g, cap, cur, fz, r1, r2, r3, r4⟩
   ·exact .inl h5
   ·exact .inr ⟨g, cap, cur, fz, r1, r2, (hk.block g (lt_of_block r3) (fun e => by have e' : g = B := e; omega)).trans r3, r4⟩
 rcases h with h | h
 ·exact .inl (key _ h)
 ·exact .inr (key _ h)
theorem builder_new (T : TypeId) (w : World) : Lib.IsBuilderF T 5 w.heap.size w.heap.size [] (w.alloc (.cells #[.pointer none, .slice none 0 0] T)) :=
 .inl ⟨Nat.le_refl _, .slice none 0 0, heap_alloc_new w _, World.ownsRowF_nil _ _ _ _, by simp [Value.ownBlock]⟩
theorem ScAt.under {w w1 w2 : World} {B : Nat} {a : Option Addr} {c : Nat} {l : List UInt8} {i j : Nat} {t u : List UInt8} (h0 : ScAt w B a c l i t) (h1 : ScAt w1 B a c l j u) (hk : Keeps (One B) w w1) (hb : Below w.heap.size w1 w2) : ScAt w2 B a c l j u ∧ Keeps (One B) w w2 := by
 have hk2 : Keeps (One B) w w2 := hk.below hb (Nat.le_refl _)
 exact ⟨h0.moved hk2 j ((hb.block B (lt_of_block h0.blk)).trans h1.blk) h1.fits u h1.left, hk2⟩
theorem builder_below {T e : TypeId} {b0 b : Nat} {bs : List Value} {w w' : World} (h : Lib.IsBuilderF T e b0 b bs w) (hk : Below w.heap.size w w') : Lib.IsBuilderF T e b0 b bs w' := by
 have key : ∀ p, Lib.BuilderAtF T e b0 b p bs w → Lib.BuilderAtF T e b0 b p bs w' := by
  rintro p ⟨h1, v, h2, h3, h4⟩
  refine ⟨h1, v, (hk.block b (lt_of_block h2)).trans h2, ?_, h4⟩
  refine ⟨h3.1, ?_⟩
  rcases h3.2 with h5 | ⟨g, cap, cur, fz, r1, r2, r3, r4⟩
  ·exact .inl h5
  ·exact .inr ⟨g, cap, cur, fz, r1, r2, (hk.block g (lt_of_block r3)).trans r3, r4⟩
 rcases h with h | h
 ·exact .inl (key _ h)
 ·exact .inr (key _ h)
def mixR (q : Option UInt8) (g j A : Nat) (rest : List UInt8) : Except Nat (List UInt8) → Sx (List UInt8)
 | .error p => .no 2 p
 | .ok t => if [38].isPrefixOf rest = true then (refS (j + A) rest).then fun n j t2 => (mixG q g j t2).then fun u k t3 => .ok (t ++ (encB n ++ u)) k t3 else .ok t (j + A) rest
theorem mixG_eq (q : Option UInt8) (g j : Nat) (u : List UInt8) : mixG q (g + 1) j u = mixR q g j (runS q u).length (restS q u) (turnS q j (runS q u)) := by
 rw [mixG]
 cases turnS q j (runS q u) <;> rfl
theorem mixR_ref {q : Option UInt8} {g j A : Nat} {rest t : List UInt8} (h : [38].isPrefixOf rest = true) : mixR q g j A rest (.ok t) = (refS (j + A) rest).then fun n j t2 => (mixG q g j t2).then fun u k t3 => .ok (t ++ (encB n ++ u)) k t3 := if_pos h
theorem mixR_end {q : Option UInt8} {g j A : Nat} {rest t : List UInt8} (h : [38].isPrefixOf rest = false) : mixR q g j A rest (.ok t) = .ok t (j + A) rest := if_neg (by rw [h]; exact Bool.false_ne_true)
theorem run_rest (q : Option UInt8) (r : List UInt8) : runS q r ++ restS q r = r := List.takeWhile_append_dropWhile
theorem then_nil (s : Sx (List UInt8)) : (s.then fun y k t => .ok ([] ++ y) k t) = s := by cases s <;> rfl
theorem turn_len {q : Option UInt8} {i : Nat} {run t : List UInt8} (h : turnS q i run = .ok t) : t.length ≤ run.length := by
 cases q with
 | none =>
  rw [turnS_none] at h
  cases ha : atS [93, 93, 62] run with
  | none => rw [ha] at h; cases h; exact eols_le run
  | some k => rw [ha] at h; cases h
 | some x =>
  cases h
  show (flatS run).length ≤ _
  unfold flatS
  rw [List.length_map]
  exact eols_le run
set_option maxRecDepth 100000 in
theorem mixC_calls {w : World} {B : Nat} {a : Option Addr} {c : Nat} {l : List UInt8} {i : Nat} {t : List UInt8} (h : ScAt w B a c l i t) (hE : EnvAt w) (hB : 15 ≤ B) (cb : Nat) (hcb : cb ≠ B) (hcl : w.cell? ⟨cb, 0, none⟩ = some (.pointer (some ⟨B, 0, none⟩))) : Calls Tryz.prog 132 #[.pointer (some ⟨B, 0, none⟩), .string (strB [60]), .func (.func 133) #[] #[.pointer (some ⟨cb, 0, none⟩)]] w (ScOut w B a c l (fun y => .string (strB y)) (mixS none i t)) := by
 obtain ⟨Q, hQ⟩ : ∃ Q, mixS none i t = Q := ⟨_, rfl⟩
 rw [hQ]
 obtain ⟨n, hn⟩ : ∃ n, l.length = n := ⟨_, rfl⟩
 obtain ⟨b0, hb0⟩ : ∃ b, w.heap.size = b := ⟨_, rfl⟩
 have hBb : B < b0 := by rw [← hb0]; exact lt_of_block h.blk
 have hfew := h.few
 rw [hn] at hfew
 have HS := hid h
 have HE := hid hE
 have HNL := hid hn
 have HB0 := hid hb0
 have HCL := hid hcl
 have HQ0 : Hid (Q = (mixG none (t.length + 1) i t).then fun y k t3 => .ok ([] ++ y) k t3) := hid (by rw [then_nil, ← hQ]; rfl)
 obtain ⟨G, hG⟩ : ∃ G, t.length = G := ⟨_, rfl⟩
 have HG := hid hG
 obtain ⟨es, hes⟩ : ∃ es, strB [60] = es := ⟨_, rfl⟩
 have HCAT : Hid (∃ ms : ByteArray, es ++ ⟨#[38]⟩ = ms ∧ ms.data.toList = charsL none) := hid ⟨_, rfl, by rw [← hes]; rfl⟩
 obtain ⟨ms, hcat, hms⟩ := HCAT.out
 have hesz : es.size = 1 := by rw [← hes]; rfl
 have HMS := hid hms
 have HTURN : Hid (∀ W j u run, ScAt W B a c l j u → Keeps (One B) w W → run.length ≤ 65536 → Calls Tryz.prog 133 #[.string (strB run), .pointer (some ⟨cb, 0, none⟩)] W (TurnOut (turnS none j run) W)) := hid (fun W j u run hs hk hr => turnC_calls run W cb B j hr (by have := hs.fits; have := hs.few; omega) (HE.out.keeps hk hB) (cell_keeps HCL.out hk hcb) hs.cells.2)
 have HIDX : Hid (∀ W j u, ScAt W B a c l j u → Keeps (One B) w W → Calls Tryz.prog 159 #[.slice (tailA a c j) (n - j) (c - j), .string ms] W (Leaves (.int .i64 (idxZ none u)) W)) := hid (fun W j u hs hk => by
  obtain ⟨h1, _, h4⟩ := hs.tail j hs.fits
  have hl := hs.len
  rw [← hs.left] at h1
  have hu : l.length - j = u.length := by omega
  rw [hu] at h1 h4
  have h := idx_calls (HE.out.keeps hk hB) none (fun y hy => by cases hy) ms HMS.out (tailA a c j) (c - j) u (by have := hs.few; omega) h1 h4
  rw [← HNL.out, hu]
  exact h)
 rw [hes]
 clear h hn hE hQ hb0 hG hes hms HCAT hcl
 go_enter Tryz.func132, Tryz.ntmps132
 go_wp2_with fail
 rw [HB0.out]
 have HW1 : Hid (ScAt (w.alloc (.cells #[.pointer none, .slice none 0 0] 70)) B a c l i t ∧ Keeps (One B) w (w.alloc (.cells #[.pointer none, .slice none 0 0] 70)) ∧ Lib.IsBuilderF 70 5 b0 b0 (Lib.byteCells []) (w.alloc (.cells #[.pointer none, .slice none 0 0] 70))) := hid (by
  have hb : Below w.heap.size w (w.alloc (.cells #[.pointer none, .slice none 0 0] 70)) := (Below.refl _ _).alloc (Nat.le_refl _) _
  refine ⟨HS.out.keep hb, keeps_below hb _, ?_⟩
  have := builder_new 70 w
  rw [HB0.out] at this
  exact this)
 obtain ⟨w1, hw1⟩ : ∃ W, w.alloc (.cells #[.pointer none, .slice none 0 0] 70) = W := ⟨_, rfl⟩
 rw [hw1] at HW1 ⊢
 clear hw1
 go_loopg [] (G + 1) (fun gk wr => ∃ j u acc, u.length + 1 ≤ gk ∧ i ≤ j ∧ acc.length ≤ 4 * j ∧ Q = ((mixG none gk j u).then fun y k t3 => .ok (acc ++ y) k t3) ∧ ScAt wr B a c l j u ∧ Keeps (One B) w wr ∧ Lib.IsBuilderF 70 5 b0 b0 (Lib.byteCells acc) wr)
 case atStart => exact ⟨i, t, [], by rw [HG.out]; exact Nat.le_refl _, Nat.le_refl _, Nat.zero_le _, by rw [← HG.out]; exact HQ0.out, HW1.out.1, HW1.out.2.1, HW1.out.2.2⟩
 case round =>
  obtain ⟨j, u, acc, hg, hij, hal, hq, hs, hk, hbu⟩ := hrel
  obtain ⟨g, rfl⟩ : ∃ g, gk = g + 1 := ⟨gk - 1, by omega⟩
  have hfit := hs.fits
  have hcap := hs.cap
  have hlen := hs.len
  obtain ⟨y0, y1⟩ := hs.cells
  rw [HNL.out] at y0 hfit hcap hlen
  have HS1 := hid hs
  have HK1 := hid hk
  have HBU1 := hid hbu
  have HQ1 := hid hq
  have hq0 : (0 : Int) ≤ (j : Int) := by omega
  have hq1 : (j : Int) ≤ (n : Int) := by omega
  obtain ⟨ta, hta⟩ : ∃ ta, (if c = j then a else Option.map (fun x => x.add j) a) = ta := ⟨_, rfl⟩
  have hta2 : tailA a c j = ta := hta
  have HTAE := hid hta
  have HTA := hid hta2
  have HIDX1 : Hid (∀ k, Calls Tryz.prog 159 #[.slice ta (n - j) (c - j), .string ms] (wr.drewN k) (Leaves (.int .i64 (idxZ none u)) (wr.drewN k))) := hid (fun k => by rw [← HTA.out]; exact HIDX.out _ j u (HS1.out.drawn k) (HK1.out.drewN k))
  have hrr := run_rest none u
  have HRR := hid hrr
  obtain ⟨run, hrun⟩ : ∃ r, runS none u = r := ⟨_, rfl⟩
  obtain ⟨rest, hrest⟩ : ∃ r, restS none u = r := ⟨_, rfl⟩
  have hmx : mixG none (g + 1) j u = mixR none g j run.length rest (turnS none j run) := by rw [mixG_eq, hrun, hrest]
  have HMX := hid hmx
  have hidz : idxZ none u = if rest = [] then -1 else (run.length : Int) := by unfold idxZ; rw [hrun, hrest]
  rw [hidz] at HIDX1
  rw [hrun, hrest] at hrr
  have hul := congrArg List.length hrr
  rw [List.length_append] at hul
  obtain ⟨A, hA⟩ : ∃ A, run.length = A := ⟨_, rfl⟩
  rw [hA] at hul
  have HRUN : Hid (u.take A = run) := hid (by rw [← hrr, List.take_left' hA])
  have HREST : Hid (u.drop A = rest) := hid (by rw [← hrr, List.drop_left' hA])
  have HAL := hid hA
  have HCONV : Hid (∀ W, Keeps (One B) w W → ScAt W B a c l j u → (convert 43 9 (.slice ta A (c - j))).run Tryz.prog W = .ok (.string (strB run)) W) := hid (fun W hk hs => by
   have := hs.conv j A (c - j) (by rw [HNL.out]; omega)
   rw [← hs.left, HRUN.out, HTA.out] at this
   exact this)
  have hadd : IntKind.i64.wrap ((j : Int) + (A : Int)) = ((j + A : Nat) : Int) := IntWalk.i64_in _ (by omega)
  rw [hA] at HIDX1
  clear hq hs hk hbu hta hta2 hrr hmx hidz hA HW1 HQ0 HG
  go_wp2_with fail
  go_quiet (fail)
  rw [HTAE.out]
  have HI := hid (HIDX1.out nq)
  have HS2 := hid (HS1.out.drawn nq)
  have HK2 : Hid (Keeps (One B) w (wr.drewN nq)) := hid (HK1.out.drewN nq)
  have HBU2 := hid (builder_below HBU1.out (⟨rfl, rfl, rfl, Nat.le_refl _, fun _ _ => rfl⟩ : Below wr.heap.size wr (wr.drewN nq)))
  by_cases hr0 : rest = []
  ·rw [if_pos hr0] at HI
   have hjn : n - j = A := by rw [hr0, List.length_nil] at hul; omega
   rw [hjn] at HI
   go_wp2_with fail
   with_reducible refine HI.out.mono ?_
   rintro e w2 ⟨rfl, hb⟩
   have HS3 := hid (HS2.out.keep hb)
   have HK3 : Hid (Keeps (One B) w w2) := hid (HK2.out.trans (keeps_below hb Non) (fresh_non _ _))
   have HBU3 := hid (builder_below HBU2.out hb)
   have hcv := HCONV.out w2 HK3.out HS3.out
   have HT := hid (HTURN.out w2 j u run HS3.out HK3.out (by have := HAL.out; omega))
   clear hb
   obtain ⟨tr, htr⟩ : ∃ tr, turnS none j run = tr := ⟨_, rfl⟩
   have HQ3 : Hid (Q = (mixR none g j A rest tr).then fun y k t3 => .ok (acc ++ y) k t3) := hid (by rw [HQ1.out, HMX.out, ← htr, HAL.out])
   rw [htr] at HT
   have HTL : Hid (∀ tt, tr = .ok tt → tt.length ≤ A) := hid (fun tt h => by
    have := turn_len (htr.trans h)
    rwa [HAL.out] at this)
   clear htr HIDX1 HI HMX
   cases tr with
   | error p =>
    have HF : Hid (∀ W, Below w2.heap.size w2 W → ScOut w B a c l (fun y => .string (strB y)) Q (.panicked [{ v := wrongV 2 p, recovered := false }]) W) := hid (fun W hb => by
     rw [HQ3.out]
     exact ⟨rfl, HK3.out.trans (keeps_below hb Non) (fresh_non _ _)⟩)
    go_wp2_with fail
    with_reducible refine HT.out.mono ?_
    rintro e w3 ⟨he, hb⟩
    dsimp only at he
    subst he
    have HF1 := hid (HF.out w3 hb)
    clear hb
    go_wp2_with fail
    exact ⟨rfl, HF1.out⟩
   | ok tt =>
    have htl := HTL.out tt rfl
    go_wp2_with fail
    with_reducible refine HT.out.mono ?_
    rintro e w3 ⟨he, hb⟩
    dsimp only at he
    subst he
    have HS4 := hid (HS3.out.keep hb)
    have HK4 : Hid (Keeps (One B) w w3) := hid (HK3.out.trans (keeps_below hb Non) (fresh_non _ _))
    have HBU4 := hid (builder_below HBU3.out hb)
    clear hb
    have HWS := hid (Tryz.Builder_WriteString_k b0 b0 (Lib.byteCells acc) (strB tt) w3 HBU4.out (by rw [Lib.byteCells_length, strB_size]; omega) (by rw [← HB0.out]; exact HK4.out.size))
    go_wp2_with fail
    with_reducible refine HWS.out.mono ?_
    rintro e w4 ⟨rfl, hbu, hb, _⟩
    rw [← HB0.out] at hb
    obtain ⟨hs5, hk5⟩ := HS.out.under HS4.out HK4.out hb
    have HS5 := hid hs5
    have HK5 := hid hk5
    have HBU5 : Hid (Lib.IsBuilderF 70 5 b0 b0 (Lib.byteCells (acc ++ tt)) w4) := hid (by
     have : Lib.byteCells (acc ++ tt) = Lib.byteCells acc ++ Lib.strCells (strB tt) := List.map_append
     rw [this]
     exact .inr hbu)
    obtain ⟨z0, z1⟩ := hs5.cells
    rw [HNL.out] at z0
    have f1 := unfrozen_of_block hs5.blk 1
    have hpl := hs5.place (j := j + A) (by rw [HNL.out]; omega) (u := rest) (by rw [← HREST.out, hs5.left, List.drop_drop])
    have HS6 := hid hpl.1
    have HK6 : Hid (Keeps (One B) w (w4.setCell ⟨B, 1, none⟩ (.int .i64 ((j + A : Nat) : Int)))) := hid (hk5.trans hpl.2 (fresh_refl _ _))
    have HBU6 := hid (builder_keeps HBU5.out hpl.2 hBb)
    obtain ⟨v0, v1⟩ := hpl.1.cells
    rw [HNL.out] at v0
    obtain ⟨j2, hj2⟩ : ∃ j2, j + A = j2 := ⟨_, rfl⟩
    have HJ2 := hid hj2
    rw [hj2] at hadd HS6 HK6 HBU6 v1
    have hall : (acc ++ tt).length ≤ 4 * j2 := by rw [List.length_append]; omega
    clear hbu hb hs5 hk5 hpl hj2
    have hz : ((j2 : Int) == (n : Int)) = true := by have := HJ2.out; simp; omega
    have hpre : [38].isPrefixOf rest = false := by rw [hr0]; rfl
    have HST : Hid (∀ k, Calls Tryz.prog 38 #[.pointer (some ⟨b0, 0, none⟩)] ((w4.setCell ⟨B, 1, none⟩ (.int .i64 (j2 : Int))).drewN k) (fun e w' => e = .returned (.string (strB (acc ++ tt))) ∧ Below w.heap.size ((w4.setCell ⟨B, 1, none⟩ (.int .i64 (j2 : Int))).drewN k) w')) := hid (fun k => by
     have h1 := builder_below HBU6.out (⟨rfl, rfl, rfl, Nat.le_refl _, fun _ _ => rfl⟩ : Below (w4.setCell ⟨B, 1, none⟩ (.int .i64 (j2 : Int))).heap.size (w4.setCell ⟨B, 1, none⟩ (.int .i64 (j2 : Int))) ((w4.setCell ⟨B, 1, none⟩ (.int .i64 (j2 : Int))).drewN k))
     refine (Tryz.Builder_String_any_k b0 b0 (acc ++ tt) _ h1 (by rw [← HB0.out]; exact HK6.out.size)).mono ?_
     rintro e w' ⟨h2, _, h3, _⟩
     rw [HB0.out]
     exact ⟨h2, h3⟩)
    have HF : Hid (∀ k w', Below w.heap.size ((w4.setCell ⟨B, 1, none⟩ (.int .i64 (j2 : Int))).drewN k) w' → ScOut w B a c l (fun y => .string (strB y)) Q (.returned (.string (strB (acc ++ tt)))) w') := hid (fun k w' hb => by
     rw [HQ3.out]
     rw [mixR_end hpre, Sx.then_ok, HJ2.out]
     have hu := HS.out.under (HS6.out.drawn k) (HK6.out.drewN k) hb
     exact ⟨rfl, hu.1, hu.2⟩)
    clear HQ3 hpre
    go_wp2_with fail
    go_quiet (fail)
    go_wp2_with fail
    with_reducible refine (HST.out _).mono ?_
    rintro e w5 ⟨rfl, hb⟩
    have HF1 := hid (HF.out _ w5 hb)
    clear hb
    go_wp2_with fail
    go_ret
    exact HF1.out
  ·rw [if_neg hr0] at HI
   have hA0 : (0 : Int) ≤ (A : Int) := by omega
   have hA1 : (A : Int) ≤ (c - j : Nat) := by omega
   have hge : decide ((A : Int) ≥ 0) = true := by simp
   go_wp2_with fail
   with_reducible refine HI.out.mono ?_
   rintro e w2 ⟨rfl, hb⟩
   have HS3 := hid (HS2.out.keep hb)
   have HK3 : Hid (Keeps (One B) w w2) := hid (HK2.out.trans (keeps_below hb Non) (fresh_non _ _))
   have HBU3 := hid (builder_below HBU2.out hb)
   have hcv := HCONV.out w2 HK3.out HS3.out
   have HT := hid (HTURN.out w2 j u run HS3.out HK3.out (by have := HAL.out; omega))
   clear hb
   obtain ⟨tr, htr⟩ : ∃ tr, turnS none j run = tr := ⟨_, rfl⟩
   have HQ3 : Hid (Q = (mixR none g j A rest tr).then fun y k t3 => .ok (acc ++ y) k t3) := hid (by rw [HQ1.out, HMX.out, ← htr, HAL.out])
   rw [htr] at HT
   have HTL : Hid (∀ tt, tr = .ok tt → tt.length ≤ A) := hid (fun tt h => by
    have := turn_len (htr.trans h)
    rwa [HAL.out] at this)
   clear htr HIDX1 HI HMX
   cases tr with
   | error p =>
    have HF : Hid (∀ W, Below w2.heap.size w2 W → ScOut w B a c l (fun y => .string (strB y)) Q (.panicked [{ v := wrongV 2 p, recovered := false }]) W) := hid (fun W hb => by
     rw [HQ3.out]
     exact ⟨rfl, HK3.out.trans (keeps_below hb Non) (fresh_non _ _)⟩)
    go_wp2_with fail
    with_reducible refine HT.out.mono ?_
    rintro e w3 ⟨he, hb⟩
    dsimp only at he
    subst he
    have HF1 := hid (HF.out w3 hb)
    clear hb
    go_wp2_with fail
    exact ⟨rfl, HF1.out⟩
   | ok tt =>
    have htl := HTL.out tt rfl
    go_wp2_with fail
    with_reducible refine HT.out.mono ?_
    rintro e w3 ⟨he, hb⟩
    dsimp only at he
    subst he
    have HS4 := hid (HS3.out.keep hb)
    have HK4 : Hid (Keeps (One B) w w3) := hid (HK3.out.trans (keeps_below hb Non) (fresh_non _ _))
    have HBU4 := hid (builder_below HBU3.out hb)
    clear hb
    have HWS := hid (Tryz.Builder_WriteString_k b0 b0 (Lib.byteCells acc) (strB tt) w3 HBU4.out (by rw [Lib.byteCells_length, strB_size]; omega) (by rw [← HB0.out]; exact HK4.out.size))
    go_wp2_with fail
    with_reducible refine HWS.out.mono ?_
    rintro e w4 ⟨rfl, hbu, hb, _⟩
    rw [← HB0.out] at hb
    obtain ⟨hs5, hk5⟩ := HS.out.under HS4.out HK4.out hb
    have HS5 := hid hs5
    have HK5 := hid hk5
    have HBU5 : Hid (Lib.IsBuilderF 70 5 b0 b0 (Lib.byteCells (acc ++ tt)) w4) := hid (by
     have : Lib.byteCells (acc ++ tt) = Lib.byteCells acc ++ Lib.strCells (strB tt) := List.map_append
     rw [this]
     exact .inr hbu)
    obtain ⟨z0, z1⟩ := hs5.cells
    rw [HNL.out] at z0
    have f1 := unfrozen_of_block hs5.blk 1
    have hpl := hs5.place (j := j + A) (by rw [HNL.out]; omega) (u := rest) (by rw [← HREST.out, hs5.left, List.drop_drop])
    have HS6 := hid hpl.1
    have HK6 : Hid (Keeps (One B) w (w4.setCell ⟨B, 1, none⟩ (.int .i64 ((j + A : Nat) : Int)))) := hid (hk5.trans hpl.2 (fresh_refl _ _))
    have HBU6 := hid (builder_keeps HBU5.out hpl.2 hBb)
    obtain ⟨v0, v1⟩ := hpl.1.cells
    rw [HNL.out] at v0
    obtain ⟨j2, hj2⟩ : ∃ j2, j + A = j2 := ⟨_, rfl⟩
    have HJ2 := hid hj2
    rw [hj2] at hadd HS6 HK6 HBU6 v1
    have hall : (acc ++ tt).length ≤ 4 * j2 := by rw [List.length_append]; omega
    clear hbu hb hs5 hk5 hpl hj2
    cases rest with
    | nil => exact absurd rfl hr0
    | cons x1 rest =>
     have hhd := HS6.out.head
     obtain ⟨hlt, hxx, _⟩ := hhd
     rw [HNL.out] at hlt
     have hz : ((j2 : Int) == (n : Int)) = false := by simp; omega
     obtain ⟨bb, oo, rfl⟩ : ∃ b o, a = some ⟨b, o, none⟩ := by
      rcases HS6.out.row with h1 | ⟨b, o, h1, _⟩
      ·rw [HNL.out] at h1; omega
      ·exact ⟨b, o, h1⟩
     have hcell : (w4.setCell ⟨B, 1, none⟩ (.int .i64 (j2 : Int))).cell? ⟨bb, oo + j2, none⟩ = some (.int .u8 (x1.toNat : Int)) := by
      rcases HS6.out.row with h1 | ⟨b, o, h1, _, h3⟩
      ·rw [HNL.out] at h1; omega
      ·cases h1
       rw [h3 j2 (by rw [HNL.out]; exact hlt), hxx]
     by_cases hx38 : x1 = 38
     ·have hne : ((x1.toNat : Int) != 38) = false := by rw [hx38]; rfl
      have hpre : [38].isPrefixOf (x1 :: rest) = true := by rw [hx38]; rfl
      have HREF : Hid (∀ k, Calls Tryz.prog 161 #[.pointer (some ⟨B, 0, none⟩)] ((w4.setCell ⟨B, 1, none⟩ (.int .i64 (j2 : Int))).drewN k) (ScOut ((w4.setCell ⟨B, 1, none⟩ (.int .i64 (j2 : Int))).drewN k) B (some ⟨bb, oo, none⟩) c l (fun v : Nat => .int .i32 (v : Int)) (refS j2 (x1 :: rest)))) := hid (fun k => ref_calls (HS6.out.drawn k) (HE.out.keeps (HK6.out.drewN k) hB) hB)
      have HQ4 : Hid (Q = (refS j2 (x1 :: rest)).then fun n j t2 => ((mixG none g j t2).then fun u k t3 => .ok (tt ++ (encB n ++ u)) k t3).then fun y k t3 => .ok (acc ++ y) k t3) := hid (by
       rw [HQ3.out]
       rw [mixR_ref hpre, HJ2.out]
       cases refS j2 (x1 :: rest) <;> rfl)
      obtain ⟨rr, hrr⟩ : ∃ r, refS j2 (x1 :: rest) = r := ⟨_, rfl⟩
      rw [hrr] at HREF HQ4
      cases rr with
      | no cd p =>
       have HF : Hid (∀ k w', Keeps (One B) ((w4.setCell ⟨B, 1, none⟩ (.int .i64 (j2 : Int))).drewN k) w' → ScOut w B (some ⟨bb, oo, none⟩) c l (fun y => .string (strB y)) Q (.panicked [{ v := wrongV cd p, recovered := false }]) w') := hid (fun k w' hk => by
        rw [HQ4.out]
        exact ⟨rfl, (HK6.out.drewN k).trans hk (fresh_refl _ _)⟩)
       clear hx38 hpre hrr HQ3
       go_wp2_with fail
       go_quiet (fail)
       go_wp2_with fail
       with_reducible refine (HREF.out _).mono ?_
       rintro e w5 ⟨rfl, hk⟩
       have HF1 := hid (HF.out _ w5 hk)
       clear hk
       go_wp2_with fail
       exact ⟨rfl, HF1.out⟩
      | ok v j3 u3 =>
       obtain ⟨hch, hj3⟩ := refS_char hrr
       obtain ⟨hrc, hr4, hrm⟩ := rune_cells hch
       have HRC := hid hrc
       clear hx38 hpre hrr HQ3 hch hrc
       go_wp2_with fail
       go_quiet (fail)
       go_wp2_with fail
       with_reducible refine (HREF.out _).mono ?_
       rintro e w5 ⟨rfl, hs7, hk7⟩
       have HS7 := hid hs7
       have HK7 : Hid (Keeps (One B) w w5) := hid ((HK6.out.drewN _).trans hk7 (fresh_refl _ _))
       have HBU7 := hid (builder_keeps (builder_below HBU6.out (⟨rfl, rfl, rfl, Nat.le_refl _, fun _ _ => rfl⟩ : Below (w4.setCell ⟨B, 1, none⟩ (.int .i64 (j2 : Int))).heap.size (w4.setCell ⟨B, 1, none⟩ (.int .i64 (j2 : Int))) ((w4.setCell ⟨B, 1, none⟩ (.int .i64 (j2 : Int))).drewN _))) hk7 hBb)
       have hf7 := hs7.fits
       have hl7 := hs7.len
       rw [HNL.out] at hf7 hl7
       clear hs7 hk7
       have HWR := hid (Tryz.Builder_WriteRune_k b0 b0 (Lib.byteCells (acc ++ tt)) (v : Int) (by omega) (by omega) w5 HBU7.out (by rw [Lib.byteCells_length]; omega) (by rw [← HB0.out]; exact HK7.out.size))
       go_wp2_with fail
       with_reducible refine HWR.out.mono ?_
       rintro e w6 ⟨rfl, hbu, hb, _⟩
       rw [← HB0.out] at hb
       obtain ⟨hs8, hk8⟩ := HS.out.under HS7.out HK7.out hb
       have HS8 := hid hs8
       have HK8 := hid hk8
       have HBU8 : Hid (Lib.IsBuilderF 70 5 b0 b0 (Lib.byteCells (acc ++ tt ++ encB v)) w6) := hid (by
        have : Lib.byteCells (acc ++ tt ++ encB v) = Lib.byteCells (acc ++ tt) ++ Lib.runeCells (v : Int) := by rw [HRC.out]; exact List.map_append
        rw [this]
        exact .inr hbu)
       have HQ8 : Hid (Q = (mixG none g j3 u3).then fun y k t3 => .ok (acc ++ tt ++ encB v ++ y) k t3) := hid (by
        rw [HQ4.out, Sx.then_ok]
        cases mixG none g j3 u3 with
        | no cd p => rfl
        | ok y k t3 =>
         show Sx.ok (acc ++ (tt ++ (encB v ++ y))) k t3 = Sx.ok (acc ++ tt ++ encB v ++ y) k t3
         simp only [List.append_assoc])
       have hul8 : (x1 :: rest).length = rest.length + 1 := rfl
       clear hbu hb hs8 hk8
       go_wp2_with fail
       go_roundg g
       case measure => omega
       case rel => exact ⟨j3, u3, acc ++ tt ++ encB v, by have := HJ2.out; omega, by have := HJ2.out; omega, by rw [List.length_append]; omega, HQ8.out, HS8.out, HK8.out, HBU8.out⟩
     ·have hne : ((x1.toNat : Int) != 38) = true := by
       simp only [bne_iff_ne, ne_eq]
       exact fun h => hx38 (UInt8.toNat_inj.1 (by have : (38 : UInt8).toNat = 38 := rfl; omega))
      have hpre : [38].isPrefixOf (x1 :: rest) = false := by
       show ((38 : UInt8) == x1 && true) = false
       rw [Bool.and_true]
       exact beq_eq_false_iff_ne.2 (fun h => hx38 h.symm)
      have HST : Hid (∀ k, Calls Tryz.prog 38 #[.pointer (some ⟨b0, 0, none⟩)] ((w4.setCell ⟨B, 1, none⟩ (.int .i64 (j2 : Int))).drewN k) (fun e w' => e = .returned (.string (strB (acc ++ tt))) ∧ Below w.heap.size ((w4.setCell ⟨B, 1, none⟩ (.int .i64 (j2 : Int))).drewN k) w')) := hid (fun k => by
       have h1 := builder_below HBU6.out (⟨rfl, rfl, rfl, Nat.le_refl _, fun _ _ => rfl⟩ : Below (w4.setCell ⟨B, 1, none⟩ (.int .i64 (j2 : Int))).heap.size (w4.setCell ⟨B, 1, none⟩ (.int .i64 (j2 : Int))) ((w4.setCell ⟨B, 1, none⟩ (.int .i64 (j2 : Int))).drewN k))
       refine (Tryz.Builder_String_any_k b0 b0 (acc ++ tt) _ h1 (by rw [← HB0.out]; exact HK6.out.size)).mono ?_
       rintro e w' ⟨h2, _, h3, _⟩
       rw [HB0.out]
       exact ⟨h2, h3⟩)
      have HF : Hid (∀ k w', Below w.heap.size ((w4.setCell ⟨B, 1, none⟩ (.int .i64 (j2 : Int))).drewN k) w' → ScOut w B (some ⟨bb, oo, none⟩) c l (fun y => .string (strB y)) Q (.returned (.string (strB (acc ++ tt)))) w') := hid (fun k w' hb => by
       rw [HQ3.out]
       rw [mixR_end hpre, Sx.then_ok, HJ2.out]
       have hu := HS.out.under (HS6.out.drawn k) (HK6.out.drewN k) hb
       exact ⟨rfl, hu.1, hu.2⟩)
      clear HQ3 hpre
      go_wp2_with fail
      go_quiet (fail)
      go_wp2_with fail
      with_reducible refine (HST.out _).mono ?_
      rintro e w5 ⟨rfl, hb⟩
      have HF1 := hid (HF.out _ w5 hb)
      clear hb
      go_wp2_with fail
      go_ret
      exact HF1.out
set_option maxRecDepth 100000 in
theorem mixV_calls {w : World} {B : Nat} {a : Option Addr} {c : Nat} {l : List UInt8} {i : Nat} {t : List UInt8} (h : ScAt w B a c l i t) (hE : EnvAt w) (hB : 15 ≤ B) (x : UInt8) (hx : x = 34 ∨ x = 39) : Calls Tryz.prog 132 #[.pointer (some ⟨B, 0, none⟩), .string (strB [60, x]), .func (.func 182) #[] #[]] w (ScOut w B a c l (fun y => .string (strB y)) (mixS (some x) i t)) := by
 obtain ⟨Q, hQ⟩ : ∃ Q, mixS (some x) i t = Q := ⟨_, rfl⟩
 rw [hQ]
 obtain ⟨n, hn⟩ : ∃ n, l.length = n := ⟨_, rfl⟩
 obtain ⟨b0, hb0⟩ : ∃ b, w.heap.size = b := ⟨_, rfl⟩
 have hBb : B < b0 := by rw [← hb0]; exact lt_of_block h.blk
 have hfew := h.few
 rw [hn] at hfew
 have HS := hid h
 have HE := hid hE
 have HNL := hid hn
 have HB0 := hid hb0
 have HX := hid hx
 have HQ0 : Hid (Q = (mixG (some x) (t.length + 1) i t).then fun y k t3 => .ok ([] ++ y) k t3) := hid (by rw [then_nil, ← hQ]; rfl)
 obtain ⟨G, hG⟩ : ∃ G, t.length = G := ⟨_, rfl⟩
 have HG := hid hG
 obtain ⟨es, hes⟩ : ∃ es, strB [60, x] = es := ⟨_, rfl⟩
 have HCAT : Hid (∃ ms : ByteArray, es ++ ⟨#[38]⟩ = ms ∧ ms.data.toList = charsL (some x)) := hid ⟨_, rfl, by rw [← hes]; rfl⟩
 obtain ⟨ms, hcat, hms⟩ := HCAT.out
 have hesz : es.size = 2 := by rw [← hes]; rfl
 have HMS := hid hms
 have HTURN : Hid (∀ W j u run, ScAt W B a c l j u → Keeps (One B) w W → run.length ≤ 65536 → Calls Tryz.prog 182 #[.string (strB run)] W (TurnOut (turnS (some x) j run) W)) := hid (fun W j u run hs hk hr => ((turnV_calls run W (by omega) (HE.out.keeps hk hB)).mono fun e w' h => ⟨h.1, h.2⟩))
 have HIDX : Hid (∀ W j u, ScAt W B a c l j u → Keeps (One B) w W → Calls Tryz.prog 159 #[.slice (tailA a c j) (n - j) (c - j), .string ms] W (Leaves (.int .i64 (idxZ (some x) u)) W)) := hid (fun W j u hs hk => by
  obtain ⟨h1, _, h4⟩ := hs.tail j hs.fits
  have hl := hs.len
  rw [← hs.left] at h1
  have hu : l.length - j = u.length := by omega
  rw [hu] at h1 h4
  have h := idx_calls (HE.out.keeps hk hB) (some x) (fun y hy => by cases hy; exact hx) ms HMS.out (tailA a c j) (c - j) u (by have := hs.few; omega) h1 h4
  rw [← HNL.out, hu]
  exact h)
 rw [hes]
 clear h hn hE hQ hb0 hG hes hms HCAT hx
 go_enter Tryz.func132, Tryz.ntmps132
 go_wp2_with fail
 rw [HB0.out]
 have HW1 : Hid (ScAt (w.alloc (.cells #[.pointer none, .slice none 0 0] 70)) B a c l i t ∧ Keeps (One B) w (w.alloc (.cells #[.pointer none, .slice none 0 0] 70)) ∧ Lib.IsBuilderF 70 5 b0 b0 (Lib.byteCells []) (w.alloc (.cells #[.pointer none, .slice none 0 0] 70))) := hid (by
  have hb : Below w.heap.size w (w.alloc (.cells #[.pointer none, .slice none 0 0] 70)) := (Below.refl _ _).alloc (Nat.le_refl _) _
  refine ⟨HS.out.keep hb, keeps_below hb _, ?_⟩
  have := builder_new 70 w
  rw [HB0.out] at this
  exact this)
 obtain ⟨w1, hw1⟩ : ∃ W, w.alloc (.cells #[.pointer none, .slice none 0 0] 70) = W := ⟨_, rfl⟩
 rw [hw1] at HW1 ⊢
 clear hw1
 go_loopg [] (G + 1) (fun gk wr => ∃ j u acc, u.length + 1 ≤ gk ∧ i ≤ j ∧ acc.length ≤ 4 * j ∧ Q = ((mixG (some x) gk j u).then fun y k t3 => .ok (acc ++ y) k t3) ∧ ScAt wr B a c l j u ∧ Keeps (One B) w wr ∧ Lib.IsBuilderF 70 5 b0 b0 (Lib.byteCells acc) wr)
 case atStart => exact ⟨i, t, [], by rw [HG.out]; exact Nat.le_refl _, Nat.le_refl _, Nat.zero_le _, by rw [← HG.out]; exact HQ0.out, HW1.out.1, HW1.out.2.1, HW1.out.2.2⟩
 case round =>
  obtain ⟨j, u, acc, hg, hij, hal, hq, hs, hk, hbu⟩ := hrel
  obtain ⟨g, rfl⟩ : ∃ g, gk = g + 1 := ⟨gk - 1, by omega⟩
  have hfit := hs.fits
  have hcap := hs.cap
  have hlen := hs.len
  obtain ⟨y0, y1⟩ := hs.cells
  rw [HNL.out] at y0 hfit hcap hlen
  have HS1 := hid hs
  have HK1 := hid hk
  have HBU1 := hid hbu
  have HQ1 := hid hq
  have hq0 : (0 : Int) ≤ (j : Int) := by omega
  have hq1 : (j : Int) ≤ (n : Int) := by omega
  obtain ⟨ta, hta⟩ : ∃ ta, (if c = j then a else Option.map (fun x => x.add j) a) = ta := ⟨_, rfl⟩
  have hta2 : tailA a c j = ta := hta
  have HTAE := hid hta
  have HTA := hid hta2
  have HIDX1 : Hid (∀ k, Calls Tryz.prog 159 #[.slice ta (n - j) (c - j), .string ms] (wr.drewN k) (Leaves (.int .i64 (idxZ (some x) u)) (wr.drewN k))) := hid (fun k => by rw [← HTA.out]; exact HIDX.out _ j u (HS1.out.drawn k) (HK1.out.drewN k))
  have hrr := run_rest (some x) u
  have HRR := hid hrr
  obtain ⟨run, hrun⟩ : ∃ r, runS (some x) u = r := ⟨_, rfl⟩
  obtain ⟨rest, hrest⟩ : ∃ r, restS (some x) u = r := ⟨_, rfl⟩
  have hmx : mixG (some x) (g + 1) j u = mixR (some x) g j run.length rest (turnS (some x) j run) := by rw [mixG_eq, hrun, hrest]
  have HMX := hid hmx
  have hidz : idxZ (some x) u = if rest = [] then -1 else (run.length : Int) := by unfold idxZ; rw [hrun, hrest]
  rw [hidz] at HIDX1
  rw [hrun, hrest] at hrr
  have hul := congrArg List.length hrr
  rw [List.length_append] at hul
  obtain ⟨A, hA⟩ : ∃ A, run.length = A := ⟨_, rfl⟩
  rw [hA] at hul
  have HRUN : Hid (u.take A = run) := hid (by rw [← hrr, List.take_left' hA])
  have HREST : Hid (u.drop A = rest) := hid (by rw [← hrr, List.drop_left' hA])
  have HAL := hid hA
  have HCONV : Hid (∀ W, Keeps (One B) w W → ScAt W B a c l j u → (convert 43 9 (.slice ta A (c - j))).run Tryz.prog W = .ok (.string (strB run)) W) := hid (fun W hk hs => by
   have := hs.conv j A (c - j) (by rw [HNL.out]; omega)
   rw [← hs.left, HRUN.out, HTA.out] at this
   exact this)
  have hadd : IntKind.i64.wrap ((j : Int) + (A : Int)) = ((j + A : Nat) : Int) := IntWalk.i64_in _ (by omega)
  rw [hA] at HIDX1
  clear hq hs hk hbu hta hta2 hrr hmx hidz hA HW1 HQ0 HG
  go_wp2_with fail
  go_quiet (fail)
  rw [HTAE.out]
  have HI := hid (HIDX1.out nq)
  have HS2 := hid (HS1.out.drawn nq)
  have HK2 : Hid (Keeps (One B) w (wr.drewN nq)) := hid (HK1.out.drewN nq)
  have HBU2 := hid (builder_below HBU1.out (⟨rfl, rfl, rfl, Nat.le_refl _, fun _ _ => rfl⟩ : Below wr.heap.size wr (wr.drewN nq)))
  by_cases hr0 : rest = []
  ·rw [if_pos hr0] at HI
   have hjn : n - j = A := by rw [hr0, List.length_nil] at hul; omega
   rw [hjn] at HI
   go_wp2_with fail
   with_reducible refine HI.out.mono ?_
   rintro e w2 ⟨rfl, hb⟩
   have HS3 := hid (HS2.out.keep hb)
   have HK3 : Hid (Keeps (One B) w w2) := hid (HK2.out.trans (keeps_below hb Non) (fresh_non _ _))
   have HBU3 := hid (builder_below HBU2.out hb)
   have hcv := HCONV.out w2 HK3.out HS3.out
   have HT := hid (HTURN.out w2 j u run HS3.out HK3.out (by have := HAL.out; omega))
   clear hb
   obtain ⟨tr, htr⟩ : ∃ tr, turnS (some x) j run = tr := ⟨_, rfl⟩
   have HQ3 : Hid (Q = (mixR (some x) g j A rest tr).then fun y k t3 => .ok (acc ++ y) k t3) := hid (by rw [HQ1.out, HMX.out, ← htr, HAL.out])
   rw [htr] at HT
   have HTL : Hid (∀ tt, tr = .ok tt → tt.length ≤ A) := hid (fun tt h => by
    have := turn_len (htr.trans h)
    rwa [HAL.out] at this)
   clear htr HIDX1 HI HMX
   cases tr with
   | error p =>
    have HF : Hid (∀ W, Below w2.heap.size w2 W → ScOut w B a c l (fun y => .string (strB y)) Q (.panicked [{ v := wrongV 2 p, recovered := false }]) W) := hid (fun W hb => by
     rw [HQ3.out]
     exact ⟨rfl, HK3.out.trans (keeps_below hb Non) (fresh_non _ _)⟩)
    go_wp2_with fail
    with_reducible refine HT.out.mono ?_
    rintro e w3 ⟨he, hb⟩
    dsimp only at he
    subst he
    have HF1 := hid (HF.out w3 hb)
    clear hb
    go_wp2_with fail
    exact ⟨rfl, HF1.out⟩
   | ok tt =>
    have htl := HTL.out tt rfl
    go_wp2_with fail
    with_reducible refine HT.out.mono ?_
    rintro e w3 ⟨he, hb⟩
    dsimp only at he
    subst he
    have HS4 := hid (HS3.out.keep hb)
    have HK4 : Hid (Keeps (One B) w w3) := hid (HK3.out.trans (keeps_below hb Non) (fresh_non _ _))
    have HBU4 := hid (builder_below HBU3.out hb)
    clear hb
    have HWS := hid (Tryz.Builder_WriteString_k b0 b0 (Lib.byteCells acc) (strB tt) w3 HBU4.out (by rw [Lib.byteCells_length, strB_size]; omega) (by rw [← HB0.out]; exact HK4.out.size))
    go_wp2_with fail
    with_reducible refine HWS.out.mono ?_
    rintro e w4 ⟨rfl, hbu, hb, _⟩
    rw [← HB0.out] at hb
    obtain ⟨hs5, hk5⟩ := HS.out.under HS4.out HK4.out hb
    have HS5 := hid hs5
    have HK5 := hid hk5
    have HBU5 : Hid (Lib.IsBuilderF 70 5 b0 b0 (Lib.byteCells (acc ++ tt)) w4) := hid (by
     have : Lib.byteCells (acc ++ tt) = Lib.byteCells acc ++ Lib.strCells (strB tt) := List.map_append
     rw [this]
     exact .inr hbu)
    obtain ⟨z0, z1⟩ := hs5.cells
    rw [HNL.out] at z0
    have f1 := unfrozen_of_block hs5.blk 1
    have hpl := hs5.place (j := j + A) (by rw [HNL.out]; omega) (u := rest) (by rw [← HREST.out, hs5.left, List.drop_drop])
    have HS6 := hid hpl.1
    have HK6 : Hid (Keeps (One B) w (w4.setCell ⟨B, 1, none⟩ (.int .i64 ((j + A : Nat) : Int)))) := hid (hk5.trans hpl.2 (fresh_refl _ _))
    have HBU6 := hid (builder_keeps HBU5.out hpl.2 hBb)
    obtain ⟨v0, v1⟩ := hpl.1.cells
    rw [HNL.out] at v0
    obtain ⟨j2, hj2⟩ : ∃ j2, j + A = j2 := ⟨_, rfl⟩
    have HJ2 := hid hj2
    rw [hj2] at hadd HS6 HK6 HBU6 v1
    have hall : (acc ++ tt).length ≤ 4 * j2 := by rw [List.length_append]; omega
    clear hbu hb hs5 hk5 hpl hj2
    have hz : ((j2 : Int) == (n : Int)) = true := by have := HJ2.out; simp; omega
    have hpre : [38].isPrefixOf rest = false := by rw [hr0]; rfl
    have HST : Hid (∀ k, Calls Tryz.prog 38 #[.pointer (some ⟨b0, 0, none⟩)] ((w4.setCell ⟨B, 1, none⟩ (.int .i64 (j2 : Int))).drewN k) (fun e w' => e = .returned (.string (strB (acc ++ tt))) ∧ Below w.heap.size ((w4.setCell ⟨B, 1, none⟩ (.int .i64 (j2 : Int))).drewN k) w')) := hid (fun k => by
     have h1 := builder_below HBU6.out (⟨rfl, rfl, rfl, Nat.le_refl _, fun _ _ => rfl⟩ : Below (w4.setCell ⟨B, 1, none⟩ (.int .i64 (j2 : Int))).heap.size (w4.setCell ⟨B, 1, none⟩ (.int .i64 (j2 : Int))) ((w4.setCell ⟨B, 1, none⟩ (.int .i64 (j2 : Int))).drewN k))
     refine (Tryz.Builder_String_any_k b0 b0 (acc ++ tt) _ h1 (by rw [← HB0.out]; exact HK6.out.size)).mono ?_
     rintro e w' ⟨h2, _, h3, _⟩
     rw [HB0.out]
     exact ⟨h2, h3⟩)
    have HF : Hid (∀ k w', Below w.heap.size ((w4.setCell ⟨B, 1, none⟩ (.int .i64 (j2 : Int))).drewN k) w' → ScOut w B a c l (fun y => .string (strB y)) Q (.returned (.string (strB (acc ++ tt)))) w') := hid (fun k w' hb => by
     rw [HQ3.out]
     rw [mixR_end hpre, Sx.then_ok, HJ2.out]
     have hu := HS.out.under (HS6.out.drawn k) (HK6.out.drewN k) hb
     exact ⟨rfl, hu.1, hu.2⟩)
    clear HQ3 hpre
    go_wp2_with fail
    go_quiet (fail)
    go_wp2_with fail
    with_reducible refine (HST.out _).mono ?_
    rintro e w5 ⟨rfl, hb⟩
    have HF1 := hid (HF.out _ w5 hb)
    clear hb
    go_wp2_with fail
    go_ret
    exact HF1.out
  ·rw [if_neg hr0] at HI
   have hA0 : (0 : Int) ≤ (A : Int) := by omega
   have hA1 : (A : Int) ≤ (c - j : Nat) := by omega
   have hge : decide ((A : Int) ≥ 0) = true := by simp
   go_wp2_with fail
   with_reducible refine HI.out.mono ?_
   rintro e w2 ⟨rfl, hb⟩
   have HS3 := hid (HS2.out.keep hb)
   have HK3 : Hid (Keeps (One B) w w2) := hid (HK2.out.trans (keeps_below hb Non) (fresh_non _ _))
   have HBU3 := hid (builder_below HBU2.out hb)
   have hcv := HCONV.out w2 HK3.out HS3.out
   have HT := hid (HTURN.out w2 j u run HS3.out HK3.out (by have := HAL.out; omega))
   clear hb
   obtain ⟨tr, htr⟩ : ∃ tr, turnS (some x) j run = tr := ⟨_, rfl⟩
   have HQ3 : Hid (Q = (mixR (some x) g j A rest tr).then fun y k t3 => .ok (acc ++ y) k t3) := hid (by rw [HQ1.out, HMX.out, ← htr, HAL.out])
   rw [htr] at HT
   have HTL : Hid (∀ tt, tr = .ok tt → tt.length ≤ A) := hid (fun tt h => by
    have := turn_len (htr.trans h)
    rwa [HAL.out] at this)
   clear htr HIDX1 HI HMX
   cases tr with
   | error p =>
    have HF : Hid (∀ W, Below w2.heap.size w2 W → ScOut w B a c l (fun y => .string (strB y)) Q (.panicked [{ v := wrongV 2 p, recovered := false }]) W) := hid (fun W hb => by
     rw [HQ3.out]
     exact ⟨rfl, HK3.out.trans (keeps_below hb Non) (fresh_non _ _)⟩)
    go_wp2_with fail
    with_reducible refine HT.out.mono ?_
    rintro e w3 ⟨he, hb⟩
    dsimp only at he
    subst he
    have HF1 := hid (HF.out w3 hb)
    clear hb
    go_wp2_with fail
    exact ⟨rfl, HF1.out⟩
   | ok tt =>
    have htl := HTL.out tt rfl
    go_wp2_with fail
    with_reducible refine HT.out.mono ?_
    rintro e w3 ⟨he, hb⟩
    dsimp only at he
    subst he
    have HS4 := hid (HS3.out.keep hb)
    have HK4 : Hid (Keeps (One B) w w3) := hid (HK3.out.trans (keeps_below hb Non) (fresh_non _ _))
    have HBU4 := hid (builder_below HBU3.out hb)
    clear hb
    have HWS := hid (Tryz.Builder_WriteString_k b0 b0 (Lib.byteCells acc) (strB tt) w3 HBU4.out (by rw [Lib.byteCells_length, strB_size]; omega) (by rw [← HB0.out]; exact HK4.out.size))
    go_wp2_with fail
    with_reducible refine HWS.out.mono ?_
    rintro e w4 ⟨rfl, hbu, hb, _⟩
    rw [← HB0.out] at hb
    obtain ⟨hs5, hk5⟩ := HS.out.under HS4.out HK4.out hb
    have HS5 := hid hs5
    have HK5 := hid hk5
    have HBU5 : Hid (Lib.IsBuilderF 70 5 b0 b0 (Lib.byteCells (acc ++ tt)) w4) := hid (by
     have : Lib.byteCells (acc ++ tt) = Lib.byteCells acc ++ Lib.strCells (strB tt) := List.map_append
     rw [this]
     exact .inr hbu)
    obtain ⟨z0, z1⟩ := hs5.cells
    rw [HNL.out] at z0
    have f1 := unfrozen_of_block hs5.blk 1
    have hpl := hs5.place (j := j + A) (by rw [HNL.out]; omega) (u := rest) (by rw [← HREST.out, hs5.left, List.drop_drop])
    have HS6 := hid hpl.1
    have HK6 : Hid (Keeps (One B) w (w4.setCell ⟨B, 1, none⟩ (.int .i64 ((j + A : Nat) : Int)))) := hid (hk5.trans hpl.2 (fresh_refl _ _))
    have HBU6 := hid (builder_keeps HBU5.out hpl.2 hBb)
    obtain ⟨v0, v1⟩ := hpl.1.cells
    rw [HNL.out] at v0
    obtain ⟨j2, hj2⟩ : ∃ j2, j + A = j2 := ⟨_, rfl⟩
    have HJ2 := hid hj2
    rw [hj2] at hadd HS6 HK6 HBU6 v1
    have hall : (acc ++ tt).length ≤ 4 * j2 := by rw [List.length_append]; omega
    clear hbu hb hs5 hk5 hpl hj2
    cases rest with
    | nil => exact absurd rfl hr0
    | cons x1 rest =>
     have hhd := HS6.out.head
     obtain ⟨hlt, hxx, _⟩ := hhd
     rw [HNL.out] at hlt
     have hz : ((j2 : Int) == (n : Int)) = false := by simp; omega
     obtain ⟨bb, oo, rfl⟩ : ∃ b o, a = some ⟨b, o, none⟩ := by
      rcases HS6.out.row with h1 | ⟨b, o, h1, _⟩
      ·rw [HNL.out] at h1; omega
      ·exact ⟨b, o, h1⟩
     have hcell : (w4.setCell ⟨B, 1, none⟩ (.int .i64 (j2 : Int))).cell? ⟨bb, oo + j2, none⟩ = some (.int .u8 (x1.toNat : Int)) := by
      rcases HS6.out.row with h1 | ⟨b, o, h1, _, h3⟩
      ·rw [HNL.out] at h1; omega
      ·cases h1
       rw [h3 j2 (by rw [HNL.out]; exact hlt), hxx]
     by_cases hx38 : x1 = 38
     ·have hne : ((x1.toNat : Int) != 38) = false := by rw [hx38]; rfl
      have hpre : [38].isPrefixOf (x1 :: rest) = true := by rw [hx38]; rfl
      have HREF : Hid (∀ k, Calls Tryz.prog 161 #[.pointer (some ⟨B, 0, none⟩)] ((w4.setCell ⟨B, 1, none⟩ (.int .i64 (j2 : Int))).drewN k) (ScOut ((w4.setCell ⟨B, 1, none⟩ (.int .i64 (j2 : Int))).drewN k) B (some ⟨bb, oo, none⟩) c l (fun v : Nat => .int .i32 (v : Int)) (refS j2 (x1 :: rest)))) := hid (fun k => ref_calls (HS6.out.drawn k) (HE.out.keeps (HK6.out.drewN k) hB) hB)
      have HQ4 : Hid (Q = (refS j2 (x1 :: rest)).then fun n j t2 => ((mixG (some x) g j t2).then fun u k t3 => .ok (tt ++ (encB n ++ u)) k t3).then fun y k t3 => .ok (acc ++ y) k t3) := hid (by
       rw [HQ3.out]
       rw [mixR_ref hpre, HJ2.out]
       cases refS j2 (x1 :: rest) <;> rfl)
      obtain ⟨rr, hrr⟩ : ∃ r, refS j2 (x1 :: rest) = r := ⟨_, rfl⟩
      rw [hrr] at HREF HQ4
      cases rr with
      | no cd p =>
       have HF : Hid (∀ k w', Keeps (One B) ((w4.setCell ⟨B, 1, none⟩ (.int .i64 (j2 : Int))).drewN k) w' → ScOut w B (some ⟨bb, oo, none⟩) c l (fun y => .string (strB y)) Q (.panicked [{ v := wrongV cd p, recovered := false }]) w') := hid (fun k w' hk => by
        rw [HQ4.out]
        exact ⟨rfl, (HK6.out.drewN k).trans hk (fresh_refl _ _)⟩)
       clear hx38 hpre hrr HQ3
       go_wp2_with fail
       go_quiet (fail)
       go_wp2_with fail
       with_reducible refine (HREF.out _).mono ?_
       rintro e w5 ⟨rfl, hk⟩
       have HF1 := hid (HF.out _ w5 hk)
       clear hk
       go_wp2_with fail
       exact ⟨rfl, HF1.out⟩
      | ok v j3 u3 =>
       obtain ⟨hch, hj3⟩ := refS_char hrr
       obtain ⟨hrc, hr4, hrm⟩ := rune_cells hch
       have HRC := hid hrc
       clear hx38 hpre hrr HQ3 hch hrc
       go_wp2_with fail
       go_quiet (fail)
       go_wp2_with fail
       with_reducible refine (HREF.out _).mono ?_
       rintro e w5 ⟨rfl, hs7, hk7⟩
       have HS7 := hid hs7
       have HK7 : Hid (Keeps (One B) w w5) := hid ((HK6.out.drewN _).trans hk7 (fresh_refl _ _))
       have HBU7 := hid (builder_keeps (builder_below HBU6.out (⟨rfl, rfl, rfl, Nat.le_refl _, fun _ _ => rfl⟩ : Below (w4.setCell ⟨B, 1, none⟩ (.int .i64 (j2 : Int))).heap.size (w4.setCell ⟨B, 1, none⟩ (.int .i64 (j2 : Int))) ((w4.setCell ⟨B, 1, none⟩ (.int .i64 (j2 : Int))).drewN _))) hk7 hBb)
       have hf7 := hs7.fits
       have hl7 := hs7.len
       rw [HNL.out] at hf7 hl7
       clear hs7 hk7
       have HWR := hid (Tryz.Builder_WriteRune_k b0 b0 (Lib.byteCells (acc ++ tt)) (v : Int) (by omega) (by omega) w5 HBU7.out (by rw [Lib.byteCells_length]; omega) (by rw [← HB0.out]; exact HK7.out.size))
       go_wp2_with fail
       with_reducible refine HWR.out.mono ?_
       rintro e w6 ⟨rfl, hbu, hb, _⟩
       rw [← HB0.out] at hb
       obtain ⟨hs8, hk8⟩ := HS.out.under HS7.out HK7.out hb
       have HS8 := hid hs8
       have HK8 := hid hk8
       have HBU8 : Hid (Lib.IsBuilderF 70 5 b0 b0 (Lib.byteCells (acc ++ tt ++ encB v)) w6) := hid (by
        have : Lib.byteCells (acc ++ tt ++ encB v) = Lib.byteCells (acc ++ tt) ++ Lib.runeCells (v : Int) := by rw [HRC.out]; exact List.map_append
        rw [this]
        exact .inr hbu)
       have HQ8 : Hid (Q = (mixG (some x) g j3 u3).then fun y k t3 => .ok (acc ++ tt ++ encB v ++ y) k t3) := hid (by
        rw [HQ4.out, Sx.then_ok]
        cases mixG (some x) g j3 u3 with
        | no cd p => rfl
        | ok y k t3 =>
         show Sx.ok (acc ++ (tt ++ (encB v ++ y))) k t3 = Sx.ok (acc ++ tt ++ encB v ++ y) k t3
         simp only [List.append_assoc])
       have hul8 : (x1 :: rest).length = rest.length + 1 := rfl
       clear hbu hb hs8 hk8
       go_wp2_with fail
       go_roundg g
       case measure => omega
       case rel => exact ⟨j3, u3, acc ++ tt ++ encB v, by have := HJ2.out; omega, by have := HJ2.out; omega, by rw [List.length_append]; omega, HQ8.out, HS8.out, HK8.out, HBU8.out⟩
     ·have hne : ((x1.toNat : Int) != 38) = true := by
       simp only [bne_iff_ne, ne_eq]
       exact fun h => hx38 (UInt8.toNat_inj.1 (by have : (38 : UInt8).toNat = 38 := rfl; omega))
      have hpre : [38].isPrefixOf (x1 :: rest) = false := by
       show ((38 : UInt8) == x1 && true) = false
       rw [Bool.and_true]
       exact beq_eq_false_iff_ne.2 (fun h => hx38 h.symm)
      have HST : Hid (∀ k, Calls Tryz.prog 38 #[.pointer (some ⟨b0, 0, none⟩)] ((w4.setCell ⟨B, 1, none⟩ (.int .i64 (j2 : Int))).drewN k) (fun e w' => e = .returned (.string (strB (acc ++ tt))) ∧ Below w.heap.size ((w4.setCell ⟨B, 1, none⟩ (.int .i64 (j2 : Int))).drewN k) w')) := hid (fun k => by
       have h1 := builder_below HBU6.out (⟨rfl, rfl, rfl, Nat.le_refl _, fun _ _ => rfl⟩ : Below (w4.setCell ⟨B, 1, none⟩ (.int .i64 (j2 : Int))).heap.size (w4.setCell ⟨B, 1, none⟩ (.int .i64 (j2 : Int))) ((w4.setCell ⟨B, 1, none⟩ (.int .i64 (j2 : Int))).drewN k))
       refine (Tryz.Builder_String_any_k b0 b0 (acc ++ tt) _ h1 (by rw [← HB0.out]; exact HK6.out.size)).mono ?_
       rintro e w' ⟨h2, _, h3, _⟩
       rw [HB0.out]
       exact ⟨h2, h3⟩)
      have HF : Hid (∀ k w', Below w.heap.size ((w4.setCell ⟨B, 1, none⟩ (.int .i64 (j2 : Int))).drewN k) w' → ScOut w B (some ⟨bb, oo, none⟩) c l (fun y => .string (strB y)) Q (.returned (.string (strB (acc ++ tt)))) w') := hid (fun k w' hb => by
       rw [HQ3.out]
       rw [mixR_end hpre, Sx.then_ok, HJ2.out]
       have hu := HS.out.under (HS6.out.drawn k) (HK6.out.drewN k) hb
       exact ⟨rfl, hu.1, hu.2⟩)
      clear HQ3 hpre
      go_wp2_with fail
      go_quiet (fail)
      go_wp2_with fail
      with_reducible refine (HST.out _).mono ?_
      rintro e w5 ⟨rfl, hb⟩
      have HF1 := hid (HF.out _ w5 hb)
      clear hb
      go_wp2_with fail
      go_ret
      exact HF1.out
end Go.Proofs.YtjpkkflhcjjefaaGreatDoor
