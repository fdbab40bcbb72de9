/-
 The reference's Fair. Conditions: the tree lies in memory, and has no more than 2 to the 19 nodes and characters.
-/
import Derived.Test.YtocnedpclllbhaaGreatDoorVB
import Derived.Test.YtocnedpclllbhaaGreatDoorWZ
import Derived.Test.YtocnedpclllbhaaGreatDoorXNo
import Derived.Lib.QuietBelow
namespace Go.Proofs.YtocnedpclllbhaaGreatDoor
open Go.RowKit Go.Lib Go.Joins Go.Sort

/-- The walk of a region that only reads, of which the kernel sees no further than the next operation. -/
structure QW (P : Program) (ops : Array Oper) (C : World → Prop) (Q : Act → Prop) (rest : List Oper) (a : Act) : Prop where
  out : wpQuiet P ops C Q rest a
theorem QW.nil {P : Program} {ops : Array Oper} {C : World → Prop} {Q : Act → Prop} {a : Act} (h : Q a) : QW P ops C Q [] a := ⟨h⟩
theorem QW.step {P : Program} {ops : Array Oper} {C : World → Prop} {Q : Act → Prop} {a : Act} {o : Oper} {rest : List Oper}
    (h : ∀ K : Act → Prop, (∀ a, QW P ops C Q rest a → K a) → if Region.wanted o (yielded ops a.tmps) then o.quiet P a C K else K (a.put o.dst undef)) : QW P ops C Q (o :: rest) a :=
  ⟨h _ (fun _ h => h.out)⟩
theorem nodup_snoc {l : List (List UInt8)} {a : List UInt8} : (l ++ [a]).Nodup ↔ l.Nodup ∧ a ∉ l := by
  rw [List.nodup_append]
  constructor
  · rintro ⟨h1, _, h3⟩
    exact ⟨h1, fun h => h3 a h a (List.mem_singleton.2 rfl) rfl⟩
  · rintro ⟨h1, h2⟩
    refine ⟨h1, List.nodup_cons.2 ⟨List.not_mem_nil, List.nodup_nil⟩, fun x hx y hy e => ?_⟩
    rw [List.mem_singleton.1 hy] at e
    subst e
    exact h2 hx
/-- Are attributes such as an element may have? -/
def attrsP (l : List (List UInt8 × List UInt8)) : Bool := (l.all fun a => nameW a.1 && hasB a.2) && decide (l.map Prod.fst).Nodup
/-- Has one of the first k attributes a name? -/
def metA (l : List (List UInt8 × List UInt8)) (k : Nat) (n : List UInt8) : Bool := (l.take k).any fun b => decide (b.1 = n)
theorem met_snoc {l : List (List UInt8 × List UInt8)} {k : Nat} {b : List UInt8 × List UInt8} (h : l[k]? = some b) (n : List UInt8) : metA l (k + 1) n = (metA l k n || decide (b.1 = n)) := by
  have e : l.take (k + 1) = l.take k ++ [b] := by rw [List.take_add_one, h]; rfl
  unfold metA
  rw [e, List.any_append, List.any_cons, List.any_nil, Bool.or_false]
theorem attrsP_snoc {l : List (List UInt8 × List UInt8)} {i : Nat} {a : List UInt8 × List UInt8} (h : l[i]? = some a) : attrsP (l.take (i + 1)) = (attrsP (l.take i) && (nameW a.1 && hasB a.2) && !metA l i a.1) := by
  have e : l.take (i + 1) = l.take i ++ [a] := by rw [List.take_add_one, h]; rfl
  have e2 : decide ((l.take i ++ [a]).map Prod.fst).Nodup = (decide ((l.take i).map Prod.fst).Nodup && !metA l i a.1) := by
    rw [Bool.eq_iff_iff, decide_eq_true_iff, List.map_append, List.map_cons, List.map_nil, nodup_snoc, Bool.and_eq_true, decide_eq_true_iff, Bool.not_eq_true', Bool.eq_false_iff, Ne, metA, List.any_eq_true, List.mem_map]
    refine and_congr_right fun _ => not_congr ⟨?_, ?_⟩
    · rintro ⟨b, h1, h2⟩
      exact ⟨b, h1, decide_eq_true h2⟩
    · rintro ⟨b, h1, h2⟩
      exact ⟨b, h1, of_decide_eq_true h2⟩
  unfold attrsP
  rw [e, e2, List.all_append, List.all_cons, List.all_nil, Bool.and_true]
  cases (l.take i).all fun a => nameW a.1 && hasB a.2 <;> cases decide ((l.take i).map Prod.fst).Nodup <;> cases metA l i a.1 <;> simp
/-- May the first children stand there? -/
def kidsP (l : List Tr) : Bool := fairL l && !touchB l
theorem fairL_nil : fairL [] = true := by rw [fairL]
theorem fairL_snoc : ∀ (l : List Tr) (t : Tr), fairL (l ++ [t]) = (fairL l && fairT t)
  | [], t => by rw [List.nil_append, fairL_nil, Bool.true_and, fairL, fairL_nil, Bool.and_true]
  | u :: l, t => by rw [List.cons_append, fairL, fairL, fairL_snoc l t, Bool.and_assoc]
theorem touch_two : ∀ (l : List Tr) (p t : Tr), touchB (l ++ [p, t]) = (touchB (l ++ [p]) || (p.kind == 2 && t.kind == 2))
  | [], p, t => by
    show ((p.kind == 2 && (t.kind == 2)) || ((t.kind == 2 && false) || false)) = (((p.kind == 2) && false) || false || _)
    cases p.kind == 2 <;> cases t.kind == 2 <;> rfl
  | u :: l, p, t => by
    have ih := touch_two l p t
    have hh : headT (l ++ [p, t]) = headT (l ++ [p]) := by cases l <;> rfl
    show ((u.kind == 2 && headT (l ++ [p, t])) || touchB (l ++ [p, t])) = (((u.kind == 2 && headT (l ++ [p])) || touchB (l ++ [p])) || _)
    rw [hh, ih, Bool.or_assoc]
theorem kids_first {l : List Tr} {t : Tr} (h : l[0]? = some t) : kidsP (l.take (0 + 1)) = fairT t := by
  have e : l.take (0 + 1) = [t] := by rw [List.take_add_one, h]; rfl
  unfold kidsP
  rw [e, fairL, fairL_nil, Bool.and_true]
  show (fairT t && !(((t.kind == 2) && false) || false)) = _
  rw [Bool.and_false, Bool.or_false, Bool.not_false, Bool.and_true]
theorem kids_next {l : List Tr} {j : Nat} {p t : Tr} (hp : l[j]? = some p) (h : l[j + 1]? = some t) : kidsP (l.take (j + 1 + 1)) = (kidsP (l.take (j + 1)) && (fairT t && !(p.kind == 2 && t.kind == 2))) := by
  have e1 : l.take (j + 1) = l.take j ++ [p] := by rw [List.take_add_one, hp]; rfl
  have e2 : l.take (j + 1 + 1) = (l.take j ++ [p]) ++ [t] := by rw [List.take_add_one, h, e1]; rfl
  unfold kidsP
  rw [e2, e1, fairL_snoc, List.append_assoc]
  show ((fairL (l.take j ++ [p]) && fairT t) && !touchB (l.take j ++ [p, t])) = _
  rw [touch_two]
  cases fairL (l.take j ++ [p]) <;> cases fairT t <;> cases touchB (l.take j ++ [p]) <;> cases (p.kind == 2 && t.kind == 2) <;> rfl
theorem kids_off {l : List Tr} {i : Nat} {t : Tr} (h : l[i]? = some t) (h0 : kidsP (l.take i) = false ∨ fairT t = false) : kidsP (l.take (i + 1)) = false := by
  cases i with
  | zero =>
    rw [kids_first h]
    rcases h0 with h0 | h0
    · rw [List.take_zero] at h0
      cases h0
    · exact h0
  | succ j =>
    obtain ⟨p, hp⟩ : ∃ p, l[j]? = some p := ⟨_, List.getElem?_eq_getElem (by have := (List.getElem?_eq_some_iff.1 h).1; omega)⟩
    rw [kids_next hp h]
    rcases h0 with h0 | h0
    · rw [h0, Bool.false_and]
    · rw [h0, Bool.false_and, Bool.and_false]
theorem fair_el (n x : List UInt8) (ats : List (List UInt8 × List UInt8)) (ks : List Tr) : fairT (.mk 1 n x ats ks) = ((nameW n && x.isEmpty) && attrsP ats && kidsP ks) := by
  rw [fair_mk, fitT, if_pos rfl]
  unfold attrsP kidsP
  cases x.isEmpty <;> cases nameW n <;> cases ats.all (fun a => nameW a.1 && hasB a.2) <;> cases decide (ats.map Prod.fst).Nodup <;> cases touchB ks <;> cases fairL ks <;> rfl
theorem sum_mem {α : Type} (f : α → Nat) : ∀ {l : List α} {a : α}, a ∈ l → f a ≤ (l.map f).sum
  | x :: l, a, h => by
    rw [List.map_cons, List.sum_cons]
    rcases List.mem_cons.1 h with rfl | h
    · omega
    · have := sum_mem f h
      omega
theorem sz_mem {l : List Tr} {i : Nat} {t : Tr} (h : l[i]? = some t) : t.sz ≤ szL l := by
  rw [szL_sum]
  exact sum_mem Tr.sz (List.mem_of_getElem? h)
theorem at_mem {l : List (List UInt8 × List UInt8)} {i : Nat} {a : List UInt8 × List UInt8} (h : l[i]? = some a) : a.1.length + a.2.length ≤ atSz l := by
  rw [atSz_sum]
  have := sum_mem (fun a : List UInt8 × List UInt8 => 1 + a.1.length + a.2.length) (List.mem_of_getElem? h)
  omega
set_option maxRecDepth 100000 in
set_option maxHeartbeats 16000000 in
theorem rfair_el {m : Nat} (hIH : ∀ {W : World} {r2 : Nr} {t2 : Tr}, NodeIn W Any r2 t2 → t2.sz ≤ m → Calls Tryz.prog 10 #[nodeV r2] W (Leaves (.bool (fairT t2)) W))
    {w : World} {k : Int} {n x : List UInt8} {av kv : Value} {ats : List (List UInt8 × List UInt8)} {ks : List Tr} (h : NodeIn w Any ⟨k, n, x, av, kv⟩ (.mk k n x ats ks)) (hk1 : k = 1) (hz : (Tr.mk k n x ats ks).sz ≤ m + 1) (hm : m + 1 ≤ 1000000) (hbt : hasB x = true) :
    Calls Tryz.prog 10 #[nodeV ⟨k, n, x, av, kv⟩] w (Leaves (.bool (fairT (.mk k n x ats ks))) w) := by
  subst hk1
  obtain ⟨g1, g2, g3, hat, rows, hri, hni⟩ := h.kids
  clear g1 g2 g3
  dsimp only [Tr.attrs, Tr.kids] at hat hri hni
  obtain ⟨aa, na, ca, rfl⟩ := hat.slice
  obtain ⟨ka, kc, rfl, hkc, hkm, hkp⟩ := kids_form hri hni
  obtain ⟨nk, hnk⟩ : ∃ z, ks.length = z := ⟨_, rfl⟩
  rw [hnk] at hkp hkc ⊢
  have hal : na = ats.length := by
    obtain ⟨_, _, e, _⟩ := hat
    injection e
  have hac : na ≤ ca := by
    obtain ⟨_, _, e, h1, _⟩ := hat
    injection e with _ e1 e2
    omega
  have hcm : ca ≤ 9223372036854775807 := by
    obtain ⟨_, _, e, _, h1, _⟩ := hat
    injection e with _ _ e2
    unfold maxLen at h1
    omega
  unfold maxLen at hkm
  have hse := sz_mk 1 n x ats ks
  obtain ⟨b2, o2, hk1, hk2⟩ : ∃ b2 o2, (nk = 0 ∨ ka = some ⟨b2, o2, none⟩) ∧ PtrsIn w Any (kidPs b2 o2 nk) ks := by
    rcases hkp with h0 | ⟨b2, o2, h1, h2⟩
    · exact ⟨0, 0, .inl (by rw [← hnk, h0]; rfl), by rw [h0] at hnk ⊢; rw [← hnk]; exact trivial⟩
    · exact ⟨b2, o2, .inr h1, h2⟩
  rw [fair_el]
  obtain ⟨w0, hw0⟩ : ∃ W, w.alloc (.cells #[.int .i64 1, .string (strB n), .string (strB x), .slice aa na ca, .slice ka nk kc] 25) = W := ⟨_, rfl⟩
  have hbx := Boxed.make w 1 (strB n) (strB x) (.slice aa na ca) (.slice ka nk kc)
  rw [hw0] at hbx
  have HBT := Lib.hid (bad_text w0 x (by omega))
  rw [show w0.heap.size = w.heap.size + 1 by rw [← hw0]; simp] at HBT
  have HNAME : Hid (∀ l : List UInt8, l.length ≤ 1000000 → ∀ W, Calls Tryz.prog 26 #[.string (strB l)] W (Leaves (.bool (nameW l)) W)) := Lib.hid (fun l hl W => name11_text W l hl _ (nameR_eq l))
  have HBAD : Hid (∀ l : List UInt8, l.length ≤ 1000000 → ∀ W, Calls Tryz.prog 24 #[.slice (some ⟨W.heap.size, 0, none⟩) (strB l).size (grownCap W (strB l).size 0 5)] (bytesWorld W 5 (strB l)) (Leaves (.int .i64 (badL l)) (bytesWorld W 5 (strB l)))) := Lib.hid (fun l hl W => bad_text W l hl)
  have HKC : Hid (∀ (W : World) (S : ByteArray), (convert 9 53 (.string S)).run Tryz.prog W = .ok (.slice (some ⟨W.heap.size, 0, none⟩) S.size (grownCap W S.size 0 5)) (bytesWorld W 5 S)) := Lib.hid (fun W S => Lib.run_convert_string_bytes (P := Tryz.prog) W 9 53 5 S Tryz.underlying9 Tryz.underlying53 Tryz.underlying5)
  have HAT : Hid (AttIn w0 Any (.slice aa na ca) ats) := Lib.hid (hat.keep (keeps_below hbx.below Non) (fun _ _ h => h) (fun _ h => h))
  have HKP : Hid (PtrsIn w0 Any (kidPs b2 o2 nk) ks) := Lib.hid (hk2.keep (keeps_below hbx.below Non) (fun _ _ h => h) (fun _ h => h))
  have HK1 := Lib.hid hk1
  have HNK := Lib.hid hnk
  have HAL := Lib.hid hal
  have HNL : Hid (n.length ≤ 1000000) := Lib.hid (by omega)
  have HAZ : Hid (atSz ats ≤ 1000000) := Lib.hid (by omega)
  have HKZ : Hid (szL ks ≤ m) := Lib.hid (by omega)
  have HIH : Hid (∀ {W : World} {r2 : Nr} {t2 : Tr}, NodeIn W Any r2 t2 → t2.sz ≤ m → Calls Tryz.prog 10 #[nodeV r2] W (Leaves (.bool (fairT t2)) W)) := Lib.hid (fun h1 h2 => hIH h1 h2)
  have hfull := strB_full (l := x)
  have hBq : badL x < 0 := of_decide_eq_true hbt
  obtain ⟨sn, hsn⟩ : ∃ S, strB n = S := ⟨_, rfl⟩
  obtain ⟨S, hS⟩ : ∃ S, strB x = S := ⟨_, rfl⟩
  obtain ⟨q, hq⟩ : ∃ q, badL x = q := ⟨_, rfl⟩
  rw [hsn, hS] at hbx hw0
  rw [hS] at HBT hfull
  rw [hq] at HBT hBq
  unfold nodeV
  dsimp only
  rw [hsn, hS]
  have kc0 := HKC.out w0 S
  have HSN := Lib.hid hsn
  have HSX := Lib.hid hS
  have HW0 := Lib.hid hw0
  have HBW : Hid (Below w0.heap.size w0 (bytesWorld w0 5 S)) := Lib.hid (bytesWorld_below w0 S)
  have HBX := Lib.hid hbx
  have HB0 := Lib.hid hbx.below
  have HFU := Lib.hid hfull
  obtain ⟨z0, z1, z2, z3, z4⟩ := hbx.cells (Below.refl _ _)
  rw [← HW0.out] at kc0 z0 z1 z2 z3 z4
  have hq1 : ¬ (0 ≤ q) := by omega
  obtain ⟨NB, hNB⟩ : ∃ b, nameW n = b := ⟨_, rfl⟩
  have HN1 := Lib.hid (HNAME.out n HNL.out)
  rw [hNB, hsn] at HN1
  obtain ⟨XB, hXB⟩ : ∃ b, x.isEmpty = b := ⟨_, rfl⟩
  have HXB := Lib.hid hXB
  rw [hNB, hXB]
  obtain ⟨Q, hQ⟩ : ∃ b, ((NB && XB) && attrsP ats && kidsP ks) = b := ⟨_, rfl⟩
  rw [hQ]
  have HQ := Lib.hid hQ
  clear hQ h hz hm hat hri hni hal hkp hse hk1 hk2 hnk hw0 hbx hsn hS hq hbt hBq hfull hNB hXB hIH
  go_enter Tryz.func10, Tryz.ntmps10
  go_wp2_with fail
  rw [HW0.out]
  with_reducible refine HBT.out.mono ?_
  rintro e w1 ⟨rfl, hb1⟩
  have HB1 := Lib.hid (below_then HBW.out hb1)
  clear kc0 z0 z1 z2 z3 z4 hb1 HBT
  obtain ⟨z0, z1, z2, z3, z4⟩ := HBX.out.cells HB1.out
  go_wp2_with fail
  with_reducible refine (HN1.out w1).mono ?_
  rintro e w2 ⟨rfl, hb2⟩
  have HB2 := Lib.hid (below_then HB1.out hb2)
  clear z0 z1 z2 z3 z4 hb2 HN1
  obtain ⟨z0, z1, z2, z3, z4⟩ := HBX.out.cells HB2.out
  cases NB with
  | false =>
    have HQ2 : Hid ((false && attrsP ats && kidsP ks) = Q) := Lib.hid (by rw [← HQ.out]; rfl)
    clear HQ
    go_wp2_with fail
    go_loopg [3, 4] na (fun g s3 s4 wr => ∃ (i : Nat), s3 = .bool ((false) && attrsP (ats.take i)) ∧ s4 = .int .i64 (i : Int) ∧ g + i = na ∧ Below w0.heap.size w0 wr)
    case atStart => exact ⟨0, rfl, rfl, rfl, HB2.out⟩
    case round =>
      obtain ⟨i, rfl, rfl, hg, hbr⟩ := hrel
      have HBR := Lib.hid hbr
      clear hbr
      clear z0 z1 z2 z3 z4
      obtain ⟨z0, z1, z2, z3, z4⟩ := HBX.out.cells HBR.out
      obtain ⟨c, hc⟩ : ∃ c, ((false) && attrsP (ats.take i)) = c := ⟨_, rfl⟩
      rw [hc]
      have HC := Lib.hid hc
      clear hc
      cases gk with
      | zero =>
        obtain rfl : i = na := by omega
        have hge : ¬ ((i : Int) < (i : Int)) := by omega
        have HC0 : Hid (((false) && attrsP ats) = c) := Lib.hid (by rw [← HC.out, List.take_of_length_le (by have := HAL.out; omega)])
        obtain ⟨BA, hBA⟩ : ∃ b, b = c := ⟨_, rfl⟩
        rw [← hBA]
        have HBA : Hid (((false) && attrsP ats) = BA) := Lib.hid (by rw [HC0.out, hBA])
        clear hBA HC HC0
        go_wp2_with fail
        go_loopg [3, 6] nk (fun g s3 s6 wz => ∃ (i : Nat), s3 = .bool (BA && kidsP (ks.take i)) ∧ s6 = .int .i64 (i : Int) ∧ g + i = nk ∧ Below w0.heap.size w0 wz)
        case atStart => exact ⟨0, by rw [List.take_zero, show kidsP [] = true from rfl, Bool.and_true], rfl, rfl, HBR.out⟩
        case round =>
          obtain ⟨i, rfl, rfl, hg, hbz⟩ := hrel
          have HBZ := Lib.hid hbz
          clear hbz
          clear z0 z1 z2 z3 z4
          obtain ⟨z0, z1, z2, z3, z4⟩ := HBX.out.cells HBZ.out
          obtain ⟨c, hc⟩ : ∃ c, (BA && kidsP (ks.take i)) = c := ⟨_, rfl⟩
          rw [hc]
          have HC := Lib.hid hc
          clear hc
          cases gk with
          | zero =>
            obtain rfl : i = nk := by omega
            have hge : ¬ ((i : Int) < (i : Int)) := by omega
            have HF : Hid (c = Q) := Lib.hid (by rw [← HQ2.out, HBA.out, ← HC.out, List.take_of_length_le (by have := HNK.out; omega)])
            go_wp2_with fail
            go_ret
            exact ⟨by rw [← HF.out]; rfl, below_then HB0.out HBZ.out⟩
          | succ g =>
            have hlt : (i : Int) < (nk : Int) := by omega
            have hi0 : (0 : Int) ≤ (i : Int) := by omega
            have hin : i < nk := by omega
            have hadd : IntKind.i64.wrap ((i : Int) + 1) = ((i + 1 : Nat) : Int) := IntWalk.i64_in _ (by omega)
            obtain ⟨t2, ht2, b3, o3, r2, hp2, _, hnr2, hnd2⟩ := HKP.out.at (kidPs_at b2 o2 nk i (by omega))
            obtain ⟨rfl, rfl⟩ : b2 = b3 ∧ o2 + i * 5 = o3 := by injection hp2 with h1 h2; exact ⟨h1, h2⟩
            have HT2 := Lib.hid ht2
            clear hp2 ht2
            cases c with
            | false =>
              have HNF : Hid ((BA && kidsP (ks.take (i + 1))) = false) := Lib.hid (by
                have h1 := HC.out
                cases BA with
                | false => rfl
                | true => exact kids_off HT2.out (.inl h1))
              clear hnr2 hnd2
              go_wp2_with fail
              go_roundg g
              case measure => omega
              case rel => exact ⟨i + 1, by rw [HNF.out], by go_num, by omega, HBZ.out⟩
            | true =>
              have HBT : Hid (BA = true ∧ kidsP (ks.take i) = true) := Lib.hid (Bool.and_eq_true_iff.1 HC.out)
              have HNR := Lib.hid hnr2
              obtain ⟨y0, y1, y2, y3, y4⟩ := hnr2.keep (keeps_below HBZ.out Non) (fun h => h)
              have hnd3 := hnd2.keep (keeps_below HBZ.out Non) (fun _ _ h => h) (fun _ h => h)
              have HKD : Hid (r2.kind = t2.kind) := Lib.hid hnd2.kids.1
              obtain ⟨k2, n2, x2, av2, kv2⟩ := r2
              dsimp only at y0 y1 y2 y3 y4
              obtain rfl : ka = some ⟨b2, o2, none⟩ := by
                rcases HK1.out with h1 | h1
                · omega
                · exact h1
              have HC2 := HIH.out hnd3 (by have h1 := sz_mem HT2.out; have h2 := HKZ.out; omega)
              unfold nodeV at HC2
              dsimp only at HC2
              obtain ⟨sn2, hsn2⟩ : ∃ s, strB n2 = s := ⟨_, rfl⟩
              obtain ⟨st2, hst2⟩ : ∃ s, strB x2 = s := ⟨_, rfl⟩
              rw [hsn2] at y1 HC2
              rw [hst2] at y2 HC2
              obtain ⟨f2, hf2⟩ : ∃ f, fairT t2 = f := ⟨_, rfl⟩
              rw [hf2] at HC2
              have HC2 := Lib.hid HC2
              have HF2 := Lib.hid hf2
              clear hnr2 hnd2 hnd3 hsn2 hst2 hf2
              go_wp2_with fail
              with_reducible refine HC2.out.mono ?_
              rintro e w5 ⟨rfl, hb5⟩
              have HB5 := Lib.hid (below_then HBZ.out hb5)
              clear hb5 HC2 y0 y1 y2 y3 y4 z0 z1 z2 z3 z4
              obtain ⟨z0, z1, z2, z3, z4⟩ := HBX.out.cells HB5.out
              cases f2 with
              | false =>
                have HNF : Hid ((BA && kidsP (ks.take (i + 1))) = false) := Lib.hid (by rw [kids_off HT2.out (.inr HF2.out), Bool.and_false])
                go_wp2_with fail
                go_roundg g
                case measure => omega
                case rel => exact ⟨i + 1, by rw [HNF.out], by go_num, by omega, HB5.out⟩
              | true =>
                obtain ⟨y0, y1, y2, y3, y4⟩ := HNR.out.keep (keeps_below HB5.out Non) (fun h => h)
                clear y1 y2 y3 y4
                by_cases hi : i = 0
                · have HNT : Hid ((BA && kidsP (ks.take (i + 1))) = true) := Lib.hid (by rw [HBT.out.1]; subst hi; rw [kids_first HT2.out]; exact HF2.out)
                  have hie : ((i : Int) == 0) = true := by rw [beq_iff_eq]; omega
                  clear hi
                  go_wp2_with fail
                  go_roundg g
                  case measure => omega
                  case rel => exact ⟨i + 1, by rw [HNT.out], by go_num, by omega, HB5.out⟩
                · have hie : ((i : Int) == 0) = false := by rw [beq_eq_false_iff_ne]; omega
                  obtain ⟨j, hj⟩ : ∃ j, i = j + 1 := ⟨i - 1, by omega⟩
                  have hsub : IntKind.i64.wrap ((i : Int) - 1) = (j : Int) := by rw [IntWalk.i64_in _ (by omega)]; omega
                  have hj0 : (0 : Int) ≤ (j : Int) := by omega
                  have hjn : (j : Int) < (nk : Int) := by omega
                  have hjn2 : j < nk := by omega
                  obtain ⟨u2, hu2, b4, o4, r4, hp4, _, hnr4, hnd4⟩ := HKP.out.at (kidPs_at b2 o2 nk j (by omega))
                  obtain ⟨rfl, rfl⟩ : b2 = b4 ∧ o2 + j * 5 = o4 := by injection hp4 with h1 h2; exact ⟨h1, h2⟩
                  have HKU : Hid (r4.kind = u2.kind) := Lib.hid hnd4.kids.1
                  obtain ⟨x0, x1, x2', x3, x4⟩ := hnr4.keep (keeps_below HB5.out Non) (fun h => h)
                  have HNX : Hid ((BA && kidsP (ks.take (i + 1))) = !(u2.kind == 2 && t2.kind == 2)) := Lib.hid (by
                    have h1 := HBT.out
                    have h2 := HT2.out
                    rw [hj] at h1 h2 ⊢
                    rw [h1.1, kids_next hu2 h2, h1.2, HF2.out, Bool.true_and, Bool.true_and, Bool.true_and])
                  rw [← HKD.out, ← HKU.out] at HNX
                  obtain ⟨ku, hku⟩ : ∃ z, r4.kind = z := ⟨_, rfl⟩
                  rw [hku] at x0 HNX
                  clear hi hj hu2 hp4 hnr4 hnd4 HKU x1 x2' x3 x4 hku
                  by_cases hk2 : k2 = 2
                  · subst hk2
                    by_cases hu : ku = 2
                    · subst hu
                      have HN2 : Hid ((BA && kidsP (ks.take (i + 1))) = false) := Lib.hid (by rw [HNX.out]; rfl)
                      go_wp2_with fail
                      go_roundg g
                      case measure => omega
                      case rel => exact ⟨i + 1, by rw [HN2.out], by go_num, by omega, HB5.out⟩
                    · have hue : (ku != 2) = true := bne_iff_ne.2 hu
                      have HN2 : Hid ((BA && kidsP (ks.take (i + 1))) = true) := Lib.hid (by rw [HNX.out, beq_eq_false_iff_ne.2 hu]; rfl)
                      go_wp2_with fail
                      go_roundg g
                      case measure => omega
                      case rel => exact ⟨i + 1, by rw [HN2.out], by go_num, by omega, HB5.out⟩
                  · have hke : (k2 != 2) = true := bne_iff_ne.2 hk2
                    have HN2 : Hid ((BA && kidsP (ks.take (i + 1))) = true) := Lib.hid (by rw [HNX.out, beq_eq_false_iff_ne.2 hk2, Bool.and_false]; rfl)
                    go_wp2_with fail
                    go_roundg g
                    case measure => omega
                    case rel => exact ⟨i + 1, by rw [HN2.out], by go_num, by omega, HB5.out⟩
      | succ g =>
        have hlt : (i : Int) < (na : Int) := by omega
        have hi0 : (0 : Int) ≤ (i : Int) := by omega
        have hin : i < na := by omega
        have hadd : IntKind.i64.wrap ((i : Int) + 1) = ((i + 1 : Nat) : Int) := IntWalk.i64_in _ (by omega)
        obtain rfl : false = c := by rw [← HC.out, Bool.false_and]
        have HBI := Lib.hid HBR.out
        go_wp2_with fail
        go_loopg [3, 5] i (fun g2 s3 s5 wz => ∃ (j : Nat), s3 = .bool false ∧ s5 = .int .i64 (j : Int) ∧ g2 + j = i ∧ Below w0.heap.size w0 wz)
        case atStart => exact ⟨0, rfl, rfl, rfl, (HBI.out)⟩
        case round =>
          obtain ⟨j, rfl, rfl, hj, hbz⟩ := hrel
          have HBZ := Lib.hid hbz
          clear hbz
          cases gk with
          | zero =>
            have hge2 : ¬ ((j : Int) < (i : Int)) := by omega
            go_wp2_with fail
            go_roundg g
            case measure => omega
            case rel => exact ⟨i + 1, by rw [(Bool.false_and _ : (false && attrsP (ats.take (i + 1))) = false)], by go_num, by omega, HBZ.out⟩
          | succ g2 =>
            have hlt2 : (j : Int) < (i : Int) := by omega
            have hadd2 : IntKind.i64.wrap ((j : Int) + 1) = ((j + 1 : Nat) : Int) := IntWalk.i64_in _ (by omega)
            go_upto_region 21 with (fail)
            refine wp_region_quiet_lit (by kernel_rfl) (by kernel_rfl) (QW.out ?_)
            repeat
              (refine QW.step (fun K hK => ?_)
               go_simp
               (refine hK _ ?_; clear hK K))
            refine QW.nil ?_
            intro _ hw'
            obtain ⟨nq, hw''⟩ := hw'
            subst hw''
            have HBY := Lib.hid (below_drew HBZ.out nq)
            go_wp2_with fail
            go_roundg g2
            case measure => omega
            case rel => exact ⟨j + 1, rfl, by go_num, by omega, HBY.out⟩
  | true =>
    cases XB with
    | false =>
      have HQ2 : Hid ((false && attrsP ats && kidsP ks) = Q) := Lib.hid (by rw [← HQ.out]; rfl)
      clear HQ
      obtain ⟨f1, f2⟩ := HFU.out (fun e => by have := HXB.out; rw [e] at this; cases this)
      go_wp2_with fail
      clear f1 f2
      go_loopg [3, 4] na (fun g s3 s4 wr => ∃ (i : Nat), s3 = .bool ((false) && attrsP (ats.take i)) ∧ s4 = .int .i64 (i : Int) ∧ g + i = na ∧ Below w0.heap.size w0 wr)
      case atStart => exact ⟨0, rfl, rfl, rfl, HB2.out⟩
      case round =>
        obtain ⟨i, rfl, rfl, hg, hbr⟩ := hrel
        have HBR := Lib.hid hbr
        clear hbr
        clear z0 z1 z2 z3 z4
        obtain ⟨z0, z1, z2, z3, z4⟩ := HBX.out.cells HBR.out
        obtain ⟨c, hc⟩ : ∃ c, ((false) && attrsP (ats.take i)) = c := ⟨_, rfl⟩
        rw [hc]
        have HC := Lib.hid hc
        clear hc
        cases gk with
        | zero =>
          obtain rfl : i = na := by omega
          have hge : ¬ ((i : Int) < (i : Int)) := by omega
          have HC0 : Hid (((false) && attrsP ats) = c) := Lib.hid (by rw [← HC.out, List.take_of_length_le (by have := HAL.out; omega)])
          obtain ⟨BA, hBA⟩ : ∃ b, b = c := ⟨_, rfl⟩
          rw [← hBA]
          have HBA : Hid (((false) && attrsP ats) = BA) := Lib.hid (by rw [HC0.out, hBA])
          clear hBA HC HC0
          go_wp2_with fail
          go_loopg [3, 6] nk (fun g s3 s6 wz => ∃ (i : Nat), s3 = .bool (BA && kidsP (ks.take i)) ∧ s6 = .int .i64 (i : Int) ∧ g + i = nk ∧ Below w0.heap.size w0 wz)
          case atStart => exact ⟨0, by rw [List.take_zero, show kidsP [] = true from rfl, Bool.and_true], rfl, rfl, HBR.out⟩
          case round =>
            obtain ⟨i, rfl, rfl, hg, hbz⟩ := hrel
            have HBZ := Lib.hid hbz
            clear hbz
            clear z0 z1 z2 z3 z4
            obtain ⟨z0, z1, z2, z3, z4⟩ := HBX.out.cells HBZ.out
            obtain ⟨c, hc⟩ : ∃ c, (BA && kidsP (ks.take i)) = c := ⟨_, rfl⟩
            rw [hc]
            have HC := Lib.hid hc
            clear hc
            cases gk with
            | zero =>
              obtain rfl : i = nk := by omega
              have hge : ¬ ((i : Int) < (i : Int)) := by omega
              have HF : Hid (c = Q) := Lib.hid (by rw [← HQ2.out, HBA.out, ← HC.out, List.take_of_length_le (by have := HNK.out; omega)])
              go_wp2_with fail
              go_ret
              exact ⟨by rw [← HF.out]; rfl, below_then HB0.out HBZ.out⟩
            | succ g =>
              have hlt : (i : Int) < (nk : Int) := by omega
              have hi0 : (0 : Int) ≤ (i : Int) := by omega
              have hin : i < nk := by omega
              have hadd : IntKind.i64.wrap ((i : Int) + 1) = ((i + 1 : Nat) : Int) := IntWalk.i64_in _ (by omega)
              obtain ⟨t2, ht2, b3, o3, r2, hp2, _, hnr2, hnd2⟩ := HKP.out.at (kidPs_at b2 o2 nk i (by omega))
              obtain ⟨rfl, rfl⟩ : b2 = b3 ∧ o2 + i * 5 = o3 := by injection hp2 with h1 h2; exact ⟨h1, h2⟩
              have HT2 := Lib.hid ht2
              clear hp2 ht2
              cases c with
              | false =>
                have HNF : Hid ((BA && kidsP (ks.take (i + 1))) = false) := Lib.hid (by
                  have h1 := HC.out
                  cases BA with
                  | false => rfl
                  | true => exact kids_off HT2.out (.inl h1))
                clear hnr2 hnd2
                go_wp2_with fail
                go_roundg g
                case measure => omega
                case rel => exact ⟨i + 1, by rw [HNF.out], by go_num, by omega, HBZ.out⟩
              | true =>
                have HBT : Hid (BA = true ∧ kidsP (ks.take i) = true) := Lib.hid (Bool.and_eq_true_iff.1 HC.out)
                have HNR := Lib.hid hnr2
                obtain ⟨y0, y1, y2, y3, y4⟩ := hnr2.keep (keeps_below HBZ.out Non) (fun h => h)
                have hnd3 := hnd2.keep (keeps_below HBZ.out Non) (fun _ _ h => h) (fun _ h => h)
                have HKD : Hid (r2.kind = t2.kind) := Lib.hid hnd2.kids.1
                obtain ⟨k2, n2, x2, av2, kv2⟩ := r2
                dsimp only at y0 y1 y2 y3 y4
                obtain rfl : ka = some ⟨b2, o2, none⟩ := by
                  rcases HK1.out with h1 | h1
                  · omega
                  · exact h1
                have HC2 := HIH.out hnd3 (by have h1 := sz_mem HT2.out; have h2 := HKZ.out; omega)
                unfold nodeV at HC2
                dsimp only at HC2
                obtain ⟨sn2, hsn2⟩ : ∃ s, strB n2 = s := ⟨_, rfl⟩
                obtain ⟨st2, hst2⟩ : ∃ s, strB x2 = s := ⟨_, rfl⟩
                rw [hsn2] at y1 HC2
                rw [hst2] at y2 HC2
                obtain ⟨f2, hf2⟩ : ∃ f, fairT t2 = f := ⟨_, rfl⟩
                rw [hf2] at HC2
                have HC2 := Lib.hid HC2
                have HF2 := Lib.hid hf2
                clear hnr2 hnd2 hnd3 hsn2 hst2 hf2
                go_wp2_with fail
                with_reducible refine HC2.out.mono ?_
                rintro e w5 ⟨rfl, hb5⟩
                have HB5 := Lib.hid (below_then HBZ.out hb5)
                clear hb5 HC2 y0 y1 y2 y3 y4 z0 z1 z2 z3 z4
                obtain ⟨z0, z1, z2, z3, z4⟩ := HBX.out.cells HB5.out
                cases f2 with
                | false =>
                  have HNF : Hid ((BA && kidsP (ks.take (i + 1))) = false) := Lib.hid (by rw [kids_off HT2.out (.inr HF2.out), Bool.and_false])
                  go_wp2_with fail
                  go_roundg g
                  case measure => omega
                  case rel => exact ⟨i + 1, by rw [HNF.out], by go_num, by omega, HB5.out⟩
                | true =>
                  obtain ⟨y0, y1, y2, y3, y4⟩ := HNR.out.keep (keeps_below HB5.out Non) (fun h => h)
                  clear y1 y2 y3 y4
                  by_cases hi : i = 0
                  · have HNT : Hid ((BA && kidsP (ks.take (i + 1))) = true) := Lib.hid (by rw [HBT.out.1]; subst hi; rw [kids_first HT2.out]; exact HF2.out)
                    have hie : ((i : Int) == 0) = true := by rw [beq_iff_eq]; omega
                    clear hi
                    go_wp2_with fail
                    go_roundg g
                    case measure => omega
                    case rel => exact ⟨i + 1, by rw [HNT.out], by go_num, by omega, HB5.out⟩
                  · have hie : ((i : Int) == 0) = false := by rw [beq_eq_false_iff_ne]; omega
                    obtain ⟨j, hj⟩ : ∃ j, i = j + 1 := ⟨i - 1, by omega⟩
                    have hsub : IntKind.i64.wrap ((i : Int) - 1) = (j : Int) := by rw [IntWalk.i64_in _ (by omega)]; omega
                    have hj0 : (0 : Int) ≤ (j : Int) := by omega
                    have hjn : (j : Int) < (nk : Int) := by omega
                    have hjn2 : j < nk := by omega
                    obtain ⟨u2, hu2, b4, o4, r4, hp4, _, hnr4, hnd4⟩ := HKP.out.at (kidPs_at b2 o2 nk j (by omega))
                    obtain ⟨rfl, rfl⟩ : b2 = b4 ∧ o2 + j * 5 = o4 := by injection hp4 with h1 h2; exact ⟨h1, h2⟩
                    have HKU : Hid (r4.kind = u2.kind) := Lib.hid hnd4.kids.1
                    obtain ⟨x0, x1, x2', x3, x4⟩ := hnr4.keep (keeps_below HB5.out Non) (fun h => h)
                    have HNX : Hid ((BA && kidsP (ks.take (i + 1))) = !(u2.kind == 2 && t2.kind == 2)) := Lib.hid (by
                      have h1 := HBT.out
                      have h2 := HT2.out
                      rw [hj] at h1 h2 ⊢
                      rw [h1.1, kids_next hu2 h2, h1.2, HF2.out, Bool.true_and, Bool.true_and, Bool.true_and])
                    rw [← HKD.out, ← HKU.out] at HNX
                    obtain ⟨ku, hku⟩ : ∃ z, r4.kind = z := ⟨_, rfl⟩
                    rw [hku] at x0 HNX
                    clear hi hj hu2 hp4 hnr4 hnd4 HKU x1 x2' x3 x4 hku
                    by_cases hk2 : k2 = 2
                    · subst hk2
                      by_cases hu : ku = 2
                      · subst hu
                        have HN2 : Hid ((BA && kidsP (ks.take (i + 1))) = false) := Lib.hid (by rw [HNX.out]; rfl)
                        go_wp2_with fail
                        go_roundg g
                        case measure => omega
                        case rel => exact ⟨i + 1, by rw [HN2.out], by go_num, by omega, HB5.out⟩
                      · have hue : (ku != 2) = true := bne_iff_ne.2 hu
                        have HN2 : Hid ((BA && kidsP (ks.take (i + 1))) = true) := Lib.hid (by rw [HNX.out, beq_eq_false_iff_ne.2 hu]; rfl)
                        go_wp2_with fail
                        go_roundg g
                        case measure => omega
                        case rel => exact ⟨i + 1, by rw [HN2.out], by go_num, by omega, HB5.out⟩
                    · have hke : (k2 != 2) = true := bne_iff_ne.2 hk2
                      have HN2 : Hid ((BA && kidsP (ks.take (i + 1))) = true) := Lib.hid (by rw [HNX.out, beq_eq_false_iff_ne.2 hk2, Bool.and_false]; rfl)
                      go_wp2_with fail
                      go_roundg g
                      case measure => omega
                      case rel => exact ⟨i + 1, by rw [HN2.out], by go_num, by omega, HB5.out⟩
        | succ g =>
          have hlt : (i : Int) < (na : Int) := by omega
          have hi0 : (0 : Int) ≤ (i : Int) := by omega
          have hin : i < na := by omega
          have hadd : IntKind.i64.wrap ((i : Int) + 1) = ((i + 1 : Nat) : Int) := IntWalk.i64_in _ (by omega)
          obtain rfl : false = c := by rw [← HC.out, Bool.false_and]
          have HBI := Lib.hid HBR.out
          go_wp2_with fail
          go_loopg [3, 5] i (fun g2 s3 s5 wz => ∃ (j : Nat), s3 = .bool false ∧ s5 = .int .i64 (j : Int) ∧ g2 + j = i ∧ Below w0.heap.size w0 wz)
          case atStart => exact ⟨0, rfl, rfl, rfl, (HBI.out)⟩
          case round =>
            obtain ⟨j, rfl, rfl, hj, hbz⟩ := hrel
            have HBZ := Lib.hid hbz
            clear hbz
            cases gk with
            | zero =>
              have hge2 : ¬ ((j : Int) < (i : Int)) := by omega
              go_wp2_with fail
              go_roundg g
              case measure => omega
              case rel => exact ⟨i + 1, by rw [(Bool.false_and _ : (false && attrsP (ats.take (i + 1))) = false)], by go_num, by omega, HBZ.out⟩
            | succ g2 =>
              have hlt2 : (j : Int) < (i : Int) := by omega
              have hadd2 : IntKind.i64.wrap ((j : Int) + 1) = ((j + 1 : Nat) : Int) := IntWalk.i64_in _ (by omega)
              go_upto_region 21 with (fail)
              refine wp_region_quiet_lit (by kernel_rfl) (by kernel_rfl) (QW.out ?_)
              repeat
                (refine QW.step (fun K hK => ?_)
                 go_simp
                 (refine hK _ ?_; clear hK K))
              refine QW.nil ?_
              intro _ hw'
              obtain ⟨nq, hw''⟩ := hw'
              subst hw''
              have HBY := Lib.hid (below_drew HBZ.out nq)
              go_wp2_with fail
              go_roundg g2
              case measure => omega
              case rel => exact ⟨j + 1, rfl, by go_num, by omega, HBY.out⟩
    | true =>
      have hSe : S = ⟨#[]⟩ := by rw [← HSX.out, List.isEmpty_iff.1 HXB.out]; rfl
      have HQ2 : Hid ((true && attrsP ats && kidsP ks) = Q) := Lib.hid (by rw [← HQ.out]; rfl)
      clear HQ
      subst hSe
      go_wp2_with fail
      go_loopg [3, 4] na (fun g s3 s4 wr => ∃ (i : Nat), s3 = .bool ((true) && attrsP (ats.take i)) ∧ s4 = .int .i64 (i : Int) ∧ g + i = na ∧ Below w0.heap.size w0 wr)
      case atStart => exact ⟨0, rfl, rfl, rfl, HB2.out⟩
      case round =>
        obtain ⟨i, rfl, rfl, hg, hbr⟩ := hrel
        have HBR := Lib.hid hbr
        clear hbr
        clear z0 z1 z2 z3 z4
        obtain ⟨z0, z1, z2, z3, z4⟩ := HBX.out.cells HBR.out
        obtain ⟨c, hc⟩ : ∃ c, ((true) && attrsP (ats.take i)) = c := ⟨_, rfl⟩
        rw [hc]
        have HC := Lib.hid hc
        clear hc
        cases gk with
        | zero =>
          obtain rfl : i = na := by omega
          have hge : ¬ ((i : Int) < (i : Int)) := by omega
          have HC0 : Hid (((true) && attrsP ats) = c) := Lib.hid (by rw [← HC.out, List.take_of_length_le (by have := HAL.out; omega)])
          obtain ⟨BA, hBA⟩ : ∃ b, b = c := ⟨_, rfl⟩
          rw [← hBA]
          have HBA : Hid (((true) && attrsP ats) = BA) := Lib.hid (by rw [HC0.out, hBA])
          clear hBA HC HC0
          go_wp2_with fail
          go_loopg [3, 6] nk (fun g s3 s6 wz => ∃ (i : Nat), s3 = .bool (BA && kidsP (ks.take i)) ∧ s6 = .int .i64 (i : Int) ∧ g + i = nk ∧ Below w0.heap.size w0 wz)
          case atStart => exact ⟨0, by rw [List.take_zero, show kidsP [] = true from rfl, Bool.and_true], rfl, rfl, HBR.out⟩
          case round =>
            obtain ⟨i, rfl, rfl, hg, hbz⟩ := hrel
            have HBZ := Lib.hid hbz
            clear hbz
            clear z0 z1 z2 z3 z4
            obtain ⟨z0, z1, z2, z3, z4⟩ := HBX.out.cells HBZ.out
            obtain ⟨c, hc⟩ : ∃ c, (BA && kidsP (ks.take i)) = c := ⟨_, rfl⟩
            rw [hc]
            have HC := Lib.hid hc
            clear hc
            cases gk with
            | zero =>
              obtain rfl : i = nk := by omega
              have hge : ¬ ((i : Int) < (i : Int)) := by omega
              have HF : Hid (c = Q) := Lib.hid (by rw [← HQ2.out, HBA.out, ← HC.out, List.take_of_length_le (by have := HNK.out; omega)])
              go_wp2_with fail
              go_ret
              exact ⟨by rw [← HF.out]; rfl, below_then HB0.out HBZ.out⟩
            | succ g =>
              have hlt : (i : Int) < (nk : Int) := by omega
              have hi0 : (0 : Int) ≤ (i : Int) := by omega
              have hin : i < nk := by omega
              have hadd : IntKind.i64.wrap ((i : Int) + 1) = ((i + 1 : Nat) : Int) := IntWalk.i64_in _ (by omega)
              obtain ⟨t2, ht2, b3, o3, r2, hp2, _, hnr2, hnd2⟩ := HKP.out.at (kidPs_at b2 o2 nk i (by omega))
              obtain ⟨rfl, rfl⟩ : b2 = b3 ∧ o2 + i * 5 = o3 := by injection hp2 with h1 h2; exact ⟨h1, h2⟩
              have HT2 := Lib.hid ht2
              clear hp2 ht2
              cases c with
              | false =>
                have HNF : Hid ((BA && kidsP (ks.take (i + 1))) = false) := Lib.hid (by
                  have h1 := HC.out
                  cases BA with
                  | false => rfl
                  | true => exact kids_off HT2.out (.inl h1))
                clear hnr2 hnd2
                go_wp2_with fail
                go_roundg g
                case measure => omega
                case rel => exact ⟨i + 1, by rw [HNF.out], by go_num, by omega, HBZ.out⟩
              | true =>
                have HBT : Hid (BA = true ∧ kidsP (ks.take i) = true) := Lib.hid (Bool.and_eq_true_iff.1 HC.out)
                have HNR := Lib.hid hnr2
                obtain ⟨y0, y1, y2, y3, y4⟩ := hnr2.keep (keeps_below HBZ.out Non) (fun h => h)
                have hnd3 := hnd2.keep (keeps_below HBZ.out Non) (fun _ _ h => h) (fun _ h => h)
                have HKD : Hid (r2.kind = t2.kind) := Lib.hid hnd2.kids.1
                obtain ⟨k2, n2, x2, av2, kv2⟩ := r2
                dsimp only at y0 y1 y2 y3 y4
                obtain rfl : ka = some ⟨b2, o2, none⟩ := by
                  rcases HK1.out with h1 | h1
                  · omega
                  · exact h1
                have HC2 := HIH.out hnd3 (by have h1 := sz_mem HT2.out; have h2 := HKZ.out; omega)
                unfold nodeV at HC2
                dsimp only at HC2
                obtain ⟨sn2, hsn2⟩ : ∃ s, strB n2 = s := ⟨_, rfl⟩
                obtain ⟨st2, hst2⟩ : ∃ s, strB x2 = s := ⟨_, rfl⟩
                rw [hsn2] at y1 HC2
                rw [hst2] at y2 HC2
                obtain ⟨f2, hf2⟩ : ∃ f, fairT t2 = f := ⟨_, rfl⟩
                rw [hf2] at HC2
                have HC2 := Lib.hid HC2
                have HF2 := Lib.hid hf2
                clear hnr2 hnd2 hnd3 hsn2 hst2 hf2
                go_wp2_with fail
                with_reducible refine HC2.out.mono ?_
                rintro e w5 ⟨rfl, hb5⟩
                have HB5 := Lib.hid (below_then HBZ.out hb5)
                clear hb5 HC2 y0 y1 y2 y3 y4 z0 z1 z2 z3 z4
                obtain ⟨z0, z1, z2, z3, z4⟩ := HBX.out.cells HB5.out
                cases f2 with
                | false =>
                  have HNF : Hid ((BA && kidsP (ks.take (i + 1))) = false) := Lib.hid (by rw [kids_off HT2.out (.inr HF2.out), Bool.and_false])
                  go_wp2_with fail
                  go_roundg g
                  case measure => omega
                  case rel => exact ⟨i + 1, by rw [HNF.out], by go_num, by omega, HB5.out⟩
                | true =>
                  obtain ⟨y0, y1, y2, y3, y4⟩ := HNR.out.keep (keeps_below HB5.out Non) (fun h => h)
                  clear y1 y2 y3 y4
                  by_cases hi : i = 0
                  · have HNT : Hid ((BA && kidsP (ks.take (i + 1))) = true) := Lib.hid (by rw [HBT.out.1]; subst hi; rw [kids_first HT2.out]; exact HF2.out)
                    have hie : ((i : Int) == 0) = true := by rw [beq_iff_eq]; omega
                    clear hi
                    go_wp2_with fail
                    go_roundg g
                    case measure => omega
                    case rel => exact ⟨i + 1, by rw [HNT.out], by go_num, by omega, HB5.out⟩
                  · have hie : ((i : Int) == 0) = false := by rw [beq_eq_false_iff_ne]; omega
                    obtain ⟨j, hj⟩ : ∃ j, i = j + 1 := ⟨i - 1, by omega⟩
                    have hsub : IntKind.i64.wrap ((i : Int) - 1) = (j : Int) := by rw [IntWalk.i64_in _ (by omega)]; omega
                    have hj0 : (0 : Int) ≤ (j : Int) := by omega
                    have hjn : (j : Int) < (nk : Int) := by omega
                    have hjn2 : j < nk := by omega
                    obtain ⟨u2, hu2, b4, o4, r4, hp4, _, hnr4, hnd4⟩ := HKP.out.at (kidPs_at b2 o2 nk j (by omega))
                    obtain ⟨rfl, rfl⟩ : b2 = b4 ∧ o2 + j * 5 = o4 := by injection hp4 with h1 h2; exact ⟨h1, h2⟩
                    have HKU : Hid (r4.kind = u2.kind) := Lib.hid hnd4.kids.1
                    obtain ⟨x0, x1, x2', x3, x4⟩ := hnr4.keep (keeps_below HB5.out Non) (fun h => h)
                    have HNX : Hid ((BA && kidsP (ks.take (i + 1))) = !(u2.kind == 2 && t2.kind == 2)) := Lib.hid (by
                      have h1 := HBT.out
                      have h2 := HT2.out
                      rw [hj] at h1 h2 ⊢
                      rw [h1.1, kids_next hu2 h2, h1.2, HF2.out, Bool.true_and, Bool.true_and, Bool.true_and])
                    rw [← HKD.out, ← HKU.out] at HNX
                    obtain ⟨ku, hku⟩ : ∃ z, r4.kind = z := ⟨_, rfl⟩
                    rw [hku] at x0 HNX
                    clear hi hj hu2 hp4 hnr4 hnd4 HKU x1 x2' x3 x4 hku
                    by_cases hk2 : k2 = 2
                    · subst hk2
                      by_cases hu : ku = 2
                      · subst hu
                        have HN2 : Hid ((BA && kidsP (ks.take (i + 1))) = false) := Lib.hid (by rw [HNX.out]; rfl)
                        go_wp2_with fail
                        go_roundg g
                        case measure => omega
                        case rel => exact ⟨i + 1, by rw [HN2.out], by go_num, by omega, HB5.out⟩
                      · have hue : (ku != 2) = true := bne_iff_ne.2 hu
                        have HN2 : Hid ((BA && kidsP (ks.take (i + 1))) = true) := Lib.hid (by rw [HNX.out, beq_eq_false_iff_ne.2 hu]; rfl)
                        go_wp2_with fail
                        go_roundg g
                        case measure => omega
                        case rel => exact ⟨i + 1, by rw [HN2.out], by go_num, by omega, HB5.out⟩
                    · have hke : (k2 != 2) = true := bne_iff_ne.2 hk2
                      have HN2 : Hid ((BA && kidsP (ks.take (i + 1))) = true) := Lib.hid (by rw [HNX.out, beq_eq_false_iff_ne.2 hk2, Bool.and_false]; rfl)
                      go_wp2_with fail
                      go_roundg g
                      case measure => omega
                      case rel => exact ⟨i + 1, by rw [HN2.out], by go_num, by omega, HB5.out⟩
        | succ g =>
          have hlt : (i : Int) < (na : Int) := by omega
          have hi0 : (0 : Int) ≤ (i : Int) := by omega
          have hin : i < na := by omega
          have hadd : IntKind.i64.wrap ((i : Int) + 1) = ((i + 1 : Nat) : Int) := IntWalk.i64_in _ (by omega)
          obtain ⟨⟨an, ax⟩, ha⟩ : ∃ a, ats[i]? = some a := ⟨_, List.getElem?_eq_getElem (by rw [← HAL.out]; exact hin)⟩
          have HSNX : Hid ((true && attrsP (ats.take (i + 1))) = (c && (nameW an && hasB ax) && !metA ats i an)) := Lib.hid (by
            rw [Bool.true_and, attrsP_snoc ha]
            have h1 := HC.out
            rw [Bool.true_and] at h1
            rw [h1])
          cases c with
          | false =>
            have HNF : Hid ((true && attrsP (ats.take (i + 1))) = false) := Lib.hid (by rw [HSNX.out, Bool.false_and, Bool.false_and])
            have HBI := Lib.hid HBR.out
            clear ha
            go_wp2_with fail
            go_loopg [3, 5] i (fun g2 s3 s5 wz => ∃ (j : Nat), s3 = .bool false ∧ s5 = .int .i64 (j : Int) ∧ g2 + j = i ∧ Below w0.heap.size w0 wz)
            case atStart => exact ⟨0, rfl, rfl, rfl, (HBI.out)⟩
            case round =>
              obtain ⟨j, rfl, rfl, hj, hbz⟩ := hrel
              have HBZ := Lib.hid hbz
              clear hbz
              cases gk with
              | zero =>
                have hge2 : ¬ ((j : Int) < (i : Int)) := by omega
                go_wp2_with fail
                go_roundg g
                case measure => omega
                case rel => exact ⟨i + 1, by rw [(HNF.out)], by go_num, by omega, HBZ.out⟩
              | succ g2 =>
                have hlt2 : (j : Int) < (i : Int) := by omega
                have hadd2 : IntKind.i64.wrap ((j : Int) + 1) = ((j + 1 : Nat) : Int) := IntWalk.i64_in _ (by omega)
                go_upto_region 21 with (fail)
                refine wp_region_quiet_lit (by kernel_rfl) (by kernel_rfl) (QW.out ?_)
                repeat
                  (refine QW.step (fun K hK => ?_)
                   go_simp
                   (refine hK _ ?_; clear hK K))
                refine QW.nil ?_
                intro _ hw'
                obtain ⟨nq, hw''⟩ := hw'
                subst hw''
                have HBY := Lib.hid (below_drew HBZ.out nq)
                go_wp2_with fail
                go_roundg g2
                case measure => omega
                case rel => exact ⟨j + 1, rfl, by go_num, by omega, HBY.out⟩
          | true =>
            obtain ⟨b, o, rfl, y1, y2⟩ := att_at HAT.out ha
            dsimp only at y1 y2
            have hml := at_mem ha
            dsimp only at hml
            have hl1 : an.length ≤ 1000000 := by have := HAZ.out; omega
            have hl2 : ax.length ≤ 1000000 := by have := HAZ.out; omega
            have HNM := HNAME.out an hl1
            have HBD := HBAD.out ax hl2
            obtain ⟨sa, hsa⟩ : ∃ s, strB an = s := ⟨_, rfl⟩
            obtain ⟨sx, hsx⟩ : ∃ s, strB ax = s := ⟨_, rfl⟩
            obtain ⟨nb, hnb⟩ : ∃ s, nameW an = s := ⟨_, rfl⟩
            obtain ⟨qx, hqx⟩ : ∃ s, badL ax = s := ⟨_, rfl⟩
            have HHX : Hid (hasB ax = decide (qx < 0)) := Lib.hid (by rw [← hqx]; rfl)
            rw [hsa, hnb] at HNM
            rw [hsx, hqx] at HBD
            rw [hnb] at HSNX
            rw [hsa] at y1
            rw [hsx] at y2
            have HNM := Lib.hid HNM
            have HBD := Lib.hid HBD
            have HSA := Lib.hid hsa
            have HA := Lib.hid ha
            have Y1 := Lib.hid y1
            have Y2 := Lib.hid y2
            replace y1 := cell_below HBR.out y1
            replace y2 := cell_below HBR.out y2
            clear ha hml hl1 hl2 hsa hsx hnb hqx
            go_wp2_with fail
            with_reducible refine (HNM.out _).mono ?_
            rintro e w3 ⟨rfl, hb3⟩
            have HB3 := Lib.hid (below_then HBR.out hb3)
            clear hb3 z0 z1 z2 z3 z4 y1 y2
            obtain ⟨z0, z1, z2, z3, z4⟩ := HBX.out.cells HB3.out
            cases nb with
            | false =>
              have HNF : Hid ((true && attrsP (ats.take (i + 1))) = false) := Lib.hid (by rw [HSNX.out]; rfl)
              have HBI := Lib.hid HB3.out
              go_wp2_with fail
              go_loopg [3, 5] i (fun g2 s3 s5 wz => ∃ (j : Nat), s3 = .bool false ∧ s5 = .int .i64 (j : Int) ∧ g2 + j = i ∧ Below w0.heap.size w0 wz)
              case atStart => exact ⟨0, rfl, rfl, rfl, (HBI.out)⟩
              case round =>
                obtain ⟨j, rfl, rfl, hj, hbz⟩ := hrel
                have HBZ := Lib.hid hbz
                clear hbz
                cases gk with
                | zero =>
                  have hge2 : ¬ ((j : Int) < (i : Int)) := by omega
                  go_wp2_with fail
                  go_roundg g
                  case measure => omega
                  case rel => exact ⟨i + 1, by rw [(HNF.out)], by go_num, by omega, HBZ.out⟩
                | succ g2 =>
                  have hlt2 : (j : Int) < (i : Int) := by omega
                  have hadd2 : IntKind.i64.wrap ((j : Int) + 1) = ((j + 1 : Nat) : Int) := IntWalk.i64_in _ (by omega)
                  go_upto_region 21 with (fail)
                  refine wp_region_quiet_lit (by kernel_rfl) (by kernel_rfl) (QW.out ?_)
                  repeat
                    (refine QW.step (fun K hK => ?_)
                     go_simp
                     (refine hK _ ?_; clear hK K))
                  refine QW.nil ?_
                  intro _ hw'
                  obtain ⟨nq, hw''⟩ := hw'
                  subst hw''
                  have HBY := Lib.hid (below_drew HBZ.out nq)
                  go_wp2_with fail
                  go_roundg g2
                  case measure => omega
                  case rel => exact ⟨j + 1, rfl, by go_num, by omega, HBY.out⟩
            | true =>
              have y1 := cell_below HB3.out Y1.out
              have y2 := cell_below HB3.out Y2.out
              have kc3 := HKC.out w3 sx
              have HBW3 : Hid (Below w3.heap.size w3 (bytesWorld w3 5 sx)) := Lib.hid (bytesWorld_below w3 sx)
              go_wp2_with fail
              with_reducible refine (HBD.out w3).mono ?_
              rintro e w4 ⟨rfl, hb4⟩
              have HB4 := Lib.hid (below_then HB3.out (below_then HBW3.out hb4))
              clear hb4 kc3 z0 z1 z2 z3 z4 y1 y2
              obtain ⟨z0, z1, z2, z3, z4⟩ := HBX.out.cells HB4.out
              by_cases hqx : qx < 0
              case neg =>
                have HNF : Hid ((true && attrsP (ats.take (i + 1))) = false) := Lib.hid (by rw [HSNX.out, HHX.out, decide_eq_false hqx]; rfl)
                have hd0 : decide (qx < 0) = false := decide_eq_false hqx
                have HBI := Lib.hid HB4.out
                go_wp2_with fail
                go_loopg [3, 5] i (fun g2 s3 s5 wz => ∃ (j : Nat), s3 = .bool false ∧ s5 = .int .i64 (j : Int) ∧ g2 + j = i ∧ Below w0.heap.size w0 wz)
                case atStart => exact ⟨0, rfl, rfl, rfl, (HBI.out)⟩
                case round =>
                  obtain ⟨j, rfl, rfl, hj, hbz⟩ := hrel
                  have HBZ := Lib.hid hbz
                  clear hbz
                  cases gk with
                  | zero =>
                    have hge2 : ¬ ((j : Int) < (i : Int)) := by omega
                    go_wp2_with fail
                    go_roundg g
                    case measure => omega
                    case rel => exact ⟨i + 1, by rw [(HNF.out)], by go_num, by omega, HBZ.out⟩
                  | succ g2 =>
                    have hlt2 : (j : Int) < (i : Int) := by omega
                    have hadd2 : IntKind.i64.wrap ((j : Int) + 1) = ((j + 1 : Nat) : Int) := IntWalk.i64_in _ (by omega)
                    go_upto_region 21 with (fail)
                    refine wp_region_quiet_lit (by kernel_rfl) (by kernel_rfl) (QW.out ?_)
                    repeat
                      (refine QW.step (fun K hK => ?_)
                       go_simp
                       (refine hK _ ?_; clear hK K))
                    refine QW.nil ?_
                    intro _ hw'
                    obtain ⟨nq, hw''⟩ := hw'
                    subst hw''
                    have HBY := Lib.hid (below_drew HBZ.out nq)
                    go_wp2_with fail
                    go_roundg g2
                    case measure => omega
                    case rel => exact ⟨j + 1, rfl, by go_num, by omega, HBY.out⟩
              have HNT : Hid ((true && attrsP (ats.take (i + 1))) = !metA ats i an) := Lib.hid (by rw [HSNX.out, HHX.out, decide_eq_true hqx]; rfl)
              have hd0 : decide (qx < 0) = true := decide_eq_true hqx
              go_wp2_with fail
              clear z0 z1 z2 z3 z4
              go_loopg [3, 5] i (fun g2 s3 s5 wz => ∃ (j : Nat), s3 = .bool (!metA ats j an) ∧ s5 = .int .i64 (j : Int) ∧ g2 + j = i ∧ Below w0.heap.size w0 wz)
              case atStart => exact ⟨0, rfl, rfl, rfl, HB4.out⟩
              case round =>
                obtain ⟨j, rfl, rfl, hj, hbz⟩ := hrel
                have HBZ := Lib.hid hbz
                clear hbz
                obtain ⟨z0, z1, z2, z3, z4⟩ := HBX.out.cells HBZ.out
                obtain ⟨d, hd⟩ : ∃ d, metA ats j an = d := ⟨_, rfl⟩
                rw [hd]
                have HD := Lib.hid hd
                clear hd
                cases gk with
                | zero =>
                  obtain rfl : j = i := by omega
                  have hge2 : ¬ ((j : Int) < (j : Int)) := by omega
                  have HNF : Hid ((true && attrsP (ats.take (j + 1))) = !d) := Lib.hid (by rw [HNT.out, HD.out])
                  go_wp2_with fail
                  go_roundg g
                  case measure => omega
                  case rel => exact ⟨j + 1, by rw [HNF.out], by go_num, by omega, HBZ.out⟩
                | succ g2 =>
                  have hlt2 : (j : Int) < (i : Int) := by omega
                  have hj0 : (0 : Int) ≤ (j : Int) := by omega
                  have hjn : (j : Int) < (na : Int) := by omega
                  have hjn2 : j < na := by omega
                  have hadd2 : IntKind.i64.wrap ((j : Int) + 1) = ((j + 1 : Nat) : Int) := IntWalk.i64_in _ (by omega)
                  obtain ⟨⟨bn, bx⟩, hbn⟩ : ∃ a, ats[j]? = some a := ⟨_, List.getElem?_eq_getElem (by rw [← HAL.out]; exact hjn2)⟩
                  have HMS : Hid (metA ats (j + 1) an = (d || decide (bn = an))) := Lib.hid (by rw [met_snoc hbn, HD.out])
                  cases d with
                  | true =>
                    clear hbn
                    go_upto_region 21 with (fail)
                    refine wp_region_quiet_lit (by kernel_rfl) (by kernel_rfl) (QW.out ?_)
                    repeat
                      (refine QW.step (fun K hK => ?_)
                       go_simp
                       (refine hK _ ?_; clear hK K))
                    refine QW.nil ?_
                    intro _ hw'
                    obtain ⟨nq, hw''⟩ := hw'
                    subst hw''
                    have HBY := Lib.hid (below_drew HBZ.out nq)
                    go_wp2_with fail
                    go_roundg g2
                    case measure => omega
                    case rel => exact ⟨j + 1, by rw [HMS.out]; rfl, by go_num, by omega, HBY.out⟩
                  | false =>
                    obtain ⟨b', o', hbo, x1, x2⟩ := att_at HAT.out hbn
                    obtain ⟨rfl, rfl⟩ : b = b' ∧ o = o' := by injection hbo with hbo; injection hbo with h1 h2; exact ⟨h1, h2⟩
                    dsimp only at x1
                    have y1 := cell_below HBZ.out Y1.out
                    replace x1 := cell_below HBZ.out x1
                    clear x2 hbo hbn
                    by_cases hne : bn = an
                    · subst hne
                      rw [HSA.out] at x1
                      go_upto_region 21 with (fail)
                      refine wp_region_quiet_lit (by kernel_rfl) (by kernel_rfl) (QW.out ?_)
                      repeat
                        (refine QW.step (fun K hK => ?_)
                         go_simp
                         (refine hK _ ?_; clear hK K))
                      refine QW.nil ?_
                      intro _ hw'
                      obtain ⟨nq, hw''⟩ := hw'
                      subst hw''
                      have HBY := Lib.hid (below_drew HBZ.out nq)
                      go_wp2_with fail
                      go_roundg g2
                      case measure => omega
                      case rel => exact ⟨j + 1, by rw [HMS.out]; simp, by go_num, by omega, HBY.out⟩
                    · obtain ⟨sb, hsb⟩ : ∃ s, strB bn = s := ⟨_, rfl⟩
                      have hn1 : (sb.toList == sa.toList) = false := bytes_ne (fun e => hne (by
                        rw [← hsb, ← HSA.out] at e
                        have := congrArg (fun z : ByteArray => z.data.toList) e
                        simpa [strB] using this))
                      rw [hsb] at x1
                      have HNE := Lib.hid hne
                      clear hsb hne
                      go_upto_region 21 with (fail)
                      refine wp_region_quiet_lit (by kernel_rfl) (by kernel_rfl) (QW.out ?_)
                      repeat
                        (refine QW.step (fun K hK => ?_)
                         go_simp
                         (refine hK _ ?_; clear hK K))
                      refine QW.nil ?_
                      intro _ hw'
                      obtain ⟨nq, hw''⟩ := hw'
                      subst hw''
                      have HBY := Lib.hid (below_drew HBZ.out nq)
                      go_wp2_with fail
                      go_roundg g2
                      case measure => omega
                      case rel => exact ⟨j + 1, by rw [HMS.out, decide_eq_false HNE.out]; rfl, by go_num, by omega, HBY.out⟩

end Go.Proofs.YtocnedpclllbhaaGreatDoor
