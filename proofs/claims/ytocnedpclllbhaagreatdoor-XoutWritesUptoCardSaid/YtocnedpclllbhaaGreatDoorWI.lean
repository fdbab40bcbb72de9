/-
 xout's Nodes: nodes as they are written. Conditions: they lie in memory; they are few, and what is written of them is short.
-/
import Derived.Test.YtocnedpclllbhaaGreatDoorWH
import Derived.Test.YtocnedpclllbhaaGreatDoorXAt
namespace Go.Proofs.YtocnedpclllbhaaGreatDoor
open Go.RowKit Go.Lib Go.Joins

/-- What is left of a level, in memory. -/
def RestIn (w0 : World) (v : Value) (ts : List Tr) : Prop := ∃ rows, RowIn w0 Any v rows ∧ NodesIn w0 Any rows ts
def LvsIn (w0 : World) : List (Value × List UInt8) → List (List Tr × List UInt8) → Prop
  | [], [] => True
  | x :: xs, l :: ls => x.2 = l.2 ∧ RestIn w0 x.1 l.1 ∧ LvsIn w0 xs ls
  | [], _ :: _ => False
  | _ :: _, [] => False
theorem LvsIn.len {w0 : World} : ∀ {xs : List (Value × List UInt8)} {ls : List (List Tr × List UInt8)}, LvsIn w0 xs ls → xs.length = ls.length
  | [], [], _ => rfl
  | _ :: _, _ :: _, h => by rw [List.length_cons, List.length_cons, LvsIn.len h.2.2]
  | [], _ :: _, h => h.elim
  | _ :: _, [], h => h.elim
theorem steps_len : ∀ ls : List (List Tr × List UInt8), ls.length ≤ stepsW ls
  | [] => Nat.le_refl _
  | l :: ls => by
    have := steps_len ls
    rw [List.length_cons, stepsW]
    omega
/-- The first node that is left of a level. -/
theorem RestIn.first {w0 : World} {v : Value} {t : Tr} {ts : List Tr} (h : RestIn w0 v (t :: ts)) : ∃ nb no c r, v = .slice (some ⟨nb, no, none⟩) (ts.length + 1) c ∧ ts.length + 1 ≤ c ∧ c ≤ maxLen ∧ NrIn w0 nb no r ∧ NodeIn w0 Any r t ∧
    RestIn w0 (.slice (some ⟨nb, no + 5, none⟩) ts.length (c - 1)) ts ∧ (c = 1 → RestIn w0 (.slice (some ⟨nb, no, none⟩) 0 0) ts) := by
  obtain ⟨rows, hr, hn⟩ := h
  obtain ⟨a, c, rfl, hc, hm, hz, hcell⟩ := hr
  cases rows with
  | nil => have := hn.1; simp at this
  | cons r rows =>
    have hl : rows.length = ts.length := by have := hn.1; rw [List.length_cons, List.length_cons] at this; omega
    rcases hcell with h0 | ⟨nb, no, rfl, hS, hcell⟩
    · cases h0
    have hn1 := hn.2 0 r t rfl rfl
    have hd : NodesIn w0 Any rows ts := ⟨hl, fun i x y e1 e2 => hn.2 (i + 1) x y e1 e2⟩
    rw [List.length_cons] at hc
    refine ⟨nb, no, c, r, by rw [List.length_cons, hl], by omega, hm, by have := hcell 0 r rfl; simpa using this, hn1, ⟨rows, ⟨_, c - 1, by rw [hl], by omega, by omega, fun h => (by cases h), .inr ⟨nb, no + 5, rfl, trivial, fun i x hx => ?_⟩⟩, hd⟩, fun hc1 => ?_⟩
    · rw [show no + 5 + i * 5 = no + (i + 1) * 5 by omega]
      exact hcell (i + 1) x hx
    · have h0 : rows = [] := List.length_eq_zero_iff.1 (by omega)
      exact ⟨rows, ⟨_, 0, by rw [h0]; rfl, by rw [h0]; exact Nat.le_refl _, Nat.zero_le _, fun h => (by cases h), .inl h0⟩, hd⟩
theorem RestIn.none {w0 : World} {v : Value} (h : RestIn w0 v []) : ∃ a c, v = .slice a 0 c := by
  obtain ⟨rows, ⟨a, c, rfl, _⟩, hn⟩ := h
  exact ⟨a, c, by rw [hn.1]; rfl⟩
/-- The innermost level, where there is one. -/
theorem LvW.last {w : World} {B : Nat} {o : Value} {l : List (Value × List UInt8)} {x : Value × List UInt8} (h : LvW w B o (l ++ [x])) : ∃ g c, o = .slice (some ⟨g, 0, none⟩) (l.length + 1) c ∧ l.length + 1 ≤ c ∧ c ≤ maxLen ∧ B ≤ g ∧ w.frozen? ⟨g, l.length * 2, none⟩ = false ∧
    w.cell? ⟨g, l.length * 2, none⟩ = some x.1 ∧ w.cell? ⟨g, l.length * 2 + 1, none⟩ = some (.string (strB x.2)) := by
  have hl : (l ++ [x]).length = l.length + 1 := by simp
  obtain ⟨hlen, hr⟩ := h.row
  rcases hr with ⟨_, h0⟩ | ⟨g, cap, cur, rfl, _, hg, hcap, hcm, hcur, htk⟩
  · rw [hl] at h0; omega
  · rw [hl] at hcap htk ⊢
    have hx : (l ++ [x])[l.length]? = some x := by rw [List.getElem?_append_right (Nat.le_refl _), Nat.sub_self]; rfl
    obtain ⟨e1, e2⟩ := lvC_at hx
    have hat : ∀ i v, (lvC (l ++ [x]))[i]? = some v → i < (l.length + 1) * 2 → cur[i]? = some v := fun i v hv hi => by
      rw [← htk, List.getElem?_take, if_pos hi] at hv
      rw [← hv, Array.getElem?_toList]
    refine ⟨g, cap, rfl, hcap, hcm, h.new g rfl, Lib.frozen_of_heap hg _, ?_, ?_⟩
    · rw [Lib.cell_of_heap hg]; exact hat _ _ e1 (by omega)
    · rw [Lib.cell_of_heap hg]; exact hat _ _ e2 (by omega)
/-- The innermost level, gone. -/
theorem LvW.drop {w : World} {B g c : Nat} {l : List (Value × List UInt8)} {x : Value × List UInt8} (h : LvW w B (.slice (some ⟨g, 0, none⟩) (l.length + 1) c) (l ++ [x])) : LvW w B (.slice (some ⟨g, 0, none⟩) l.length c) l := by
  refine ⟨⟨lvC_len l, ?_⟩, fun k hk => h.new k hk⟩
  rcases h.row.2 with ⟨h1, _⟩ | ⟨g2, cap, cur, h1, h2, h3, h4, h5, h6, h7⟩
  · cases h1
  · injection h1 with e1 _ e3
    injection e1 with e1
    injection e1 with e1
    subst e1 e3
    rw [List.length_append, List.length_singleton] at h4 h7
    refine .inr ⟨g, c, cur, rfl, h2, h3, by omega, h5, h6, ?_⟩
    have h8 := congrArg (List.take (l.length * 2)) h7
    rw [List.take_take, Nat.min_eq_left (by omega)] at h8
    rw [h8, lvC_app, List.take_append_of_le_length (by rw [lvC_len]; omega), List.take_of_length_le (by rw [lvC_len]; omega)]
/-- What is left of the innermost level, another. -/
theorem LvW.turn {w : World} {B g c : Nat} {l : List (Value × List UInt8)} {x : Value × List UInt8} (h : LvW w B (.slice (some ⟨g, 0, none⟩) (l.length + 1) c) (l ++ [x])) (v : Value) : LvW (w.setCell ⟨g, l.length * 2, none⟩ v) B (.slice (some ⟨g, 0, none⟩) (l.length + 1) c) (l ++ [(v, x.2)]) := by
  have hlen : ∀ y : Value × List UInt8, (lvC (l ++ [y])).length = (l ++ [y]).length * 2 := fun y => lvC_len _
  refine ⟨⟨lvC_len _, ?_⟩, fun k hk => h.new k hk⟩
  rcases h.row.2 with ⟨h1, _⟩ | ⟨g2, cap, cur, h1, h2, h3, h4, h5, h6, h7⟩
  · cases h1
  · injection h1 with e1 _ e3
    injection e1 with e1
    injection e1 with e1
    subst e1 e3
    rw [List.length_append, List.length_singleton] at h4 h7 ⊢
    refine .inr ⟨g, c, cur.setIfInBounds (l.length * 2) v, rfl, h2, by simp [World.setCell, Array.getElem?_modify, h3], h4, h5, by rw [Array.size_setIfInBounds]; exact h6, ?_⟩
    rw [Array.toList_setIfInBounds, List.take_set, h7, lvC_app, lvC_app]
    show (lvC l ++ [x.1, .string (strB x.2)]).set (l.length * 2) v = lvC l ++ [v, .string (strB x.2)]
    rw [List.set_append_right _ _ (by rw [lvC_len]; exact Nat.le_refl _), lvC_len, Nat.sub_self]
    rfl
/-- The printer, where a level's row is written. -/
theorem PrAt.side {w : World} {B b g c n : Nat} {out : List UInt8} {l : List (Value × List UInt8)} (h : PrAt w B b out (.slice (some ⟨g, 0, none⟩) n c)) (hl : LvW w B (.slice (some ⟨g, 0, none⟩) n c) l) (i : Nat) (v : Value) : PrAt (w.setCell ⟨g, i, none⟩ v) B b out (.slice (some ⟨g, 0, none⟩) n c) :=
  h.grown hl ((Keeps.refl (fun q => (Value.slice (some ⟨g, 0, none⟩) n c).ownBlock = some q) w).setCell (p := ⟨g, i, none⟩) (.inl rfl) v)
theorem PrAt.new {w0 : World} {v : Value} : PrAt ((w0.alloc (.cells #[v, .string ⟨#[]⟩] 61)).alloc (.cells #[.pointer none, .slice none 0 0, .slice (some ⟨w0.heap.size, 0, none⟩) 1 1] 67)) w0.heap.size (w0.heap.size + 1) [] (.slice (some ⟨w0.heap.size, 0, none⟩) 1 1) := by
  refine ⟨by omega, .pointer none, .slice none 0 0, .inl rfl, ?_, World.ownsRow_nil _ _ _ _, fun _ => rfl⟩
  have h := heap_alloc_new (w0.alloc (.cells #[v, .string ⟨#[]⟩] 61)) (.cells #[.pointer none, .slice none 0 0, .slice (some ⟨w0.heap.size, 0, none⟩) 1 1] 67)
  rw [show (w0.alloc (.cells #[v, .string ⟨#[]⟩] 61)).heap.size = w0.heap.size + 1 by simp] at h
  exact h
theorem LvW.new1 {w0 : World} {v : Value} (o : Obj) : LvW ((w0.alloc (.cells #[v, .string ⟨#[]⟩] 61)).alloc o) w0.heap.size (.slice (some ⟨w0.heap.size, 0, none⟩) 1 1) [(v, [])] := by
  have h1 : ((w0.alloc (.cells #[v, .string ⟨#[]⟩] 61)).alloc o).heap[w0.heap.size]? = some (.cells #[v, .string ⟨#[]⟩] 61 (0, 0)) := by
    rw [Lib.alloc_old _ _ _ (by simp)]
    exact heap_alloc_new w0 _
  refine ⟨⟨rfl, .inr ⟨w0.heap.size, 1, #[v, .string ⟨#[]⟩], rfl, Nat.zero_le _, h1, Nat.le_refl _, by unfold maxLen; decide, rfl, rfl⟩⟩, fun k e => ?_⟩
  exact Nat.le_of_eq (Option.some.inj e)
set_option maxRecDepth 100000 in
set_option maxHeartbeats 8000000 in
theorem pnodes_calls {w0 : World} {v : Value} {ks : List Tr} (h : RestIn w0 v ks) (hs : (wrL ks).length ≤ 1073741824) (hc : cntL ks ≤ 400000000) : Calls Tryz.prog 13 #[v] w0 (Leaves (.string (strB (wrL ks))) w0) := by
  obtain ⟨B, hB⟩ : ∃ B, w0.heap.size = B := ⟨_, rfl⟩
  have HR := Lib.hid h
  have hvs : ∃ a n c, v = .slice a n c := by obtain ⟨rows, ⟨a, c, e, _⟩, _⟩ := h; exact ⟨_, _, _, e⟩
  obtain ⟨va, vn, vc, rfl⟩ := hvs
  obtain ⟨FIN, hF⟩ : ∃ F, wrL ks = F := ⟨_, rfl⟩
  rw [hF] at hs ⊢
  obtain ⟨N, hN⟩ : ∃ N, stepsW [(ks, [])] = N := ⟨_, rfl⟩
  have hN2 : N ≤ 1000000000 := by rw [← hN, stepsW, stepsW]; dsimp only; omega
  have HN := Lib.hid hN
  have HN2 := Lib.hid hN2
  have HF := Lib.hid hF
  have HS := Lib.hid hs
  have HB := Lib.hid hB
  have HP0 := Lib.hid (PrAt.new (w0 := w0) (v := .slice va vn vc))
  have HL0 := Lib.hid (LvW.new1 (w0 := w0) (v := .slice va vn vc) (.cells #[.pointer none, .slice none 0 0, .slice (some ⟨w0.heap.size, 0, none⟩) 1 1] 67))
  clear h hs hc hF hN hN2 hB
  go_enter Tryz.func13, Tryz.ntmps13
  go_wp2_with fail
  rw [HB.out] at HP0 HL0 ⊢
  go_loopg [] N (fun gk wr => ∃ (xs : List (Value × List UInt8)) (ls : List (List Tr × List UInt8)) (out : List UInt8) (o : Value), PrAt wr B (B + 1) out o ∧ LvW wr B o xs.reverse ∧ LvsIn w0 xs ls ∧ out ++ flatW ls = FIN ∧ Below B w0 wr ∧ stepsW ls = gk ∧ gk ≤ N)
  case atStart => exact ⟨[(_, [])], [(ks, [])], [], _, HP0.out, HL0.out, ⟨rfl, HR.out, trivial⟩, by rw [flatW, flatW, HF.out]; simp, (((Below.refl _ _).alloc (by have := HB.out; omega) _).alloc (by have := HB.out; simp; omega) _), HN.out, Nat.le_refl _⟩
  case round =>
    obtain ⟨xs, ls, out, o, hp, hlv, hin, hfin, hbl, hst, hgn⟩ := hrel
    have HPR := Lib.hid hp
    have HLR := Lib.hid hlv
    have HIN := Lib.hid hin
    have HFI := Lib.hid hfin
    have HBL := Lib.hid hbl
    have HST := Lib.hid hst
    have HGN := Lib.hid hgn
    have z2 := hp.open_
    clear hp hlv hin hfin hbl hst hgn
    cases xs with
    | nil =>
      have hls : ls = [] := List.length_eq_zero_iff.1 HIN.out.len.symm
      obtain ⟨oa, oc, rfl⟩ := HLR.out.form
      have HPS : Hid (Calls Tryz.prog 32 #[.pointer (some ⟨B + 1, 0, none⟩)] wr (fun e w' => e = .returned (.string (strB FIN)) ∧ Below B wr w')) := Lib.hid (by
        have h1 := HFI.out
        rw [hls, flatW, List.append_nil] at h1
        rw [← h1]
        exact pstring_calls HPR.out)
      clear hls HIN
      simp only [List.reverse_nil, List.length_nil] at z2 HLR HPR
      go_wp2_with fail
      with_reducible refine HPS.out.mono ?_
      rintro e w2 ⟨rfl, hb2⟩
      have HB2 : Hid (Below w0.heap.size w0 w2) := Lib.hid (by rw [HB.out]; exact HBL.out.trans hb2)
      clear hb2
      go_wp2_with fail
      go_ret
      exact ⟨rfl, HB2.out⟩
    | cons x xs =>
      cases ls with
      | nil => exact HIN.out.elim
      | cons l ls =>
        obtain ⟨hx2, hrest, hin2⟩ := HIN.out
        have hlv := HLR.out
        rw [List.reverse_cons] at hlv
        obtain ⟨g, c, rfl, hcl, hcm, hgB, hfz, hc1, hc2⟩ := hlv.last
        obtain ⟨m, hm⟩ : ∃ m, xs.reverse.length = m := ⟨_, rfl⟩
        have hlv2 := hlv
        rw [hm] at z2 hcl hfz hc1 hc2 hlv2 HPR
        have HLV := Lib.hid hlv2
        have HIN2 := Lib.hid hin2
        have HX2 := Lib.hid hx2
        have HREST := Lib.hid hrest
        have HM := Lib.hid hm
        have HMX : Hid (m ≤ 1000000000) := Lib.hid (by
          have h1 := steps_len (l :: ls)
          have h2 := HIN.out.len
          have h3 := HST.out
          have h4 := HGN.out
          have h5 := HN2.out
          rw [List.length_reverse] at hm
          rw [List.length_cons, List.length_cons] at h2
          rw [List.length_cons] at h1
          omega)
        have hgt : (0 : Int) < (m : Int) + 1 := by omega
        have hsub : IntKind.i64.wrap (m : Int) = (m : Int) := IntWalk.i64_in _ (by have := HMX.out; omega)
        have hm0 : (0 : Int) ≤ (m : Int) := by omega
        have hml : (m : Int) < (m : Int) + 1 := by omega
        have hmc : (m : Int) ≤ (c : Int) := by omega
        clear hx2 hrest hin2 hlv hlv2 hm hcl hcm HIN HLR
        obtain ⟨lv, le⟩ := l
        obtain ⟨xv, xe⟩ := x
        dsimp only at HX2 HREST hc1 hc2
        obtain rfl : xe = le := HX2.out
        obtain ⟨se, hse⟩ : ∃ s, strB xe = s := ⟨_, rfl⟩
        rw [hse] at hc2
        have HSE := Lib.hid hse
        cases lv with
        | nil =>
          obtain ⟨ra, rc, rfl⟩ := HREST.out.none
          clear HREST HX2 hse
          go_wp2_with fail
          go_quiet (fail)
          obtain ⟨y0, hy0⟩ : ∃ W, wr.drewN nq = W := ⟨_, rfl⟩
          rw [hy0]
          have hb0 : Below wr.heap.size wr y0 := by rw [← hy0]; exact ⟨rfl, rfl, rfl, Nat.le_refl _, fun _ _ => rfl⟩
          have HP1 := Lib.hid (HPR.out.below hb0)
          have HL1 := Lib.hid (HLV.out.below hb0)
          have hbB : B ≤ wr.heap.size := by have := HBL.out.size; have := HB.out; omega
          have HB1 := Lib.hid (HBL.out.trans (hb0.mono hbB))
          have d1 := (hb0.cell (lt_of_cell hc1)).trans hc1
          have d2 := (hb0.cell (lt_of_cell hc2)).trans hc2
          have hfl : out ++ (xe ++ flatW ls) = FIN := by rw [← HFI.out, flat_end]
          have HFL := Lib.hid hfl
          have HBY : Hid (B ≤ y0.heap.size) := Lib.hid (Nat.le_trans hbB hb0.size)
          have HPUT : Hid (Calls Tryz.prog 30 #[.pointer (some ⟨B + 1, 0, none⟩), .slice (some ⟨y0.heap.size, 0, none⟩) 1 1] (y0.alloc (.cells #[.string se] 9)) (POut y0 B (B + 1) (out ++ xe) (.slice (some ⟨g, 0, none⟩) (m + 1) c))) := Lib.hid (put_here HP1.out HBY.out [xe] 1 rfl (by decide) (cells := #[.string se]) (F := out ++ xe) (by rw [← HSE.out]; rfl) (by simp) (by
            have h1 := HS.out
            rw [← hfl] at h1
            simp only [List.length_append] at h1 ⊢
            omega))
          clear hb0 hc1 hc2 z2 hfl hbB HP0 HL0
          go_wp2_with fail
          with_reducible refine HPUT.out.mono ?_
          rintro e y1 ⟨rfl, hp1, hw1⟩
          have HL2 := Lib.hid (HL1.out.wr HP1.out hw1)
          have HP2 := Lib.hid hp1
          have HB2 := Lib.hid (HB1.out.trans hw1.low)
          clear hp1 hw1 d1 d2
          go_upto_region 6 with (fail)
          obtain ⟨y2, hy2⟩ : ∃ W, y1.drew = W := ⟨_, rfl⟩
          have hb12 : Below y1.heap.size y1 y2 := by rw [← hy2]; exact ⟨rfl, rfl, rfl, Nat.le_refl _, fun _ _ => rfl⟩
          have HP3 := Lib.hid (HP2.out.below hb12)
          have HL3 := Lib.hid (HL2.out.below hb12)
          have HB3 := Lib.hid (HB2.out.trans (hb12.mono (by have := HB2.out.size; have := HB.out; omega)))
          have z3 := HP3.out.open_
          have hf3 := HP3.out.thaw 2
          clear hb12
          refine wp_region_z (S := fun W => W.cell? ⟨B + 1, 2, none⟩ = some (.slice (some ⟨g, 0, none⟩) (m + 1) c)) 14 (by kernel_rfl) (by rw [hy2]; exact z3) (fun hHeld => ?_)
          rw [hy2] at hHeld ⊢
          refine wpAnyZ_take (i := 0) (f := 16) (v := ?_) rfl (by kernel_rfl) (by kernel_rfl) (by kernel_rfl) (by kernel_rfl) (by kernel_rfl) (fun _ _ _ h => h) (Or.inl ⟨by rfl, ?_⟩) (by assumption) ?_
          rotate_left
          · intro W hS
            try dsimp only at hS
            go_simp
            try with_reducible rfl
          try simp only [List.getElem_toArray, List.getElem_cons_zero, Act.put, List.setIfInBounds_toArray, List.set_cons_zero, List.set_cons_succ]
          refine wpAnyZ_take (i := 1) (f := 16) (v := ?_) rfl (by kernel_rfl) (by kernel_rfl) (by kernel_rfl) (by kernel_rfl) (by kernel_rfl) (fun _ _ _ h => h) (Or.inl ⟨by rfl, ?_⟩) (by assumption) ?_
          rotate_left
          · intro W hS
            try dsimp only at hS
            go_simp
            try with_reducible rfl
          try simp only [List.getElem_toArray, List.getElem_cons_succ, List.getElem_cons_zero, Act.put, List.setIfInBounds_toArray, List.set_cons_zero, List.set_cons_succ]
          refine wpAnyZ_take (i := 2) (f := 16) (v := ?_) rfl (by kernel_rfl) (by kernel_rfl) (by kernel_rfl) (by kernel_rfl) (by kernel_rfl) (fun _ _ _ h => h) (Or.inl ⟨by rfl, ?_⟩) (by assumption) ?_
          rotate_left
          · intro W hS
            try dsimp only at hS
            go_simp
            try with_reducible rfl
          try simp only [List.getElem_toArray, List.getElem_cons_succ, List.getElem_cons_zero, Act.put, List.setIfInBounds_toArray, List.set_cons_zero, List.set_cons_succ]
          refine wpAnyZ_take (i := 3) (f := 16) (v := ?_) rfl (by kernel_rfl) (by kernel_rfl) (by kernel_rfl) (by kernel_rfl) (by kernel_rfl) (fun _ _ _ h => h) (Or.inl ⟨by rfl, ?_⟩) (by assumption) ?_
          rotate_left
          · intro W hS
            try dsimp only at hS
            go_simp
            try with_reducible rfl
          try simp only [List.getElem_toArray, List.getElem_cons_succ, List.getElem_cons_zero, Act.put, List.setIfInBounds_toArray, List.set_cons_zero, List.set_cons_succ]
          refine wpAnyZ_take (i := 4) (f := 16) (v := ?_) rfl (by kernel_rfl) (by kernel_rfl) (by kernel_rfl) (by kernel_rfl) (by kernel_rfl) (fun _ _ _ h => h) (Or.inl ⟨by rfl, ?_⟩) (by assumption) ?_
          rotate_left
          · intro W hS
            try dsimp only at hS
            go_simp
            try with_reducible rfl
          try simp only [List.getElem_toArray, List.getElem_cons_succ, List.getElem_cons_zero, Act.put, List.setIfInBounds_toArray, List.set_cons_zero, List.set_cons_succ]
          refine wpAnyZ_take (i := 5) (f := 16) (v := ?_) rfl (by kernel_rfl) (by kernel_rfl) (by kernel_rfl) (by kernel_rfl) (by kernel_rfl) (fun _ _ _ h => h) (Or.inl ⟨by rfl, ?_⟩) (by assumption) ?_
          rotate_left
          · intro W hS
            try dsimp only at hS
            go_simp
            try with_reducible rfl
          try simp only [List.getElem_toArray, List.getElem_cons_succ, List.getElem_cons_zero, Act.put, List.setIfInBounds_toArray, List.set_cons_zero, List.set_cons_succ]
          refine wpAnyZ_take (i := 6) (f := 16) (v := ?_) rfl (by kernel_rfl) (by kernel_rfl) (by kernel_rfl) (by kernel_rfl) (by kernel_rfl) (fun _ _ _ h => h) (Or.inl ⟨by rfl, ?_⟩) (by assumption) ?_
          rotate_left
          · intro W hS
            try dsimp only at hS
            go_simp
            try with_reducible rfl
          try simp only [List.getElem_toArray, List.getElem_cons_succ, List.getElem_cons_zero, Act.put, List.setIfInBounds_toArray, List.set_cons_zero, List.set_cons_succ]
          refine wpAnyZ_take (i := 7) (f := 16) (v := ?_) rfl (by kernel_rfl) (by kernel_rfl) (by kernel_rfl) (by kernel_rfl) (by kernel_rfl) (fun _ _ _ h => h) (Or.inl ⟨by rfl, ?_⟩) (by assumption) ?_
          rotate_left
          · intro W hS
            try dsimp only at hS
            go_simp
            try with_reducible rfl
          try simp only [List.getElem_toArray, List.getElem_cons_succ, List.getElem_cons_zero, Act.put, List.setIfInBounds_toArray, List.set_cons_zero, List.set_cons_succ]
          refine wpAnyZ_take (i := 8) (f := 16) (v := ?_) rfl (by kernel_rfl) (by kernel_rfl) (by kernel_rfl) (by kernel_rfl) (by kernel_rfl) (fun _ _ _ h => h) (Or.inl ⟨by rfl, ?_⟩) (by assumption) ?_
          rotate_left
          · intro W hS
            try dsimp only at hS
            go_simp
            try with_reducible rfl
          try simp only [List.getElem_toArray, List.getElem_cons_succ, List.getElem_cons_zero, Act.put, List.setIfInBounds_toArray, List.set_cons_zero, List.set_cons_succ]
          refine wpAnyZ_take (i := 9) (f := 16) (v := ?_) rfl (by kernel_rfl) (by kernel_rfl) (by kernel_rfl) (by kernel_rfl) (by kernel_rfl) (fun _ _ _ h => h) (Or.inl ⟨by rfl, ?_⟩) (by assumption) ?_
          rotate_left
          · intro W hS
            try dsimp only at hS
            go_simp
            try with_reducible rfl
          try simp only [List.getElem_toArray, List.getElem_cons_succ, List.getElem_cons_zero, Act.put, List.setIfInBounds_toArray, List.set_cons_zero, List.set_cons_succ]
          refine wpAnyZ_take (i := 10) (f := 16) (v := ?_) rfl (by kernel_rfl) (by kernel_rfl) (by kernel_rfl) (by kernel_rfl) (by kernel_rfl) (fun _ _ _ h => h) (Or.inl ⟨by rfl, ?_⟩) (by assumption) ?_
          rotate_left
          · intro W hS
            try dsimp only at hS
            go_simp
            try with_reducible rfl
          try simp only [List.getElem_toArray, List.getElem_cons_succ, List.getElem_cons_zero, Act.put, List.setIfInBounds_toArray, List.set_cons_zero, List.set_cons_succ]
          refine wpAnyZ_take (i := 11) (f := 16) (v := ?_) rfl (by kernel_rfl) (by kernel_rfl) (by kernel_rfl) (by kernel_rfl) (by kernel_rfl) (fun _ _ _ h => h) (Or.inl ⟨by rfl, ?_⟩) (by assumption) ?_
          rotate_left
          · intro W hS
            try dsimp only at hS
            go_simp
            try with_reducible rfl
          try simp only [List.getElem_toArray, List.getElem_cons_succ, List.getElem_cons_zero, Act.put, List.setIfInBounds_toArray, List.set_cons_zero, List.set_cons_succ]
          refine wpAnyZ_take (i := 12) (f := 16) (v := ?_) rfl (by kernel_rfl) (by kernel_rfl) (by kernel_rfl) (by kernel_rfl) (by kernel_rfl) (fun _ _ _ h => h) (Or.inl ⟨by rfl, ?_⟩) (by assumption) ?_
          rotate_left
          · intro W hS
            try dsimp only at hS
            go_simp
            try with_reducible rfl
          try simp only [List.getElem_toArray, List.getElem_cons_succ, List.getElem_cons_zero, Act.put, List.setIfInBounds_toArray, List.set_cons_zero, List.set_cons_succ]
          refine wpAnyZ_take (i := 13) (f := 16) (v := ?_) rfl (by kernel_rfl) (by kernel_rfl) (by kernel_rfl) (by kernel_rfl) (by kernel_rfl) (fun _ _ _ h => h) (Or.inl ⟨by rfl, ?_⟩) (by assumption) ?_
          rotate_left
          · intro W hS
            try dsimp only at hS
            go_simp
            try with_reducible rfl
          try simp only [List.getElem_toArray, List.getElem_cons_succ, List.getElem_cons_zero, Act.put, List.setIfInBounds_toArray, List.set_cons_zero, List.set_cons_succ]
          refine wpAnyZ_last (by kernel_rfl) rfl (by kernel_rfl) (fun K hK => ?_)
          go_simp
          refine hK.out _ _ ?_
          clear hK K
          try simp only [List.getElem_toArray, List.getElem_cons_succ, List.getElem_cons_zero, Act.put, List.setIfInBounds_toArray, List.set_cons_zero, List.set_cons_succ]
          have HP4 := Lib.hid (HP3.out.put (.slice (some ⟨g, 0, none⟩) m c))
          have HL4 : Hid (LvW (y2.setCell ⟨B + 1, 2, none⟩ (.slice (some ⟨g, 0, none⟩) m c)) B (.slice (some ⟨g, 0, none⟩) m c) xs.reverse) := Lib.hid (by
            have h1 := HL3.out
            rw [← HM.out] at h1
            have h2 := h1.drop
            rw [HM.out] at h1 h2
            refine ⟨ownsRow_keep h2.row ((Keeps.refl (One (B + 1)) y2).setCell (p := ⟨B + 1, 2, none⟩) (.inl rfl) _) (fun k hk e => h1.ne HP3.out k hk e), h2.new⟩)
          have HB4 : Hid (Below B w0 (y2.setCell ⟨B + 1, 2, none⟩ (.slice (some ⟨g, 0, none⟩) m c))) := Lib.hid (HB3.out.setCell (p := ⟨B + 1, 2, none⟩) (Nat.le_succ B) _)
          go_wp2_with fail
          go_roundg (stepsW ls)
          case measure => have h1 := steps_end xe ls; have h2 := HST.out; omega
          case rel => exact ⟨xs, ls, out ++ xe, _, HP4.out, HL4.out, HIN2.out, by rw [List.append_assoc]; exact HFL.out, HB4.out, rfl, by have h1 := steps_end xe ls; have h2 := HST.out; have h3 := HGN.out; omega⟩
        | cons t ts =>
          obtain ⟨nb, no, rc, r, rfl, hrc, hrm, hnr, hnt, hrest1, hrest2⟩ := HREST.out.first
          obtain ⟨q, hq⟩ : ∃ q, ts.length = q := ⟨_, rfl⟩
          rw [hq] at hrc hrest1 hc1
          have HNR := Lib.hid hnr
          have HNT := Lib.hid hnt
          have HR1 := Lib.hid hrest1
          have HR2 := Lib.hid hrest2
          have hq0 : ((q : Int) + 1 == 0) = false := beq_eq_false_iff_ne.2 (by omega)
          have hq1 : ¬ ((q : Int) + 1 = 0) := by omega
          have hq2 : (0 : Int) < (q : Int) + 1 := by omega
          have hq3 : (1 : Int) ≤ (q : Int) + 1 := by omega
          have hq4 : (q : Int) + 1 ≤ (rc : Int) := by omega
          clear HREST HX2 hse hnr hnt hrest1 hrest2
          go_wp2_with fail
          go_quiet (fail)
          obtain ⟨y0, hy0⟩ : ∃ W, wr.drewN nq = W := ⟨_, rfl⟩
          rw [hy0]
          have hb0 : Below wr.heap.size wr y0 := by rw [← hy0]; exact ⟨rfl, rfl, rfl, Nat.le_refl _, fun _ _ => rfl⟩
          have HP1 := Lib.hid (HPR.out.below hb0)
          have HL1 := Lib.hid (HLV.out.below hb0)
          have hbB : B ≤ wr.heap.size := by have := HBL.out.size; have := HB.out; omega
          have HB1 := Lib.hid (HBL.out.trans (hb0.mono hbB))
          have d1 := (hb0.cell (lt_of_cell hc1)).trans hc1
          have d2 := (hb0.cell (lt_of_cell hc2)).trans hc2
          have HBY : Hid (B ≤ y0.heap.size) := Lib.hid (Nat.le_trans hbB hb0.size)
          have hf1 : y0.frozen? ⟨g, m * 2, none⟩ = false := by rw [← hy0]; exact hfz
          have HGB := Lib.hid hgB
          have HNODE : Hid (∀ nv, RestIn w0 nv ts → Calls Tryz.prog 31 #[.pointer (some ⟨B + 1, 0, none⟩), .pointer (some ⟨nb, no, none⟩)] (y0.setCell ⟨g, m * 2, none⟩ nv) (fun e w' => e = .returned (.tuple #[]) ∧ ∃ (xs2 : List (Value × List UInt8)) (ls2 : List (List Tr × List UInt8)) (out2 : List UInt8) (o2 : Value), PrAt w' B (B + 1) out2 o2 ∧ LvW w' B o2 xs2.reverse ∧ LvsIn w0 xs2 ls2 ∧ out2 ++ flatW ls2 = FIN ∧ Below B w0 w' ∧ stepsW ls2 < gk)) := Lib.hid (fun nv hR => by
            have hl1 := HL1.out
            have hp2 := HP1.out.side hl1 (m * 2) nv
            rw [← HM.out] at hl1
            have hl2 := hl1.turn nv
            rw [HM.out] at hl2
            dsimp only at hl2
            have hbl2 : Below B w0 (y0.setCell ⟨g, m * 2, none⟩ nv) := HB1.out.setCell (p := ⟨g, m * 2, none⟩) HGB.out nv
            have hfl := HFI.out
            rw [flat_next] at hfl
            have hlen := congrArg List.length hfl
            simp only [List.length_append] at hlen
            have hS := HS.out
            have hcall := pnode_calls (w0 := w0) (ls := xs.reverse ++ [(nv, xe)]) (by rw [HB.out]; exact hp2) (by rw [HB.out]; exact hl2) (by rw [HB.out]; exact hbl2) HNR.out HNT.out (by omega) (by omega) (by rw [List.length_append, HM.out, List.length_singleton]; have h1 := HMX.out; have h2 := steps_len ((t :: ts, xe) :: ls); have h3 := HIN2.out.len; have h4 := HST.out; have h5 := HGN.out; have h6 := HN2.out; have h7 := HM.out; rw [List.length_reverse] at h7; rw [List.length_cons] at h2; omega)
            rw [HB.out] at hcall
            refine hcall.mono ?_
            rintro e w' ⟨he, hb, hcase⟩
            rcases hcase with ⟨_, hp, hl⟩ | ⟨⟨hk1, hk2⟩, o2, hp, hl⟩
            · refine ⟨he, (nv, xe) :: xs, (ts, xe) :: ls, out ++ wrN t, _, hp, by rw [List.reverse_cons]; exact hl, ⟨rfl, hR, HIN2.out⟩, by rw [List.append_assoc]; exact hfl, hbl2.trans hb, ?_⟩
              have h1 := steps_next t ts xe ls
              have h2 := HST.out
              omega
            · obtain ⟨_, _, _, _, rows, hr1, hr2⟩ := HNT.out.kids
              obtain ⟨k, n, tx, ats, kk⟩ := t
              obtain rfl : k = 1 := hk1
              refine ⟨he, (r.kv, 60 :: 47 :: (n ++ [62])) :: (nv, xe) :: xs, (kk, 60 :: 47 :: (n ++ [62])) :: (ts, xe) :: ls, out ++ 60 :: (n ++ (attrsB ats ++ [62])), o2, hp, by rw [List.reverse_cons, List.reverse_cons]; exact hl, ⟨rfl, ⟨rows, hr1, hr2⟩, rfl, hR, HIN2.out⟩, ?_, hbl2.trans hb, ?_⟩
              · have hk3 : kk ≠ [] := hk2
                rw [← HFI.out, flat_open (x := tx) hk3, List.append_assoc]
              · have h1 := steps_open n tx ats kk ts xe (60 :: 47 :: (n ++ [62])) ls
                have h2 := HST.out
                omega)
          clear hb0 hc1 hc2 z2 hbB HP0 HL0 hgB
          by_cases hrc1 : rc = 1
          · subst hrc1
            obtain rfl : q = 0 := by omega
            have HND := Lib.hid (HNODE.out _ (HR2.out rfl))
            clear HNODE HR1 HR2
            go_wp2_with fail
            with_reducible refine HND.out.mono ?_
            rintro e w3 ⟨rfl, xs2, ls2, out2, o2, hp, hl, hi, hf, hb, hs⟩
            have HX := Lib.hid (And.intro hp (And.intro hl (And.intro hi (And.intro hf (And.intro hb hs)))))
            clear hp hl hi hf hb hs
            go_wp2_with fail
            go_roundg (stepsW ls2)
            case measure => exact HX.out.2.2.2.2.2
            case rel => exact ⟨xs2, ls2, out2, o2, HX.out.1, HX.out.2.1, HX.out.2.2.1, HX.out.2.2.2.1, HX.out.2.2.2.2.1, rfl, by have h1 := HX.out.2.2.2.2.2; have h2 := HGN.out; omega⟩
          · have HND := Lib.hid (HNODE.out _ HR1.out)
            clear HNODE HR1 HR2
            go_wp2_with fail
            with_reducible refine HND.out.mono ?_
            rintro e w3 ⟨rfl, xs2, ls2, out2, o2, hp, hl, hi, hf, hb, hs⟩
            have HX := Lib.hid (And.intro hp (And.intro hl (And.intro hi (And.intro hf (And.intro hb hs)))))
            clear hp hl hi hf hb hs
            go_wp2_with fail
            go_roundg (stepsW ls2)
            case measure => exact HX.out.2.2.2.2.2
            case rel => exact ⟨xs2, ls2, out2, o2, HX.out.1, HX.out.2.1, HX.out.2.2.1, HX.out.2.2.2.1, HX.out.2.2.2.2.1, rfl, by have h1 := HX.out.2.2.2.2.2; have h2 := HGN.out; omega⟩

set_option maxRecDepth 100000 in
theorem pnode1_calls {w : World} {r : Nr} {t : Tr} (h : NodeIn w Any r t) (hs : (wrN t).length ≤ 1073741824) (hc : t.count ≤ 400000000) : Calls Tryz.prog 11 #[nodeV r] w (Leaves (.string (strB (wrN t))) w) := by
  obtain ⟨k, n, x, av, kv⟩ := r
  obtain ⟨wa, hwa⟩ : ∃ W, w.alloc (.cells #[.int .i64 k, .string (strB n), .string (strB x), av, kv] 25) = W := ⟨_, rfl⟩
  obtain ⟨w0, hw0⟩ : ∃ W, wa.alloc (.cells #[.int .i64 k, .string (strB n), .string (strB x), av, kv] 25) = W := ⟨_, rfl⟩
  have hsz : wa.heap.size = w.heap.size + 1 := by rw [← hwa]; simp
  have hba : Below w.heap.size w wa := by rw [← hwa]; exact (Below.refl _ _).alloc (Nat.le_refl _) _
  have hb0 : Below w.heap.size w w0 := by rw [← hw0]; exact hba.alloc (by omega) _
  have hbk : w0.heap[w.heap.size + 1]? = some (.cells #[.int .i64 k, .string (strB n), .string (strB x), av, kv] 25 (0, 0)) := by rw [← hw0, ← hsz]; exact heap_alloc_new wa _
  have hnr : NrIn w0 (w.heap.size + 1) 0 ⟨k, n, x, av, kv⟩ := ⟨(cell_of_block hbk 0).trans rfl, (cell_of_block hbk 1).trans rfl, (cell_of_block hbk 2).trans rfl, (cell_of_block hbk 3).trans rfl, (cell_of_block hbk 4).trans rfl⟩
  have hrest : RestIn w0 (.slice (some ⟨w.heap.size + 1, 0, none⟩) 1 1) [t] := ⟨[⟨k, n, x, av, kv⟩], ⟨_, 1, rfl, Nat.le_refl _, by unfold maxLen; decide, fun h => (by cases h), .inr ⟨w.heap.size + 1, 0, rfl, trivial, fun i y hy => by
    match i, hy with
    | 0, hy => rw [← Option.some.inj hy]; exact hnr
    | i + 1, hy => simp at hy⟩⟩, rfl, fun i y u hy hu => by
    match i, hy, hu with
    | 0, hy, hu => rw [← Option.some.inj hy, ← Option.some.inj hu]; exact h.keep (keeps_below hb0 Non) (fun _ _ h => h) (fun _ h => h)
    | i + 1, hy, _ => simp at hy⟩
  have HN := Lib.hid (pnodes_calls hrest (by rw [wrL_one]; exact hs) (by rw [cntL_one]; exact hc))
  rw [wrL_one] at HN
  have HB0 := Lib.hid hb0
  unfold nodeV
  dsimp only
  obtain ⟨sn, hsn⟩ : ∃ s, strB n = s := ⟨_, rfl⟩
  obtain ⟨st, hst⟩ : ∃ s, strB x = s := ⟨_, rfl⟩
  rw [hsn, hst] at hw0 hwa
  have HW0 := Lib.hid hw0
  have HWA := Lib.hid hwa
  rw [hsn, hst]
  clear h hs hc hbk hnr hrest hsn hst hb0 hw0 hwa hba hsz
  go_enter Tryz.func11, Tryz.ntmps11
  go_wp2_with fail
  rw [HWA.out, HW0.out]
  with_reducible refine HN.out.mono ?_
  rintro e w2 ⟨rfl, hb⟩
  have HB2 := Lib.hid (HB0.out.trans (hb.mono HB0.out.size))
  clear hb
  go_wp2_with fail
  go_ret
  exact ⟨rfl, HB2.out⟩

end Go.Proofs.YtocnedpclllbhaaGreatDoor
