/-
  A token taken. Conditions: the tree lies in memory; the laid variables hold what their initialisers lay. slices.Clone of nodes: their cells in new memory. Condition: the nodes lie in memory; there are no more than 2 to the 20 of them. How long the texts of a growing tree are. Of no program. No condition. What Parse answers where something is wrong. No condition. Tokens in memory, at whatever place of a row; two rows of the same tokens are told to be the same by the reference. Condition: the slices lead to what they are said to. A tree that begins to grow; what Parse leaves. Condition: the memory holds what it is said to.
-/
import Derived.Test.YtfonflbpkbibbaaGreatDoorXTh
import Derived.Test.YtfonflbpkbibbaaGreatDoorXTr
import Derived.Test.YtfonflbpkbibbaaGreatDoorXTi
import Derived.Test.YtfonflbpkbibbaaGreatDoorXDe
import Derived.Laws.ResultCell
import Derived.Laws.NewBlocks
import Derived.Test.YtfonflbpkbibbaaGreatDoorXTm
import Derived.Test.YtfonflbpkbibbaaGreatDoorXAw
import Derived.Lib.QuietBelow
import Derived.BigQuiet
namespace Go.Proofs.YtfonflbpkbibbaaGreatDoor
open Go.RowKit Go.Lib Go.Joins

theorem TakeOut.from {w wb : World} {S : Nat → Prop} {n0 gb : Nat} {r : Except Nat Gr} {e : Ending} {w' : World} (hb : Below w.heap.size w wb) (h : TakeOut wb S n0 gb r e w') : TakeOut w S n0 gb r e w' := ⟨(keeps_below hb _).trans h.1 (fun _ hq => .inl hq), h.2⟩
def exc (r : Option Nat) (g' : Gr) : Except Nat Gr :=
  match r with
  | some c => .error c
  | none => .ok g'
theorem PutOut.take {w : World} {OO S : Nat → Prop} {n0 gb n : Nat} {r : Option Nat} {g' : Gr} {e : Ending} {w' : World} (ho : ∀ q, OO q → ¬ S q) (h : PutOut w OO S n0 gb n r g' e w') : TakeOut w S n0 gb (exc r g') e w' := by
  obtain ⟨h1, h2⟩ := h
  refine ⟨h1.mono (fun q _ hq => ho q hq), ?_⟩
  cases r with
  | some c => exact h2
  | none =>
    obtain ⟨h3, S2, v, ov, ps, bs, h4, h5, h6, _⟩ := h2
    exact ⟨h3, S2, v, ov, ps, bs, h4, h5, h6⟩
set_option maxRecDepth 100000 in
set_option maxHeartbeats 8000000 in
theorem take_calls {w : World} {n0 gb : Nat} {g : Gr} {S : Nat → Prop} {v ov : Value} {ps : List Addr} {bs : List (Option Nat)} (h : GrW w n0 gb S g.top g.opens.reverse g.nodes v ov ps bs) (hS : ∀ k, S k → k < w.heap.size) (hn : n0 ≤ gb) (hc : g.nodes ≤ 1000000) (hin : (innerK g.top g.opens.reverse).length ≤ 1000000) (hL : Laid w) (kd at_ : Nat) (nm tx : List UInt8) {aa : Option Addr} {ac : Nat} {ats : List (List UInt8 × List UInt8)} (hat : AttIn w S (.slice aa ats.length ac) ats) (hna : ats.length ≤ 1000000) (htx : tx.length ≤ 1000000000) (hlt : ∀ n, (innerK g.top g.opens.reverse).getLast? = some n → n.text.length ≤ 1000000000000000000) : Calls Tryz.prog 36 #[.pointer (some ⟨gb, 0, none⟩), .agg #[.int .i64 (kd : Int), .int .i64 (at_ : Int), .string (strB nm), .string (strB tx), .slice aa ats.length ac]] w (TakeOut w S n0 gb (g.takeS ⟨kd, at_, nm, tx, ats⟩)) := by
  obtain ⟨sn, hsn⟩ : ∃ s, strB nm = s := ⟨_, rfl⟩
  obtain ⟨st, hst⟩ : ∃ s, strB tx = s := ⟨_, rfl⟩
  obtain ⟨na, hnl⟩ : ∃ z, ats.length = z := ⟨_, rfl⟩
  have hgl := lt_of_block h.blk
  have HSN := Lib.hid hsn
  have HST := Lib.hid hst
  have HNL := Lib.hid hnl
  have HN := Lib.hid hn
  have HN0 := Lib.hid (show n0 ≤ w.heap.size by omega)
  have HGR := Lib.hid h
  have HSS := Lib.hid hS
  have HIN := Lib.hid hin
  have HNC := Lib.hid hc
  have HLL := Lib.hid hL
  have HAT := Lib.hid hat
  have HNA := Lib.hid hna
  have HTX := Lib.hid htx
  have HTL := Lib.hid hlt
  rw [hsn, hst, hnl]
  obtain ⟨r, hr⟩ : ∃ r, g.takeS ⟨kd, at_, nm, tx, ats⟩ = r := ⟨_, rfl⟩
  rw [hr]
  have HR := Lib.hid hr
  clear h hS hin hc hsn hst hnl hn hr hL hat hna htx hlt hgl
  go_enter Tryz.func36, Tryz.ntmps36
  go_upto_region 1 with (fail)
  obtain ⟨wb, hwb⟩ : ∃ W, w.alloc (.cells #[.int .i64 (kd : Int), .int .i64 (at_ : Int), .string sn, .string st, .slice aa na ac] 63) = W := ⟨_, rfl⟩
  rw [hwb]
  have hbb : Below w.heap.size w wb := by rw [← hwb]; exact (Below.refl _ _).alloc (Nat.le_refl _) _
  have hbox : wb.heap[w.heap.size]? = some (.cells #[.int .i64 (kd : Int), .int .i64 (at_ : Int), .string sn, .string st, .slice aa na ac] 63 (0, 0)) := by rw [← hwb]; exact heap_alloc_new w _
  have z0 := (cell_of_block hbox 0).trans rfl
  have z1 := (cell_of_block hbox 1).trans rfl
  have z2 := (cell_of_block hbox 2).trans rfl
  have z3 := (cell_of_block hbox 3).trans rfl
  have z4 := (cell_of_block hbox 4).trans rfl
  have HBB := Lib.hid hbb
  have HGB := Lib.hid (HGR.out.below hbb)
  have HAB := Lib.hid (att_keep2 HAT.out (keeps_below hbb Non) (fun _ _ h => h))
  clear hwb hbb hbox
  by_cases h1 : kd = 1 ∨ kd = 2
  · have h12 : ((kd : Int) == 1) = true ∨ (((kd : Int) == 1) = false ∧ ((kd : Int) == 2) = true) := by
      rcases h1 with h | h
      · exact .inl (by rw [h]; rfl)
      · exact .inr ⟨by rw [h]; rfl, by rw [h]; rfl⟩
    have HC : Hid (Calls Tryz.prog 65 #[.pointer (some ⟨gb, 0, none⟩), .agg #[.int .i64 (kd : Int), .int .i64 (at_ : Int), .string sn, .string st, .slice aa na ac]] wb (TakeOut wb S n0 gb r)) := Lib.hid (by
      have h := tag_calls HGB.out (fun k hk => Nat.lt_of_lt_of_le (HSS.out k hk) HBB.out.size) HN.out HNC.out HIN.out kd at_ nm tx HAB.out HNA.out
      rw [HSN.out, HST.out, HNL.out] at h
      rw [← HR.out]
      rw [show g.takeS ⟨kd, at_, nm, tx, ats⟩ = tagS g kd nm ats from if_pos h1]
      exact h)
    clear h1
    rcases h12 with ha | ⟨ha, hb⟩
    all_goals go_wp2_with fail
    all_goals refine HC.out.mono ?_
    all_goals intro e w2 h2
    all_goals have h3 := (TakeOut.from HBB.out h2)
    all_goals clear h2
    all_goals obtain ⟨hb, hm⟩ := h3
    all_goals cases r with
    | error c =>
      obtain rfl : e = .returned (.int .i64 (c : Int)) := hm
      have HF := Lib.hid hb
      clear hb
      go_wp2_with fail
      go_ret
      exact ⟨HF.out, rfl⟩
    | ok g' =>
      obtain ⟨rfl, hrest⟩ := hm
      have HF := Lib.hid (And.intro hb hrest)
      clear hb hrest
      go_wp2_with fail
      go_ret
      exact ⟨HF.out.1, rfl, HF.out.2⟩
  have hk1 : ((kd : Int) == 1) = false := by rw [beq_eq_false_iff_ne]; omega
  have hk2 : ((kd : Int) == 2) = false := by rw [beq_eq_false_iff_ne]; omega
  by_cases h3 : kd = 3
  · have hk3 : ((kd : Int) == 3) = true := by rw [h3]; rfl
    have HC : Hid (Calls Tryz.prog 66 #[.pointer (some ⟨gb, 0, none⟩), .agg #[.int .i64 (kd : Int), .int .i64 (at_ : Int), .string sn, .string st, .slice aa na ac]] wb (TakeOut wb S n0 gb r)) := Lib.hid (by
      have h := end_calls HGB.out (fun k hk => Nat.lt_of_lt_of_le (HSS.out k hk) HBB.out.size) HN.out kd at_ nm tx (.slice aa ats.length ac) ⟨_, _, _, rfl⟩
      rw [HSN.out, HST.out, HNL.out] at h
      rw [← HR.out]
      rw [show g.takeS ⟨kd, at_, nm, tx, ats⟩ = (match g.opens with | [] => .error 3 | f :: fs => if f.name = nm then .ok (g.closeS f fs) else .error 3) from by
        unfold Gr.takeS
        rw [if_neg h1, if_pos h3]
        cases g.opens <;> rfl]
      exact h)
    clear h1 h3
    go_wp2_with fail
    refine HC.out.mono ?_
    intro e w2 h2
    have h3 := (TakeOut.from HBB.out h2)
    clear h2
    obtain ⟨hb, hm⟩ := h3
    cases r with
    | error c =>
      obtain rfl : e = .returned (.int .i64 (c : Int)) := hm
      have HF := Lib.hid hb
      clear hb
      go_wp2_with fail
      go_ret
      exact ⟨HF.out, rfl⟩
    | ok g' =>
      obtain ⟨rfl, hrest⟩ := hm
      have HF := Lib.hid (And.intro hb hrest)
      clear hb hrest
      go_wp2_with fail
      go_ret
      exact ⟨HF.out.1, rfl, HF.out.2⟩
  have hk3 : ((kd : Int) == 3) = false := by rw [beq_eq_false_iff_ne]; omega
  by_cases h4 : kd = 4 ∨ kd = 5
  · have h45 : ((kd : Int) == 4) = true ∨ (((kd : Int) == 4) = false ∧ ((kd : Int) == 5) = true) := by
      rcases h4 with h | h
      · exact .inl (by rw [h]; rfl)
      · exact .inr ⟨by rw [h]; rfl, by rw [h]; rfl⟩
    have HC : Hid (Calls Tryz.prog 67 #[.pointer (some ⟨gb, 0, none⟩), .agg #[.int .i64 (kd : Int), .int .i64 (at_ : Int), .string sn, .string st, .slice aa na ac]] wb (TakeOut wb S n0 gb r)) := Lib.hid (by
      have h := chrs_calls HGB.out (fun k hk => Nat.lt_of_lt_of_le (HSS.out k hk) HBB.out.size) HN.out HNC.out HIN.out (HLL.out.below HBB.out) kd at_ nm tx (aa := aa) (na := na) (ac := ac) HTX.out HTL.out
      rw [HSN.out, HST.out] at h
      rw [← HR.out]
      rw [show g.takeS ⟨kd, at_, nm, tx, ats⟩ = charT g kd tx from by
        unfold Gr.takeS
        rw [if_neg h1, if_neg h3, if_pos h4]
        rfl]
      exact h)
    clear h1 h3 h4
    rcases h45 with ha | ⟨ha, hb⟩
    all_goals go_wp2_with fail
    all_goals refine HC.out.mono ?_
    all_goals intro e w2 h2
    all_goals have h3 := (TakeOut.from HBB.out h2)
    all_goals clear h2
    all_goals obtain ⟨hb, hm⟩ := h3
    all_goals cases r with
    | error c =>
      obtain rfl : e = .returned (.int .i64 (c : Int)) := hm
      have HF := Lib.hid hb
      clear hb
      go_wp2_with fail
      go_ret
      exact ⟨HF.out, rfl⟩
    | ok g' =>
      obtain ⟨rfl, hrest⟩ := hm
      have HF := Lib.hid (And.intro hb hrest)
      clear hb hrest
      go_wp2_with fail
      go_ret
      exact ⟨HF.out.1, rfl, HF.out.2⟩
  have hk4 : ((kd : Int) == 4) = false := by rw [beq_eq_false_iff_ne]; omega
  have hk5 : ((kd : Int) == 5) = false := by rw [beq_eq_false_iff_ne]; omega
  by_cases h6 : kd = 6
  · have hk6 : ((kd : Int) == 6) = true := by rw [h6]; rfl
    have HC : Hid (Calls Tryz.prog 68 #[.pointer (some ⟨gb, 0, none⟩), .agg #[.int .i64 3, .string ⟨#[]⟩, .string st, .slice none 0 0, .slice none 0 0]] wb (TakeOut wb S n0 gb r)) := Lib.hid (by
      have h := (put_calls HGB.out (fun k hk => Nat.lt_of_lt_of_le (HSS.out k hk) HBB.out.size) HN.out HNC.out (k := 3) (nm := []) (tx := tx) (aa := none) (ac := 0) (ats := []) (AttIn.nil wb S) (by decide) HIN.out).mono (fun _ _ h => h.take HGB.out.own_out)
      rw [HST.out] at h
      skip
      rw [← HR.out]
      rw [show g.takeS ⟨kd, at_, nm, tx, ats⟩ = exc (g.mayS 3 0) (g.putS (.mk 3 [] tx [] [])) from by
        unfold Gr.takeS
        rw [if_neg h1, if_neg h3, if_neg h4, if_pos h6]
        unfold exc
        cases g.mayS 3 0 <;> rfl]
      exact h)
    clear h1 h3 h4 h6
    go_wp2_with fail
    refine HC.out.mono ?_
    intro e w2 h2
    have h3 := (TakeOut.from HBB.out h2)
    clear h2
    obtain ⟨hb, hm⟩ := h3
    cases r with
    | error c =>
      obtain rfl : e = .returned (.int .i64 (c : Int)) := hm
      have HF := Lib.hid hb
      clear hb
      go_wp2_with fail
      go_ret
      exact ⟨HF.out, rfl⟩
    | ok g' =>
      obtain ⟨rfl, hrest⟩ := hm
      have HF := Lib.hid (And.intro hb hrest)
      clear hb hrest
      go_wp2_with fail
      go_ret
      exact ⟨HF.out.1, rfl, HF.out.2⟩
  · have hk6 : ((kd : Int) == 6) = false := by rw [beq_eq_false_iff_ne]; omega
    have HC : Hid (Calls Tryz.prog 68 #[.pointer (some ⟨gb, 0, none⟩), .agg #[.int .i64 4, .string sn, .string st, .slice none 0 0, .slice none 0 0]] wb (TakeOut wb S n0 gb r)) := Lib.hid (by
      have h := (put_calls HGB.out (fun k hk => Nat.lt_of_lt_of_le (HSS.out k hk) HBB.out.size) HN.out HNC.out (k := 4) (nm := nm) (tx := tx) (aa := none) (ac := 0) (ats := []) (AttIn.nil wb S) (by decide) HIN.out).mono (fun _ _ h => h.take HGB.out.own_out)
      rw [HST.out] at h
      rw [HSN.out] at h
      rw [← HR.out]
      rw [show g.takeS ⟨kd, at_, nm, tx, ats⟩ = exc (g.mayS 4 0) (g.putS (.mk 4 nm tx [] [])) from by
        unfold Gr.takeS
        rw [if_neg h1, if_neg h3, if_neg h4, if_neg h6]
        unfold exc
        cases g.mayS 4 0 <;> rfl]
      exact h)
    clear h1 h3 h4 h6
    go_wp2_with fail
    refine HC.out.mono ?_
    intro e w2 h2
    have h3 := (TakeOut.from HBB.out h2)
    clear h2
    obtain ⟨hb, hm⟩ := h3
    cases r with
    | error c =>
      obtain rfl : e = .returned (.int .i64 (c : Int)) := hm
      have HF := Lib.hid hb
      clear hb
      go_wp2_with fail
      go_ret
      exact ⟨HF.out, rfl⟩
    | ok g' =>
      obtain ⟨rfl, hrest⟩ := hm
      have HF := Lib.hid (And.intro hb hrest)
      clear hb hrest
      go_wp2_with fail
      go_ret
      exact ⟨HF.out.1, rfl, HF.out.2⟩

end Go.Proofs.YtfonflbpkbibbaaGreatDoor
namespace Go.Proofs.YtfonflbpkbibbaaGreatDoor
open Go.RowKit Go.Lib Go.Joins

theorem nrC_one : ∀ (l : List Nr), (∀ x ∈ l, x.av.oneCell' = true ∧ x.kv.oneCell' = true) → ∀ u ∈ nrC l, u.oneCell' = true
  | [], _, u, hu => by cases hu
  | x :: t, h, u, hu => by
    have hu2 : u ∈ Value.int .i64 (x.kind : Int) :: .string (strB x.name) :: .string (strB x.text) :: x.av :: x.kv :: nrC t := hu
    simp only [List.mem_cons] at hu2
    rcases hu2 with rfl | rfl | rfl | rfl | rfl | h2
    · rfl
    · rfl
    · rfl
    · exact (h x (List.mem_cons_self ..)).1
    · exact (h x (List.mem_cons_self ..)).2
    · exact nrC_one t (fun y hy => h y (List.mem_cons_of_mem _ hy)) u h2
theorem nrC_get : ∀ (l : List Nr) (j : Nat) (u : Value), (nrC l)[j]? = some u → ∃ i x, l[i]? = some x ∧ ((j = i * 5 ∧ u = .int .i64 (x.kind : Int)) ∨ (j = i * 5 + 1 ∧ u = .string (strB x.name)) ∨ (j = i * 5 + 2 ∧ u = .string (strB x.text)) ∨ (j = i * 5 + 3 ∧ u = x.av) ∨ (j = i * 5 + 4 ∧ u = x.kv))
  | [], j, u, h => by simp [nrC] at h
  | x :: t, j, u, h => by
    have h2 : (Value.int .i64 (x.kind : Int) :: .string (strB x.name) :: .string (strB x.text) :: x.av :: x.kv :: nrC t)[j]? = some u := h
    match j, h2 with
    | 0, h2 => exact ⟨0, x, rfl, .inl ⟨rfl, (Option.some.inj h2).symm⟩⟩
    | 1, h2 => exact ⟨0, x, rfl, .inr (.inl ⟨rfl, (Option.some.inj h2).symm⟩)⟩
    | 2, h2 => exact ⟨0, x, rfl, .inr (.inr (.inl ⟨rfl, (Option.some.inj h2).symm⟩))⟩
    | 3, h2 => exact ⟨0, x, rfl, .inr (.inr (.inr (.inl ⟨rfl, (Option.some.inj h2).symm⟩)))⟩
    | 4, h2 => exact ⟨0, x, rfl, .inr (.inr (.inr (.inr ⟨rfl, (Option.some.inj h2).symm⟩)))⟩
    | j + 5, h2 =>
      obtain ⟨i, y, h3, h4⟩ := nrC_get t j u h2
      refine ⟨i + 1, y, h3, ?_⟩
      rcases h4 with ⟨h5, h6⟩ | ⟨h5, h6⟩ | ⟨h5, h6⟩ | ⟨h5, h6⟩ | ⟨h5, h6⟩
      · exact .inl ⟨by omega, h6⟩
      · exact .inr (.inl ⟨by omega, h6⟩)
      · exact .inr (.inr (.inl ⟨by omega, h6⟩))
      · exact .inr (.inr (.inr (.inl ⟨by omega, h6⟩)))
      · exact .inr (.inr (.inr (.inr ⟨by omega, h6⟩)))
set_option maxRecDepth 100000 in
set_option maxHeartbeats 4000000 in
theorem clone_calls {w : World} {S : Nat → Prop} {v : Value} {rows : List Nr} (h : RowIn w S v rows) (hn : rows.length ≤ 1000000) (h1 : ∀ x ∈ rows, x.av.oneCell' = true ∧ x.kv.oneCell' = true) : Calls Tryz.prog 41 #[v] w (fun e w' => ∃ v', e = .returned v' ∧ (∃ a n c, v' = .slice a n c) ∧ RowIn w' (fun k => w.heap.size ≤ k) v' rows ∧ Below w.heap.size w w') := by
  obtain ⟨a, c, rfl, hc, hm, hnil, hr⟩ := h
  cases a with
  | none =>
    have hr0 : rows = [] := by
      rcases hr with h0 | ⟨b, o, e, _⟩
      · exact h0
      · cases e
    obtain rfl : c = 0 := hnil rfl
    subst hr0
    have hq : ∀ W, (binOp .eql 24 (.slice none 0 0) (.slice none 0 0)).run Tryz.prog W = .ok (.bool true) W := fun W => run_eql_slice_nil W _ _ none 0 0 0 0 Tryz.underlying24
    clear hr hc hm hnil h1
    show Calls Tryz.prog 41 #[.slice none 0 0] w _
    go_enter Tryz.func41, Tryz.ntmps41
    go_wp2_with fail
    go_ret
    exact ⟨_, rfl, ⟨_, _, _, rfl⟩, RowIn.nil w _, Below.refl _ _⟩
  | some ad =>
    obtain ⟨n, hl⟩ : ∃ n, rows.length = n := ⟨_, rfl⟩
    have hrow0 := World.ownsRow_made (e := 27) (size := 5) w #[] 0 (Nat.zero_le _) (by unfold maxLen; omega) rfl
    have hcells : ∀ j u, (nrC rows)[j]? = some u → (w.alloc (.cells #[] 27)).cell? (ad.add j) = some u := fun j u hj => by
      obtain ⟨i, x, hx, hk⟩ := nrC_get rows j u hj
      rcases hr with h0 | ⟨b, o, e, _, hcell⟩
      · rw [h0] at hx; simp at hx
      obtain rfl : ad = ⟨b, o, none⟩ := Option.some.inj e
      obtain ⟨y0, y1, y2, y3, y4⟩ := (hcell i x hx).keep (keeps_below ((Below.refl _ w).alloc (Nat.le_refl _) (.cells #[] 27)) Non) (fun e => e)
      rw [Addr.add_mid]
      rcases hk with ⟨rfl, rfl⟩ | ⟨rfl, rfl⟩ | ⟨rfl, rfl⟩ | ⟨rfl, rfl⟩ | ⟨rfl, rfl⟩
      · exact y0
      · exact y1
      · exact y2
      · exact y3
      · exact y4
    obtain ⟨v', w', hrun, hrow, hgrown, hown⟩ := append_any (w := w.alloc (.cells #[] 27)) Tryz.underlying24 infoN rfl (by decide) hrow0 (b := ad) (m := n) (c := c) (news := nrC rows) (by rw [nrC_len, hl]) hcells (nrC_one rows h1) (by unfold maxLen; omega) (by omega)
    rw [Nat.zero_add] at hrow
    have HRUN := Lib.hid hrun
    have hb0 : Below w.heap.size w (w.alloc (.cells #[] 27)) := (Below.refl _ _).alloc (Nat.le_refl _) _
    have hbel : Below w.heap.size w w' := hb0.trans (((Keeps.refl (fun k => (Value.slice (some ⟨w.heap.size, 0, none⟩) 0 0).ownBlock = some k) _).grown hgrown (fun k e => .inl e)).toBelow hb0.size (fun k e => Nat.le_of_eq (Option.some.inj e)))
    have hlv : Lv w' 0 v' rows := ⟨by rw [hl]; exact hrow, fun _ _ => Nat.zero_le _⟩
    have hri := hlv.rowIn (fun k => w.heap.size ≤ k) (fun k e => by
      rcases hown k e with h2 | h2
      · exact Nat.le_of_eq (Option.some.inj h2)
      · exact Nat.le_trans hb0.size h2)
    obtain ⟨a', c', hv', _⟩ := hlv.form
    rw [hl] at hv'
    have HF := Lib.hid (And.intro hri hbel)
    rw [hl]
    clear hrow0 hcells hrun hrow hgrown hown hb0 hbel hlv hri hr hnil hc hm h1
    subst hv'
    have hq : ∀ W, (binOp .eql 24 (.slice (some ad) n c) (.slice none 0 0)).run Tryz.prog W = .ok (.bool false) W := fun W => run_eql_slice_nil W _ _ (some ad) n c 0 0 Tryz.underlying24
    go_enter Tryz.func41, Tryz.ntmps41
    go_wp2_with (at_builtin; refine wpList_step (fun K hK => step_append rfl (.tmp 5) (.tmp 6) _ _ rfl _ _ _ rfl rfl HRUN.out (hK _ _ ?_)))
    go_ret
    exact ⟨_, rfl, ⟨_, _, _, rfl⟩, HF.out.1, HF.out.2⟩

end Go.Proofs.YtfonflbpkbibbaaGreatDoor
namespace Go.Proofs.YtfonflbpkbibbaaGreatDoor
open Go.RowKit Go.Lib Go.Joins

/-- No text is longer. -/
def TxL (M : Nat) (l : List Tr) : Prop := ∀ t, t ∈ l → t.text.length ≤ M
structure TxB (M : Nat) (g : Gr) : Prop where
  top : TxL M g.top
  frs : ∀ f, f ∈ g.opens → TxL M f.kids
theorem TxL.mono {M M' : Nat} {l : List Tr} (h : TxL M l) (hm : M ≤ M') : TxL M' l := fun t ht => Nat.le_trans (h t ht) hm
theorem TxB.mono {M M' : Nat} {g : Gr} (h : TxB M g) (hm : M ≤ M') : TxB M' g := ⟨h.top.mono hm, fun f hf => (h.frs f hf).mono hm⟩
theorem TxL.snoc {M : Nat} {l : List Tr} {t : Tr} (h : TxL M l) (ht : t.text.length ≤ M) : TxL M (l ++ [t]) := fun x hx => by
  rcases List.mem_append.1 hx with h1 | h1
  · exact h x h1
  · rw [List.mem_singleton.1 h1]; exact ht
theorem TxB.inner {M : Nat} {g : Gr} (h : TxB M g) : TxL M g.inner := by
  obtain ⟨opens, top, nodes⟩ := g
  cases opens with
  | nil => exact h.top
  | cons f fs => exact h.frs f (List.mem_cons_self ..)
theorem TxB.set {M : Nat} {g : Gr} (h : TxB M g) {ks : List Tr} (hk : TxL M ks) : TxB M (g.setInner ks) := by
  obtain ⟨opens, top, nodes⟩ := g
  cases opens with
  | nil => exact ⟨hk, fun f hf => by cases hf⟩
  | cons f fs =>
    refine ⟨h.top, fun f' hf => ?_⟩
    rcases List.mem_cons.1 hf with h1 | h1
    · rw [h1]; exact hk
    · exact h.frs f' (List.mem_cons_of_mem _ h1)
theorem TxB.put {M : Nat} {g : Gr} (h : TxB M g) {n : Tr} (hn : n.text.length ≤ M) : TxB M (g.putS n) := by
  have h1 := h.set (h.inner.snoc hn)
  exact ⟨h1.top, h1.frs⟩
theorem onT_texts {M : Nat} {u : List UInt8} : ∀ {l ks : List Tr}, TxL M l → onT u l = some ks → TxL (M + u.length) ks
  | [], _, _, e => by cases e
  | [n], ks, h, e => by
    rw [onT] at e
    split at e
    · cases e
      intro t ht
      rw [List.mem_singleton.1 ht]
      have := h n (List.mem_cons_self ..)
      show (n.text ++ u).length ≤ _
      rw [List.length_append]
      omega
    · cases e
  | n :: m :: l, ks, h, e => by
    rw [onT] at e
    cases hq : onT u (m :: l) with
    | none => rw [hq] at e; cases e
    | some q =>
      rw [hq] at e
      cases e
      have h2 := onT_texts (fun t ht => h t (List.mem_cons_of_mem _ ht)) hq
      intro t ht
      rcases List.mem_cons.1 ht with h1 | h1
      · rw [h1]; exact Nat.le_trans (h n (List.mem_cons_self ..)) (Nat.le_add_right _ _)
      · exact h2 t h1
theorem takeS_texts {M : Nat} {g g' : Gr} {tk : Tk} (h : TxB M g) (e : g.takeS tk = .ok g') : TxB (M + tk.text.length) g' := by
  have hm := h.mono (Nat.le_add_right M tk.text.length)
  unfold Gr.takeS at e
  split at e
  · split at e
    · cases e
    · split at e
      · cases e
      · split at e
        · cases e
          exact ⟨hm.top, fun f hf => by
            rcases List.mem_cons.1 hf with h1 | h1
            · rw [h1]; intro t ht; cases ht
            · exact hm.frs f h1⟩
        · cases e
          exact hm.put (Nat.zero_le _)
  · split at e
    · split at e
      · cases e
      · next f fs ho =>
        split at e
        · cases e
          have h1 : TxB (M + tk.text.length) ⟨fs, g.top, g.nodes⟩ := ⟨hm.top, fun f' hf => hm.frs f' (by rw [ho]; exact List.mem_cons_of_mem _ hf)⟩
          exact h1.set (h1.inner.snoc (Nat.zero_le _))
        · cases e
    · split at e
      · split at e
        · cases e
        · split at e
          · cases e; exact hm
          · split at e
            · next ks hk =>
              cases e
              exact hm.set (onT_texts h.inner hk)
            · split at e
              · cases e
              · cases e
                exact hm.put (Nat.le_add_left _ _)
      · split at e
        · split at e
          · cases e
          · cases e
            exact hm.put (Nat.le_add_left _ _)
        · split at e
          · cases e
          · cases e
            exact hm.put (Nat.le_add_left _ _)

end Go.Proofs.YtfonflbpkbibbaaGreatDoor
namespace Go.Proofs.YtfonflbpkbibbaaGreatDoor
open Go.RowKit Go.Lib Go.Joins

def docV (b k n t at_ kv a : Value) : Value := .agg #[b, k, n, t, at_, kv, a]
def docZ : Value := docV (.slice none 0 0) (.int .i64 0) (.string ⟨#[]⟩) (.string ⟨#[]⟩) (.slice none 0 0) (.slice none 0 0) (.slice none 0 0)
theorem alloc_sz (w : World) (o : Obj) : (w.alloc o).heap.size = w.heap.size + 1 := by simp
set_option maxRecDepth 100000 in
set_option maxHeartbeats 2000000 in
theorem wrong_calls (c p : Nat) (hc : c ≠ 0) (w : World) : Calls Tryz.prog 37 #[.int .i64 (c : Int), .int .i64 (p : Int)] w (fun e w' => ∃ ev, e = .returned (.tuple #[docZ, ev]) ∧ ErrAt w.heap.size w' (c : Int) (p : Int) ev ∧ Below w.heap.size w w') := by
  have HN : Hid (∀ W, Calls Tryz.prog 51 #[.int .i64 (c : Int), .int .i64 (p : Int)] W fun e w' => e = .returned (plainV c p) ∧ W = w') := Lib.hid (fun W => new_code (c : Int) (p : Int) W (beq_eq_false_iff_ne.2 (by omega)))
  have HC := Lib.hid hc
  clear hc
  go_enter Tryz.func37, Tryz.ntmps37
  go_wp2_with fail
  with_reducible refine (HN.out _).mono ?_
  rintro e w2 ⟨rfl, rfl⟩
  have HW := fun (s : ByteArray) (T : TypeId) (v : Value) (W : World) => wrap_some s T v W
  unfold plainV
  go_wp2_with fail
  with_reducible refine (HW _ _ _ _).mono ?_
  rintro e w2 ⟨rfl, rfl⟩
  clear HW
  go_wp2_with fail
  clear HN
  have hrow := run_loadVar_row (P := Tryz.prog) ((w.alloc (.cells #[.slice none 0 0, .int .i64 0, .string ⟨#[]⟩, .string ⟨#[]⟩, .slice none 0 0, .slice none 0 0, .slice none 0 0] 29)).alloc (.cells #[.string ⟨#[120, 109, 108]⟩, .iface 69 (.agg #[.int .i64 (c : Int), .int .i64 (p : Int)])] 117)) w.heap.size 29 29 _ (0, 0) _ ((heap_alloc_old (w.alloc (.cells #[.slice none 0 0, .int .i64 0, .string ⟨#[]⟩, .string ⟨#[]⟩, .slice none 0 0, .slice none 0 0, .slice none 0 0] 29)) _ (by rw [alloc_sz]; omega)).trans (heap_alloc_new w _)) Tryz.underlying29 rfl (by kernel_rfl)
  have hb2 := heap_alloc_new (w.alloc (.cells #[.slice none 0 0, .int .i64 0, .string ⟨#[]⟩, .string ⟨#[]⟩, .slice none 0 0, .slice none 0 0, .slice none 0 0] 29)) (.cells #[.string ⟨#[120, 109, 108]⟩, .iface 69 (.agg #[.int .i64 (c : Int), .int .i64 (p : Int)])] 117)
  rw [show (w.alloc (.cells #[.slice none 0 0, .int .i64 0, .string ⟨#[]⟩, .string ⟨#[]⟩, .slice none 0 0, .slice none 0 0, .slice none 0 0] 29)).heap.size = w.heap.size + 1 from alloc_sz _ _] at hb2
  refine bodyPost_ret_by (v := .tuple #[docZ, .iface 115 (.pointer (some ⟨w.heap.size + 1, 0, none⟩))]) ?_ rfl ⟨_, rfl, .inr ⟨by have := HC.out; omega, _, rfl, ?_, ?_, by omega⟩, ?_⟩
  · rw [results_cell_tmp rfl]
    simp only [Array.getD_eq_getD_getElem?, List.getElem?_toArray, List.getElem?_cons_succ, List.getElem?_cons_zero, Option.getD_some, asAddr, Sem.run_pure, Result.andThen_ok]
    rw [hrow]
    rfl
  · exact (cell_of_block hb2 0).trans rfl
  · exact (cell_of_block hb2 1).trans rfl
  · exact ((Below.refl _ _).alloc (Nat.le_refl _) _).alloc (by rw [alloc_sz]; omega) _

end Go.Proofs.YtfonflbpkbibbaaGreatDoor
namespace Go.Proofs.YtfonflbpkbibbaaGreatDoor
open Go.RowKit Go.Lib Go.Joins

theorem cell_kept {w w' : World} {O : Nat → Prop} {b p : Nat} {v : Value} (h : w.cell? ⟨b, p, none⟩ = some v) (hk : Keeps O w w') (hb : ¬ O b) : w'.cell? ⟨b, p, none⟩ = some v :=
  (World.cell?_of_block (hk.block b (lt_of_cell h) hb)).trans h
theorem att_keep {w w' : World} {S O : Nat → Prop} {v : Value} {l : List (List UInt8 × List UInt8)} (h : AttIn w S v l) (hk : Keeps O w w') (hS : ∀ k, S k → ¬ O k) : AttIn w' S v l := by
  obtain ⟨a, c, h1, h2, h3, h4, h5⟩ := h
  refine ⟨a, c, h1, h2, h3, h4, ?_⟩
  rcases h5 with h5 | ⟨b, o, h6, h7, h8⟩
  · exact .inl h5
  · exact .inr ⟨b, o, h6, h7, fun i x hx => ⟨cell_kept (h8 i x hx).1 hk (hS b h7), cell_kept (h8 i x hx).2 hk (hS b h7)⟩⟩
theorem att_below {w w' : World} {S : Nat → Prop} {v : Value} {l : List (List UInt8 × List UInt8)} (h : AttIn w S v l) (hb : Below w.heap.size w w') : AttIn w' S v l := att_keep h (keeps_below hb Non) (fun _ _ h => h)
theorem att_more {w : World} {S S' : Nat → Prop} {v : Value} {l : List (List UInt8 × List UInt8)} (h : AttIn w S v l) (hS : ∀ k, S k → S' k) : AttIn w S' v l := by
  obtain ⟨a, c, h1, h2, h3, h4, h5⟩ := h
  refine ⟨a, c, h1, h2, h3, h4, ?_⟩
  rcases h5 with h5 | ⟨b, o, h6, h7, h8⟩
  · exact .inl h5
  · exact .inr ⟨b, o, h6, hS b h7, h8⟩
/-- Attributes of the call's own. -/
theorem OwnA.att {n0 : Nat} {w : World} {v : Value} {l : List (List UInt8 × List UInt8)} (h : OwnA n0 w v l) : AttIn w (fun k => v.ownBlock = some k) v l := by
  rcases h.row.2 with ⟨h1, h0⟩ | ⟨g, cap, cur, h1, hg, hgb, hcap, hcm, hcur, htk⟩
  · exact ⟨none, 0, by rw [h1, h0], by omega, Nat.zero_le _, fun _ => rfl, .inl (List.length_eq_zero_iff.1 h0)⟩
  · obtain ⟨aa, ac, hav, hc, hm, hcell⟩ := h.form
    rw [h1] at hav
    injection hav with e1 e2 e3
    refine ⟨aa, ac, by rw [h1, ← e1, ← e3], hc, hm, (fun e => by rw [e] at e1; cases e1), ?_⟩
    rcases hcell with h5 | ⟨b, h6, h7, h8⟩
    · exact .inl h5
    · exact .inr ⟨b, 0, h6, h7, fun i x hx => by rw [Nat.zero_add]; exact h8 i x hx⟩

/-- A token at a place. -/
def TkAt (w : World) (S : Nat → Prop) (b p : Nat) (tk : Tk) : Prop :=
  w.cell? ⟨b, p, none⟩ = some (.int .i64 (tk.kind : Int)) ∧ w.cell? ⟨b, p + 1, none⟩ = some (.int .i64 (tk.at_ : Int)) ∧ w.cell? ⟨b, p + 2, none⟩ = some (.string (strB tk.name)) ∧ w.cell? ⟨b, p + 3, none⟩ = some (.string (strB tk.text)) ∧ ∃ av, w.cell? ⟨b, p + 4, none⟩ = some av ∧ AttIn w S av tk.attrs
theorem TkAt.keep {w w' : World} {S O : Nat → Prop} {b p : Nat} {tk : Tk} (h : TkAt w S b p tk) (hk : Keeps O w w') (hb : ¬ O b) (hS : ∀ k, S k → ¬ O k) : TkAt w' S b p tk := by
  obtain ⟨h1, h2, h3, h4, av, h5, h6⟩ := h
  exact ⟨cell_kept h1 hk hb, cell_kept h2 hk hb, cell_kept h3 hk hb, cell_kept h4 hk hb, av, cell_kept h5 hk hb, att_keep h6 hk hS⟩
/-- Tokens in memory, in blocks that S has. -/
def TokRow (w : World) (S : Nat → Prop) (v : Value) (ts : List Tk) : Prop :=
  ∃ a c, v = .slice a ts.length c ∧ ts.length ≤ c ∧ c ≤ maxLen ∧ (ts = [] ∨ ∃ b o, a = some ⟨b, o, none⟩ ∧ S b ∧ ∀ (i : Nat) (tk : Tk), ts[i]? = some tk → TkAt w S b (o + i * 5) tk)
theorem TokRow.keep {w w' : World} {S O : Nat → Prop} {v : Value} {ts : List Tk} (h : TokRow w S v ts) (hk : Keeps O w w') (hS : ∀ k, S k → ¬ O k) : TokRow w' S v ts := by
  obtain ⟨a, c, h1, h2, h3, h4⟩ := h
  refine ⟨a, c, h1, h2, h3, ?_⟩
  rcases h4 with h4 | ⟨b, o, h5, h6, h7⟩
  · exact .inl h4
  · exact .inr ⟨b, o, h5, h6, fun i tk hi => (h7 i tk hi).keep hk (hS b h6) hS⟩
theorem TokRow.below {w w' : World} {S : Nat → Prop} {v : Value} {ts : List Tk} (h : TokRow w S v ts) (hb : Below w.heap.size w w') : TokRow w' S v ts := h.keep (keeps_below hb Non) (fun _ _ h => h)
theorem OwnT.trow {n0 : Nat} {w : World} {v : Value} {ps : List (Tk × Value)} (h : OwnT n0 w v ps) : TokRow w (fun k => n0 ≤ k ∧ k < w.heap.size) v (ps.map Prod.fst) := by
  rcases h.tokens with ⟨h1, h0⟩ | ⟨b, c, h1, h2, h3, h4, h5, h6⟩
  · rw [h0]
    exact ⟨none, 0, h1, Nat.le_refl _, Nat.zero_le _, .inl rfl⟩
  · refine ⟨some ⟨b, 0, none⟩, c, by rw [h1, List.length_map], by rw [List.length_map]; exact h2, h3, .inr ⟨b, 0, rfl, ⟨h5, h4⟩, fun i tk hi => ?_⟩⟩
    rw [List.getElem?_map] at hi
    obtain ⟨x, hx, rfl⟩ := Option.map_eq_some_iff.1 hi
    obtain ⟨y0, y1, y2, y3, y4⟩ := h6 i x hx
    rw [Nat.zero_add]
    have ha := h.atts x (List.mem_of_getElem? hx)
    exact ⟨y0, y1, y2, y3, x.2, y4, att_more ha.att (fun k e => ⟨ha.new k e, ha.lt k e⟩)⟩
end Go.Proofs.YtfonflbpkbibbaaGreatDoor
namespace Go.Proofs.YtfonflbpkbibbaaGreatDoor
open Go.RowKit Go.Lib Go.Joins

theorem GrW.start {w : World} {n0 gb : Nat} {ov : Value} (hb : w.heap[gb]? = some (growB (.slice none 0 0) ov 0)) (ho : w.ownsRow 0 61 1 ov 1 (ptrC [⟨gb, 0, none⟩])) (hov : ∀ k, ov.ownBlock = some k → n0 ≤ k ∧ k ≠ gb) (hn : n0 ≤ gb) : GrW w n0 gb (fun k => k < n0) [] [] 0 (.slice none 0 0) ov [⟨gb, 0, none⟩] [none] where
  blk := hb
  opn := ho
  spi := ⟨rfl, rfl, [], Lv.nil w n0, NodesIn.nil _ _⟩
  dis := Apart.one _
  off := fun k hk => by simp at hk
  sgb := fun h => by omega
  sov := fun k e => ⟨fun h => by have := (hov k e).1; omega, (hov k e).2⟩
  old := fun _ h => h
/-- A document's tree in memory. -/
structure DocIn (w : World) (n0 : Nat) (dv : Value) (q : List Tr × Tr × List Tr) : Prop where
  ex : ∃ bv av r rb ra, dv = docV bv (.int .i64 (r.kind : Int)) (.string (strB r.name)) (.string (strB r.text)) r.av r.kv av ∧ NodeIn w (fun _ => True) r q.2.1 ∧ RowIn w (fun _ => True) bv rb ∧ NodesIn w (fun _ => True) rb q.1 ∧ RowIn w (fun _ => True) av ra ∧ NodesIn w (fun _ => True) ra q.2.2
/-- What Parse leaves. -/
def ParseOut (w : World) : Except (Nat × Nat) (List Tr × Tr × List Tr) → Ending → World → Prop
  | .ok q, e, w' => ∃ dv, e = .returned (.tuple #[dv, .nilIface]) ∧ DocIn w' w.heap.size dv q ∧ Below w.heap.size w w'
  | .error (c, p), e, w' => ∃ ev, e = .returned (.tuple #[docZ, ev]) ∧ c ≠ 0 ∧ ErrAt w.heap.size w' (c : Int) (p : Int) ev ∧ Below w.heap.size w w'
/-- The results of a function that keeps the first one in a row of seven cells. -/
theorem ret_doc {R : Ending → World → Prop} {tmps : Array Value} {w : World} {b : Nat} {c0 c1 c2 c3 c4 c5 c6 v : Value} (hb : w.heap[b]? = some (.cells #[c0, c1, c2, c3, c4, c5, c6] 29 (0, 0))) (h2 : tmps.getD 2 undef = .pointer (some ⟨b, 0, none⟩)) (h3 : tmps.getD 3 undef = v) (hR : R (.returned (.tuple #[docV c0 c1 c2 c3 c4 c5 c6, v])) w) : bodyPost Tryz.prog Tryz.f11 R .ret ⟨tmps, []⟩ w := by
  refine bodyPost_ret_by (v := .tuple #[docV c0 c1 c2 c3 c4 c5 c6, v]) ?_ rfl hR
  rw [results_cell_tmp (p := 2) (u := 3) (ty := 29) rfl]
  rw [h2, h3]
  simp only [asAddr, Sem.run_pure, Result.andThen_ok]
  rw [run_loadVar_row (P := Tryz.prog) w b 29 29 _ (0, 0) _ hb Tryz.underlying29 rfl (by kernel_rfl)]
  rfl

end Go.Proofs.YtfonflbpkbibbaaGreatDoor
