/-
  strings.SplitSeq as an iterator: what its loop's body is handed, one piece after another. Conditions: the text is no longer than 2 to the 30; the body leaves the iterator's own three boxes as they are.
-/
import Derived.Test.YtiolchdfjlffoaaDoorIRf
namespace Go.Proofs.YtiolchdfjlffoaaDoor
open Go.RowKit Go.Lib Go.Joins Go.Shelf
attribute [local go_sem] Oper.semAt_some

/-- How long the text in a box is. -/
def lenAt (bs : Nat) (w : World) : Nat := match w.cell? ⟨bs, 0, none⟩ with
  | some (.string s) => s.size
  | _ => 0
theorem lenAt_eq {bs : Nat} {w : World} {s : ByteArray} (h : w.cell? ⟨bs, 0, none⟩ = some (.string s)) : lenAt bs w = s.size := by
  unfold lenAt
  rw [h]

set_option maxRecDepth 100000 in
set_option maxHeartbeats 4000000 in
theorem seq1_in (n : Nat) (hn : 1 ≤ n) (l bs bp bv : Nat) (d : List UInt8) (hd : d.length ≤ 1073741824) (J : List (List UInt8) → World → Prop) (Jx : World → Prop)
    (hJs : ∀ pre W v, J pre W → J pre (W.setCell ⟨bs, 0, none⟩ v))
    (hJc : ∀ pre W, J pre W → W.cell? ⟨bp, 0, none⟩ = some (.string ⟨#[44]⟩) ∧ W.cell? ⟨bv, 0, none⟩ = some (.int .i64 0) ∧ W.frozen? ⟨bs, 0, none⟩ = false)
    (hY : ∀ pre x W, J pre W → (∃ r, pieces 44 d = pre ++ x :: r) → YieldAt Fence.wide (n - 1) Tryd.prog l #[.string (strB x)] W fun e W' =>
      (e = .returned (.bool true) ∧ J (pre ++ [x]) W' ∧ W'.cell? ⟨bs, 0, none⟩ = W.cell? ⟨bs, 0, none⟩) ∨ (e = .returned (.bool false) ∧ Jx W'))
    (W : World) (h0 : J [] W) (hs0 : W.cell? ⟨bs, 0, none⟩ = some (.string (strB d))) :
    CallsIn Fence.wide n Tryd.prog 58 #[.func (.yield l) #[] #[], .pointer (some ⟨bp, 0, none⟩), .pointer (some ⟨bs, 0, none⟩), .pointer (some ⟨bv, 0, none⟩)] W fun e W' => (∃ v, e = .returned v) ∧ (J (pieces 44 d) W' ∨ Jx W') := by
  obtain ⟨c1, c2, c3⟩ := hJc [] W h0
  refine callsIn_of_wp Tryd.func58 rfl trivial ?_ rfl
  simp only [Tryd.ntmps58, List.size_toArray, List.length_cons, List.length_nil, Nat.reduceAdd, Nat.reduceSub, Array.replicate_succ, Array.replicate_zero, List.push_toArray, List.append_toArray, List.nil_append, List.cons_append]
  have HY := Lib.hid hY
  have HJS := Lib.hid hJs
  have HJC := Lib.hid hJc
  have HD := Lib.hid hd
  have HS0 := Lib.hid hs0
  clear hY hJs hJc hd hs0 c2 c3
  gi_wp2
  gi_loopw [] (fun wr => ∃ pre rest, pieces 44 d = pre ++ pieces 44 rest ∧ rest.length ≤ d.length ∧ J pre wr ∧ wr.cell? ⟨bs, 0, none⟩ = some (.string (strB rest)))
    (fun wr => lenAt bs wr)
  case atStart => exact ⟨[], d, rfl, Nat.le_refl _, h0, HS0.out⟩
  case round =>
    obtain ⟨pre, rest, hp, hl, hj, hs⟩ := hrel
    obtain ⟨e1, e2, e3⟩ := HJC.out pre wr hj
    have HP := Lib.hid hp
    have HJ := Lib.hid hj
    have HL := Lib.hid hl
    clear hp hj hl c1 h0
    have hsz := strB_size rest
    have HIX := Lib.hid (fun (W : World) => (callsIn_wide (n := n - 1)).2 (Tryd.strings_Index_one (strB rest) 44 W))
    rw [strB_list] at HIX
    rcases first_of 44 rest with h | ⟨p, u, h, hru⟩
    · rw [byte_no h] at HIX
      have HPC : Hid (pieces 44 d = pre ++ [rest]) := Lib.hid (by rw [HP.out, pieces_clean h])
      obtain ⟨fn, tmps, assign, body, hy, hR⟩ := HY.out pre rest wr HJ.out ⟨[], by rw [HPC.out]⟩
      obtain ⟨z, hz⟩ : ∃ z, strB rest = z := ⟨_, rfl⟩
      rw [hz] at hy HIX hs
      have HR := Lib.hid hR
      clear h hsz hz hR
      gi_wp2_with fail
      refine ⟨trivial, (HIX.out wr).mono ?_⟩
      rintro e w' ⟨rfl, rfl⟩
      gi_wp2
      refine HR.out.mono ?_
      rintro e W3 (⟨rfl, hJ3, hk3⟩ | ⟨rfl, hJx3⟩)
      · gi_wp2
        go_end0
        exact ⟨⟨_, rfl⟩, .inl (by rw [HPC.out]; exact hJ3)⟩
      · gi_wp2
        go_end0
        exact ⟨⟨_, rfl⟩, .inr hJx3⟩
    · subst hru
      have HLP : Hid (p.length + (u.length + 1) ≤ 1073741824) := Lib.hid (by have h1 := HL.out; have h2 := HD.out; rw [List.length_append, List.length_cons] at h1; omega)
      rw [byte_at h] at HIX
      have HPC : Hid (pieces 44 d = (pre ++ [p]) ++ pieces 44 u) := Lib.hid (by rw [HP.out, pieces_app h, List.append_assoc]; rfl)
      obtain ⟨fn, tmps, assign, body, hy, hR⟩ := HY.out pre p wr HJ.out ⟨pieces 44 u, by rw [HPC.out, List.append_assoc]; rfl⟩
      have hex1 : strB p = (strB (p ++ 44 :: u)).extract 0 p.length := by
        rw [extract_strB, strB_list, List.drop_zero, Nat.sub_zero, List.take_append_of_le_length (Nat.le_refl _), List.take_length]
      have hex2 : (strB (p ++ 44 :: u)).extract (p.length + 1) (strB (p ++ 44 :: u)).size = strB u := by
        rw [extract_strB, strB_list, drop_byte, List.take_of_length_le]
        rw [strB_size, List.length_append, List.length_cons]
        omega
      rw [List.length_append, List.length_cons] at hsz
      obtain ⟨z, hz⟩ : ∃ z, strB (p ++ 44 :: u) = z := ⟨_, rfl⟩
      obtain ⟨pl, hpl⟩ : ∃ pl, p.length = pl := ⟨_, rfl⟩
      rw [hz, hpl] at hex1
      rw [hz, hpl] at hex2
      rw [hz, hpl] at hsz
      rw [hz, hpl] at HIX
      rw [hz] at hs
      rw [hpl] at HLP
      rw [hex1] at hy
      have HEX2 := Lib.hid hex2
      have HR := Lib.hid hR
      have hpz : (pl : Int) ≤ (z.size : Int) := by omega
      have hpz1 : (pl : Int) + 1 ≤ (z.size : Int) := by omega
      have HLZ : Hid (lenAt bs wr = z.size) := Lib.hid (lenAt_eq hs)
      have HZS := Lib.hid hsz
      have hpb : (pl : Int) ≤ 1073741824 := by have := HLP.out; omega
      clear h hz hex1 hex2 hR hpl hsz
      gi_wp2_with fail
      refine ⟨trivial, (HIX.out wr).mono ?_⟩
      rintro e w' ⟨rfl, rfl⟩
      gi_wp2
      refine HR.out.mono ?_
      rintro e W3 (⟨rfl, hJ3, hk3⟩ | ⟨rfl, hJx3⟩)
      · obtain ⟨g1, g2, g3⟩ := HJC.out _ W3 hJ3
        have g4 := hk3.trans hs
        have HJ3 := Lib.hid hJ3
        have HRL : Hid (u.length ≤ d.length) := Lib.hid (by have h1 := HL.out; rw [List.length_append, List.length_cons] at h1; omega)
        clear hJ3 hk3 hy hs e1 e2 e3
        gi_wp2
        go_roundw
        case rel => exact ⟨pre ++ [p], u, HPC.out, HRL.out, HJS.out _ _ _ HJ3.out, by rw [HEX2.out]; exact World.cell?_setCell_same' _ _ _ (by rw [g4]; rfl)⟩
        case measure =>
          rw [lenAt_eq (World.cell?_setCell_same' _ _ _ (by rw [g4]; rfl)), HEX2.out, strB_size, HLZ.out, HZS.out]
          omega
      · gi_wp2
        refine bodyPost_ret (results_none rfl _ _ _) rfl ?_
        exact ⟨⟨_, rfl⟩, .inr hJx3⟩

/-- strings.SplitSeq boxes its text, and its separator. -/
theorem seq_calls (s : ByteArray) (w : World) : Calls Tryd.prog 43 #[.string s, .string ⟨#[44]⟩] w fun e w' =>
    e = .returned (.func (.func 58) #[] #[.pointer (some ⟨w.heap.size + 1, 0, none⟩), .pointer (some ⟨w.heap.size, 0, none⟩), .pointer (some ⟨w.heap.size + 1 + 1, 0, none⟩)]) ∧
    w' = ((w.alloc (.cells #[.string s] 9)).alloc (.cells #[.string ⟨#[44]⟩] 9)).alloc (.cells #[.int .i64 0] 3) := by
  have h : Calls Tryd.prog 51 #[.string s, .string ⟨#[44]⟩, .int .i64 0] w fun e w' =>
      e = .returned (.func (.func 58) #[] #[.pointer (some ⟨w.heap.size + 1, 0, none⟩), .pointer (some ⟨w.heap.size, 0, none⟩), .pointer (some ⟨w.heap.size + 1 + 1, 0, none⟩)]) ∧
      w' = ((w.alloc (.cells #[.string s] 9)).alloc (.cells #[.string ⟨#[44]⟩] 9)).alloc (.cells #[.int .i64 0] 3) := by
    go_enter Tryd.func51, Tryd.ntmps51
    go_wp2
    go_ret
    exact ⟨rfl, rfl⟩
  have H := Lib.hid h
  clear h
  go_enter Tryd.func43, Tryd.ntmps43
  go_wp2_with fail
  with_reducible refine H.out.mono ?_
  rintro e w1 ⟨rfl, rfl⟩
  go_wp2
  go_ret
  exact ⟨rfl, rfl⟩

end Go.Proofs.YtiolchdfjlffoaaDoor
