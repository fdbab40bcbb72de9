/-
 Writing as the program goes: characters up to the next told one, levels of open elements, and nodes that are still to be judged. Of no program. No condition.
-/
import Derived.Test.YtocnedpclllbhaaGreatDoorOF
import Derived.Test.YtocnedpclllbhaaGreatDoorXTr
namespace Go.Proofs.YtocnedpclllbhaaGreatDoor
open Go.RowKit Go.Lib Go.Joins

mutual
/-- A node, written. -/
def wrN : Tr → List UInt8
  | .mk k n t ats ks => if k = 1 then 60 :: (n ++ (attrsB ats ++ (if ks.isEmpty then [47, 62] else 62 :: (wrL ks ++ 60 :: 47 :: (n ++ [62])))))
    else if k = 2 then escS false t else if k = 3 then 60 :: 33 :: 45 :: 45 :: (t ++ [45, 45, 62])
    else if k = 4 then 60 :: 63 :: (n ++ ((if t = [] then [] else 32 :: t) ++ [63, 62])) else []
def wrL : List Tr → List UInt8
  | [] => []
  | t :: ts => wrN t ++ wrL ts
end
theorem wr_mk (k : Int) (n t : List UInt8) (ats : List (List UInt8 × List UInt8)) (ks : List Tr) : wrN (.mk k n t ats ks) = if k = 1 then 60 :: (n ++ (attrsB ats ++ (if ks.isEmpty then [47, 62] else 62 :: (wrL ks ++ 60 :: 47 :: (n ++ [62])))))
    else if k = 2 then escS false t else if k = 3 then 60 :: 33 :: 45 :: 45 :: (t ++ [45, 45, 62])
    else if k = 4 then 60 :: 63 :: (n ++ ((if t = [] then [] else 32 :: t) ++ [63, 62])) else [] := by rw [wrN]
theorem count_one (t : Tr) : 1 ≤ t.count := by
  cases t with
  | mk k n x ats ks => rw [Tr.count]; omega

/-- A document, written. -/
def wrD (before : List Tr) (root : Tr) (after : List Tr) : List UInt8 := wrL before ++ (wrN root ++ wrL after)

theorem wrL_app : ∀ a b : List Tr, wrL (a ++ b) = wrL a ++ wrL b
  | [], b => by rw [List.nil_append, wrL]; rfl
  | t :: a, b => by rw [List.cons_append, wrL, wrL, wrL_app a b, List.append_assoc]
theorem wrL_one (t : Tr) : wrL [t] = wrN t := by rw [wrL, wrL, List.append_nil]

/-- Has XML all of a text? -/
def hasB (l : List UInt8) : Bool := decide (badL l < 0)
/-- Is the first one a text? -/
def headT : List Tr → Bool
  | [] => false
  | u :: _ => u.kind == 2
/-- Are two texts beside each other? -/
def touchB : List Tr → Bool
  | [] => false
  | t :: l => (t.kind == 2 && headT l) || touchB l
/-- Is the first byte no blank? -/
def bareB : List UInt8 → Bool
  | [] => true
  | x :: _ => !blankB (x.toNat : Int)
/-- May a node be written, if each of its children may? -/
def fitT (k : Int) (n t : List UInt8) (ats : List (List UInt8 × List UInt8)) (ks : List Tr) : Bool :=
  if k = 1 then t.isEmpty && nameW n && ats.all (fun a => nameW a.1 && hasB a.2) && decide (ats.map Prod.fst).Nodup && !touchB ks
  else ats.isEmpty && ks.isEmpty && hasB t &&
    (if k = 2 then n.isEmpty && !t.isEmpty
    else if k = 3 then n.isEmpty && !t.contains 13 && (cutS [45, 45] (t ++ [45])).isNone
    else if k = 4 then nameW n && !sameS n [120, 109, 108] && !t.contains 13 && (cutS [63, 62] t).isNone && bareB t else false)
mutual
def fairT : Tr → Bool
  | .mk k n t ats ks => fitT k n t ats ks && fairL ks
def fairL : List Tr → Bool
  | [] => true
  | t :: ts => fairT t && fairL ts
end
theorem fair_mk (k : Int) (n t : List UInt8) (ats : List (List UInt8 × List UInt8)) (ks : List Tr) : fairT (.mk k n t ats ks) = (fitT k n t ats ks && fairL ks) := by rw [fairT]
theorem fairL_iff : ∀ ks : List Tr, fairL ks = true ↔ ∀ t ∈ ks, fairT t = true
  | [] => by
    rw [fairL]
    exact ⟨(fun _ _ h => by cases h), fun _ => rfl⟩
  | t :: ks => by rw [fairL, Bool.and_eq_true, fairL_iff ks, List.forall_mem_cons]
/-- May nodes stand beside the root? -/
def asideB (l : List Tr) : Bool := l.all fun t => (t.kind == 3 || t.kind == 4) && fairT t
/-- May a document be written? -/
def mayB (before : List Tr) (root : Tr) (after : List Tr) : Bool :=
  asideB before && asideB after && root.kind == 1 && fairT root && decide (before.length + root.count + after.length ≤ 4096) && decide (root.depth ≤ 32) && decide ((wrD before root after).length ≤ 65536)

/-- Attributes, one by one, behind names that stood ahead. -/
def attrsW : List (List UInt8) → List (List UInt8 × List UInt8) → Bool
  | _, [] => true
  | seen, a :: l => !seen.contains a.1 && nameW a.1 && hasB a.2 && attrsW (seen ++ [a.1]) l
theorem attrsW_iff : ∀ (l : List (List UInt8 × List UInt8)) (seen : List (List UInt8)), seen.Nodup → (attrsW seen l = true ↔ ((∀ a ∈ l, nameW a.1 = true ∧ hasB a.2 = true) ∧ (seen ++ l.map Prod.fst).Nodup))
  | [], seen, hs => by
    rw [attrsW, List.map_nil, List.append_nil]
    exact ⟨fun _ => ⟨(fun _ h => by cases h), hs⟩, fun _ => rfl⟩
  | a :: l, seen, hs => by
    rw [attrsW, Bool.and_eq_true, Bool.and_eq_true, Bool.and_eq_true, Bool.not_eq_true', Bool.eq_false_iff, Ne, List.contains_iff_mem, List.map_cons, List.forall_mem_cons]
    constructor
    · rintro ⟨⟨⟨h1, h2⟩, h3⟩, h4⟩
      have hs2 : (seen ++ [a.1]).Nodup := by
        rw [List.nodup_append]
        exact ⟨hs, by simp, fun x hx y hy e => h1 (by rw [← List.mem_singleton.1 hy, ← e]; exact hx)⟩
      obtain ⟨h5, h6⟩ := (attrsW_iff l (seen ++ [a.1]) hs2).1 h4
      rw [List.append_assoc] at h6
      exact ⟨⟨⟨h2, h3⟩, h5⟩, h6⟩
    · rintro ⟨⟨⟨h2, h3⟩, h5⟩, h6⟩
      have h7 : (seen ++ [a.1] ++ l.map Prod.fst).Nodup := by rw [List.append_assoc]; exact h6
      have hs2 : (seen ++ [a.1]).Nodup := (List.nodup_append.1 h7).1
      refine ⟨⟨⟨fun h => ?_, h2⟩, h3⟩, (attrsW_iff l (seen ++ [a.1]) hs2).2 ⟨h5, h7⟩⟩
      exact (List.nodup_append.1 hs2).2.2 a.1 h a.1 (by simp) rfl
/-- An element's judgement, its attributes one by one. -/
theorem fit_elem_walk (n t : List UInt8) (ats : List (List UInt8 × List UInt8)) (ks : List Tr) : fitT 1 n t ats ks = (t.isEmpty && nameW n && attrsW [] ats && !touchB ks) := by
  have h : attrsW [] ats = (ats.all (fun a => nameW a.1 && hasB a.2) && decide (ats.map Prod.fst).Nodup) := by
    rw [Bool.eq_iff_iff, attrsW_iff ats [] (by simp), List.nil_append, Bool.and_eq_true, List.all_eq_true, decide_eq_true_iff]
    simp only [Bool.and_eq_true]
  unfold fitT
  rw [if_pos rfl, h]
  simp only [Bool.and_assoc]
/-- Does a text end with a byte? -/
def endsB (c : UInt8) (l : List UInt8) : Bool := match l.getLast? with
  | some x => x == c
  | none => false
theorem ends_cons (c x y : UInt8) (l : List UInt8) : endsB c (x :: y :: l) = endsB c (y :: l) := by unfold endsB; rw [List.getLast?_cons_cons]
/-- A comment's text: no two dashes, and none at the end. -/
theorem cut_ends : ∀ l : List UInt8, (cutS [45, 45] (l ++ [45])).isNone = ((cutS [45, 45] l).isNone && !endsB 45 l)
  | [] => by decide
  | [x] => by
    by_cases hx : x = 45
    · subst hx
      decide
    · have h1 : ([45, 45] : List UInt8).isPrefixOf [x, 45] = false := by
        simp [List.isPrefixOf]
        exact fun e => hx e.symm
      have h2 : ([45, 45] : List UInt8).isPrefixOf [x] = false := by simp [List.isPrefixOf]
      have h3 : cutS [45, 45] [45] = none := rfl
      show (cutS [45, 45] [x, 45]).isNone = _
      rw [cutS, h1, if_neg Bool.false_ne_true, h3, cutS, h2, if_neg Bool.false_ne_true]
      show true = (true && !(x == 45))
      rw [beq_eq_false_iff_ne.2 hx]
      rfl
  | x :: y :: l => by
    have ih := cut_ends (y :: l)
    rw [ends_cons, List.cons_append, cutS, cutS]
    have hp : ([45, 45] : List UInt8).isPrefixOf (x :: (y :: l ++ [45])) = ([45, 45] : List UInt8).isPrefixOf (x :: y :: l) := by
      rw [List.cons_append]
      simp only [List.isPrefixOf]
    rw [hp]
    split
    · rfl
    · rw [Option.isNone_map, Option.isNone_map, ih]
/-- No end of a line that would be turned. -/
theorem cut_cr : ∀ l : List UInt8, (cutS [13] l).isNone = !l.contains 13
  | [] => rfl
  | x :: l => by
    have ih := cut_cr l
    rw [cutS, List.contains_cons]
    by_cases hx : x = 13
    · subst hx
      rfl
    · have h1 : ([13] : List UInt8).isPrefixOf (x :: l) = false := by
        simp [List.isPrefixOf]
        exact fun e => hx e.symm
      rw [h1, if_neg Bool.false_ne_true, Option.isNone_map, ih]
      have h2 : ((13 : UInt8) == x) = false := beq_eq_false_iff_ne.2 (fun e => hx e.symm)
      rw [h2]
      rfl

/-- Up to the first character that is told by a reference. -/
theorem esc_first {v : Bool} {a : List UInt8} (ha : ∀ x ∈ a, toldB v x = false) (x : UInt8) (t : List UInt8) : escS v (a ++ x :: t) = a ++ (escC v x ++ escS v t) := by
  rw [esc_app, esc_plain ha]
  rfl
/-- What tells a character. -/
def refC (x : UInt8) : List UInt8 :=
  if x = 38 then [38, 97, 109, 112, 59] else if x = 60 then [38, 108, 116, 59] else if x = 62 then [38, 103, 116, 59] else if x = 34 then [38, 113, 117, 111, 116, 59]
  else if x = 13 then [38, 35, 49, 51, 59] else if x = 9 then [38, 35, 57, 59] else [38, 35, 49, 48, 59]
theorem escC_told {v : Bool} {x : UInt8} (h : toldB v x = true) : escC v x = refC x := by
  unfold toldB at h
  simp only [Bool.or_eq_true, beq_iff_eq, Bool.and_eq_true, Bool.not_eq_true'] at h
  rcases h with (((rfl | rfl) | rfl) | ⟨rfl, rfl⟩) | ⟨rfl, (rfl | rfl) | rfl⟩ <;> first | rfl | (cases v <;> rfl)
theorem told_texts (x : UInt8) : toldB false x = [38, 60, 62, 13].contains x := by
  unfold toldB
  simp only [List.contains_cons, List.contains_nil, Bool.not_false, Bool.and_true, Bool.false_and, Bool.or_false]
  cases x == 38 <;> cases x == 60 <;> cases x == 62 <;> cases x == 13 <;> rfl
theorem told_values (x : UInt8) : toldB true x = [38, 60, 34, 9, 10, 13].contains x := by
  unfold toldB
  simp only [List.contains_cons, List.contains_nil, Bool.not_true, Bool.and_false, Bool.true_and, Bool.or_false]
  cases x == 38 <;> cases x == 60 <;> cases x == 34 <;> cases x == 9 <;> cases x == 10 <;> cases x == 13 <;> rfl
/-- What is still to be written: of each open element, the innermost first, the children that are left and the end tag. -/
def flatW : List (List Tr × List UInt8) → List UInt8
  | [] => []
  | l :: ls => wrL l.1 ++ (l.2 ++ flatW ls)
theorem flat_end (e : List UInt8) (ls : List (List Tr × List UInt8)) : flatW (([], e) :: ls) = e ++ flatW ls := by
  rw [flatW, wrL, List.nil_append]
theorem flat_next (t : Tr) (ts : List Tr) (e : List UInt8) (ls : List (List Tr × List UInt8)) : flatW ((t :: ts, e) :: ls) = wrN t ++ flatW ((ts, e) :: ls) := by
  rw [flatW, flatW, wrL, List.append_assoc]
/-- An element that has children: its beginning, and one level more. -/
theorem flat_open {n x : List UInt8} {ats : List (List UInt8 × List UInt8)} {ks : List Tr} (hk : ks ≠ []) (ts : List Tr) (e : List UInt8) (ls : List (List Tr × List UInt8)) :
    flatW ((.mk 1 n x ats ks :: ts, e) :: ls) = 60 :: (n ++ (attrsB ats ++ [62])) ++ flatW ((ks, 60 :: 47 :: (n ++ [62])) :: (ts, e) :: ls) := by
  rw [flat_next, wr_mk, if_pos rfl, if_neg (by simpa using hk)]
  show _ = 60 :: (n ++ (attrsB ats ++ [62])) ++ (wrL ks ++ ((60 :: 47 :: (n ++ [62])) ++ flatW ((ts, e) :: ls)))
  simp only [List.cons_append, List.append_assoc, List.nil_append]
/-- How many rounds a level takes: one for each node in it, and one for each element that has children, and one for its end. -/
def stepsW : List (List Tr × List UInt8) → Nat
  | [] => 0
  | l :: ls => 2 * cntL l.1 + 1 + stepsW ls
theorem steps_end (e : List UInt8) (ls : List (List Tr × List UInt8)) : stepsW ls < stepsW (([], e) :: ls) := by rw [stepsW]; omega
theorem steps_next (t : Tr) (ts : List Tr) (e : List UInt8) (ls : List (List Tr × List UInt8)) : stepsW ((ts, e) :: ls) < stepsW ((t :: ts, e) :: ls) := by
  have := count_one t
  rw [stepsW, stepsW, cntL]
  dsimp only
  omega
theorem steps_open (n x : List UInt8) (ats : List (List UInt8 × List UInt8)) (ks ts : List Tr) (e e2 : List UInt8) (ls : List (List Tr × List UInt8)) : stepsW ((ks, e2) :: (ts, e) :: ls) < stepsW ((.mk 1 n x ats ks :: ts, e) :: ls) := by
  rw [stepsW, stepsW, stepsW, cntL, count_mk]
  dsimp only
  omega
/-- Nodes, one at a time, their children behind the others. -/
theorem fair_step (k : Int) (n x : List UInt8) (ats : List (List UInt8 × List UInt8)) (ks l : List Tr) : fairL (l ++ [.mk k n x ats ks]) = (fitT k n x ats ks && fairL (l ++ ks)) := by
  have h : ∀ a b : List Tr, fairL (a ++ b) = (fairL a && fairL b) := by
    intro a b
    induction a with
    | nil => rw [List.nil_append, fairL]; rfl
    | cons t a ih => rw [List.cons_append, fairL, fairL, ih, Bool.and_assoc]
  rw [h, h, fairL, fairL, fair_mk, Bool.and_true]
  cases fairL l <;> cases fitT k n x ats ks <;> cases fairL ks <;> rfl
/-- Texts beside each other, told pair by pair. -/
theorem touch_at : ∀ (ks : List Tr), touchB ks = true ↔ ∃ i t u, ks[i]? = some t ∧ ks[i + 1]? = some u ∧ t.kind = 2 ∧ u.kind = 2
  | [] => by
    rw [touchB]
    exact ⟨fun h => (by cases h), fun ⟨_, _, _, h, _⟩ => by cases h⟩
  | a :: ks => by
    rw [touchB, Bool.or_eq_true, Bool.and_eq_true, beq_iff_eq, touch_at ks]
    constructor
    · rintro (⟨h1, h2⟩ | ⟨i, t, u, h1, h2, h3⟩)
      · cases ks with
        | nil => cases h2
        | cons b ks => exact ⟨0, a, b, rfl, rfl, h1, beq_iff_eq.1 h2⟩
      · exact ⟨i + 1, t, u, by rw [List.getElem?_cons_succ]; exact h1, by rw [List.getElem?_cons_succ]; exact h2, h3⟩
    · rintro ⟨i, t, u, h1, h2, h3, h4⟩
      cases i with
      | zero =>
        left
        rw [List.getElem?_cons_zero] at h1
        rw [List.getElem?_cons_succ] at h2
        cases h1
        refine ⟨h3, ?_⟩
        cases ks with
        | nil => cases h2
        | cons b ks =>
          rw [List.getElem?_cons_zero] at h2
          cases h2
          exact beq_iff_eq.2 h4
      | succ i =>
        right
        rw [List.getElem?_cons_succ] at h1 h2
        exact ⟨i, t, u, h1, h2, h3, h4⟩
/-- A document is written as its nodes are, one behind the other. -/
theorem wrD_nodes (before : List Tr) (root : Tr) (after : List Tr) : wrD before root after = wrL (before ++ [root] ++ after) := by
  unfold wrD
  rw [wrL_app, wrL_app, wrL_one, List.append_assoc]

end Go.Proofs.YtocnedpclllbhaaGreatDoor
