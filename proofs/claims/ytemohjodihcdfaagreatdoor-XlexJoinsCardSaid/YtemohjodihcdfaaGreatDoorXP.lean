/-
  A document's tokens by definition, step by step as the program's scan reads them: what a step tells and what is left behind it, or a code and a place. Of no program. No condition.
-/
import Derived.Test.YtemohjodihcdfaaGreatDoorPureSides
import Derived.Test.YtemohjodihcdfaaGreatDoorRefLines
namespace Go.Proofs.YtemohjodihcdfaaGreatDoor

/-- What a step answers: what it tells, the place behind it and what is left there; or a code and a place. -/
inductive Sx (α : Type) where
  | ok (x : α) (i : Nat) (r : List UInt8)
  | no (c p : Nat)
/-- A step behind a step. -/
def Sx.then {α β : Type} (s : Sx α) (f : α → Nat → List UInt8 → Sx β) : Sx β :=
  match s with
  | .ok x i r => f x i r
  | .no c p => .no c p
theorem Sx.then_ok {α β : Type} (x : α) (i : Nat) (r : List UInt8) (f : α → Nat → List UInt8 → Sx β) : (Sx.ok x i r).then f = f x i r := rfl
theorem Sx.then_no {α β : Type} (c p : Nat) (f : α → Nat → List UInt8 → Sx β) : (Sx.no c p : Sx α).then f = .no c p := rfl

def peekS (i : Nat) : List UInt8 → Sx UInt8
  | [] => .no 6 i
  | x :: t => .ok x i (x :: t)
def mustS (c : UInt8) (i : Nat) : List UInt8 → Sx Unit
  | [] => .no 6 i
  | x :: t => if x = c then .ok () (i + 1) t else .no 2 i
def blkS (i : Nat) : List UInt8 → Sx Unit
  | [] => .no 6 i
  | x :: t => if blankB (x.toNat : Int) = true then blkS (i + 1) t else .ok () i (x :: t)
def blanksS (i : Nat) (r : List UInt8) : Sx Bool := (blkS i r).then fun _ j t => .ok (decide (i < j)) j t
/-- May a rune stand here in a name? -/
def fitsB (fb : Bool) (m : Nat) : Bool := if fb then beginsB (m : Int) else goesB (m : Int)
def nmG : Nat → Bool → Nat → List UInt8 → Sx Unit
  | 0, _, i, _ => .no 6 i
  | g + 1, fb, i, r =>
    if r = [] then .no 6 i
    else if fitsB fb (nx (fs r) r.length 0).1 = true then nmG g false (i + (nx (fs r) r.length 0).2) (r.drop (nx (fs r) r.length 0).2)
    else .ok () i r
def nameS (i : Nat) (r : List UInt8) : Sx (List UInt8) := (nmG r.length true i r).then fun _ j t => if j = i then .no 2 i else .ok (r.take (j - i)) j t
/-- What stands ahead of a text, and behind it. -/
def cutS (m : List UInt8) : List UInt8 → Option (List UInt8 × List UInt8)
  | [] => none
  | x :: t => if m.isPrefixOf (x :: t) = true then some ([], (x :: t).drop m.length) else (cutS m t).map fun q => (x :: q.1, q.2)
def upToS (m : List UInt8) (i : Nat) (r : List UInt8) : Sx (List UInt8) :=
  match cutS m r with
  | none => .no 6 (i + r.length)
  | some q => .ok (eols q.1) (i + q.1.length + m.length) q.2
/-- A digit's value; 99: it is none. -/
def digS (c : UInt8) : Nat := if 48 ≤ c ∧ c ≤ 57 then c.toNat - 48 else if 97 ≤ c ∧ c ≤ 102 then c.toNat - 97 + 10 else if 65 ≤ c ∧ c ≤ 70 then c.toNat - 65 + 10 else 99
def digsS (base : Nat) : Nat → List UInt8 → Option Nat
  | v, [] => some v
  | v, c :: t => if digS c < base then digsS base (v * base + digS c) t else none
/-- The number below 2^31 that digits tell, if they tell one. -/
def numS (base : Nat) (s : List UInt8) : Option Nat :=
  if s = [] then none else (digsS base 0 s).bind fun v => if v < 2147483648 then some v else none
def charS (q : Option Nat) : Option Nat := q.bind fun v => if inTab charsT (v : Int) = true then some v else none
/-- What stands between & and ; of a reference: its rune. -/
def toldS (s : List UInt8) : Option Nat :=
  if s = [97, 109, 112] then some 38
  else if s = [108, 116] then some 60
  else if s = [103, 116] then some 62
  else if s = [113, 117, 111, 116] then some 34
  else if s = [97, 112, 111, 115] then some 39
  else if [35, 120].isPrefixOf s = true then charS (numS 16 (s.drop 2))
  else if [35].isPrefixOf s = true then charS (numS 10 (s.drop 1))
  else none
def refS (i : Nat) (r : List UInt8) : Sx Nat :=
  match cutS [59] (r.drop 1) with
  | none => .no 5 i
  | some q => match toldS q.1 with
    | none => .no 5 i
    | some n => .ok n (i + (1 + q.1.length + 1)) q.2
/-- Where a text first stands. -/
def atS (m : List UInt8) (r : List UInt8) : Option Nat := (cutS m r).map fun q => q.1.length
/-- Each tab and each end of a line a blank. -/
def flatS (l : List UInt8) : List UInt8 := (eols l).map fun x => if x = 10 ∨ x = 9 then 32 else x
/-- A run between references, turned; or the place of what may not stand there. -/
def turnS (q : Option UInt8) (i : Nat) (run : List UInt8) : Except Nat (List UInt8) :=
  match q with
  | none => match atS [93, 93, 62] run with
    | some k => .error (i + k)
    | none => .ok (eols run)
  | some _ => .ok (flatS run)
/-- Is a byte one that ends a run? -/
def endS (q : Option UInt8) (x : UInt8) : Bool := x == 60 || x == 38 || (match q with | none => false | some c => x == c)
def runS (q : Option UInt8) (r : List UInt8) : List UInt8 := r.takeWhile fun x => !endS q x
def restS (q : Option UInt8) (r : List UInt8) : List UInt8 := r.dropWhile fun x => !endS q x
/-- References, and between them runs that are turned. -/
def mixG (q : Option UInt8) : Nat → Nat → List UInt8 → Sx (List UInt8)
  | 0, i, _ => .no 6 i
  | g + 1, i, r =>
    match turnS q i (runS q r) with
    | .error p => .no 2 p
    | .ok t =>
      if [38].isPrefixOf (restS q r) = true then
        (refS (i + (runS q r).length) (restS q r)).then fun n j t2 => (mixG q g j t2).then fun u k t3 => .ok (t ++ (encB n ++ u)) k t3
      else .ok t (i + (runS q r).length) (restS q r)
def mixS (q : Option UInt8) (i : Nat) (r : List UInt8) : Sx (List UInt8) := mixG q (r.length + 1) i r
def valueS (i : Nat) (r : List UInt8) : Sx (List UInt8) :=
  (peekS i r).then fun x _ _ =>
    if x ≠ 34 ∧ x ≠ 39 then .no 2 i
    else (mixS (some x) (i + 1) (r.drop 1)).then fun u j t => (mustS x j t).then fun _ k t2 => .ok u k t2
def attrS (seen : List (List UInt8)) (i : Nat) (r : List UInt8) : Sx (List UInt8 × List UInt8) :=
  (nameS i r).then fun nm j t =>
    if nm ∈ seen then .no 4 i
    else (blanksS j t).then fun _ j t => (mustS 61 j t).then fun _ j t => (blanksS j t).then fun _ j t => (valueS j t).then fun v j t => .ok (nm, v) j t
/-- A start tag's attributes and its kind. -/
def tagG : Nat → List (List UInt8 × List UInt8) → Nat → List UInt8 → Sx (Nat × List (List UInt8 × List UInt8))
  | 0, _, i, _ => .no 6 i
  | g + 1, ats, i, r =>
    (blanksS i r).then fun apart j t => (peekS j t).then fun x _ _ =>
      if x = 47 then (mustS 62 (j + 1) (t.drop 1)).then fun _ k t2 => .ok (2, ats) k t2
      else if x = 62 then (mustS 62 j t).then fun _ k t2 => .ok (1, ats) k t2
      else if apart = false then .no 2 j
      else (attrS (ats.map Prod.fst) j t).then fun a k t2 => tagG g (ats ++ [a]) k t2
/-- A token. -/
structure Tk where
  kind : Nat
  at_ : Nat
  name : List UInt8
  text : List UInt8
  attrs : List (List UInt8 × List UInt8)
def startS (i : Nat) (r : List UInt8) : Sx (Nat × List UInt8 × List (List UInt8 × List UInt8)) :=
  (nameS i r).then fun nm j t => (tagG (t.length + 1) [] j t).then fun q k t2 => .ok (q.1, nm, q.2) k t2
def endTagS (i : Nat) (r : List UInt8) : Sx (List UInt8) :=
  (nameS i r).then fun nm j t => (blanksS j t).then fun _ j t => (mustS 62 j t).then fun _ k t2 => .ok nm k t2
/-- A letter, small. -/
def smallS (x : UInt8) : UInt8 := if 65 ≤ x ∧ x ≤ 90 then x + 32 else x
/-- Are texts the same but for great and small letters? (of a text of small letters of ASCII without k and s) -/
def sameS (s m : List UInt8) : Bool := s.map smallS == m
def piS (i : Nat) (r : List UInt8) : Sx (List UInt8 × List UInt8) :=
  (nameS i r).then fun nm j t =>
    if sameS nm [120, 109, 108] = true then .no 2 i
    else (blanksS j t).then fun b j t =>
      if b = true then (upToS [63, 62] j t).then fun u k t2 => .ok (nm, u) k t2
      else (mustS 63 j t).then fun _ j t => (mustS 62 j t).then fun _ k t2 => .ok (nm, []) k t2
def commentS (i : Nat) (r : List UInt8) : Sx (List UInt8) :=
  (upToS [45, 45] i r).then fun u j t => (peekS j t).then fun x _ _ => if x ≠ 62 then .no 2 (j - 2) else .ok u (j + 1) (t.drop 1)
/-- Does a mark stand here? The document may end within it. -/
def opensS (m : List UInt8) (i : Nat) (r : List UInt8) : Sx Bool :=
  if r.length < m.length ∧ r.isPrefixOf m = true then .no 6 (i + r.length)
  else if m.isPrefixOf r = true then .ok true (i + m.length) (r.drop m.length)
  else .ok false i r
def lenS (_i : Nat) (m : Sx Bool) (yes : Nat → List UInt8 → Sx Tk) (no : Sx Tk) : Sx Tk := m.then fun b j t => if b = true then yes j t else no
def tokS (i : Nat) (r : List UInt8) : Sx Tk :=
  if [60].isPrefixOf r = false then (mixS none i r).then fun u j t => .ok ⟨4, i, [], u, []⟩ j t
  else lenS i (opensS [60, 33, 45, 45] i r) (fun j t => (commentS j t).then fun u k t2 => .ok ⟨6, i, [], u, []⟩ k t2) <|
    lenS i (opensS [60, 33, 91, 67, 68, 65, 84, 65, 91] i r) (fun j t => (upToS [93, 93, 62] j t).then fun u k t2 => .ok ⟨5, i, [], u, []⟩ k t2) <|
    lenS i (opensS [60, 33] i r) (fun _ _ => .no 2 i) <|
    lenS i (opensS [60, 63] i r) (fun j t => (piS j t).then fun q k t2 => .ok ⟨7, i, q.1, q.2, []⟩ k t2) <|
    lenS i (opensS [60, 47] i r) (fun j t => (endTagS j t).then fun nm k t2 => .ok ⟨3, i, nm, [], []⟩ k t2) <|
    lenS i (opensS [60] i r) (fun j t => (startS j t).then fun q k t2 => .ok ⟨q.1, i, q.2.1, [], q.2.2⟩ k t2) <|
    .ok ⟨0, i, [], [], []⟩ i r
def toksG : Nat → Nat → List UInt8 → Sx (List Tk)
  | 0, i, r => .ok [] i r
  | g + 1, i, r => if r = [] then .ok [] i r else (tokS i r).then fun tk j t => (toksG g j t).then fun l k t2 => .ok (tk :: l) k t2
/-- Blanks at a text's beginning taken off. -/
def trimLS (l : List UInt8) : List UInt8 := l.drop (lead l)
/-- Blanks, a name, = and a value in quotes taken off a text. -/
def saidS (s nm : List UInt8) : Option (List UInt8 × List UInt8) :=
  let bare := trimLS s
  if bare = s then none
  else if nm.isPrefixOf bare = false then none
  else
    let a1 := trimLS (bare.drop nm.length)
    if [61].isPrefixOf a1 = false then none
    else
      match trimLS (a1.drop 1) with
      | [] => none
      | q :: t => if q ≠ 34 ∧ q ≠ 39 then none else cutS [q] t
def declaresS (s : List UInt8) : Bool :=
  let v := (saidS s [118, 101, 114, 115, 105, 111, 110]).getD ([], s)
  let e := saidS v.2 [101, 110, 99, 111, 100, 105, 110, 103]
  let r1 := (e.getD ([], v.2)).2
  let a := saidS r1 [115, 116, 97, 110, 100, 97, 108, 111, 110, 101]
  let r2 := (a.getD ([], r1)).2
  (match e with | none => true | some q => sameS q.1 [117, 116, 102, 45, 56]) &&
  (match a with | none => true | some q => q.1 == [121, 101, 115] || q.1 == [110, 111]) &&
  v.1 == [49, 46, 48] && trimL r2 == []
def declS (b : List UInt8) : Sx Unit :=
  if [60, 63, 120, 109, 108].isPrefixOf b = true ∧ (match b.drop 5 with | [] => false | x :: _ => blankB (x.toNat : Int)) = true then
    (upToS [63, 62] 5 (b.drop 5)).then fun u j t => if declaresS u = true then .ok () j t else .no 2 0
  else .ok () 0 b
/-- The tokens of a document, or the code and the place. -/
def allS (b : List UInt8) : Sx (List Tk) :=
  if 65536 < b.length then .no 8 65536
  else if 0 ≤ badZ (fs b) b.length then .no 1 (badZ (fs b) b.length).toNat
  else (declS b).then fun _ j t => toksG (t.length + 1) j t

end Go.Proofs.YtemohjodihcdfaaGreatDoor
