/-
  The law XtreeDeep: so many elements within one another, and one more. Condition: the laid variables hold what their initialisers lay.
-/
import Derived.Test.YtfonflbpkbibbaaGreatDoorXTr
namespace Go.Proofs.YtfonflbpkbibbaaGreatDoor
open Go.RowKit Go.Lib Go.Joins

def opnS : Nat → List UInt8
  | 0 => []
  | k + 1 => opnS k ++ [60, 97, 62]
def clsS : Nat → List UInt8
  | 0 => []
  | k + 1 => clsS k ++ [60, 47, 97, 62]
def docD (k : Nat) (e : Bool) : List UInt8 := (if e = true then opnS k ++ [60, 97, 47, 62] else opnS k) ++ clsS k
def okD (k : Nat) (e : Bool) : Bool :=
  match parseS (docD k e), (if e = true then k + 1 else k) with
  | .error (c, p), K => (K == 0 && c == 6 && p == 0) || (decide (32 < K) && c == 7 && p == 96)
  | .ok q, K => decide (0 < K) && decide (K ≤ 32) && q.2.1.depth == K && q.2.1.count == K
theorem okD_0 : (okD 0 true && okD 0 false) = true := by kernel_rfl
theorem okD_1 : (okD 1 true && okD 1 false) = true := by kernel_rfl
theorem okD_2 : (okD 2 true && okD 2 false) = true := by kernel_rfl
theorem okD_3 : (okD 3 true && okD 3 false) = true := by kernel_rfl
theorem okD_4 : (okD 4 true && okD 4 false) = true := by kernel_rfl
theorem okD_5 : (okD 5 true && okD 5 false) = true := by kernel_rfl
theorem okD_6 : (okD 6 true && okD 6 false) = true := by kernel_rfl
theorem okD_7 : (okD 7 true && okD 7 false) = true := by kernel_rfl
theorem okD_8 : (okD 8 true && okD 8 false) = true := by kernel_rfl
theorem okD_9 : (okD 9 true && okD 9 false) = true := by kernel_rfl
theorem okD_10 : (okD 10 true && okD 10 false) = true := by kernel_rfl
theorem okD_11 : (okD 11 true && okD 11 false) = true := by kernel_rfl
theorem okD_12 : (okD 12 true && okD 12 false) = true := by kernel_rfl
theorem okD_13 : (okD 13 true && okD 13 false) = true := by kernel_rfl
theorem okD_14 : (okD 14 true && okD 14 false) = true := by kernel_rfl
theorem okD_15 : (okD 15 true && okD 15 false) = true := by kernel_rfl
theorem okD_16 : (okD 16 true && okD 16 false) = true := by kernel_rfl
theorem okD_17 : (okD 17 true && okD 17 false) = true := by kernel_rfl
theorem okD_18 : (okD 18 true && okD 18 false) = true := by kernel_rfl
theorem okD_19 : (okD 19 true && okD 19 false) = true := by kernel_rfl
theorem okD_20 : (okD 20 true && okD 20 false) = true := by kernel_rfl
theorem okD_21 : (okD 21 true && okD 21 false) = true := by kernel_rfl
theorem okD_22 : (okD 22 true && okD 22 false) = true := by kernel_rfl
theorem okD_23 : (okD 23 true && okD 23 false) = true := by kernel_rfl
theorem okD_24 : (okD 24 true && okD 24 false) = true := by kernel_rfl
theorem okD_25 : (okD 25 true && okD 25 false) = true := by kernel_rfl
theorem okD_26 : (okD 26 true && okD 26 false) = true := by kernel_rfl
theorem okD_27 : (okD 27 true && okD 27 false) = true := by kernel_rfl
theorem okD_28 : (okD 28 true && okD 28 false) = true := by kernel_rfl
theorem okD_29 : (okD 29 true && okD 29 false) = true := by kernel_rfl
theorem okD_30 : (okD 30 true && okD 30 false) = true := by kernel_rfl
theorem okD_31 : (okD 31 true && okD 31 false) = true := by kernel_rfl
theorem okD_32 : (okD 32 true && okD 32 false) = true := by kernel_rfl
theorem okD_33 : (okD 33 true && okD 33 false) = true := by kernel_rfl
theorem okD_34 : (okD 34 true && okD 34 false) = true := by kernel_rfl
theorem okD_35 : (okD 35 true && okD 35 false) = true := by kernel_rfl
theorem okD_36 : (okD 36 true && okD 36 false) = true := by kernel_rfl
theorem okD_37 : (okD 37 true && okD 37 false) = true := by kernel_rfl
theorem okD_38 : (okD 38 true && okD 38 false) = true := by kernel_rfl
theorem okD_39 : (okD 39 true && okD 39 false) = true := by kernel_rfl
theorem okD_40 : (okD 40 true && okD 40 false) = true := by kernel_rfl
theorem okD_41 : (okD 41 true && okD 41 false) = true := by kernel_rfl
theorem okD_42 : (okD 42 true && okD 42 false) = true := by kernel_rfl
theorem okD_43 : (okD 43 true && okD 43 false) = true := by kernel_rfl
theorem okD_44 : (okD 44 true && okD 44 false) = true := by kernel_rfl
theorem okD_45 : (okD 45 true && okD 45 false) = true := by kernel_rfl
theorem okD_46 : (okD 46 true && okD 46 false) = true := by kernel_rfl
theorem okD_47 : (okD 47 true && okD 47 false) = true := by kernel_rfl
theorem okD_48 : (okD 48 true && okD 48 false) = true := by kernel_rfl
theorem okD_49 : (okD 49 true && okD 49 false) = true := by kernel_rfl
theorem okD_both : ∀ k, k < 50 → (okD k true && okD k false) = true
  | 0, _ => okD_0
  | 1, _ => okD_1
  | 2, _ => okD_2
  | 3, _ => okD_3
  | 4, _ => okD_4
  | 5, _ => okD_5
  | 6, _ => okD_6
  | 7, _ => okD_7
  | 8, _ => okD_8
  | 9, _ => okD_9
  | 10, _ => okD_10
  | 11, _ => okD_11
  | 12, _ => okD_12
  | 13, _ => okD_13
  | 14, _ => okD_14
  | 15, _ => okD_15
  | 16, _ => okD_16
  | 17, _ => okD_17
  | 18, _ => okD_18
  | 19, _ => okD_19
  | 20, _ => okD_20
  | 21, _ => okD_21
  | 22, _ => okD_22
  | 23, _ => okD_23
  | 24, _ => okD_24
  | 25, _ => okD_25
  | 26, _ => okD_26
  | 27, _ => okD_27
  | 28, _ => okD_28
  | 29, _ => okD_29
  | 30, _ => okD_30
  | 31, _ => okD_31
  | 32, _ => okD_32
  | 33, _ => okD_33
  | 34, _ => okD_34
  | 35, _ => okD_35
  | 36, _ => okD_36
  | 37, _ => okD_37
  | 38, _ => okD_38
  | 39, _ => okD_39
  | 40, _ => okD_40
  | 41, _ => okD_41
  | 42, _ => okD_42
  | 43, _ => okD_43
  | 44, _ => okD_44
  | 45, _ => okD_45
  | 46, _ => okD_46
  | 47, _ => okD_47
  | 48, _ => okD_48
  | 49, _ => okD_49
  | k + 50, h => by omega
theorem okD_at {k : Nat} (h : k < 50) (e : Bool) : okD k e = true := by
  have h1 := okD_both k h
  rw [Bool.and_eq_true] at h1
  cases e
  · exact h1.2
  · exact h1.1
theorem opnS_len : ∀ k, (opnS k).length = 3 * k
  | 0 => rfl
  | k + 1 => by rw [opnS, List.length_append, opnS_len k]; rfl
theorem clsS_len : ∀ k, (clsS k).length = 4 * k
  | 0 => rfl
  | k + 1 => by rw [clsS, List.length_append, clsS_len k]; rfl
theorem docD_len (k : Nat) (e : Bool) : (docD k e).length ≤ 7 * k + 4 := by
  unfold docD
  rw [List.length_append, clsS_len]
  cases e
  · rw [if_neg (by decide), opnS_len]; omega
  · rw [if_pos rfl, List.length_append, opnS_len]
    show 3 * k + 4 + 4 * k ≤ _
    omega

end Go.Proofs.YtfonflbpkbibbaaGreatDoor
