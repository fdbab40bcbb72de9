/-
 Characters that references tell in texts and values, and that what is written of a text is read as it. Of no program. No condition.
-/
import Derived.Test.YtocnedpclllbhaaGreatDoorXU
namespace Go.Proofs.YtocnedpclllbhaaGreatDoor

/-- How a character is written: in a value, or in a text. -/
def escC (v : Bool) (x : UInt8) : List UInt8 :=
  if x = 38 then [38, 97, 109, 112, 59] else if x = 60 then [38, 108, 116, 59] else if x = 13 then [38, 35, 49, 51, 59]
  else if x = 62 ∧ v = false then [38, 103, 116, 59] else if x = 34 ∧ v = true then [38, 113, 117, 111, 116, 59]
  else if x = 9 ∧ v = true then [38, 35, 57, 59] else if x = 10 ∧ v = true then [38, 35, 49, 48, 59] else [x]
def escS (v : Bool) (s : List UInt8) : List UInt8 := s.flatMap (escC v)
/-- Is a character told by a reference? -/
def toldB (v : Bool) (x : UInt8) : Bool := x == 38 || x == 60 || x == 13 || (x == 62 && !v) || (v && (x == 34 || x == 9 || x == 10))
theorem escC_plain {v : Bool} {x : UInt8} (h : toldB v x = false) : escC v x = [x] := by
  unfold toldB at h
  unfold escC
  simp only [Bool.or_eq_false_iff, beq_eq_false_iff_ne, Bool.and_eq_false_iff, Bool.not_eq_false'] at h
  obtain ⟨⟨⟨⟨h1, h2⟩, h3⟩, h4⟩, h5⟩ := h
  rw [if_neg h1, if_neg h2, if_neg h3, if_neg (fun e => by rcases h4 with h | h; exact h e.1; rw [e.2] at h; cases h)]
  rcases h5 with h5 | ⟨⟨h5, h6⟩, h7⟩
  · rw [if_neg (fun e => by rw [e.2] at h5; cases h5), if_neg (fun e => by rw [e.2] at h5; cases h5), if_neg (fun e => by rw [e.2] at h5; cases h5)]
  · rw [if_neg (fun e => h5 e.1), if_neg (fun e => h6 e.1), if_neg (fun e => h7 e.1)]
theorem cut_semi {m : List UInt8} (h : 59 ∉ m) (t : List UInt8) : cutS [59] (m ++ 59 :: t) = some (m, t) := by
  induction m with
  | nil => rw [List.nil_append, cutS, if_pos (by simp [List.isPrefixOf])]; rfl
  | cons b m ih =>
    have hb : (59 : UInt8) ≠ b := fun e => h (by rw [e]; exact List.mem_cons_self ..)
    rw [List.cons_append, cutS, if_neg (by simp [List.isPrefixOf]; exact hb), ih (fun e => h (List.mem_cons_of_mem _ e))]
    rfl
theorem ref_said {m : List UInt8} {n : Nat} (h : 59 ∉ m) (hn : toldS m = some n) (i : Nat) (t : List UInt8) : refS i (38 :: (m ++ 59 :: t)) = .ok n (i + (1 + m.length + 1)) t := by
  unfold refS
  rw [List.drop_succ_cons, List.drop_zero, cut_semi h]
  dsimp only
  rw [hn]
theorem told13 : toldS [35, 49, 51] = some 13 := by kernel_rfl
theorem told9 : toldS [35, 57] = some 9 := by kernel_rfl
theorem told10 : toldS [35, 49, 48] = some 10 := by kernel_rfl
/-- What a reference is written as is read as it. -/
theorem ref_esc {v : Bool} {x : UInt8} (h : toldB v x = true) (i : Nat) (t : List UInt8) : ∃ m, escC v x = 38 :: m ∧ refS i (escC v x ++ t) = .ok x.toNat (i + (escC v x).length) t ∧ encB x.toNat = [x] := by
  unfold toldB at h
  simp only [Bool.or_eq_true, beq_iff_eq, Bool.and_eq_true, Bool.not_eq_true'] at h
  rcases h with (((rfl | rfl) | rfl) | ⟨rfl, rfl⟩) | ⟨rfl, (rfl | rfl) | rfl⟩
  · exact ⟨_, rfl, ref_said (m := [97, 109, 112]) (n := 38) (by decide) rfl i t, rfl⟩
  · exact ⟨_, rfl, ref_said (m := [108, 116]) (n := 60) (by decide) rfl i t, rfl⟩
  · exact ⟨_, rfl, ref_said (m := [35, 49, 51]) (n := 13) (by decide) told13 i t, rfl⟩
  · exact ⟨_, rfl, ref_said (m := [103, 116]) (n := 62) (by decide) rfl i t, rfl⟩
  · exact ⟨_, rfl, ref_said (m := [113, 117, 111, 116]) (n := 34) (by decide) rfl i t, rfl⟩
  · exact ⟨_, rfl, ref_said (m := [35, 57]) (n := 9) (by decide) told9 i t, rfl⟩
  · exact ⟨_, rfl, ref_said (m := [35, 49, 48]) (n := 10) (by decide) told10 i t, rfl⟩
theorem esc_app (v : Bool) (a b : List UInt8) : escS v (a ++ b) = escS v a ++ escS v b := List.flatMap_append
theorem esc_plain {v : Bool} : ∀ {a : List UInt8}, (∀ x ∈ a, toldB v x = false) → escS v a = a
  | [], _ => rfl
  | x :: a, h => by
    have h1 := escC_plain (h x (List.mem_cons_self ..))
    have h2 := esc_plain (fun y hy => h y (List.mem_cons_of_mem _ hy))
    show escC v x ++ escS v a = x :: a
    rw [h1, h2]
    rfl
theorem first_told (v : Bool) : ∀ s : List UInt8, (∀ x ∈ s, toldB v x = false) ∨ ∃ a c u, s = a ++ c :: u ∧ (∀ x ∈ a, toldB v x = false) ∧ toldB v c = true
  | [] => .inl (fun x hx => by cases hx)
  | x :: s => by
    cases hx : toldB v x with
    | true => exact .inr ⟨[], x, s, rfl, (fun y hy => by cases hy), hx⟩
    | false =>
      rcases first_told v s with h | ⟨a, c, u, rfl, h1, h2⟩
      · exact .inl (fun y hy => by rcases List.mem_cons.1 hy with rfl | hy; exact hx; exact h y hy)
      · exact .inr ⟨x :: a, c, u, rfl, (fun y hy => by rcases List.mem_cons.1 hy with rfl | hy; exact hx; exact h1 y hy), h2⟩

theorem esc_len (v : Bool) : ∀ s : List UInt8, s.length ≤ (escS v s).length
  | [] => Nat.zero_le _
  | x :: s => by
    have ih := esc_len v s
    have h1 : 1 ≤ (escC v x).length := by
      cases hx : toldB v x with
      | false => rw [escC_plain hx]; exact Nat.le_refl _
      | true =>
        obtain ⟨m, hm, _⟩ := ref_esc hx 0 []
        rw [hm, List.length_cons]
        omega
    show s.length + 1 ≤ (escC v x ++ escS v s).length
    rw [List.length_append]
    omega
end Go.Proofs.YtocnedpclllbhaaGreatDoor
