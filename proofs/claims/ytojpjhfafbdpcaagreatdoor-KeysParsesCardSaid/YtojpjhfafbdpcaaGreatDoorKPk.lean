/-
  A list of keys, told from the text between braces and from that text without blanks around: the same. No condition.
-/
import Derived.Test.YtojpjhfafbdpcaaGreatDoorKQ
namespace Go.Proofs.YtojpjhfafbdpcaaGreatDoor

theorem pieces_lead : ∀ l : List UInt8, (pieces 44 (l.dropWhile isBl)).map trimL = (pieces 44 l).map trimL
  | [] => rfl
  | b :: t => by
    cases hb : isBl b with
    | false => rw [List.dropWhile_cons, hb]; rfl
    | true =>
      have h44 : b ≠ 44 := fun e => by rw [e] at hb; revert hb; decide
      rw [List.dropWhile_cons, hb, if_pos rfl, pieces_lead t, pieces_on h44, pieces_form 44 t, List.map_cons, List.map_cons, List.headD_cons, List.tail_cons]
      congr 1
      rw [trim_def, trim_def, List.dropWhile_cons, hb, if_pos rfl]
theorem pieces_end {b : UInt8} (hb : b ≠ 44) : ∀ s : List UInt8, ∃ a z, pieces 44 s = a ++ [z] ∧ pieces 44 (s ++ [b]) = a ++ [z ++ [b]]
  | [] => ⟨[], [], rfl, by rw [List.nil_append, pieces_on hb]; rfl⟩
  | x :: t => by
    obtain ⟨a, z, h1, h2⟩ := pieces_end hb t
    by_cases hx : x = 44
    · subst hx
      exact ⟨[] :: a, z, by rw [pieces_at, h1]; rfl, by rw [List.cons_append, pieces_at, h2]; rfl⟩
    · cases a with
      | nil => exact ⟨[], x :: z, by rw [pieces_on hx, h1]; rfl, by rw [List.cons_append, pieces_on hx, h2]; rfl⟩
      | cons h a => exact ⟨(x :: h) :: a, z, by rw [pieces_on hx, h1]; rfl, by rw [List.cons_append, pieces_on hx, h2]; rfl⟩
theorem trim_end {b : UInt8} (hb : isBl b = true) (z : List UInt8) : trimL (z ++ [b]) = trimL z := by
  rw [trim_def, trim_def, List.dropWhile_append]
  split
  · rename_i h
    have h0 : z.dropWhile isBl = [] := by simpa using h
    rw [h0, List.dropWhile_cons, hb]
    rfl
  · exact rtrim_blanks (fun x hx => by rw [List.mem_singleton.1 hx]; exact hb) _
theorem pieces_tail : ∀ (n : Nat) (d : List UInt8), d.length ≤ n → (pieces 44 (rtrim d)).map trimL = (pieces 44 d).map trimL
  | 0, d, h => by
    have h0 : d = [] := List.length_eq_zero_iff.1 (by omega)
    rw [h0]
    rfl
  | n + 1, d, h => by
    rcases List.eq_nil_or_concat d with h0 | ⟨s, b, h0⟩
    · rw [h0]
      rfl
    · rw [List.concat_eq_append] at h0
      subst h0
      rw [List.length_append, List.length_singleton] at h
      cases hb : isBl b with
      | true =>
        have h44 : b ≠ 44 := fun e => by rw [e] at hb; revert hb; decide
        rw [rtrim_blanks (fun x hx => by rw [List.mem_singleton.1 hx]; exact hb), pieces_tail n s (by omega)]
        obtain ⟨a, z, h1, h2⟩ := pieces_end h44 s
        rw [h1, h2, List.map_append, List.map_append, List.map_singleton, List.map_singleton, trim_end hb]
      | false =>
        rw [rtrim_self (fun x hx => by
          rw [List.getLast?_append, List.getLast?_singleton] at hx
          have : b = x := by simpa using hx
          rw [← this]
          exact hb)]
theorem keys_trim (m : List UInt8) : (pieces 44 (trimL m)).map trimL = (pieces 44 m).map trimL := by
  rw [trim_def, pieces_tail _ _ (Nat.le_refl _), pieces_lead]
theorem keysT_ref (m : List UInt8) : keysT m = if trimL m = [] then [] else (pieces 44 (trimL m)).map trimL := by
  unfold keysT
  rw [keys_trim]

end Go.Proofs.YtojpjhfafbdpcaaGreatDoor
