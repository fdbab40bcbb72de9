/-
  A run between references, turned: in a value, and in characters. Conditions: the laid variables hold what their initialisers lay; a run of no more than 2^30 bytes; in characters the closure's variable leads to the scan.
-/
import Derived.Test.YtjappbfldjflnaaGreatDoorXR
namespace Go.Proofs.YtjappbfldjflnaaGreatDoor
open Go.RowKit Go.Lib Go.Joins

theorem one_gone (c d : UInt8) : ∀ (n : Nat) (l : List UInt8) (g : Nat), l.length ≤ n → l.length < g → replaceK [c] [d] (countFrom [c] g l) l = l.map (fun b => if b = c then d else b)
  | _, [], g, _, _ => by rw [replaceK_nil _ _ rfl]; rfl
  | 0, b :: t, _, h, _ => by simp at h
  | n + 1, b :: t, g, hn, hg => by
    obtain ⟨g', rfl⟩ : ∃ g', g = g' + 1 := ⟨g - 1, by omega⟩
    simp only [List.length_cons] at hn hg
    cases hp : ([c] : List UInt8).isPrefixOf (b :: t) with
    | false =>
      have hb : ¬ b = c := fun h => by subst h; simp [List.isPrefixOf] at hp
      rw [count_skip hp, replaceK_skip hp, one_gone c d n t (g' + 1) (by omega) (by omega), List.map_cons, if_neg hb]
    | true =>
      have hb : c = b := by simpa [List.isPrefixOf] using hp
      subst hb
      rw [count_here hp, Nat.add_comm 1, replaceK_here hp]
      simp only [List.length_cons, List.length_nil, Nat.reduceAdd, List.drop_succ_cons, List.drop_zero]
      rw [one_gone c d n t g' (by omega) (by omega)]
      simp
theorem all_one (c d : UInt8) (hcd : ([c] == [d]) = false) (l : List UInt8) : replaceAll l [c] [d] = l.map (fun b => if b = c then d else b) := by
  unfold replaceAll replace replaceNum
  rw [if_neg (by rw [hcd]; exact Bool.false_ne_true), if_pos (Or.inl (by decide))]
  exact one_gone c d l.length l (l.length + 1) (Nat.le_refl _) (by omega)
theorem eols_le : ∀ l : List UInt8, (eols l).length ≤ l.length
  | [] => Nat.le_refl _
  | b :: t => by
    have ih := eols_le t
    unfold eols
    split
    · split
      · rw [List.length_cons]; omega
      · rw [List.length_cons, List.length_cons]; omega
    · rw [List.length_cons, List.length_cons]; omega
theorem flatS_eq (l : List UInt8) : ((eols l).map (fun b => if b = 10 then 32 else b)).map (fun b => if b = 9 then 32 else b) = flatS l := by
  unfold flatS
  rw [List.map_map]
  apply List.map_congr_left
  intro x _
  show (if (if x = 10 then (32 : UInt8) else x) = 9 then 32 else (if x = 10 then 32 else x)) = _
  by_cases h1 : x = 10
  · subst h1; decide
  · rw [if_neg h1]
    by_cases h2 : x = 9
    · rw [if_pos h2, if_pos (.inr h2)]
    · rw [if_neg h2, if_neg (fun h => by rcases h with h | h; exact h1 h; exact h2 h)]

set_option maxRecDepth 100000 in
set_option maxHeartbeats 1000000 in
theorem turnV_calls (run : List UInt8) (w : World) (hr : run.length ≤ 1073741824) (hE : EnvAt w) : Calls Tryz.prog 135 #[.string (strB run)] w (Leaves (.string (strB (flatS run))) w) := by
  obtain ⟨m, hm⟩ := hE.mx
  have h1 := eols_le run
  have HL := Lib.hid (lines_calls (strB run) w (by rw [strB_size]; exact hr) hE.mx)
  rw [strB_list] at HL
  obtain ⟨u1, hu1⟩ : ∃ u, eols run = u := ⟨_, rfl⟩
  obtain ⟨u2, hu2⟩ : ∃ u, u1.map (fun b => if b = 10 then (32 : UInt8) else b) = u := ⟨_, rfl⟩
  have hl2 : u2.length = u1.length := by rw [← hu2, List.length_map]
  rw [hu1] at HL h1
  have HR1 : Hid (∀ W, Below w.heap.size w W → Calls Tryz.prog 95 #[.string (strB u1), .string ⟨#[10]⟩, .string ⟨#[32]⟩] W (Leaves (.string (strB u2)) W)) := Lib.hid (fun W hb => by
    have := Tryz.strings_ReplaceAll (strB u1) ⟨#[10]⟩ ⟨#[32]⟩ m W (by rw [strB_size]; omega) (cell_below hb hm) (by decide) (by
      have c2 := countB_le ⟨#[10]⟩ (by decide) (strB u1).size (strB u1) (Nat.le_refl _)
      show (strB u1).size + countB (strB u1) ⟨#[10]⟩ * 1 ≤ _
      rw [strB_size] at c2 ⊢
      omega)
    rw [strB_list, show (⟨#[10]⟩ : ByteArray).data.toList = [10] from rfl, show (⟨#[32]⟩ : ByteArray).data.toList = [32] from rfl, all_one 10 32 (by decide), hu2] at this
    exact this)
  have HR2 : Hid (∀ W, Below w.heap.size w W → Calls Tryz.prog 95 #[.string (strB u2), .string ⟨#[9]⟩, .string ⟨#[32]⟩] W (Leaves (.string (strB (flatS run))) W)) := Lib.hid (fun W hb => by
    have := Tryz.strings_ReplaceAll (strB u2) ⟨#[9]⟩ ⟨#[32]⟩ m W (by rw [strB_size]; omega) (cell_below hb hm) (by decide) (by
      have c2 := countB_le ⟨#[9]⟩ (by decide) (strB u2).size (strB u2) (Nat.le_refl _)
      show (strB u2).size + countB (strB u2) ⟨#[9]⟩ * 1 ≤ _
      rw [strB_size] at c2 ⊢
      omega)
    rw [strB_list, show (⟨#[9]⟩ : ByteArray).data.toList = [9] from rfl, show (⟨#[32]⟩ : ByteArray).data.toList = [32] from rfl, all_one 9 32 (by decide), ← hu2, ← hu1, flatS_eq] at this
    rw [← hu2, ← hu1]
    exact this)
  have h0 : (⟨u1.toArray⟩ : ByteArray) = strB u1 := rfl
  rw [h0] at HL
  obtain ⟨s1, hs1⟩ : ∃ s, strB u1 = s := ⟨_, rfl⟩
  obtain ⟨s2, hs2⟩ : ∃ s, strB u2 = s := ⟨_, rfl⟩
  obtain ⟨s3, hs3⟩ : ∃ s, strB (flatS run) = s := ⟨_, rfl⟩
  obtain ⟨s0, hs0⟩ : ∃ s, strB run = s := ⟨_, rfl⟩
  rw [hs1] at HL HR1
  rw [hs2] at HR1 HR2
  rw [hs3] at HR2 ⊢
  rw [hs0] at HL ⊢
  clear hs1 hs2 hs3 hs0 h0 hl2 hu1 hu2 h1 hm hE
  go_enter Tryz.func135, Tryz.ntmps135
  go_wp2_with fail
  with_reducible refine HL.out.mono ?_
  rintro e w1 ⟨rfl, hb⟩
  have HB1 := Lib.hid hb
  have H1 := Lib.hid (HR1.out w1 hb)
  clear hb
  go_wp2_with fail
  with_reducible refine H1.out.mono ?_
  rintro e w2 ⟨rfl, hb⟩
  have HB2 := Lib.hid (below_then HB1.out hb)
  have H2 := Lib.hid (HR2.out w2 HB2.out)
  clear hb
  go_wp2_with fail
  with_reducible refine H2.out.mono ?_
  rintro e w3 ⟨rfl, hb⟩
  have HB3 := Lib.hid (below_then HB2.out hb)
  clear hb
  go_wp2_with fail
  go_ret
  exact ⟨rfl, HB3.out⟩

/-- What a run's turning leaves. -/
def TurnOut (r : Except Nat (List UInt8)) (w : World) (e : Ending) (w' : World) : Prop :=
  (match r with
    | .ok t => e = .returned (.string (strB t))
    | .error p => e = .panicked [{ v := wrongV 2 p, recovered := false }]) ∧ Below w.heap.size w w'
def turnR (i : Nat) (run : List UInt8) : Option Nat → Except Nat (List UInt8)
  | some k => .error (i + k)
  | none => .ok (eols run)
theorem turnS_none (i : Nat) (run : List UInt8) : turnS none i run = turnR i run (atS [93, 93, 62] run) := by
  unfold turnS
  dsimp only
  cases atS [93, 93, 62] run <;> rfl

set_option maxRecDepth 100000 in
set_option maxHeartbeats 1000000 in
theorem turnC_calls (run : List UInt8) (w : World) (cb B i : Nat) (hr : run.length ≤ 65536) (hi : i ≤ 65536) (hE : EnvAt w) (hc : w.cell? ⟨cb, 0, none⟩ = some (.pointer (some ⟨B, 0, none⟩))) (hp : w.cell? ⟨B, 1, none⟩ = some (.int .i64 (i : Int))) : Calls Tryz.prog 70 #[.string (strB run), .pointer (some ⟨cb, 0, none⟩)] w (TurnOut (turnS none i run) w) := by
  obtain ⟨m, hm⟩ := hE.mx
  have hin := index_cutS [93, 93, 62] (by decide) run
  have HI := Lib.hid (Tryz.strings_Index (strB run) ⟨#[93, 93, 62]⟩ m w (by rw [strB_size]; omega) hm)
  rw [strB_list, show (⟨#[93, 93, 62]⟩ : ByteArray).data.toList = [93, 93, 62] from rfl, hin] at HI
  have HL := Lib.hid (lines_calls (strB run) w (by rw [strB_size]; omega) hE.mx)
  rw [strB_list] at HL
  rw [turnS_none]
  obtain ⟨q, hq⟩ : ∃ q, cutS [93, 93, 62] run = q := ⟨_, rfl⟩
  have ha : atS [93, 93, 62] run = q.map fun q => q.1.length := by unfold atS; rw [hq]
  rw [ha]
  rw [hq] at HI
  cases q with
  | none =>
    have HF : Hid (∀ w', Below w.heap.size w w' → TurnOut (turnR i run none) w (.returned (.string ⟨(eols run).toArray⟩)) w') := Lib.hid (fun w' hb => ⟨rfl, hb⟩)
    rw [show Option.map (fun q : List UInt8 × List UInt8 => q.1.length) none = none from rfl]
    dsimp only at HI
    clear hin hq ha hE hm
    go_enter Tryz.func70, Tryz.ntmps70
    go_wp2_with fail
    with_reducible refine HI.out.mono ?_
    rintro e w1 ⟨rfl, rfl⟩
    go_wp2_with fail
    with_reducible refine HL.out.mono ?_
    rintro e w1 ⟨rfl, hb⟩
    have HF1 := Lib.hid (HF.out w1 hb)
    clear hb
    go_wp2_with fail
    go_ret
    exact HF1.out
  | some q =>
    obtain ⟨q1, q2⟩ := q
    have hsp := cutS_split [93, 93, 62] hq
    have hl : q1.length ≤ 65536 := by
      have := congrArg List.length hsp
      rw [List.length_append] at this
      dsimp only at this
      omega
    dsimp only at HI
    obtain ⟨k, hk⟩ : ∃ k, q1.length = k := ⟨_, rfl⟩
    rw [hk] at HI hl
    have hge : decide ((k : Int) ≥ 0) = true := by simp
    have hadd : IntKind.i64.wrap ((i : Int) + (k : Int)) = ((i + k : Nat) : Int) := IntWalk.i64_in _ (by omega)
    have HF : Hid (TurnOut (turnR i run (some k)) w (.panicked [{ v := wrongV 2 (i + k), recovered := false }]) w) := Lib.hid ⟨rfl, Below.refl _ _⟩
    rw [show Option.map (fun q : List UInt8 × List UInt8 => q.1.length) (some (q1, q2)) = some q1.length from rfl, hk]
    clear hin hq ha hE hm hsp hk
    go_enter Tryz.func70, Tryz.ntmps70
    go_wp2_with fail
    with_reducible refine HI.out.mono ?_
    rintro e w1 ⟨rfl, rfl⟩
    go_wp2_with fail
    exact ⟨rfl, HF.out⟩

end Go.Proofs.YtjappbfldjflnaaGreatDoor
