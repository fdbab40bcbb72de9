/-
  The sign with which a text begins, told by the program. Conditions: the two arrays of signs hold what their initialisers lay.
-/
import Derived.Test.YtkpgbcackphdbaaDoorQE
import Derived.Test.YtkpgbcackphdbaaDoorTabs
namespace Go.Proofs.YtkpgbcackphdbaaDoor
open Go.RowKit Go.Lib Go.Joins

def strsV (l : List (List UInt8)) : List Value := l.map fun t => .string (strB t)
/-- The cells of a block hold texts. -/
def SignsAt (g : Nat) (l : List (List UInt8)) (w : World) : Prop := w.rangeAt g 0 (strsV l)
theorem SignsAt.below {g l} {w w' : World} (h : SignsAt g l w) (hb : Below w.heap.size w w') : SignsAt g l w' :=
  fun j v hj => cell_below hb (h j v hj)
theorem under9s : Tryd.prog.underlying 71 = some (.array 9 9) := by kernel_rfl
theorem under11s : Tryd.prog.underlying 72 = some (.array 11 9) := by kernel_rfl
theorem index_marks (i : Nat) (p : List UInt8) (hp : marksQ[i]? = some p) (w : World) : (Instr.index 71 (.agg (strsV marksQ).toArray) (.int .i64 (i : Int))).run Tryd.prog w = .ok (.string (strB p)) w := by
  have x0 : ∀ w : World, (Instr.index 71 (.agg (strsV marksQ).toArray) (.int .i64 0)).run Tryd.prog w = .ok (.string (strB [58, 58])) w := fun _ => by kernel_rfl
  have x1 : ∀ w : World, (Instr.index 71 (.agg (strsV marksQ).toArray) (.int .i64 1)).run Tryd.prog w = .ok (.string (strB [46, 46])) w := fun _ => by kernel_rfl
  have x2 : ∀ w : World, (Instr.index 71 (.agg (strsV marksQ).toArray) (.int .i64 2)).run Tryd.prog w = .ok (.string (strB [40])) w := fun _ => by kernel_rfl
  have x3 : ∀ w : World, (Instr.index 71 (.agg (strsV marksQ).toArray) (.int .i64 3)).run Tryd.prog w = .ok (.string (strB [41])) w := fun _ => by kernel_rfl
  have x4 : ∀ w : World, (Instr.index 71 (.agg (strsV marksQ).toArray) (.int .i64 4)).run Tryd.prog w = .ok (.string (strB [91])) w := fun _ => by kernel_rfl
  have x5 : ∀ w : World, (Instr.index 71 (.agg (strsV marksQ).toArray) (.int .i64 5)).run Tryd.prog w = .ok (.string (strB [93])) w := fun _ => by kernel_rfl
  have x6 : ∀ w : World, (Instr.index 71 (.agg (strsV marksQ).toArray) (.int .i64 6)).run Tryd.prog w = .ok (.string (strB [64])) w := fun _ => by kernel_rfl
  have x7 : ∀ w : World, (Instr.index 71 (.agg (strsV marksQ).toArray) (.int .i64 7)).run Tryd.prog w = .ok (.string (strB [44])) w := fun _ => by kernel_rfl
  have x8 : ∀ w : World, (Instr.index 71 (.agg (strsV marksQ).toArray) (.int .i64 8)).run Tryd.prog w = .ok (.string (strB [46])) w := fun _ => by kernel_rfl
  have hi : i < 9 := by
    rcases Nat.lt_or_ge i 9 with h | h
    · exact h
    · rw [List.getElem?_eq_none (show marksQ.length ≤ i from h)] at hp
      cases hp
  rcases (show i = 0 ∨ i = 1 ∨ i = 2 ∨ i = 3 ∨ i = 4 ∨ i = 5 ∨ i = 6 ∨ i = 7 ∨ i = 8 from by omega) with rfl | rfl | rfl | rfl | rfl | rfl | rfl | rfl | rfl
  · cases hp; exact x0 w
  · cases hp; exact x1 w
  · cases hp; exact x2 w
  · cases hp; exact x3 w
  · cases hp; exact x4 w
  · cases hp; exact x5 w
  · cases hp; exact x6 w
  · cases hp; exact x7 w
  · cases hp; exact x8 w
theorem index_ops (i : Nat) (p : List UInt8) (hp : opsQ[i]? = some p) (w : World) : (Instr.index 72 (.agg (strsV opsQ).toArray) (.int .i64 (i : Int))).run Tryd.prog w = .ok (.string (strB p)) w := by
  have x0 : ∀ w : World, (Instr.index 72 (.agg (strsV opsQ).toArray) (.int .i64 0)).run Tryd.prog w = .ok (.string (strB [47, 47])) w := fun _ => by kernel_rfl
  have x1 : ∀ w : World, (Instr.index 72 (.agg (strsV opsQ).toArray) (.int .i64 1)).run Tryd.prog w = .ok (.string (strB [33, 61])) w := fun _ => by kernel_rfl
  have x2 : ∀ w : World, (Instr.index 72 (.agg (strsV opsQ).toArray) (.int .i64 2)).run Tryd.prog w = .ok (.string (strB [60, 61])) w := fun _ => by kernel_rfl
  have x3 : ∀ w : World, (Instr.index 72 (.agg (strsV opsQ).toArray) (.int .i64 3)).run Tryd.prog w = .ok (.string (strB [62, 61])) w := fun _ => by kernel_rfl
  have x4 : ∀ w : World, (Instr.index 72 (.agg (strsV opsQ).toArray) (.int .i64 4)).run Tryd.prog w = .ok (.string (strB [47])) w := fun _ => by kernel_rfl
  have x5 : ∀ w : World, (Instr.index 72 (.agg (strsV opsQ).toArray) (.int .i64 5)).run Tryd.prog w = .ok (.string (strB [124])) w := fun _ => by kernel_rfl
  have x6 : ∀ w : World, (Instr.index 72 (.agg (strsV opsQ).toArray) (.int .i64 6)).run Tryd.prog w = .ok (.string (strB [43])) w := fun _ => by kernel_rfl
  have x7 : ∀ w : World, (Instr.index 72 (.agg (strsV opsQ).toArray) (.int .i64 7)).run Tryd.prog w = .ok (.string (strB [45])) w := fun _ => by kernel_rfl
  have x8 : ∀ w : World, (Instr.index 72 (.agg (strsV opsQ).toArray) (.int .i64 8)).run Tryd.prog w = .ok (.string (strB [61])) w := fun _ => by kernel_rfl
  have x9 : ∀ w : World, (Instr.index 72 (.agg (strsV opsQ).toArray) (.int .i64 9)).run Tryd.prog w = .ok (.string (strB [60])) w := fun _ => by kernel_rfl
  have x10 : ∀ w : World, (Instr.index 72 (.agg (strsV opsQ).toArray) (.int .i64 10)).run Tryd.prog w = .ok (.string (strB [62])) w := fun _ => by kernel_rfl
  have hi : i < 11 := by
    rcases Nat.lt_or_ge i 11 with h | h
    · exact h
    · rw [List.getElem?_eq_none (show opsQ.length ≤ i from h)] at hp
      cases hp
  rcases (show i = 0 ∨ i = 1 ∨ i = 2 ∨ i = 3 ∨ i = 4 ∨ i = 5 ∨ i = 6 ∨ i = 7 ∨ i = 8 ∨ i = 9 ∨ i = 10 from by omega) with rfl | rfl | rfl | rfl | rfl | rfl | rfl | rfl | rfl | rfl | rfl
  · cases hp; exact x0 w
  · cases hp; exact x1 w
  · cases hp; exact x2 w
  · cases hp; exact x3 w
  · cases hp; exact x4 w
  · cases hp; exact x5 w
  · cases hp; exact x6 w
  · cases hp; exact x7 w
  · cases hp; exact x8 w
  · cases hp; exact x9 w
  · cases hp; exact x10 w
theorem find_step {p : List UInt8 → Bool} {l : List (List UInt8)} {i : Nat} {x : List UInt8} (h : l[i]? = some x) : (l.drop i).find? p = if p x = true then some x else (l.drop (i + 1)).find? p := by
  obtain ⟨hi, rfl⟩ := List.getElem?_eq_some_iff.1 h
  rw [List.drop_eq_getElem_cons hi, List.find?_cons]
  cases p l[i] <;> rfl
/-- What a sign's two arrays tell. -/
def twoQ (a b : Option (List UInt8)) : Rd :=
  match a with
  | some s => tokQ 6 s
  | none => match b with
    | some s => tokQ 5 s
    | none => .error 60
theorem sign_two (l : List UInt8) : signQ l = twoQ (marksQ.find? (fun s => hasPre s l)) (opsQ.find? (fun s => hasPre s l)) := rfl
theorem marks_short : ∀ x ∈ marksQ, x.length ≤ 1073741824 := by
  intro x hx
  unfold marksQ at hx
  simp only [List.mem_cons, List.not_mem_nil, or_false] at hx
  rcases hx with rfl | rfl | rfl | rfl | rfl | rfl | rfl | rfl | rfl
  all_goals decide
theorem ops_short : ∀ x ∈ opsQ, x.length ≤ 1073741824 := by
  intro x hx
  unfold opsQ at hx
  simp only [List.mem_cons, List.not_mem_nil, or_false] at hx
  rcases hx with rfl | rfl | rfl | rfl | rfl | rfl | rfl | rfl | rfl | rfl | rfl
  all_goals decide

set_option maxRecDepth 100000 in
set_option maxHeartbeats 8000000 in
theorem sign_calls (l : List UInt8) (w : World) (hM : SignsAt 0 marksQ w) (hO : SignsAt 1 opsQ w) : Calls Tryd.prog 31 #[.string (strB l)] w (Leaves (rdV (signQ l)) w) := by
  rw [sign_two]
  have HPR := Lib.hid (fun (m : List UInt8) (W : World) => has_pre (strB l) l m rfl (strB m) rfl W)
  obtain ⟨p, hpe⟩ : ∃ p : List UInt8 → Bool, (fun s => hasPre s l) = p := ⟨_, rfl⟩
  have hpe2 : ∀ m, hasPre m l = p m := fun m => congrFun hpe m
  have HPR2 : Hid (∀ (m : List UInt8) (W : World), Calls Tryd.prog 42 #[.string (strB l), .string (strB m)] W (fun e w' => e = .returned (.bool (p m)) ∧ W = w')) := Lib.hid (fun m W => by rw [← hpe2]; exact HPR.out m W)
  rw [hpe]
  obtain ⟨fa, hfa⟩ : ∃ x, marksQ.find? p = x := ⟨_, rfl⟩
  obtain ⟨fb, hfb⟩ : ∃ x, opsQ.find? p = x := ⟨_, rfl⟩
  obtain ⟨res, hres⟩ : ∃ x, twoQ fa fb = x := ⟨_, rfl⟩
  rw [hfa, hfb, hres]
  obtain ⟨s, hs⟩ : ∃ s, strB l = s := ⟨_, rfl⟩
  rw [hs] at HPR2 ⊢
  have HFA := Lib.hid hfa
  have HFB := Lib.hid hfb
  have HRES := Lib.hid hres
  clear hfa hfb hres hs hpe hpe2 HPR
  obtain ⟨W1, hW1⟩ : ∃ W1, w.alloc (.cells #[.int .i64 0, .int .i64 0, .string ⟨#[]⟩] 31) = W1 := ⟨_, rfl⟩
  have hk1 : ResAt w.heap.size W1 := by rw [← hW1]; exact heap_alloc_new _ _
  have hb1 : Below w.heap.size w W1 := by rw [← hW1]; exact (Below.refl _ _).alloc (Nat.le_refl _) _
  have HK := Lib.hid hk1
  have HB := Lib.hid hb1
  have HW1 := Lib.hid hW1
  clear hk1 hb1 hW1
  have ix := index_marks
  have iy := index_ops
  obtain ⟨fl, hfl⟩ : ∃ fl, strsV marksQ = fl := ⟨_, rfl⟩
  obtain ⟨fm, hfm⟩ : ∃ fl, strsV opsQ = fl := ⟨_, rfl⟩
  have hlen : fl.length = 9 := by rw [← hfl]; rfl
  have hlem : fm.length = 11 := by rw [← hfm]; rfl
  have hT1 : (w.alloc (.cells #[.int .i64 0, .int .i64 0, .string ⟨#[]⟩] 31)).rangeAt 0 0 fl := by
    rw [← hfl]
    exact hM.below ((Below.refl _ _).alloc (Nat.le_refl _) _)
  rw [hfl] at ix
  rw [hfm] at iy
  have IY := Lib.hid iy
  have HOO : Hid (SignsAt 1 opsQ w) := Lib.hid hO
  have HLM := Lib.hid hlem
  have HFM := Lib.hid hfm
  clear iy hM hO hfl hlem hfm
  go_enter Tryd.func31, Tryd.ntmps31
  go_wp2_with (refine wpList_load_mid rfl 71 _ rfl 0 0 rfl fl _ hT1 under9s rfl (by rw [hlen]; kernel_rfl) ?_)
  rw [HW1.out]
  clear hT1
  go_loopg [10] 9 (fun g v wr => ∃ i : Nat, v = .int .i64 i ∧ g + i = 9 ∧ fa = (marksQ.drop i).find? p ∧ ResAt w.heap.size wr ∧ Below w.heap.size w wr)
  case atStart => exact ⟨0, rfl, rfl, HFA.out.symm, HK.out, HB.out⟩
  case round =>
    obtain ⟨i, rfl, hg, hfi, hk2, hb⟩ := hrel
    have HG := Lib.hid hg
    have HFI := Lib.hid hfi
    have HB2 := Lib.hid hb
    have HK2 := Lib.hid hk2
    clear hg hfi hb hk2
    by_cases hlt : i < 9
    · have hd : decide ((i : Int) < 9) = true := by simp; omega
      obtain ⟨x, hp⟩ : ∃ x, marksQ[i]? = some x := ⟨_, List.getElem?_eq_getElem (show i < marksQ.length from hlt)⟩
      have ix2 := ix i x hp
      have hsh := marks_short x (List.mem_of_getElem? hp)
      have hst := find_step (p := p) hp
      rw [← HFI.out] at hst
      have HST := Lib.hid hst
      have HTK := Lib.hid (fun W => token_calls 6 x W hsh)
      have HPX := Lib.hid (HPR2.out x)
      obtain ⟨q, hq⟩ : ∃ q, p x = q := ⟨_, rfl⟩
      rw [hq] at HPX HST
      obtain ⟨xs, hxs⟩ : ∃ xs, strB x = xs := ⟨_, rfl⟩
      rw [hxs] at HPX HTK ix2
      clear hp ix hsh hst hq hxs
      go_wp2_with fail
      with_reducible refine (HPX.out wr).mono ?_
      rintro e w2 ⟨rfl, rfl⟩
      cases q with
      | true =>
        have HR : Hid (res = tokQ 6 x) := Lib.hid (by rw [← HRES.out, HST.out]; rfl)
        go_wp2_with fail
        obtain ⟨vk, vt, vz, vc, hv⟩ := rdV_form res
        have HV := Lib.hid hv
        clear hv
        have HCALL := HTK.out wr
        rw [← HR.out, HV.out] at HCALL
        with_reducible refine HCALL.mono ?_
        rintro e w9 ⟨rfl, hb9⟩
        have hk9 := HK2.out.below hb9
        have HB9 := Lib.hid (below_then HB2.out hb9)
        have HK9 := Lib.hid hk9
        obtain ⟨z0, z1, z2⟩ := three_cells hk9
        have u0 := unfrozen_of_block hk9 0
        have u1 := unfrozen_of_block hk9 1
        have u2 := unfrozen_of_block hk9 2
        clear hk9 hb9 HCALL
        go_wp2_with fail
        obtain ⟨hkk, hbb⟩ := store_three (n := w.heap.size) (.int .i64 vk) (.int .i64 0) (.string vt) HK9.out (Nat.le_refl _)
        obtain ⟨g0, g1, g2⟩ := three_cells hkk
        exact bodyPost_ret (v := .tuple #[.agg #[.int .i64 vk, .int .i64 0, .string vt], .int .i64 vz, .int .i64 vc]) (by simp [results, Tryd.results31, go_sem, g0, g1, g2]) rfl ⟨by rw [HV.out], HB9.out.trans hbb⟩
      | false =>
        have HN : Hid (fa = (marksQ.drop (i + 1)).find? p) := Lib.hid (by rw [HST.out]; rfl)
        go_wp2_with fail
        go_roundg (gk - 1)
        case measure => have := HG.out; omega
        case rel => exact ⟨i + 1, by go_num, by have := HG.out; omega, HN.out, HK2.out, HB2.out⟩
    · have hd : decide ((i : Int) < 9) = false := by simp; omega
      have hi : i = 9 := by have := HG.out; omega
      subst hi
      have HNA : Hid (fa = none) := Lib.hid (by rw [HFI.out]; rfl)
      have hT2 : wr.rangeAt 1 0 fm := by
        rw [← HFM.out]
        exact HOO.out.below HB2.out
      have hlem := HLM.out
      clear ix hlt HFI
      go_wp2_with (refine wpList_load_mid rfl 72 _ rfl 1 0 rfl fm _ hT2 under11s rfl (by rw [hlem]; kernel_rfl) ?_)
      clear hT2
      go_loopg [23] 11 (fun g v wr2 => ∃ i : Nat, v = .int .i64 i ∧ g + i = 11 ∧ fb = (opsQ.drop i).find? p ∧ ResAt w.heap.size wr2 ∧ Below w.heap.size w wr2)
      case atStart => exact ⟨0, rfl, rfl, HFB.out.symm, HK2.out, HB2.out⟩
      case round =>
        obtain ⟨i, rfl, hg2, hfi, hk3, hb3⟩ := hrel
        have HG2 := Lib.hid hg2
        have HFI := Lib.hid hfi
        have HB3 := Lib.hid hb3
        have HK3 := Lib.hid hk3
        clear hg2 hfi hb3 hk3
        by_cases hlt : i < 11
        · have hd : decide ((i : Int) < 11) = true := by simp; omega
          obtain ⟨x, hp⟩ : ∃ x, opsQ[i]? = some x := ⟨_, List.getElem?_eq_getElem (show i < opsQ.length from hlt)⟩
          have ix2 := IY.out i x hp
          have hsh := ops_short x (List.mem_of_getElem? hp)
          have hst := find_step (p := p) hp
          rw [← HFI.out] at hst
          have HST := Lib.hid hst
          have HTK := Lib.hid (fun W => token_calls 5 x W hsh)
          have HPX := Lib.hid (HPR2.out x)
          obtain ⟨q, hq⟩ : ∃ q, p x = q := ⟨_, rfl⟩
          rw [hq] at HPX HST
          obtain ⟨xs, hxs⟩ : ∃ xs, strB x = xs := ⟨_, rfl⟩
          rw [hxs] at HPX HTK ix2
          clear hp hsh hst hq hxs
          go_wp2_with fail
          with_reducible refine (HPX.out _).mono ?_
          rintro e w2 ⟨rfl, rfl⟩
          cases q with
          | true =>
            have HR : Hid (res = tokQ 5 x) := Lib.hid (by rw [← HRES.out, HNA.out, HST.out]; rfl)
            go_wp2_with fail
            obtain ⟨vk, vt, vz, vc, hv⟩ := rdV_form res
            have HV := Lib.hid hv
            clear hv
            have HCALL := HTK.out wr
            rw [← HR.out, HV.out] at HCALL
            with_reducible refine HCALL.mono ?_
            rintro e w9 ⟨rfl, hb9⟩
            have hk9 := HK3.out.below hb9
            have HB9 := Lib.hid (below_then HB3.out hb9)
            have HK9 := Lib.hid hk9
            obtain ⟨z0, z1, z2⟩ := three_cells hk9
            have u0 := unfrozen_of_block hk9 0
            have u1 := unfrozen_of_block hk9 1
            have u2 := unfrozen_of_block hk9 2
            clear hk9 hb9 HCALL
            go_wp2_with fail
            obtain ⟨hkk, hbb⟩ := store_three (n := w.heap.size) (.int .i64 vk) (.int .i64 0) (.string vt) HK9.out (Nat.le_refl _)
            obtain ⟨g0, g1, g2⟩ := three_cells hkk
            exact bodyPost_ret (v := .tuple #[.agg #[.int .i64 vk, .int .i64 0, .string vt], .int .i64 vz, .int .i64 vc]) (by simp [results, Tryd.results31, go_sem, g0, g1, g2]) rfl ⟨by rw [HV.out], HB9.out.trans hbb⟩
          | false =>
            have HN : Hid (fb = (opsQ.drop (i + 1)).find? p) := Lib.hid (by rw [HST.out]; rfl)
            go_wp2_with fail
            go_roundg (gk - 1)
            case measure => have := HG2.out; omega
            case rel => exact ⟨i + 1, by go_num, by have := HG2.out; omega, HN.out, HK3.out, HB3.out⟩
        · have hd : decide ((i : Int) < 11) = false := by simp; omega
          have hi : i = 11 := by have := HG2.out; omega
          subst hi
          have HNB : Hid (fb = none) := Lib.hid (by rw [HFI.out]; rfl)
          have HR : Hid (res = .error 60) := Lib.hid (by rw [← HRES.out, HNA.out, HNB.out]; rfl)
          clear hlt HFI
          go_wp2_with fail
          obtain ⟨vk, vt, vz, vc, hv⟩ := rdV_form res
          have HV := Lib.hid hv
          clear hv
          have HCALL := none_calls wr
          rw [← HR.out, HV.out] at HCALL
          with_reducible refine HCALL.mono ?_
          rintro e w9 ⟨rfl, hb9⟩
          have hk9 := HK3.out.below hb9
          have HB9 := Lib.hid (below_then HB3.out hb9)
          have HK9 := Lib.hid hk9
          obtain ⟨z0, z1, z2⟩ := three_cells hk9
          have u0 := unfrozen_of_block hk9 0
          have u1 := unfrozen_of_block hk9 1
          have u2 := unfrozen_of_block hk9 2
          clear hk9 hb9 HCALL
          go_wp2_with fail
          obtain ⟨hkk, hbb⟩ := store_three (n := w.heap.size) (.int .i64 vk) (.int .i64 0) (.string vt) HK9.out (Nat.le_refl _)
          obtain ⟨g0, g1, g2⟩ := three_cells hkk
          exact bodyPost_ret (v := .tuple #[.agg #[.int .i64 vk, .int .i64 0, .string vt], .int .i64 vz, .int .i64 vc]) (by simp [results, Tryd.results31, go_sem, g0, g1, g2]) rfl ⟨by rw [HV.out], HB9.out.trans hbb⟩
end Go.Proofs.YtkpgbcackphdbaaDoor
