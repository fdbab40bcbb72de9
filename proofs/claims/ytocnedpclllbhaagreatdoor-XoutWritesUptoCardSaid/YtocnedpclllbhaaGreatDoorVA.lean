/-
 The reference's Escape: a text's characters as they are written. Condition: the text is no longer than 2 to the 30.
-/
import Derived.Test.YtocnedpclllbhaaGreatDoorWV
namespace Go.Proofs.YtocnedpclllbhaaGreatDoor
open Go.RowKit Go.Lib Go.Joins

theorem strB_app (a b : List UInt8) : strB a ++ strB b = strB (a ++ b) := by
  apply ByteArray.ext
  rw [ByteArray.data_append]
  simp [strB]
theorem esc_num {x : UInt8} {n : Nat} (h : x.toNat = n) (hn : n < 256) : x = UInt8.ofNat n := by
  apply UInt8.toNat_inj.1
  rw [h, UInt8.toNat_ofNat']
  omega
theorem escC_else {v : Bool} {x : UInt8} {y : Nat} (hy : x.toNat = y) (h1 : y ≠ 38) (h2 : y ≠ 60) (h3 : y ≠ 13) (h4 : ¬ (y = 62 ∧ v = false)) (h5 : ¬ (y = 34 ∧ v = true)) (h6 : ¬ (y = 9 ∧ v = true)) (h7 : ¬ (y = 10 ∧ v = true)) : escC v x = [x] := by
  have ne : ∀ {n : UInt8}, y ≠ n.toNat → x ≠ n := fun h e => h (by rw [← hy, e])
  have nv : ∀ {n : UInt8} {b : Bool}, ¬ (y = n.toNat ∧ v = b) → ¬ (x = n ∧ v = b) := fun h e => h ⟨by rw [← hy, e.1], e.2⟩
  unfold escC
  rw [if_neg (ne (n := 38) h1), if_neg (ne (n := 60) h2), if_neg (ne (n := 13) h3), if_neg (nv (n := 62) h4), if_neg (nv (n := 34) h5), if_neg (nv (n := 9) h6), if_neg (nv (n := 10) h7)]
theorem esc_snoc (v : Bool) {l : List UInt8} {i : Nat} {x : UInt8} (h : l[i]? = some x) : escS v (l.take (i + 1)) = escS v (l.take i) ++ escC v x := by
  have e : l.take (i + 1) = l.take i ++ [x] := by rw [List.take_add_one, h]; rfl
  rw [e, esc_app]
  show _ ++ (escC v x ++ []) = _
  rw [List.append_nil]
theorem esc_size (v : Bool) : ∀ l : List UInt8, (escS v l).length ≤ 6 * l.length
  | [] => Nat.le_refl _
  | x :: l => by
    have ih := esc_size v l
    have h1 : (escC v x).length ≤ 6 := by
      unfold escC
      repeat' split
      all_goals simp
    show (escC v x ++ escS v l).length ≤ _
    rw [List.length_append, List.length_cons]
    omega
set_option maxRecDepth 100000 in
set_option maxHeartbeats 8000000 in
theorem resc_calls (w : World) (v : Bool) (l : List UInt8) (hl : l.length ≤ 1073741824) : Calls Tryz.prog 29 #[.string (strB l), .bool v] w (Leaves (.string (strB (escS v l))) w) := by
  have hsz := strB_size l
  have HGET : Hid (∀ (j : Nat) (h : j < (strB l).size), ∃ b, l[j]? = some b ∧ (strB l)[j]'h = b) := Lib.hid (fun j h => by
    have hj : j < l.length := by rw [← strB_size]; exact h
    exact ⟨l[j], List.getElem?_eq_getElem hj, rfl⟩)
  have HEX : Hid (∀ (i : Nat) (x : UInt8), l[i]? = some x → (strB l).extract i (i + 1) = strB [x]) := Lib.hid (fun i x h => by
    apply ByteArray.ext
    apply Array.toList_inj.1
    rw [extract_data]
    show (l.drop i).take (i + 1 - i) = [x]
    obtain ⟨hi, rfl⟩ := List.getElem?_eq_some_iff.1 h
    rw [List.drop_eq_getElem_cons hi, show i + 1 - i = 1 by omega]
    rfl)
  obtain ⟨z, hz⟩ : ∃ z, strB l = z := ⟨_, rfl⟩
  rw [hz] at hsz HGET HEX ⊢
  have HSZ := Lib.hid hsz
  obtain ⟨n, hn⟩ : ∃ n, l.length = n := ⟨_, rfl⟩
  rw [hn] at hsz hl
  have HN := Lib.hid hn
  obtain ⟨Q, hQ⟩ : ∃ Q, strB (escS v l) = Q := ⟨_, rfl⟩
  rw [hQ]
  have HQ := Lib.hid hQ
  clear hz hn hQ
  go_enter Tryz.func29, Tryz.ntmps29
  go_wp2_with fail
  go_loopg [5, 6] n (fun g o ix wr => ∃ (i : Nat), o = .string (strB (escS v (l.take i))) ∧ ix = .int .i64 (i : Int) ∧ g + i = n ∧ Below w.heap.size w wr)
  case atStart => exact ⟨0, rfl, rfl, rfl, Below.refl _ _⟩
  case round =>
    obtain ⟨i, rfl, rfl, hg, hb⟩ := hrel
    have HB := Lib.hid hb
    have hos : (strB (escS v (l.take i))).size ≤ 6442450944 := by
      rw [strB_size]
      have := esc_size v (l.take i)
      rw [List.length_take] at this
      have := HN.out
      omega
    obtain ⟨o, ho⟩ : ∃ o, strB (escS v (l.take i)) = o := ⟨_, rfl⟩
    rw [ho] at hos ⊢
    have HO := Lib.hid ho
    clear hb ho
    cases gk with
    | zero =>
      obtain rfl : i = n := by omega
      have hge : ¬ ((i : Int) < (z.size : Int)) := by omega
      have HF : Hid (o = Q) := Lib.hid (by rw [← HO.out, ← HQ.out, List.take_of_length_le (by have := HN.out; omega)])
      go_wp2_with fail
      go_ret
      exact ⟨by rw [HF.out]; rfl, HB.out⟩
    | succ g =>
      have hlt : (i : Int) < (z.size : Int) := by omega
      have hltn : i < z.size := by omega
      have hi0 : (0 : Int) ≤ (i : Int) := by omega
      have hadd : IntKind.i64.wrap ((i : Int) + 1) = ((i + 1 : Nat) : Int) := IntWalk.i64_in _ (by omega)
      obtain ⟨x, hx, hgc⟩ := HGET.out i hltn
      have HX := Lib.hid hx
      have HNX : Hid (∀ m, escC v x = m → o ++ strB m = strB (escS v (l.take (i + 1)))) := Lib.hid (fun m h => by
        rw [esc_snoc v HX.out, h, ← HO.out, strB_app])
      obtain ⟨y, hy⟩ : ∃ y, x.toNat = y := ⟨_, rfl⟩
      have HY := Lib.hid hy
      have hgc2 : ((z[i]'hltn).toNat) = y := by rw [hgc]; exact hy
      have hq1 : ¬ (9223372036854775807 < o.size + 1) := by omega
      have hq4 : ¬ (9223372036854775807 < o.size + 4) := by omega
      have hq5 : ¬ (9223372036854775807 < o.size + 5) := by omega
      have hq6 : ¬ (9223372036854775807 < o.size + 6) := by omega
      clear hx hgc hy
      by_cases h38 : y = 38
      · have hx : x = 38 := esc_num (HY.out.trans h38) (by decide)
        subst h38
        have HE : Hid (o ++ ⟨#[38, 97, 109, 112, 59]⟩ = strB (escS v (l.take (i + 1)))) := Lib.hid (HNX.out [38, 97, 109, 112, 59] (by rw [hx]; rfl))
        go_wp2_with fail
        go_roundg g
        case measure => omega
        case rel => exact ⟨i + 1, by rw [← HE.out], by go_num, by omega, HB.out⟩
      · have k38 : ¬ ((y : Int) = 38) := by omega
        by_cases h60 : y = 60
        · have hx : x = 60 := esc_num (HY.out.trans h60) (by decide)
          subst h60
          have HE : Hid (o ++ ⟨#[38, 108, 116, 59]⟩ = strB (escS v (l.take (i + 1)))) := Lib.hid (HNX.out [38, 108, 116, 59] (by rw [hx]; rfl))
          go_wp2_with fail
          go_roundg g
          case measure => omega
          case rel => exact ⟨i + 1, by rw [← HE.out], by go_num, by omega, HB.out⟩
        · have k60 : ¬ ((y : Int) = 60) := by omega
          by_cases h13 : y = 13
          · have hx : x = 13 := esc_num (HY.out.trans h13) (by decide)
            subst h13
            have HE : Hid (o ++ ⟨#[38, 35, 49, 51, 59]⟩ = strB (escS v (l.take (i + 1)))) := Lib.hid (HNX.out [38, 35, 49, 51, 59] (by rw [hx]; rfl))
            go_wp2_with fail
            go_roundg g
            case measure => omega
            case rel => exact ⟨i + 1, by rw [← HE.out], by go_num, by omega, HB.out⟩
          · have k13 : ¬ ((y : Int) = 13) := by omega
            cases v with
            | false =>
              by_cases h62 : y = 62
              · have hx : x = 62 := esc_num (HY.out.trans h62) (by decide)
                subst h62
                have HE : Hid (o ++ ⟨#[38, 103, 116, 59]⟩ = strB (escS false (l.take (i + 1)))) := Lib.hid (HNX.out [38, 103, 116, 59] (by rw [hx]; rfl))
                go_wp2_with fail
                go_roundg g
                case measure => omega
                case rel => exact ⟨i + 1, by rw [← HE.out], by go_num, by omega, HB.out⟩
              · have k62 : ¬ ((y : Int) = 62) := by omega
                by_cases h34 : y = 34
                · have k34 : (y : Int) = 34 := by omega
                  have hEx : z.extract i (i + 1) = strB [x] := HEX.out i x HX.out
                  have HE0 : Hid (o ++ strB [x] = strB (escS false (l.take (i + 1)))) := Lib.hid (HNX.out [x] (escC_else HY.out h38 h60 h13 (fun e => by omega) (fun e => by cases e.2) (fun e => by cases e.2) (fun e => by cases e.2)))
                  obtain ⟨X, hX⟩ : ∃ X, strB [x] = X := ⟨_, rfl⟩
                  have hXs : X.size = 1 := by rw [← hX, strB_size]; rfl
                  have hsl : ∀ W, (Instr.slice 9 (.string z) (some (.int .i64 (i : Int))) (some (.int .i64 ((i : Int) + 1))) none).run Tryz.prog W = .ok (.string X) W := fun W => by
                    rw [run_slice_string (P := Tryz.prog) W 9 z .i64 .i64 (i : Int) ((i : Int) + 1) Tryz.underlying9 (by omega) (by omega) (by omega), show ((i : Int) + 1).toNat = i + 1 by omega, Int.toNat_natCast, hEx, hX]
                  have hq9 : ¬ (9223372036854775807 < o.size + X.size) := by omega
                  have HE : Hid (o ++ X = strB (escS false (l.take (i + 1)))) := Lib.hid (by rw [← hX]; exact HE0.out)
                  have HH34 := Lib.hid h34
                  subst h34
                  clear hEx hX HE0
                  go_wp2_with fail
                  go_roundg g
                  case measure => omega
                  case rel => exact ⟨i + 1, by rw [← HE.out], by go_num, by omega, HB.out⟩
                · have k34 : ¬ ((y : Int) = 34) := by omega
                  by_cases h9 : y = 9
                  · have k9 : (y : Int) = 9 := by omega
                    have hEx : z.extract i (i + 1) = strB [x] := HEX.out i x HX.out
                    have HE0 : Hid (o ++ strB [x] = strB (escS false (l.take (i + 1)))) := Lib.hid (HNX.out [x] (escC_else HY.out h38 h60 h13 (fun e => by omega) (fun e => by cases e.2) (fun e => by cases e.2) (fun e => by cases e.2)))
                    obtain ⟨X, hX⟩ : ∃ X, strB [x] = X := ⟨_, rfl⟩
                    have hXs : X.size = 1 := by rw [← hX, strB_size]; rfl
                    have hsl : ∀ W, (Instr.slice 9 (.string z) (some (.int .i64 (i : Int))) (some (.int .i64 ((i : Int) + 1))) none).run Tryz.prog W = .ok (.string X) W := fun W => by
                      rw [run_slice_string (P := Tryz.prog) W 9 z .i64 .i64 (i : Int) ((i : Int) + 1) Tryz.underlying9 (by omega) (by omega) (by omega), show ((i : Int) + 1).toNat = i + 1 by omega, Int.toNat_natCast, hEx, hX]
                    have hq9 : ¬ (9223372036854775807 < o.size + X.size) := by omega
                    have HE : Hid (o ++ X = strB (escS false (l.take (i + 1)))) := Lib.hid (by rw [← hX]; exact HE0.out)
                    have HH9 := Lib.hid h9
                    subst h9
                    clear hEx hX HE0
                    go_wp2_with fail
                    go_roundg g
                    case measure => omega
                    case rel => exact ⟨i + 1, by rw [← HE.out], by go_num, by omega, HB.out⟩
                  · have k9 : ¬ ((y : Int) = 9) := by omega
                    by_cases h10 : y = 10
                    · have k10 : (y : Int) = 10 := by omega
                      have hEx : z.extract i (i + 1) = strB [x] := HEX.out i x HX.out
                      have HE0 : Hid (o ++ strB [x] = strB (escS false (l.take (i + 1)))) := Lib.hid (HNX.out [x] (escC_else HY.out h38 h60 h13 (fun e => by omega) (fun e => by cases e.2) (fun e => by cases e.2) (fun e => by cases e.2)))
                      obtain ⟨X, hX⟩ : ∃ X, strB [x] = X := ⟨_, rfl⟩
                      have hXs : X.size = 1 := by rw [← hX, strB_size]; rfl
                      have hsl : ∀ W, (Instr.slice 9 (.string z) (some (.int .i64 (i : Int))) (some (.int .i64 ((i : Int) + 1))) none).run Tryz.prog W = .ok (.string X) W := fun W => by
                        rw [run_slice_string (P := Tryz.prog) W 9 z .i64 .i64 (i : Int) ((i : Int) + 1) Tryz.underlying9 (by omega) (by omega) (by omega), show ((i : Int) + 1).toNat = i + 1 by omega, Int.toNat_natCast, hEx, hX]
                      have hq9 : ¬ (9223372036854775807 < o.size + X.size) := by omega
                      have HE : Hid (o ++ X = strB (escS false (l.take (i + 1)))) := Lib.hid (by rw [← hX]; exact HE0.out)
                      have HH10 := Lib.hid h10
                      subst h10
                      clear hEx hX HE0
                      go_wp2_with fail
                      go_roundg g
                      case measure => omega
                      case rel => exact ⟨i + 1, by rw [← HE.out], by go_num, by omega, HB.out⟩
                    · have k10 : ¬ ((y : Int) = 10) := by omega
                      have hEx : z.extract i (i + 1) = strB [x] := HEX.out i x HX.out
                      have HE0 : Hid (o ++ strB [x] = strB (escS false (l.take (i + 1)))) := Lib.hid (HNX.out [x] (escC_else HY.out h38 h60 h13 (fun e => h62 e.1) (fun e => by cases e.2) (fun e => by cases e.2) (fun e => by cases e.2)))
                      obtain ⟨X, hX⟩ : ∃ X, strB [x] = X := ⟨_, rfl⟩
                      have hXs : X.size = 1 := by rw [← hX, strB_size]; rfl
                      have hsl : ∀ W, (Instr.slice 9 (.string z) (some (.int .i64 (i : Int))) (some (.int .i64 ((i : Int) + 1))) none).run Tryz.prog W = .ok (.string X) W := fun W => by
                        rw [run_slice_string (P := Tryz.prog) W 9 z .i64 .i64 (i : Int) ((i : Int) + 1) Tryz.underlying9 (by omega) (by omega) (by omega), show ((i : Int) + 1).toNat = i + 1 by omega, Int.toNat_natCast, hEx, hX]
                      have hq9 : ¬ (9223372036854775807 < o.size + X.size) := by omega
                      have HE : Hid (o ++ X = strB (escS false (l.take (i + 1)))) := Lib.hid (by rw [← hX]; exact HE0.out)
                      clear hEx hX HE0
                      go_wp2_with fail
                      go_roundg g
                      case measure => omega
                      case rel => exact ⟨i + 1, by rw [← HE.out], by go_num, by omega, HB.out⟩
            | true =>
              by_cases h62 : y = 62
              · have k62 : (y : Int) = 62 := by omega
                have hEx : z.extract i (i + 1) = strB [x] := HEX.out i x HX.out
                have HE0 : Hid (o ++ strB [x] = strB (escS true (l.take (i + 1)))) := Lib.hid (HNX.out [x] (escC_else HY.out h38 h60 h13 (fun e => by cases e.2) (fun e => by omega) (fun e => by omega) (fun e => by omega)))
                obtain ⟨X, hX⟩ : ∃ X, strB [x] = X := ⟨_, rfl⟩
                have hXs : X.size = 1 := by rw [← hX, strB_size]; rfl
                have hsl : ∀ W, (Instr.slice 9 (.string z) (some (.int .i64 (i : Int))) (some (.int .i64 ((i : Int) + 1))) none).run Tryz.prog W = .ok (.string X) W := fun W => by
                  rw [run_slice_string (P := Tryz.prog) W 9 z .i64 .i64 (i : Int) ((i : Int) + 1) Tryz.underlying9 (by omega) (by omega) (by omega), show ((i : Int) + 1).toNat = i + 1 by omega, Int.toNat_natCast, hEx, hX]
                have hq9 : ¬ (9223372036854775807 < o.size + X.size) := by omega
                have HE : Hid (o ++ X = strB (escS true (l.take (i + 1)))) := Lib.hid (by rw [← hX]; exact HE0.out)
                have HH62 := Lib.hid h62
                subst h62
                clear hEx hX HE0
                go_wp2_with fail
                go_roundg g
                case measure => omega
                case rel => exact ⟨i + 1, by rw [← HE.out], by go_num, by omega, HB.out⟩
              · have k62 : ¬ ((y : Int) = 62) := by omega
                by_cases h34 : y = 34
                · have hx : x = 34 := esc_num (HY.out.trans h34) (by decide)
                  subst h34
                  have HE : Hid (o ++ ⟨#[38, 113, 117, 111, 116, 59]⟩ = strB (escS true (l.take (i + 1)))) := Lib.hid (HNX.out [38, 113, 117, 111, 116, 59] (by rw [hx]; rfl))
                  go_wp2_with fail
                  go_roundg g
                  case measure => omega
                  case rel => exact ⟨i + 1, by rw [← HE.out], by go_num, by omega, HB.out⟩
                · have k34 : ¬ ((y : Int) = 34) := by omega
                  by_cases h9 : y = 9
                  · have hx : x = 9 := esc_num (HY.out.trans h9) (by decide)
                    subst h9
                    have HE : Hid (o ++ ⟨#[38, 35, 57, 59]⟩ = strB (escS true (l.take (i + 1)))) := Lib.hid (HNX.out [38, 35, 57, 59] (by rw [hx]; rfl))
                    go_wp2_with fail
                    go_roundg g
                    case measure => omega
                    case rel => exact ⟨i + 1, by rw [← HE.out], by go_num, by omega, HB.out⟩
                  · have k9 : ¬ ((y : Int) = 9) := by omega
                    by_cases h10 : y = 10
                    · have hx : x = 10 := esc_num (HY.out.trans h10) (by decide)
                      subst h10
                      have HE : Hid (o ++ ⟨#[38, 35, 49, 48, 59]⟩ = strB (escS true (l.take (i + 1)))) := Lib.hid (HNX.out [38, 35, 49, 48, 59] (by rw [hx]; rfl))
                      go_wp2_with fail
                      go_roundg g
                      case measure => omega
                      case rel => exact ⟨i + 1, by rw [← HE.out], by go_num, by omega, HB.out⟩
                    · have k10 : ¬ ((y : Int) = 10) := by omega
                      have hEx : z.extract i (i + 1) = strB [x] := HEX.out i x HX.out
                      have HE0 : Hid (o ++ strB [x] = strB (escS true (l.take (i + 1)))) := Lib.hid (HNX.out [x] (escC_else HY.out h38 h60 h13 (fun e => by cases e.2) (fun e => h34 e.1) (fun e => h9 e.1) (fun e => h10 e.1)))
                      obtain ⟨X, hX⟩ : ∃ X, strB [x] = X := ⟨_, rfl⟩
                      have hXs : X.size = 1 := by rw [← hX, strB_size]; rfl
                      have hsl : ∀ W, (Instr.slice 9 (.string z) (some (.int .i64 (i : Int))) (some (.int .i64 ((i : Int) + 1))) none).run Tryz.prog W = .ok (.string X) W := fun W => by
                        rw [run_slice_string (P := Tryz.prog) W 9 z .i64 .i64 (i : Int) ((i : Int) + 1) Tryz.underlying9 (by omega) (by omega) (by omega), show ((i : Int) + 1).toNat = i + 1 by omega, Int.toNat_natCast, hEx, hX]
                      have hq9 : ¬ (9223372036854775807 < o.size + X.size) := by omega
                      have HE : Hid (o ++ X = strB (escS true (l.take (i + 1)))) := Lib.hid (by rw [← hX]; exact HE0.out)
                      clear hEx hX HE0
                      go_wp2_with fail
                      go_roundg g
                      case measure => omega
                      case rel => exact ⟨i + 1, by rw [← HE.out], by go_num, by omega, HB.out⟩

end Go.Proofs.YtocnedpclllbhaaGreatDoor
