/-
  The reference's number: the digits of a text from a place on. Condition: the text is no longer than 100000.
-/
import Derived.Test.YtiolchdfjlffoaaDoorIX
namespace Go.Proofs.YtiolchdfjlffoaaDoor
open Go.RowKit Go.Lib Go.Joins

theorem strB_get {l : List UInt8} {j : Nat} (hj : j < l.length) (h : j < (strB l).size) : (strB l)[j]'h = l[j]'hj := rfl
theorem stop_headD {l : List UInt8} {k : Nat} (hd : (l.take k).all isD = true) (hk : k ≤ 4) (hl : k ≤ l.length) (hs : k = 4 ∨ k = l.length ∨ ∃ b, l[k]? = some b ∧ isD b = false) : headD l = l.take k := by
  rcases hs with rfl | hs
  · exact headD_four hd hl
  · have e : l = l.take k ++ l.drop k := (List.take_append_drop k l).symm
    have hst : StopD (l.drop k) := fun b t hb => by
      rcases hs with rfl | ⟨c, hc, hcd⟩
      · rw [List.drop_eq_nil_of_le (Nat.le_refl _)] at hb
        cases hb
      · have h0 : (l.drop k)[0]? = some c := by rw [List.getElem?_drop, Nat.add_zero]; exact hc
        rw [hb] at h0
        have : b = c := by simpa using h0
        rw [this]
        exact hcd
    conv => lhs; rw [e]
    exact headD_of hd (by rw [List.length_take]; omega) hst
theorem valD_snoc (l : List UInt8) (c : UInt8) : valD (l ++ [c]) = valD l * 10 + (c.toNat - 48) := by
  unfold valD
  rw [List.foldl_append]
  rfl
theorem valD_bound : ∀ (l : List UInt8), l.all isD = true → valD l < 10 ^ l.length := by
  intro l
  have h : ∀ (l : List UInt8) (a : Nat), l.all isD = true → l.foldl stepD a < (a + 1) * 10 ^ l.length := by
    intro l
    induction l with
    | nil => intro a _; simp
    | cons c t ih =>
      intro a hd
      rw [List.all_cons, Bool.and_eq_true] at hd
      have hc := isD_iff.1 hd.1
      have := ih (stepD a c) hd.2
      rw [List.foldl_cons, List.length_cons, Nat.pow_succ]
      have h2 : stepD a c + 1 ≤ (a + 1) * 10 := by unfold stepD; omega
      calc _ < (stepD a c + 1) * 10 ^ t.length := this
        _ ≤ ((a + 1) * 10) * 10 ^ t.length := Nat.mul_le_mul_right _ h2
        _ = (a + 1) * (10 ^ t.length * 10) := by rw [Nat.mul_assoc, Nat.mul_comm 10]
  intro hd
  have := h l 0 hd
  rw [Nat.zero_add, Nat.one_mul] at this
  exact this
/-- What number leaves. -/
def NumOut (d : List UInt8) (p0 : Nat) (w : World) (e : Ending) (w' : World) : Prop := w = w' ∧ ((numR (d.drop p0) = none ∧ e = .returned (.tuple #[.int .i64 0, .int .i64 (-1)])) ∨
  (∃ n q : Nat, numR (d.drop p0) = some (n, d.drop q) ∧ p0 < q ∧ q ≤ d.length ∧ n < 10000 ∧ e = .returned (.tuple #[.int .i64 (n : Int), .int .i64 (q : Int)])))

set_option maxRecDepth 100000 in
set_option maxHeartbeats 8000000 in
theorem number_calls (d : List UInt8) (p0 : Nat) (w : World) (hd : d.length ≤ 100000) (hp : p0 ≤ d.length) : Calls Tryd.prog 45 #[.string (strB d), .int .i64 (p0 : Int)] w (NumOut d p0 w) := by
  have hsz := strB_size d
  have HGET : Hid (∀ (j : Nat) (h : j < (strB d).size), ∃ b, d[j]? = some b ∧ (strB d)[j]'h = b) := Lib.hid (fun j h => by
    have hj : j < d.length := by rw [← strB_size]; exact h
    exact ⟨d[j], List.getElem?_eq_getElem hj, rfl⟩)
  obtain ⟨z, hz⟩ : ∃ z, strB d = z := ⟨_, rfl⟩
  rw [hz] at hsz HGET ⊢
  have HSZ := Lib.hid hsz
  have hzb : z.size ≤ 100000 := by omega
  clear hz hsz
  go_enter Tryd.func45, Tryd.ntmps45
  go_wp2_with fail
  go_loopg [1, 6] 4 (fun g a nn wr => ∃ (p n : Nat), a = .int .i64 (p : Int) ∧ nn = .int .i64 (n : Int) ∧ p0 ≤ p ∧ g + p = p0 + 4 ∧ p ≤ d.length ∧ n = valD ((d.drop p0).take (p - p0)) ∧ ((d.drop p0).take (p - p0)).all isD = true ∧ w = wr)
  case atStart => exact ⟨p0, 0, rfl, rfl, Nat.le_refl _, by omega, hp, by rw [Nat.sub_self, List.take_zero]; rfl, by rw [Nat.sub_self, List.take_zero]; rfl, rfl⟩
  case round =>
    obtain ⟨p, n, rfl, rfl, hpp, hg, hpd, hn, hall, rfl⟩ := hrel
    have HN := Lib.hid hn
    have HALL := Lib.hid hall
    have hnb : n < 10000 := by
      rw [hn]
      have h1 := valD_bound _ hall
      have h2 : ((d.drop p0).take (p - p0)).length ≤ 4 := by rw [List.length_take]; omega
      have h3 : 10 ^ ((d.drop p0).take (p - p0)).length ≤ 10 ^ 4 := Nat.pow_le_pow_right (by decide) h2
      omega
    have hp0 : (0 : Int) ≤ (p : Int) := by omega
    have hpz : p ≤ z.size := by rw [HSZ.out]; exact hpd
    have hsub : IntKind.i64.wrap ((p : Int) - (p0 : Int)) = (p : Int) - (p0 : Int) := IntWalk.i64_in _ (by omega)
    have HFIN : Hid ((p - p0 = 4 ∨ p = d.length ∨ ∃ b, d[p]? = some b ∧ isD b = false) → headD (d.drop p0) = (d.drop p0).take (p - p0)) := Lib.hid (fun h => by
      refine stop_headD HALL.out (by omega) (by rw [List.length_drop]; omega) ?_
      rcases h with h | h | ⟨b, h1, h2⟩
      · exact .inl h
      · exact .inr (.inl (by rw [List.length_drop]; omega))
      · exact .inr (.inr ⟨b, by rw [List.getElem?_drop, show p0 + (p - p0) = p by omega]; exact h1, h2⟩))
    clear hn hall
    by_cases hpl : p < z.size
    · obtain ⟨b, hb, hgb⟩ := HGET.out p hpl
      have HB := Lib.hid hb
      clear hb
      have hplI : (p : Int) < (z.size : Int) := by omega
      by_cases c48 : 48 ≤ (b.toNat : Int)
      · by_cases c57 : (b.toNat : Int) ≤ 57
        · by_cases c4 : (p : Int) - (p0 : Int) < 4
          · obtain ⟨g', rfl⟩ : ∃ g', gk = g' + 1 := ⟨gk - 1, by omega⟩
            have hadd : IntKind.i64.wrap ((p : Int) + 1) = ((p + 1 : Nat) : Int) := IntWalk.i64_in _ (by omega)
            have hbs : IntKind.u8.wrap ((b.toNat : Int) - 48) = (b.toNat : Int) - 48 := IntWalk.u8_in _ (by omega)
            have hm10 : IntKind.i64.wrap ((n : Int) * 10) = (n : Int) * 10 := IntWalk.i64_in _ (by omega)
            have hcv : IntKind.i64.wrap ((b.toNat : Int) - 48) = (b.toNat : Int) - 48 := IntWalk.i64_in _ (by omega)
            have hsum : IntKind.i64.wrap ((n : Int) * 10 + ((b.toNat : Int) - 48)) = (n : Int) * 10 + ((b.toNat : Int) - 48) := IntWalk.i64_in _ (by omega)
            have HTK : Hid ((d.drop p0).take (p + 1 - p0) = (d.drop p0).take (p - p0) ++ [b]) := Lib.hid (by
              rw [show p + 1 - p0 = (p - p0) + 1 by omega]
              exact take_snoc (by rw [List.getElem?_drop, show p0 + (p - p0) = p by omega]; exact HB.out))
            have HID : Hid (isD b = true) := Lib.hid (isD_iff.2 ⟨by omega, by omega⟩)
            have HV : Hid ((n : Int) * 10 + ((b.toNat : Int) - 48) = ((n * 10 + (b.toNat - 48) : Nat) : Int)) := Lib.hid (by omega)
            have HPD : Hid (p + 1 ≤ d.length) := Lib.hid (by have := HSZ.out; omega)
            go_wp2_with fail
            go_roundg g'
            case measure => omega
            case rel => exact ⟨p + 1, n * 10 + (b.toNat - 48), by go_num, by rw [HV.out], by omega, by omega, HPD.out, by rw [HTK.out, valD_snoc, ← HN.out], by rw [HTK.out, List.all_append, HALL.out]; simp [HID.out], rfl⟩
          · have HH : Hid (headD (d.drop p0) = (d.drop p0).take (p - p0)) := Lib.hid (HFIN.out (.inl (by omega)))
            by_cases hk0 : p = p0
            · exfalso
              omega
            · have hpe : ((p : Int) == (p0 : Int)) = false := by rw [beq_eq_false_iff_ne]; omega
              have h0z : p0 < z.size := by omega
              obtain ⟨b0, hb0, hg0⟩ := HGET.out p0 h0z
              have HB0 := Lib.hid hb0
              have h00 : (0 : Int) ≤ (p0 : Int) := by omega
              have HHD : Hid ((headD (d.drop p0)).head? = some b0) := Lib.hid (by
                rw [HH.out]
                obtain ⟨m, hm⟩ : ∃ m, p - p0 = m + 1 := ⟨p - p0 - 1, by omega⟩
                have h1 : (d.drop p0)[0]? = some b0 := by rw [List.getElem?_drop, Nat.add_zero]; exact HB0.out
                rw [hm]
                cases hl : d.drop p0 with
                | nil => rw [hl] at h1; simp at h1
                | cons y t =>
                  rw [hl] at h1
                  rw [List.take_succ_cons, List.head?_cons]
                  simpa using h1)
              have HLT : Hid (p0 < p) := Lib.hid (by omega)
              clear hk0 hb0
              by_cases h48 : b0 = 48
              · have he48 : ((b0.toNat : Int) == 48) = true := by rw [h48]; rfl
                have HR : Hid (numR (d.drop p0) = none) := Lib.hid (by
                  unfold numR
                  rw [if_pos (.inr (by rw [HHD.out, h48]))])
                clear h48
                go_wp2_with fail
                refine bodyPost_ret (v := .tuple #[.int .i64 0, .int .i64 (-1)]) (by simp [results, Tryd.results45, go_sem]) rfl ⟨rfl, .inl ⟨HR.out, rfl⟩⟩
              · have he48 : ((b0.toNat : Int) == 48) = false := by
                  rw [beq_eq_false_iff_ne]
                  intro e
                  exact h48 (UInt8.toNat_inj.1 (by show b0.toNat = 48; omega))
                have HR : Hid (numR (d.drop p0) = some (n, d.drop p)) := Lib.hid (by
                  unfold numR
                  have hne : headD (d.drop p0) ≠ [] := fun e => by
                    have := HHD.out
                    rw [e] at this
                    cases this
                  rw [if_neg (by intro e; rcases e with e | e; exact hne e; rw [HHD.out] at e; exact h48 (Option.some.inj e)), HH.out, ← HN.out, List.length_take, List.drop_drop, List.length_drop]
                  rw [show p0 + min (p - p0) (d.length - p0) = p by omega])
                clear h48
                go_wp2_with fail
                refine bodyPost_ret (v := .tuple #[.int .i64 (n : Int), .int .i64 (p : Int)]) (by simp [results, Tryd.results45, go_sem]) rfl ⟨rfl, .inr ⟨n, p, HR.out, HLT.out, hpd, hnb, rfl⟩⟩
        · have HH : Hid (headD (d.drop p0) = (d.drop p0).take (p - p0)) := Lib.hid (HFIN.out (.inr (.inr ⟨b, HB.out, by cases h : isD b with | false => rfl | true => have := isD_iff.1 h; omega⟩)))
          by_cases hk0 : p = p0
          · subst hk0
            have HR : Hid (numR (d.drop p) = none) := Lib.hid (by
              unfold numR
              rw [HH.out, Nat.sub_self, List.take_zero, if_pos (.inl rfl)])
            go_wp2_with fail
            refine bodyPost_ret (v := .tuple #[.int .i64 0, .int .i64 (-1)]) (by simp [results, Tryd.results45, go_sem]) rfl ⟨rfl, .inl ⟨HR.out, rfl⟩⟩
          · have hpe : ((p : Int) == (p0 : Int)) = false := by rw [beq_eq_false_iff_ne]; omega
            have h0z : p0 < z.size := by omega
            obtain ⟨b0, hb0, hg0⟩ := HGET.out p0 h0z
            have HB0 := Lib.hid hb0
            have h00 : (0 : Int) ≤ (p0 : Int) := by omega
            have HHD : Hid ((headD (d.drop p0)).head? = some b0) := Lib.hid (by
              rw [HH.out]
              obtain ⟨m, hm⟩ : ∃ m, p - p0 = m + 1 := ⟨p - p0 - 1, by omega⟩
              have h1 : (d.drop p0)[0]? = some b0 := by rw [List.getElem?_drop, Nat.add_zero]; exact HB0.out
              rw [hm]
              cases hl : d.drop p0 with
              | nil => rw [hl] at h1; simp at h1
              | cons y t =>
                rw [hl] at h1
                rw [List.take_succ_cons, List.head?_cons]
                simpa using h1)
            have HLT : Hid (p0 < p) := Lib.hid (by omega)
            clear hk0 hb0
            by_cases h48 : b0 = 48
            · have he48 : ((b0.toNat : Int) == 48) = true := by rw [h48]; rfl
              have HR : Hid (numR (d.drop p0) = none) := Lib.hid (by
                unfold numR
                rw [if_pos (.inr (by rw [HHD.out, h48]))])
              clear h48
              go_wp2_with fail
              refine bodyPost_ret (v := .tuple #[.int .i64 0, .int .i64 (-1)]) (by simp [results, Tryd.results45, go_sem]) rfl ⟨rfl, .inl ⟨HR.out, rfl⟩⟩
            · have he48 : ((b0.toNat : Int) == 48) = false := by
                rw [beq_eq_false_iff_ne]
                intro e
                exact h48 (UInt8.toNat_inj.1 (by show b0.toNat = 48; omega))
              have HR : Hid (numR (d.drop p0) = some (n, d.drop p)) := Lib.hid (by
                unfold numR
                have hne : headD (d.drop p0) ≠ [] := fun e => by
                  have := HHD.out
                  rw [e] at this
                  cases this
                rw [if_neg (by intro e; rcases e with e | e; exact hne e; rw [HHD.out] at e; exact h48 (Option.some.inj e)), HH.out, ← HN.out, List.length_take, List.drop_drop, List.length_drop]
                rw [show p0 + min (p - p0) (d.length - p0) = p by omega])
              clear h48
              go_wp2_with fail
              refine bodyPost_ret (v := .tuple #[.int .i64 (n : Int), .int .i64 (p : Int)]) (by simp [results, Tryd.results45, go_sem]) rfl ⟨rfl, .inr ⟨n, p, HR.out, HLT.out, hpd, hnb, rfl⟩⟩
      · have HH : Hid (headD (d.drop p0) = (d.drop p0).take (p - p0)) := Lib.hid (HFIN.out (.inr (.inr ⟨b, HB.out, by cases h : isD b with | false => rfl | true => have := isD_iff.1 h; omega⟩)))
        by_cases hk0 : p = p0
        · subst hk0
          have HR : Hid (numR (d.drop p) = none) := Lib.hid (by
            unfold numR
            rw [HH.out, Nat.sub_self, List.take_zero, if_pos (.inl rfl)])
          go_wp2_with fail
          refine bodyPost_ret (v := .tuple #[.int .i64 0, .int .i64 (-1)]) (by simp [results, Tryd.results45, go_sem]) rfl ⟨rfl, .inl ⟨HR.out, rfl⟩⟩
        · have hpe : ((p : Int) == (p0 : Int)) = false := by rw [beq_eq_false_iff_ne]; omega
          have h0z : p0 < z.size := by omega
          obtain ⟨b0, hb0, hg0⟩ := HGET.out p0 h0z
          have HB0 := Lib.hid hb0
          have h00 : (0 : Int) ≤ (p0 : Int) := by omega
          have HHD : Hid ((headD (d.drop p0)).head? = some b0) := Lib.hid (by
            rw [HH.out]
            obtain ⟨m, hm⟩ : ∃ m, p - p0 = m + 1 := ⟨p - p0 - 1, by omega⟩
            have h1 : (d.drop p0)[0]? = some b0 := by rw [List.getElem?_drop, Nat.add_zero]; exact HB0.out
            rw [hm]
            cases hl : d.drop p0 with
            | nil => rw [hl] at h1; simp at h1
            | cons y t =>
              rw [hl] at h1
              rw [List.take_succ_cons, List.head?_cons]
              simpa using h1)
          have HLT : Hid (p0 < p) := Lib.hid (by omega)
          clear hk0 hb0
          by_cases h48 : b0 = 48
          · have he48 : ((b0.toNat : Int) == 48) = true := by rw [h48]; rfl
            have HR : Hid (numR (d.drop p0) = none) := Lib.hid (by
              unfold numR
              rw [if_pos (.inr (by rw [HHD.out, h48]))])
            clear h48
            go_wp2_with fail
            refine bodyPost_ret (v := .tuple #[.int .i64 0, .int .i64 (-1)]) (by simp [results, Tryd.results45, go_sem]) rfl ⟨rfl, .inl ⟨HR.out, rfl⟩⟩
          · have he48 : ((b0.toNat : Int) == 48) = false := by
              rw [beq_eq_false_iff_ne]
              intro e
              exact h48 (UInt8.toNat_inj.1 (by show b0.toNat = 48; omega))
            have HR : Hid (numR (d.drop p0) = some (n, d.drop p)) := Lib.hid (by
              unfold numR
              have hne : headD (d.drop p0) ≠ [] := fun e => by
                have := HHD.out
                rw [e] at this
                cases this
              rw [if_neg (by intro e; rcases e with e | e; exact hne e; rw [HHD.out] at e; exact h48 (Option.some.inj e)), HH.out, ← HN.out, List.length_take, List.drop_drop, List.length_drop]
              rw [show p0 + min (p - p0) (d.length - p0) = p by omega])
            clear h48
            go_wp2_with fail
            refine bodyPost_ret (v := .tuple #[.int .i64 (n : Int), .int .i64 (p : Int)]) (by simp [results, Tryd.results45, go_sem]) rfl ⟨rfl, .inr ⟨n, p, HR.out, HLT.out, hpd, hnb, rfl⟩⟩
    · have hplI : ¬ ((p : Int) < (z.size : Int)) := by omega
      have HH : Hid (headD (d.drop p0) = (d.drop p0).take (p - p0)) := Lib.hid (HFIN.out (.inr (.inl (by have := HSZ.out; omega))))
      by_cases hk0 : p = p0
      · subst hk0
        have HR : Hid (numR (d.drop p) = none) := Lib.hid (by
          unfold numR
          rw [HH.out, Nat.sub_self, List.take_zero, if_pos (.inl rfl)])
        go_wp2_with fail
        refine bodyPost_ret (v := .tuple #[.int .i64 0, .int .i64 (-1)]) (by simp [results, Tryd.results45, go_sem]) rfl ⟨rfl, .inl ⟨HR.out, rfl⟩⟩
      · have hpe : ((p : Int) == (p0 : Int)) = false := by rw [beq_eq_false_iff_ne]; omega
        have h0z : p0 < z.size := by omega
        obtain ⟨b0, hb0, hg0⟩ := HGET.out p0 h0z
        have HB0 := Lib.hid hb0
        have h00 : (0 : Int) ≤ (p0 : Int) := by omega
        have HHD : Hid ((headD (d.drop p0)).head? = some b0) := Lib.hid (by
          rw [HH.out]
          obtain ⟨m, hm⟩ : ∃ m, p - p0 = m + 1 := ⟨p - p0 - 1, by omega⟩
          have h1 : (d.drop p0)[0]? = some b0 := by rw [List.getElem?_drop, Nat.add_zero]; exact HB0.out
          rw [hm]
          cases hl : d.drop p0 with
          | nil => rw [hl] at h1; simp at h1
          | cons y t =>
            rw [hl] at h1
            rw [List.take_succ_cons, List.head?_cons]
            simpa using h1)
        have HLT : Hid (p0 < p) := Lib.hid (by omega)
        clear hk0 hb0
        by_cases h48 : b0 = 48
        · have he48 : ((b0.toNat : Int) == 48) = true := by rw [h48]; rfl
          have HR : Hid (numR (d.drop p0) = none) := Lib.hid (by
            unfold numR
            rw [if_pos (.inr (by rw [HHD.out, h48]))])
          clear h48
          go_wp2_with fail
          refine bodyPost_ret (v := .tuple #[.int .i64 0, .int .i64 (-1)]) (by simp [results, Tryd.results45, go_sem]) rfl ⟨rfl, .inl ⟨HR.out, rfl⟩⟩
        · have he48 : ((b0.toNat : Int) == 48) = false := by
            rw [beq_eq_false_iff_ne]
            intro e
            exact h48 (UInt8.toNat_inj.1 (by show b0.toNat = 48; omega))
          have HR : Hid (numR (d.drop p0) = some (n, d.drop p)) := Lib.hid (by
            unfold numR
            have hne : headD (d.drop p0) ≠ [] := fun e => by
              have := HHD.out
              rw [e] at this
              cases this
            rw [if_neg (by intro e; rcases e with e | e; exact hne e; rw [HHD.out] at e; exact h48 (Option.some.inj e)), HH.out, ← HN.out, List.length_take, List.drop_drop, List.length_drop]
            rw [show p0 + min (p - p0) (d.length - p0) = p by omega])
          clear h48
          go_wp2_with fail
          refine bodyPost_ret (v := .tuple #[.int .i64 (n : Int), .int .i64 (p : Int)]) (by simp [results, Tryd.results45, go_sem]) rfl ⟨rfl, .inr ⟨n, p, HR.out, HLT.out, hpd, hnb, rfl⟩⟩
end Go.Proofs.YtiolchdfjlffoaaDoor
