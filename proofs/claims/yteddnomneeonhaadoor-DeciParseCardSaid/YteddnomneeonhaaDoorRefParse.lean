/-
  The reference's Parse: a text as a number, character by character. Condition: the text is shorter than 2 to the 30.
-/
import Derived.Test.YteddnomneeonhaaDoorRefNum
import Derived.Test.YteddnomneeonhaaDoorParse
namespace Go.Proofs.YteddnomneeonhaaDoor
open Go.RowKit Go.Lib

/-- What the reference keeps of digits that may be too many. -/
def CapR (u : Nat) (v : Int) (ov : Bool) : Prop := (u ≤ 1000000000000000 ∧ v = u ∧ ov = false) ∨ (1000000000000000 < u ∧ v = 1000000000000000 ∧ ov = true)
theorem CapR.bound {u : Nat} {v : Int} {ov : Bool} (h : CapR u v ov) : 0 ≤ v ∧ v ≤ 1000000000000000 := by
  rcases h with ⟨h1, rfl, _⟩ | ⟨h1, rfl, _⟩ <;> omega
theorem CapR.big {u : Nat} {v : Int} {ov : Bool} (h : CapR u v ov) {d : Nat} (hb : 1000000000000000 < v * 10 + d) : CapR (u * 10 + d) 1000000000000000 true := by
  rcases h with ⟨h1, rfl, _⟩ | ⟨h1, rfl, _⟩
  · exact Or.inr ⟨by omega, rfl, rfl⟩
  · exact Or.inr ⟨by omega, rfl, rfl⟩
theorem CapR.small {u : Nat} {v : Int} {ov : Bool} (h : CapR u v ov) {d : Nat} (hb : v * 10 + d ≤ 1000000000000000) : CapR (u * 10 + d) (v * 10 + d) ov := by
  rcases h with ⟨h1, rfl, h3⟩ | ⟨h1, rfl, _⟩
  · exact Or.inl ⟨by omega, by omega, h3⟩
  · omega

def LoopR (t : List UInt8) (q : Option (Nat × Nat × Nat)) (len g i : Nat) (v : Int) (k : Nat) (pt : Bool) (n : Nat) (ov : Bool) : Prop :=
  ∃ u : Nat, g + i = len ∧ refLoop (t.drop i) u k pt n = q ∧ CapR u v ov ∧ k ≤ 6 ∧ n ≤ i
def PadR (U g k : Nat) (v : Int) (ov : Bool) : Prop := ∃ u : Nat, g + k = 6 ∧ u * 10 ^ (6 - k) = U ∧ CapR u v ov

theorem pad_step {U g k : Nat} {v : Int} {ov : Bool} (h : PadR U g k v ov) (hk : k < 6) : (1000000000000000 < v * 10 → PadR U (g - 1) (k + 1) 1000000000000000 true) ∧ (v * 10 ≤ 1000000000000000 → PadR U (g - 1) (k + 1) (v * 10) ov) := by
  obtain ⟨u, hg, hU, hc⟩ := h
  have e : u * 10 * 10 ^ (6 - (k + 1)) = U := by
    rw [← hU, show 6 - k = 6 - (k + 1) + 1 by omega, Nat.pow_succ, Nat.mul_assoc, Nat.mul_comm 10 (10 ^ (6 - (k + 1)))]
  constructor
  · intro hb
    exact ⟨u * 10, by omega, e, by have := hc.big (d := 0) (by omega); simpa using this⟩
  · intro hb
    exact ⟨u * 10, by omega, e, by have := hc.small (d := 0) (by omega); simpa using this⟩
theorem pad_end {U g : Nat} {v : Int} {ov : Bool} (h : PadR U g 6 v ov) : (ov = true ∧ 1000000000000000 < U) ∨ (ov = false ∧ v = U ∧ U ≤ 1000000000000000) := by
  obtain ⟨u, _, hU, hc⟩ := h
  have e : u = U := by rw [← hU]; simp
  subst e
  rcases hc with ⟨h1, h2, h3⟩ | ⟨h1, h2, h3⟩
  · exact Or.inr ⟨h3, h2, h1⟩
  · exact Or.inl ⟨h3, h1⟩

set_option maxRecDepth 100000 in
set_option maxHeartbeats 4000000 in
theorem refParse_calls (s : ByteArray) (w : World) (hs : s.size ≤ 1073741824) : Calls Tryd.prog 38 #[.string s] w (Leaves (numC (parseP s.data.toList)) w) := by
  have hlen : s.data.toList.length = s.size := Array.length_toList
  obtain ⟨d, hd⟩ : ∃ d, parseP s.data.toList = d := ⟨_, rfl⟩
  rw [hd]
  unfold parseP parseS at hd
  have hl1 := trimL_len s.data.toList
  have cT := fun W => refTrim_calls s W hs
  obtain ⟨t, ht⟩ : ∃ t, trimL s.data.toList = t := ⟨_, rfl⟩
  rw [ht] at hd hl1 cT
  obtain ⟨sT, hsT⟩ : ∃ sT : ByteArray, (⟨t.toArray⟩ : ByteArray) = sT := ⟨_, rfl⟩
  rw [hsT] at cT
  have hzl : sT.size = t.length := by rw [← hsT, mk_size]
  have hz1 : sT.size ≤ 1073741824 := by omega
  have hget : ∀ (i : Nat) (h : i < sT.size), t[i]? = some (sT[i]'h) := by
    subst hsT
    intro i h
    exact List.getElem?_eq_getElem (by rw [← hzl]; exact h)
  obtain ⟨g, hg⟩ : ∃ g, minusB t = g := ⟨_, rfl⟩
  have hg2 := hg
  rw [hg] at hd
  obtain ⟨i0, hi0, hi01, hdrop⟩ : ∃ i0 : Nat, i0 = (if g = true then 1 else 0) ∧ i0 ≤ sT.size ∧ sizeT t = t.drop i0 := by
    cases g with
    | true =>
      refine ⟨1, rfl, ?_, ?_⟩
      · cases t with
        | nil => simp [minusB] at hg
        | cons b r => rw [hzl]; simp
      · unfold sizeT
        rw [hg]
        rfl
    | false =>
      refine ⟨0, rfl, Nat.zero_le _, ?_⟩
      unfold sizeT
      rw [hg]
      rfl
  rw [hdrop, ← ref_parse] at hd
  obtain ⟨q, hq⟩ : ∃ q, refLoop (t.drop i0) 0 0 false 0 = q := ⟨_, rfl⟩
  rw [hq] at hd
  have HD : Hid (d = refFin (numOf g) q) := Lib.hid hd.symm
  have HGET := Lib.hid hget
  have HQ := Lib.hid hq
  have HT := Lib.hid cT
  have HG := Lib.hid hg2
  have HI0 := Lib.hid hi0
  clear hd hget hq cT hg hg2 hdrop ht hsT hl1 hlen hi0
  go_enter Tryd.func38, Tryd.ntmps38
  go_wp2_with fail
  refine (HT.out _).mono ?_
  rintro e w1 ⟨rfl, hb1⟩
  have HB1 : Hid (RowKit.Below w.heap.size w w1) := Lib.hid ((Below.refl _ w).alloc (Nat.le_refl _) _ |>.trans (hb1.mono (by simp)))
  have HR1 : Hid (Own2 w.heap.size (.bool false) (.int .i64 0) w1) := Lib.hid (Own2.below ⟨by go_simp, by go_simp, by go_simp, by go_simp⟩ hb1)
  clear hb1 HT
  -- the sign
  have hstart : (sT.size = 0 ∧ g = false) ∨ (∃ h : 0 < sT.size, (sT[0]'h).toNat = 45 ∧ g = true) ∨ (∃ h : 0 < sT.size, (sT[0]'h).toNat ≠ 45 ∧ g = false) := by
    rcases Nat.eq_zero_or_pos sT.size with h0 | h0
    · left
      refine ⟨h0, ?_⟩
      rw [← HG.out]
      have : t = [] := List.length_eq_zero_iff.1 (by omega)
      rw [this]
      rfl
    · right
      have hx := HGET.out 0 h0
      obtain ⟨b, r, rfl⟩ : ∃ b r, t = b :: r := by
        cases t with
        | nil => rw [List.length_nil] at hzl; omega
        | cons b r => exact ⟨b, r, rfl⟩
      have hx2 : sT[0]'h0 = b := (Option.some.inj hx).symm
      have hg3 : ((45 : UInt8) == b) = g := by
        rw [← HG.out]
        unfold minusB
        rw [List.isPrefixOf]
        cases r <;> simp [List.isPrefixOf]
      by_cases hb : b = 45
      · left
        refine ⟨h0, by rw [hx2, hb]; rfl, ?_⟩
        rw [← hg3, hb]
        rfl
      · right
        refine ⟨h0, by rw [hx2]; intro h; exact hb (UInt8.toNat_inj.1 h), ?_⟩
        rw [← hg3]
        simpa using fun h => hb h.symm
  have HST := Lib.hid hstart
  clear hstart
  have hsgn : (g = false ∧ i0 = 0 ∧ (sT.size = 0 ∨ ∃ h : 0 < sT.size, (((sT[0]'h).toNat : Int) == 45) = false)) ∨ (g = true ∧ i0 = 1 ∧ ∃ h : 0 < sT.size, (((sT[0]'h).toNat : Int) == 45) = true) := by
    have hi := HI0.out
    rcases HST.out with ⟨h1, h2⟩ | ⟨h1, h2, h3⟩ | ⟨h1, h2, h3⟩
    · subst h2
      exact Or.inl ⟨rfl, by simpa using hi, Or.inl h1⟩
    · subst h3
      exact Or.inr ⟨rfl, by simpa using hi, h1, by rw [h2]; rfl⟩
    · subst h3
      exact Or.inl ⟨rfl, by simpa using hi, Or.inr ⟨h1, beq_eq_false_iff_ne.2 fun h => h2 (Int.ofNat_inj.1 h)⟩⟩
  have HZL := Lib.hid hzl
  clear HST HI0 HG hzl
  rcases hsgn with ⟨rfl, rfl, hfirst⟩ | ⟨rfl, rfl, h0, hfirst⟩
  · have hfirst2 : sT.size = 0 ∨ (0 < sT.size ∧ ∀ h : 0 < sT.size, (((sT[0]'h).toNat : Int) == 45) = false) := hfirst.imp id fun ⟨h, hx⟩ => ⟨h, fun _ => hx⟩
    clear hfirst
    rcases hfirst2 with h0 | ⟨h0, hfirst⟩
    · have hd0 : decide ((0 : Int) < (sT.size : Int)) = false := decide_eq_false (by omega)
      go_wp2
      clear hd0
      go_loopg [5, 7, 8, 9, 10, 11] (sT.size - 0) (fun gk v5 v7 v8 v9 v10 v11 wr => ∃ (i : Nat) (v : Int) (k : Nat) (pt : Bool) (n : Nat) (ov : Bool), v5 = .int .i64 i ∧ v7 = .int .i64 v ∧ v8 = .int .i64 k ∧ v9 = .bool pt ∧ v10 = .int .i64 n ∧ v11 = .bool ov ∧ LoopR t q sT.size gk i v k pt n ov ∧ wr = w1)
      case atStart => exact ⟨0, 0, 0, false, 0, false, rfl, rfl, rfl, rfl, rfl, rfl, ⟨0, by omega, HQ.out, Or.inl ⟨by omega, rfl, rfl⟩, by omega, by omega⟩, rfl⟩
      case round =>
        obtain ⟨i, v, k, pt, n, ov, rfl, rfl, rfl, rfl, rfl, rfl, ⟨u, hgi, hloop, hcap, hk6, hni⟩, rfl⟩ := hrel
        have HGI := Lib.hid hgi
        have HLO := Lib.hid hloop
        have HCAP := Lib.hid hcap
        obtain ⟨v0, v1⟩ := hcap.bound
        clear hgi hloop hcap HQ
        by_cases hlt : i < sT.size
        · exfalso; omega
        · have hqs : q = some (u, k, n) := by have := HLO.out; rw [List.drop_eq_nil_of_le (by have := HZL.out; omega)] at this; exact this.symm
          subst hqs
          clear HLO
          have hlt2 : decide ((i : Int) < (sT.size : Int)) = false := by simp; omega
          by_cases hn0 : n = 0
          · subst hn0
            have hres : Hid (d = (nanN, 0)) := Lib.hid (by rw [HD.out]; rfl)
            go_wp2_with fail
            refine (refNone_calls _).mono ?_
            rintro e w9 ⟨rfl, hb9⟩
            have HB9 := Lib.hid (below_then HB1.out hb9)
            obtain ⟨c0, c1, f0, f1⟩ := HR1.out.below hb9
            clear hb9
            unfold numV nanN
            go_wp2
            rw [hres.out]
            exact bodyPost_ret (v := numC (nanN, 0)) (by simp [results, Tryd.results38, go_sem, numC, numV, nanN, c0, c1]) rfl ⟨rfl, (HB9.out.setCell (by simp) _).setCell (by simp) _⟩
          · have hnb : ((n : Int) == 0) = false := by simp only [beq_eq_false_iff_ne]; omega
            have HDF : Hid (d = numOf false (u * 10 ^ (6 - k))) := Lib.hid (by rw [HD.out]; exact if_neg hn0)
            obtain ⟨U, hU⟩ : ∃ U, u * 10 ^ (6 - k) = U := ⟨_, rfl⟩
            rw [hU] at HDF
            have HPAD : Hid (PadR U (6 - k) k v ov) := Lib.hid ⟨u, by omega, hU, HCAP.out⟩
            clear hU HD
            go_wp2
            go_loopg [7, 8, 11] (6 - k) (fun gk2 y7 y8 y11 wr2 => ∃ (k2 : Nat) (v2 : Int) (o2 : Bool), y7 = .int .i64 v2 ∧ y8 = .int .i64 k2 ∧ y11 = .bool o2 ∧ PadR U gk2 k2 v2 o2 ∧ 0 ≤ v2 ∧ v2 ≤ 1000000000000000 ∧ wr2 = wr)
            case atStart => exact ⟨k, v, ov, rfl, rfl, rfl, HPAD.out, v0, v1, rfl⟩
            case round =>
              obtain ⟨k2, v2, o2, rfl, rfl, rfl, hpad, y0, y1, rfl⟩ := hrel
              have HP := Lib.hid hpad
              clear hpad HPAD
              by_cases hk2 : k2 < 6
              · obtain ⟨hb, hsm⟩ := pad_step HP.out hk2
                have hgk : Hid (gk - 1 < gk) := Lib.hid (by obtain ⟨_, h, _⟩ := HP.out; omega)
                by_cases hover : 1000000000000000 < v2 * 10
                · have HB := Lib.hid (hb hover)
                  clear hb hsm
                  go_wp2
                  go_roundg (gk - 1)
                  case measure => exact hgk.out
                  case rel => exact ⟨k2 + 1, 1000000000000000, true, rfl, by go_num, rfl, HB.out, by omega, by omega, rfl⟩
                · have HB := Lib.hid (hsm (by omega))
                  clear hb hsm
                  go_wp2
                  go_roundg (gk - 1)
                  case measure => exact hgk.out
                  case rel => exact ⟨k2 + 1, v2 * 10, o2, rfl, by go_num, rfl, HB.out, by omega, by omega, rfl⟩
              · have hk6' : k2 = 6 := by obtain ⟨_, h, _⟩ := HP.out; omega
                subst hk6'
                obtain ⟨c0, c1, f0, f1⟩ := HR1.out
                rcases pad_end HP.out with ⟨rfl, hbig⟩ | ⟨rfl, hv2, hfit⟩
                · have hres : Hid (d = (zeroN, 66)) := Lib.hid (by rw [HDF.out]; exact if_pos hbig)
                  clear hbig
                  go_wp2
                  rw [hres.out]
                  exact bodyPost_ret (v := numC (zeroN, 66)) (by simp [results, Tryd.results38, go_sem, numC, numV, zeroN, c0, c1]) rfl ⟨rfl, (HB1.out.setCell (by simp) _).setCell (by simp) _⟩
                · have hres : Hid (d = (⟨false, v2⟩, 0)) := Lib.hid (by rw [HDF.out, hv2]; exact if_neg (by omega))
                  clear hv2 hfit
                  go_wp2
                  rw [hres.out]
                  exact bodyPost_ret (v := numC (⟨false, v2⟩, 0)) (by simp [results, Tryd.results38, go_sem, numC, numV, c0, c1]) rfl ⟨rfl, (HB1.out.setCell (by simp) _).setCell (by simp) _⟩
    · have hd0 : decide ((0 : Int) < (sT.size : Int)) = true := decide_eq_true (by omega)
      have hd1 : (0 : Int) < (sT.size : Int) := by omega
      have hf := hfirst h0
      go_wp2
      clear hd0 hf hfirst
      go_loopg [5, 7, 8, 9, 10, 11] (sT.size - 0) (fun gk v5 v7 v8 v9 v10 v11 wr => ∃ (i : Nat) (v : Int) (k : Nat) (pt : Bool) (n : Nat) (ov : Bool), v5 = .int .i64 i ∧ v7 = .int .i64 v ∧ v8 = .int .i64 k ∧ v9 = .bool pt ∧ v10 = .int .i64 n ∧ v11 = .bool ov ∧ LoopR t q sT.size gk i v k pt n ov ∧ wr = w1)
      case atStart => exact ⟨0, 0, 0, false, 0, false, rfl, rfl, rfl, rfl, rfl, rfl, ⟨0, by omega, HQ.out, Or.inl ⟨by omega, rfl, rfl⟩, by omega, by omega⟩, rfl⟩
      case round =>
        obtain ⟨i, v, k, pt, n, ov, rfl, rfl, rfl, rfl, rfl, rfl, ⟨u, hgi, hloop, hcap, hk6, hni⟩, rfl⟩ := hrel
        have HGI := Lib.hid hgi
        have HLO := Lib.hid hloop
        have HCAP := Lib.hid hcap
        obtain ⟨v0, v1⟩ := hcap.bound
        clear hgi hloop hcap HQ
        by_cases hlt : i < sT.size
        · have hii : (i : Int) < (sT.size : Int) := by omega
          obtain ⟨x, hxg⟩ : ∃ x, sT[i]'hlt = x := ⟨_, rfl⟩
          have hx : t.drop i = x :: t.drop (i + 1) := by
            obtain ⟨h1, h2⟩ := List.getElem?_eq_some_iff.1 (HGET.out i hlt)
            rw [List.drop_eq_getElem_cons h1, h2, hxg]
          obtain ⟨r, hr⟩ : ∃ r : Int, (x.toNat : Int) = r := ⟨_, rfl⟩
          have hri : ((sT[i]'hlt).toNat : Int) = r := by rw [hxg, hr]
          have hr0 : 0 ≤ r := by omega
          have hr1 : r ≤ 255 := by have := x.toNat_lt; omega
          have HX := Lib.hid hx
          have HR := Lib.hid hr
          clear hx hxg hr
          by_cases hdot : x = 46 ∧ pt = false
          · obtain ⟨h46, rfl⟩ := hdot
            have hr46 : r = 46 := by rw [← HR.out, h46]; rfl
            subst hr46
            have HN : Hid (refLoop (t.drop (i + 1)) u k true n = q) := Lib.hid (by have := HLO.out; rw [HX.out, h46, refLoop_dot] at this; exact this)
            clear h46
            go_wp2
            go_roundg (gk - 1)
            case measure => have := HGI.out; omega
            case rel => exact ⟨i + 1, v, k, true, n, ov, by go_num, rfl, rfl, rfl, rfl, rfl, ⟨u, by have := HGI.out; omega, HN.out, HCAP.out, hk6, by omega⟩, rfl⟩
          · have HND := Lib.hid hdot
            have htest : Hid (r = 46 → pt = true) := Lib.hid fun h => by
              cases pt with
              | true => rfl
              | false => exact absurd ⟨UInt8.toNat_inj.1 (show x.toNat = 46 by have := HR.out; omega), rfl⟩ HND.out
            clear hdot
            cases hxd : isDg x with
            | false =>
              have hrd : r < 48 ∨ 57 < r := by
                unfold isDg at hxd
                have := HR.out
                simp only [Bool.and_eq_false_iff, decide_eq_false_iff_not] at hxd
                omega
              have hqn : q = none := by have := HLO.out; rw [HX.out, refLoop_none HND.out hxd] at this; exact this.symm
              subst hqn
              have HNN : Hid (d = (nanN, 0)) := Lib.hid (by rw [HD.out]; rfl)
              clear hxd
              by_cases h46 : r = 46
              · have hpt := htest.out h46
                subst hpt h46
                have hres : Hid (d = (nanN, 0)) := Lib.hid (HNN.out)
                go_wp2_with fail
                refine (refNone_calls _).mono ?_
                rintro e w9 ⟨rfl, hb9⟩
                have HB9 := Lib.hid (below_then HB1.out hb9)
                obtain ⟨c0, c1, f0, f1⟩ := HR1.out.below hb9
                clear hb9
                unfold numV nanN
                go_wp2
                rw [hres.out]
                exact bodyPost_ret (v := numC (nanN, 0)) (by simp [results, Tryd.results38, go_sem, numC, numV, nanN, c0, c1]) rfl ⟨rfl, (HB9.out.setCell (by simp) _).setCell (by simp) _⟩
              · have hb46 : (r == 46) = false := by simpa using h46
                rcases hrd with hrd | hrd
                · have hd48 : decide (r < 48) = true := by simpa using hrd
                  have hres : Hid (d = (nanN, 0)) := Lib.hid (HNN.out)
                  go_wp2_with fail
                  refine (refNone_calls _).mono ?_
                  rintro e w9 ⟨rfl, hb9⟩
                  have HB9 := Lib.hid (below_then HB1.out hb9)
                  obtain ⟨c0, c1, f0, f1⟩ := HR1.out.below hb9
                  clear hb9
                  unfold numV nanN
                  go_wp2
                  rw [hres.out]
                  exact bodyPost_ret (v := numC (nanN, 0)) (by simp [results, Tryd.results38, go_sem, numC, numV, nanN, c0, c1]) rfl ⟨rfl, (HB9.out.setCell (by simp) _).setCell (by simp) _⟩
                · have hd48 : decide (r < 48) = false := by simp; omega
                  have hd57 : decide (57 < r) = true := by simpa using hrd
                  have hres : Hid (d = (nanN, 0)) := Lib.hid (HNN.out)
                  go_wp2_with fail
                  refine (refNone_calls _).mono ?_
                  rintro e w9 ⟨rfl, hb9⟩
                  have HB9 := Lib.hid (below_then HB1.out hb9)
                  obtain ⟨c0, c1, f0, f1⟩ := HR1.out.below hb9
                  clear hb9
                  unfold numV nanN
                  go_wp2
                  rw [hres.out]
                  exact bodyPost_ret (v := numC (nanN, 0)) (by simp [results, Tryd.results38, go_sem, numC, numV, nanN, c0, c1]) rfl ⟨rfl, (HB9.out.setCell (by simp) _).setCell (by simp) _⟩
            | true =>
              have hrd : 48 ≤ r ∧ r ≤ 57 := by
                unfold isDg at hxd
                have := HR.out
                simp only [Bool.and_eq_true, decide_eq_true_eq] at hxd
                omega
              obtain ⟨hrd1, hrd2⟩ := hrd
              have hdv : Hid (((dgV x : Nat) : Int) = r - 48) := Lib.hid (by
                have e : dgV x = x.toNat - 48 := rfl
                have := HR.out
                omega)
              have HXD := Lib.hid hxd
              have hb46 : (r == 46) = false := by simp; omega
              have hd48 : decide (r < 48) = false := by simp; omega
              have hd57 : decide (57 < r) = false := by simp; omega
              clear hxd
              by_cases hfull : pt = true ∧ k = 6
              · obtain ⟨rfl, rfl⟩ := hfull
                have HN : Hid (refLoop (t.drop (i + 1)) u 6 true (n + 1) = q) := Lib.hid (by have := HLO.out; rw [HX.out, refLoop_full HXD.out] at this; exact this)
                go_wp2
                go_roundg (gk - 1)
                case measure => have := HGI.out; omega
                case rel => exact ⟨i + 1, v, 6, true, n + 1, ov, by go_num, rfl, rfl, rfl, by go_num, rfl, ⟨u, by have := HGI.out; omega, HN.out, HCAP.out, by omega, by omega⟩, rfl⟩
              · have hbig := HCAP.out.big (d := dgV x)
                have hsmall := HCAP.out.small (d := dgV x)
                rw [hdv.out] at hbig hsmall
                have HBIG := Lib.hid hbig
                have HSMALL := Lib.hid hsmall
                clear hbig hsmall
                cases pt with
                | false =>
                  have HN : Hid (refLoop (t.drop (i + 1)) (u * 10 + dgV x) k false (n + 1) = q) := Lib.hid (by have := HLO.out; rw [HX.out, refLoop_ahead (fun h => HND.out ⟨h, rfl⟩) HXD.out] at this; exact this)
                  by_cases hover : 1000000000000000 < v * 10 + (r - 48)
                  · go_wp2
                    go_roundg (gk - 1)
                    case measure => have := HGI.out; omega
                    case rel => exact ⟨i + 1, 1000000000000000, k, false, n + 1, true, by go_num, rfl, rfl, rfl, by go_num, rfl, ⟨u * 10 + dgV x, by have := HGI.out; omega, HN.out, HBIG.out hover, hk6, by omega⟩, rfl⟩
                  · go_wp2
                    go_roundg (gk - 1)
                    case measure => have := HGI.out; omega
                    case rel => exact ⟨i + 1, v * 10 + (r - 48), k, false, n + 1, ov, by go_num, rfl, rfl, rfl, by go_num, rfl, ⟨u * 10 + dgV x, by have := HGI.out; omega, HN.out, HSMALL.out (by omega), hk6, by omega⟩, rfl⟩
                | true =>
                  have hk : k ≠ 6 := fun h => hfull ⟨rfl, h⟩
                  have hkb : ((k : Int) == 6) = false := by simp only [beq_eq_false_iff_ne]; omega
                  have HN : Hid (refLoop (t.drop (i + 1)) (u * 10 + dgV x) (k + 1) true (n + 1) = q) := Lib.hid (by have := HLO.out; rw [HX.out, refLoop_place HXD.out hk] at this; exact this)
                  by_cases hover : 1000000000000000 < v * 10 + (r - 48)
                  · go_wp2
                    go_roundg (gk - 1)
                    case measure => have := HGI.out; omega
                    case rel => exact ⟨i + 1, 1000000000000000, k + 1, true, n + 1, true, by go_num, rfl, by go_num, rfl, by go_num, rfl, ⟨u * 10 + dgV x, by have := HGI.out; omega, HN.out, HBIG.out hover, by omega, by omega⟩, rfl⟩
                  · go_wp2
                    go_roundg (gk - 1)
                    case measure => have := HGI.out; omega
                    case rel => exact ⟨i + 1, v * 10 + (r - 48), k + 1, true, n + 1, ov, by go_num, rfl, by go_num, rfl, by go_num, rfl, ⟨u * 10 + dgV x, by have := HGI.out; omega, HN.out, HSMALL.out (by omega), by omega, by omega⟩, rfl⟩
        · have hqs : q = some (u, k, n) := by have := HLO.out; rw [List.drop_eq_nil_of_le (by have := HZL.out; omega)] at this; exact this.symm
          subst hqs
          clear HLO
          have hlt2 : decide ((i : Int) < (sT.size : Int)) = false := by simp; omega
          by_cases hn0 : n = 0
          · subst hn0
            have hres : Hid (d = (nanN, 0)) := Lib.hid (by rw [HD.out]; rfl)
            go_wp2_with fail
            refine (refNone_calls _).mono ?_
            rintro e w9 ⟨rfl, hb9⟩
            have HB9 := Lib.hid (below_then HB1.out hb9)
            obtain ⟨c0, c1, f0, f1⟩ := HR1.out.below hb9
            clear hb9
            unfold numV nanN
            go_wp2
            rw [hres.out]
            exact bodyPost_ret (v := numC (nanN, 0)) (by simp [results, Tryd.results38, go_sem, numC, numV, nanN, c0, c1]) rfl ⟨rfl, (HB9.out.setCell (by simp) _).setCell (by simp) _⟩
          · have hnb : ((n : Int) == 0) = false := by simp only [beq_eq_false_iff_ne]; omega
            have HDF : Hid (d = numOf false (u * 10 ^ (6 - k))) := Lib.hid (by rw [HD.out]; exact if_neg hn0)
            obtain ⟨U, hU⟩ : ∃ U, u * 10 ^ (6 - k) = U := ⟨_, rfl⟩
            rw [hU] at HDF
            have HPAD : Hid (PadR U (6 - k) k v ov) := Lib.hid ⟨u, by omega, hU, HCAP.out⟩
            clear hU HD
            go_wp2
            go_loopg [7, 8, 11] (6 - k) (fun gk2 y7 y8 y11 wr2 => ∃ (k2 : Nat) (v2 : Int) (o2 : Bool), y7 = .int .i64 v2 ∧ y8 = .int .i64 k2 ∧ y11 = .bool o2 ∧ PadR U gk2 k2 v2 o2 ∧ 0 ≤ v2 ∧ v2 ≤ 1000000000000000 ∧ wr2 = wr)
            case atStart => exact ⟨k, v, ov, rfl, rfl, rfl, HPAD.out, v0, v1, rfl⟩
            case round =>
              obtain ⟨k2, v2, o2, rfl, rfl, rfl, hpad, y0, y1, rfl⟩ := hrel
              have HP := Lib.hid hpad
              clear hpad HPAD
              by_cases hk2 : k2 < 6
              · obtain ⟨hb, hsm⟩ := pad_step HP.out hk2
                have hgk : Hid (gk - 1 < gk) := Lib.hid (by obtain ⟨_, h, _⟩ := HP.out; omega)
                by_cases hover : 1000000000000000 < v2 * 10
                · have HB := Lib.hid (hb hover)
                  clear hb hsm
                  go_wp2
                  go_roundg (gk - 1)
                  case measure => exact hgk.out
                  case rel => exact ⟨k2 + 1, 1000000000000000, true, rfl, by go_num, rfl, HB.out, by omega, by omega, rfl⟩
                · have HB := Lib.hid (hsm (by omega))
                  clear hb hsm
                  go_wp2
                  go_roundg (gk - 1)
                  case measure => exact hgk.out
                  case rel => exact ⟨k2 + 1, v2 * 10, o2, rfl, by go_num, rfl, HB.out, by omega, by omega, rfl⟩
              · have hk6' : k2 = 6 := by obtain ⟨_, h, _⟩ := HP.out; omega
                subst hk6'
                obtain ⟨c0, c1, f0, f1⟩ := HR1.out
                rcases pad_end HP.out with ⟨rfl, hbig⟩ | ⟨rfl, hv2, hfit⟩
                · have hres : Hid (d = (zeroN, 66)) := Lib.hid (by rw [HDF.out]; exact if_pos hbig)
                  clear hbig
                  go_wp2
                  rw [hres.out]
                  exact bodyPost_ret (v := numC (zeroN, 66)) (by simp [results, Tryd.results38, go_sem, numC, numV, zeroN, c0, c1]) rfl ⟨rfl, (HB1.out.setCell (by simp) _).setCell (by simp) _⟩
                · have hres : Hid (d = (⟨false, v2⟩, 0)) := Lib.hid (by rw [HDF.out, hv2]; exact if_neg (by omega))
                  clear hv2 hfit
                  go_wp2
                  rw [hres.out]
                  exact bodyPost_ret (v := numC (⟨false, v2⟩, 0)) (by simp [results, Tryd.results38, go_sem, numC, numV, c0, c1]) rfl ⟨rfl, (HB1.out.setCell (by simp) _).setCell (by simp) _⟩
  · have hd0 : decide ((0 : Int) < (sT.size : Int)) = true := decide_eq_true (by omega)
    have hd1 : (0 : Int) < (sT.size : Int) := by omega
    go_wp2
    clear hd0 hfirst
    go_loopg [5, 7, 8, 9, 10, 11] (sT.size - 1) (fun gk v5 v7 v8 v9 v10 v11 wr => ∃ (i : Nat) (v : Int) (k : Nat) (pt : Bool) (n : Nat) (ov : Bool), v5 = .int .i64 i ∧ v7 = .int .i64 v ∧ v8 = .int .i64 k ∧ v9 = .bool pt ∧ v10 = .int .i64 n ∧ v11 = .bool ov ∧ LoopR t q sT.size gk i v k pt n ov ∧ wr = w1)
    case atStart => exact ⟨1, 0, 0, false, 0, false, rfl, rfl, rfl, rfl, rfl, rfl, ⟨0, by omega, HQ.out, Or.inl ⟨by omega, rfl, rfl⟩, by omega, by omega⟩, rfl⟩
    case round =>
      obtain ⟨i, v, k, pt, n, ov, rfl, rfl, rfl, rfl, rfl, rfl, ⟨u, hgi, hloop, hcap, hk6, hni⟩, rfl⟩ := hrel
      have HGI := Lib.hid hgi
      have HLO := Lib.hid hloop
      have HCAP := Lib.hid hcap
      obtain ⟨v0, v1⟩ := hcap.bound
      clear hgi hloop hcap HQ
      by_cases hlt : i < sT.size
      · have hii : (i : Int) < (sT.size : Int) := by omega
        obtain ⟨x, hxg⟩ : ∃ x, sT[i]'hlt = x := ⟨_, rfl⟩
        have hx : t.drop i = x :: t.drop (i + 1) := by
          obtain ⟨h1, h2⟩ := List.getElem?_eq_some_iff.1 (HGET.out i hlt)
          rw [List.drop_eq_getElem_cons h1, h2, hxg]
        obtain ⟨r, hr⟩ : ∃ r : Int, (x.toNat : Int) = r := ⟨_, rfl⟩
        have hri : ((sT[i]'hlt).toNat : Int) = r := by rw [hxg, hr]
        have hr0 : 0 ≤ r := by omega
        have hr1 : r ≤ 255 := by have := x.toNat_lt; omega
        have HX := Lib.hid hx
        have HR := Lib.hid hr
        clear hx hxg hr
        by_cases hdot : x = 46 ∧ pt = false
        · obtain ⟨h46, rfl⟩ := hdot
          have hr46 : r = 46 := by rw [← HR.out, h46]; rfl
          subst hr46
          have HN : Hid (refLoop (t.drop (i + 1)) u k true n = q) := Lib.hid (by have := HLO.out; rw [HX.out, h46, refLoop_dot] at this; exact this)
          clear h46
          go_wp2
          go_roundg (gk - 1)
          case measure => have := HGI.out; omega
          case rel => exact ⟨i + 1, v, k, true, n, ov, by go_num, rfl, rfl, rfl, rfl, rfl, ⟨u, by have := HGI.out; omega, HN.out, HCAP.out, hk6, by omega⟩, rfl⟩
        · have HND := Lib.hid hdot
          have htest : Hid (r = 46 → pt = true) := Lib.hid fun h => by
            cases pt with
            | true => rfl
            | false => exact absurd ⟨UInt8.toNat_inj.1 (show x.toNat = 46 by have := HR.out; omega), rfl⟩ HND.out
          clear hdot
          cases hxd : isDg x with
          | false =>
            have hrd : r < 48 ∨ 57 < r := by
              unfold isDg at hxd
              have := HR.out
              simp only [Bool.and_eq_false_iff, decide_eq_false_iff_not] at hxd
              omega
            have hqn : q = none := by have := HLO.out; rw [HX.out, refLoop_none HND.out hxd] at this; exact this.symm
            subst hqn
            have HNN : Hid (d = (nanN, 0)) := Lib.hid (by rw [HD.out]; rfl)
            clear hxd
            by_cases h46 : r = 46
            · have hpt := htest.out h46
              subst hpt h46
              have hres : Hid (d = (nanN, 0)) := Lib.hid (HNN.out)
              go_wp2_with fail
              refine (refNone_calls _).mono ?_
              rintro e w9 ⟨rfl, hb9⟩
              have HB9 := Lib.hid (below_then HB1.out hb9)
              obtain ⟨c0, c1, f0, f1⟩ := HR1.out.below hb9
              clear hb9
              unfold numV nanN
              go_wp2
              rw [hres.out]
              exact bodyPost_ret (v := numC (nanN, 0)) (by simp [results, Tryd.results38, go_sem, numC, numV, nanN, c0, c1]) rfl ⟨rfl, (HB9.out.setCell (by simp) _).setCell (by simp) _⟩
            · have hb46 : (r == 46) = false := by simpa using h46
              rcases hrd with hrd | hrd
              · have hd48 : decide (r < 48) = true := by simpa using hrd
                have hres : Hid (d = (nanN, 0)) := Lib.hid (HNN.out)
                go_wp2_with fail
                refine (refNone_calls _).mono ?_
                rintro e w9 ⟨rfl, hb9⟩
                have HB9 := Lib.hid (below_then HB1.out hb9)
                obtain ⟨c0, c1, f0, f1⟩ := HR1.out.below hb9
                clear hb9
                unfold numV nanN
                go_wp2
                rw [hres.out]
                exact bodyPost_ret (v := numC (nanN, 0)) (by simp [results, Tryd.results38, go_sem, numC, numV, nanN, c0, c1]) rfl ⟨rfl, (HB9.out.setCell (by simp) _).setCell (by simp) _⟩
              · have hd48 : decide (r < 48) = false := by simp; omega
                have hd57 : decide (57 < r) = true := by simpa using hrd
                have hres : Hid (d = (nanN, 0)) := Lib.hid (HNN.out)
                go_wp2_with fail
                refine (refNone_calls _).mono ?_
                rintro e w9 ⟨rfl, hb9⟩
                have HB9 := Lib.hid (below_then HB1.out hb9)
                obtain ⟨c0, c1, f0, f1⟩ := HR1.out.below hb9
                clear hb9
                unfold numV nanN
                go_wp2
                rw [hres.out]
                exact bodyPost_ret (v := numC (nanN, 0)) (by simp [results, Tryd.results38, go_sem, numC, numV, nanN, c0, c1]) rfl ⟨rfl, (HB9.out.setCell (by simp) _).setCell (by simp) _⟩
          | true =>
            have hrd : 48 ≤ r ∧ r ≤ 57 := by
              unfold isDg at hxd
              have := HR.out
              simp only [Bool.and_eq_true, decide_eq_true_eq] at hxd
              omega
            obtain ⟨hrd1, hrd2⟩ := hrd
            have hdv : Hid (((dgV x : Nat) : Int) = r - 48) := Lib.hid (by
              have e : dgV x = x.toNat - 48 := rfl
              have := HR.out
              omega)
            have HXD := Lib.hid hxd
            have hb46 : (r == 46) = false := by simp; omega
            have hd48 : decide (r < 48) = false := by simp; omega
            have hd57 : decide (57 < r) = false := by simp; omega
            clear hxd
            by_cases hfull : pt = true ∧ k = 6
            · obtain ⟨rfl, rfl⟩ := hfull
              have HN : Hid (refLoop (t.drop (i + 1)) u 6 true (n + 1) = q) := Lib.hid (by have := HLO.out; rw [HX.out, refLoop_full HXD.out] at this; exact this)
              go_wp2
              go_roundg (gk - 1)
              case measure => have := HGI.out; omega
              case rel => exact ⟨i + 1, v, 6, true, n + 1, ov, by go_num, rfl, rfl, rfl, by go_num, rfl, ⟨u, by have := HGI.out; omega, HN.out, HCAP.out, by omega, by omega⟩, rfl⟩
            · have hbig := HCAP.out.big (d := dgV x)
              have hsmall := HCAP.out.small (d := dgV x)
              rw [hdv.out] at hbig hsmall
              have HBIG := Lib.hid hbig
              have HSMALL := Lib.hid hsmall
              clear hbig hsmall
              cases pt with
              | false =>
                have HN : Hid (refLoop (t.drop (i + 1)) (u * 10 + dgV x) k false (n + 1) = q) := Lib.hid (by have := HLO.out; rw [HX.out, refLoop_ahead (fun h => HND.out ⟨h, rfl⟩) HXD.out] at this; exact this)
                by_cases hover : 1000000000000000 < v * 10 + (r - 48)
                · go_wp2
                  go_roundg (gk - 1)
                  case measure => have := HGI.out; omega
                  case rel => exact ⟨i + 1, 1000000000000000, k, false, n + 1, true, by go_num, rfl, rfl, rfl, by go_num, rfl, ⟨u * 10 + dgV x, by have := HGI.out; omega, HN.out, HBIG.out hover, hk6, by omega⟩, rfl⟩
                · go_wp2
                  go_roundg (gk - 1)
                  case measure => have := HGI.out; omega
                  case rel => exact ⟨i + 1, v * 10 + (r - 48), k, false, n + 1, ov, by go_num, rfl, rfl, rfl, by go_num, rfl, ⟨u * 10 + dgV x, by have := HGI.out; omega, HN.out, HSMALL.out (by omega), hk6, by omega⟩, rfl⟩
              | true =>
                have hk : k ≠ 6 := fun h => hfull ⟨rfl, h⟩
                have hkb : ((k : Int) == 6) = false := by simp only [beq_eq_false_iff_ne]; omega
                have HN : Hid (refLoop (t.drop (i + 1)) (u * 10 + dgV x) (k + 1) true (n + 1) = q) := Lib.hid (by have := HLO.out; rw [HX.out, refLoop_place HXD.out hk] at this; exact this)
                by_cases hover : 1000000000000000 < v * 10 + (r - 48)
                · go_wp2
                  go_roundg (gk - 1)
                  case measure => have := HGI.out; omega
                  case rel => exact ⟨i + 1, 1000000000000000, k + 1, true, n + 1, true, by go_num, rfl, by go_num, rfl, by go_num, rfl, ⟨u * 10 + dgV x, by have := HGI.out; omega, HN.out, HBIG.out hover, by omega, by omega⟩, rfl⟩
                · go_wp2
                  go_roundg (gk - 1)
                  case measure => have := HGI.out; omega
                  case rel => exact ⟨i + 1, v * 10 + (r - 48), k + 1, true, n + 1, ov, by go_num, rfl, by go_num, rfl, by go_num, rfl, ⟨u * 10 + dgV x, by have := HGI.out; omega, HN.out, HSMALL.out (by omega), by omega, by omega⟩, rfl⟩
      · have hqs : q = some (u, k, n) := by have := HLO.out; rw [List.drop_eq_nil_of_le (by have := HZL.out; omega)] at this; exact this.symm
        subst hqs
        clear HLO
        have hlt2 : decide ((i : Int) < (sT.size : Int)) = false := by simp; omega
        by_cases hn0 : n = 0
        · subst hn0
          have hres : Hid (d = (nanN, 0)) := Lib.hid (by rw [HD.out]; rfl)
          go_wp2_with fail
          refine (refNone_calls _).mono ?_
          rintro e w9 ⟨rfl, hb9⟩
          have HB9 := Lib.hid (below_then HB1.out hb9)
          obtain ⟨c0, c1, f0, f1⟩ := HR1.out.below hb9
          clear hb9
          unfold numV nanN
          go_wp2
          rw [hres.out]
          exact bodyPost_ret (v := numC (nanN, 0)) (by simp [results, Tryd.results38, go_sem, numC, numV, nanN, c0, c1]) rfl ⟨rfl, (HB9.out.setCell (by simp) _).setCell (by simp) _⟩
        · have hnb : ((n : Int) == 0) = false := by simp only [beq_eq_false_iff_ne]; omega
          have HDF : Hid (d = numOf true (u * 10 ^ (6 - k))) := Lib.hid (by rw [HD.out]; exact if_neg hn0)
          obtain ⟨U, hU⟩ : ∃ U, u * 10 ^ (6 - k) = U := ⟨_, rfl⟩
          rw [hU] at HDF
          have HPAD : Hid (PadR U (6 - k) k v ov) := Lib.hid ⟨u, by omega, hU, HCAP.out⟩
          clear hU HD
          go_wp2
          go_loopg [7, 8, 11] (6 - k) (fun gk2 y7 y8 y11 wr2 => ∃ (k2 : Nat) (v2 : Int) (o2 : Bool), y7 = .int .i64 v2 ∧ y8 = .int .i64 k2 ∧ y11 = .bool o2 ∧ PadR U gk2 k2 v2 o2 ∧ 0 ≤ v2 ∧ v2 ≤ 1000000000000000 ∧ wr2 = wr)
          case atStart => exact ⟨k, v, ov, rfl, rfl, rfl, HPAD.out, v0, v1, rfl⟩
          case round =>
            obtain ⟨k2, v2, o2, rfl, rfl, rfl, hpad, y0, y1, rfl⟩ := hrel
            have HP := Lib.hid hpad
            clear hpad HPAD
            by_cases hk2 : k2 < 6
            · obtain ⟨hb, hsm⟩ := pad_step HP.out hk2
              have hgk : Hid (gk - 1 < gk) := Lib.hid (by obtain ⟨_, h, _⟩ := HP.out; omega)
              by_cases hover : 1000000000000000 < v2 * 10
              · have HB := Lib.hid (hb hover)
                clear hb hsm
                go_wp2
                go_roundg (gk - 1)
                case measure => exact hgk.out
                case rel => exact ⟨k2 + 1, 1000000000000000, true, rfl, by go_num, rfl, HB.out, by omega, by omega, rfl⟩
              · have HB := Lib.hid (hsm (by omega))
                clear hb hsm
                go_wp2
                go_roundg (gk - 1)
                case measure => exact hgk.out
                case rel => exact ⟨k2 + 1, v2 * 10, o2, rfl, by go_num, rfl, HB.out, by omega, by omega, rfl⟩
            · have hk6' : k2 = 6 := by obtain ⟨_, h, _⟩ := HP.out; omega
              subst hk6'
              obtain ⟨c0, c1, f0, f1⟩ := HR1.out
              rcases pad_end HP.out with ⟨rfl, hbig⟩ | ⟨rfl, hv2, hfit⟩
              · have hres : Hid (d = (zeroN, 66)) := Lib.hid (by rw [HDF.out]; exact if_pos hbig)
                clear hbig
                go_wp2
                rw [hres.out]
                exact bodyPost_ret (v := numC (zeroN, 66)) (by simp [results, Tryd.results38, go_sem, numC, numV, zeroN, c0, c1]) rfl ⟨rfl, (HB1.out.setCell (by simp) _).setCell (by simp) _⟩
              · have hres : Hid (d = (⟨false, -v2⟩, 0)) := Lib.hid (by rw [HDF.out, hv2]; exact if_neg (by omega))
                clear hv2 hfit
                go_wp2
                rw [hres.out]
                exact bodyPost_ret (v := numC (⟨false, -v2⟩, 0)) (by simp [results, Tryd.results38, go_sem, numC, numV, c0, c1]) rfl ⟨rfl, (HB1.out.setCell (by simp) _).setCell (by simp) _⟩

end Go.Proofs.YteddnomneeonhaaDoor
