/-
  The walk of the law SegScans at every number and slice of bytes. Condition: the library's table of powers of ten is laid.
-/
import Derived.Test.YtjhiekijbcjohaaDoorSRScan
import Derived.Test.YtjhiekijbcjohaaDoorSAwake
namespace Go.Proofs.YtjhiekijbcjohaaDoor
open Go.RowKit Go.Lib Go.Joins

theorem all_bounds : ∀ (n : Nat) (b : List Nat), b.length ≤ n → (allB b).1.length ≤ b.length ∧ ∀ r ∈ (allB b).1, r.length ≤ b.length
  | 0, b, h => by
    have hb : b = [] := List.length_eq_zero_iff.1 (by omega)
    subst hb
    rw [allB_nil]
    exact ⟨Nat.le_refl _, fun r hr => by cases hr⟩
  | n + 1, b, h => by
    by_cases hs : standsB b = 1
    · obtain ⟨g1, g2, g3, _, g5⟩ := fwhole hs
      have ih := all_bounds n (b.drop (8 + get32 b)) (by rw [List.length_drop]; omega)
      rw [List.length_drop] at ih
      rw [allB_whole hs]
      refine ⟨?_, fun r hr => ?_⟩
      · show _ + 1 ≤ _
        omega
      · rcases List.mem_cons.1 hr with rfl | hr
        · omega
        · have := ih.2 r hr
          omega
    · rw [allB_else hs]
      exact ⟨Nat.zero_le _, fun r hr => by cases hr⟩
theorem scan_bounds (n : Int) (b : List Nat) : (scanB n b).1.length ≤ b.length ∧ ∀ r ∈ (scanB n b).1, r.length ≤ b.length := by
  unfold scanB
  split
  · exact ⟨Nat.zero_le _, fun r hr => by cases hr⟩
  · split
    · exact ⟨Nat.zero_le _, fun r hr => by cases hr⟩
    · obtain ⟨h1, h2⟩ := all_bounds _ (b.drop 12) (Nat.le_refl _)
      rw [List.length_drop] at h1 h2
      exact ⟨by show (allB (b.drop 12)).1.length ≤ _; omega, fun r hr => by have := h2 r hr; omega⟩

set_option maxRecDepth 100000 in
set_option maxHeartbeats 4000000 in
theorem law_scans {S : Nat → Prop} (z : Int) (a : Option Addr) (l : List Nat) (n c : Nat) (w : World) (ht : Tab w) (hr : Row w S a l) (hn : l.length = n) (h0 : a = none → c = 0) (hc : n ≤ c) (hc2 : c ≤ maxLen) :
    Calls Tryd.prog 3 #[.int .i64 z, .slice a n c] w (Leaves (.bool true) w) := by
  have HAW := Lib.hid (awake_calls w ht)
  clear ht
  by_cases hbig : 16384 < n
  · have hd : decide ((n : Int) > 16384) = true := by simp; omega
    clear hr hn h0 hc hc2
    go_enter Tryd.func3, Tryd.ntmps3
    go_wp2_with fail
    with_reducible refine HAW.out.mono ?_
    rintro e w1 ⟨rfl, hb1⟩
    have HB1 := Lib.hid hb1
    clear hb1
    go_wp2
    go_ret
    exact ⟨rfl, HB1.out⟩
  have hd : decide ((n : Int) > 16384) = false := by simp; omega
  obtain ⟨hL, hE⟩ := scan_bounds z l
  rw [hn] at hL hE
  have HSC := Lib.hid (fun W (h : Row W S a l) => scan_calls z a l n c W h hn (by omega) hc hc2 h0)
  have HRS := Lib.hid (fun W (h : Row W S a l) => rscan_calls z a l n c W h hn (by omega) hc hc2 h0)
  have HREC := Lib.hid (fun W b b' d d' m S1 S2 (h : Recs W S1 b (scanB z l).1) (h' : Recs W S2 b' (scanB z l).1) (hm : (scanB z l).1.length = m) => by
    have h3 := records_calls b b' (scanB z l).1 (scanB z l).1 d d' m m W h h' hm hm (by omega) (by omega) (fun f hf => by have := hE f hf; omega) (fun f hf => by have := hE f hf; omega)
    rw [decide_eq_true rfl] at h3
    exact h3)
  unfold ScanOut at HSC HRS
  obtain ⟨q, hq⟩ : ∃ q, scanB z l = q := ⟨_, rfl⟩
  rw [hq] at HSC HRS HREC
  obtain ⟨R, g, t⟩ := q
  dsimp only at HSC HRS HREC
  have HR := Lib.hid hr
  have e1 : ((g : Int) == (g : Int)) = true := by simp
  have e2 : ((t : Int) == (t : Int)) = true := by simp
  obtain ⟨m, hm⟩ : ∃ m, R.length = m := ⟨_, rfl⟩
  have HM := Lib.hid hm
  clear hr hn h0 hc hc2 hL hE hq hm
  go_enter Tryd.func3, Tryd.ntmps3
  go_wp2_with fail
  with_reducible refine HAW.out.mono ?_
  rintro e w1 ⟨rfl, hb1⟩
  have HB1 := Lib.hid hb1
  clear hb1
  go_wp2_with fail
  with_reducible refine (HSC.out w1 (HR.out.below HB1.out)).mono ?_
  rintro e w2 ⟨v2, rfl, hown2⟩
  have HB2 := Lib.hid (below_then HB1.out hown2.bel)
  obtain ⟨a2, c2, S2, rfl, hr2, -⟩ := hown2.form
  have HR2 := Lib.hid hr2
  rw [HM.out]
  clear hown2 hr2
  go_wp2_with fail
  with_reducible refine (HRS.out w2 (HR.out.below HB2.out)).mono ?_
  rintro e w3 ⟨v3, rfl, hown3⟩
  have HB3 := Lib.hid (below_then HB2.out hown3.bel)
  have HR23 := Lib.hid (HR2.out.below hown3.bel)
  obtain ⟨a3, c3, S3, rfl, hr3, -⟩ := hown3.form
  have HRC := Lib.hid (HREC.out w3 a2 a3 c2 c3 m S2 S3 HR23.out hr3 HM.out)
  rw [HM.out]
  clear hown3 hr3
  go_wp2_with fail
  with_reducible refine HRC.out.mono ?_
  rintro e w4 ⟨rfl, k4, rfl⟩
  have HB4 : Hid (Below w.heap.size w (w3.drewN k4)) := Lib.hid (below_then HB3.out (below_drewN w3 k4))
  go_wp2
  go_ret
  exact ⟨rfl, HB4.out⟩

end Go.Proofs.YtjhiekijbcjohaaDoor
