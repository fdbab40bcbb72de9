/-
  The law XtreeBounds: what is parsed has its bounds. Conditions: the document lies in memory; the laid variables hold what their initialisers lay.
-/
import Derived.Test.YtfonflbpkbibbaaGreatDoorXAk
import Derived.Test.YtfonflbpkbibbaaGreatDoorXRd
import Derived.Test.YtfonflbpkbibbaaGreatDoorXSd
namespace Go.Proofs.YtfonflbpkbibbaaGreatDoor
open Go.RowKit Go.Lib Go.Joins

theorem allS_fitB {b : List UInt8} {ts : List Tk} {j : Nat} {t : List UInt8} (h : allS b = .ok ts j t) (hl : b.length ≤ 1000000) : ∀ tk ∈ ts, tkFit nmB tk := by
  intro tk htk
  obtain ⟨k, hk⟩ := List.getElem?_of_mem htk
  obtain ⟨_, _, hg, _⟩ := (allS_seq h).at k tk hk
  refine ⟨?_, ?_, fun hkd => ?_⟩
  · rcases hg.name with ⟨_, h3⟩ | ⟨_, h3⟩ <;> omega
  · rcases hg.name with ⟨_, h3⟩ | ⟨_, h3⟩ <;> omega
  · rcases hg.name with ⟨h2, _⟩ | ⟨_, h3⟩
    · unfold nmB
      have h4 : tk.name.length ≤ b.length := h2.2
      rw [h2.1.2.name h2.1.1, Bool.and_true, decide_eq_true_eq]
      omega
    · omega
theorem parse_bounds {l : List UInt8} {q : List Tr × Tr × List Tr} (h : parseS l = .ok q) (hl : l.length ≤ 1000000) : q.2.1.kind = 1 ∧ q.2.1.snd nmB = true ∧ q.2.1.depth ≤ 32 ∧ q.2.1.count + q.1.length + q.2.2.length ≤ 4096 ∧ (∀ t ∈ q.1, t.kind = 3 ∨ t.kind = 4) ∧ ∀ t ∈ q.2.2, t.kind = 3 ∨ t.kind = 4 := by
  unfold parseS at h
  cases ha : allS l with
  | no c p => rw [ha] at h; dsimp only at h; cases h
  | ok ts j t =>
    rw [ha] at h
    dsimp only at h
    cases hg : growS ⟨[], [], 0⟩ ts with
    | error e => rw [hg] at h; dsimp only at h; cases h
    | ok g =>
      rw [hg] at h
      dsimp only at h
      exact (GrOk.start.grow (allS_fitB ha hl) hg).bounds h
def zeroV : Value := .agg #[.int .i64 0, .string ⟨#[]⟩, .string ⟨#[]⟩, .slice none 0 0, .slice none 0 0]
set_option maxRecDepth 100000 in
set_option maxHeartbeats 4000000 in
theorem same_zero (w : World) : Calls Tryz.prog 21 #[zeroV, zeroV] w (Leaves (.bool true) w) := by
  obtain ⟨wA, hwA⟩ : ∃ W, w.alloc (.cells #[.int .i64 0, .string ⟨#[]⟩, .string ⟨#[]⟩, .slice none 0 0, .slice none 0 0] 27) = W := ⟨_, rfl⟩
  have hbA : Below w.heap.size w wA := by rw [← hwA]; exact (Below.refl _ _).alloc (Nat.le_refl _) _
  have hA : wA.heap[w.heap.size]? = some (.cells #[.int .i64 0, .string ⟨#[]⟩, .string ⟨#[]⟩, .slice none 0 0, .slice none 0 0] 27 (0, 0)) := by rw [← hwA]; exact heap_alloc_new w _
  have hsz : wA.heap.size = w.heap.size + 1 := by rw [← hwA]; simp
  obtain ⟨wB, hwB⟩ : ∃ W, wA.alloc (.cells #[.int .i64 0, .string ⟨#[]⟩, .string ⟨#[]⟩, .slice none 0 0, .slice none 0 0] 27) = W := ⟨_, rfl⟩
  have hbB : Below wA.heap.size wA wB := by rw [← hwB]; exact (Below.refl _ _).alloc (Nat.le_refl _) _
  have hB : wB.heap[w.heap.size + 1]? = some (.cells #[.int .i64 0, .string ⟨#[]⟩, .string ⟨#[]⟩, .slice none 0 0, .slice none 0 0] 27 (0, 0)) := by rw [← hsz, ← hwB]; exact heap_alloc_new wA _
  have HAB := Lib.hid (block_keep hA (keeps_below hbB Non) (fun h => h))
  have HBB := Lib.hid hB
  have HBW := Lib.hid (below_then hbA hbB)
  have HWA := Lib.hid hwA
  have HWB := Lib.hid hwB
  have HA := Lib.hid (attrs9_calls (AttIn.nil wB Non) (AttIn.nil wB Non))
  rw [show decide (([] : List (List UInt8 × List UInt8)) = []) = true from rfl] at HA
  clear hwA hbA hA hsz hwB hbB hB
  unfold zeroV
  go_enter Tryz.func21, Tryz.ntmps21
  go_wp2_with fail
  rw [HWA.out, HWB.out]
  with_reducible refine HA.out.mono ?_
  rintro e w2 ⟨rfl, hb⟩
  have HB2 := Lib.hid (below_then HBW.out hb)
  have HA2 := Lib.hid (block_keep HAB.out (keeps_below hb Non) (fun h => h))
  have HC2 := Lib.hid (block_keep HBB.out (keeps_below hb Non) (fun h => h))
  have z4 := (cell_of_block HA2.out 4).trans rfl
  have y4 := (cell_of_block HC2.out 4).trans rfl
  clear hb
  go_wp2_with fail
  go_loopg [5] 0 (fun g s5 wr => s5 = .int .i64 0 ∧ wr = w2)
  case atStart => exact ⟨rfl, rfl⟩
  case round =>
    obtain ⟨rfl, hwr⟩ := hrel
    have z4 : wr.cell? ⟨w.heap.size, 4, none⟩ = some (.slice none 0 0) := by rw [hwr]; exact (cell_of_block HA2.out 4).trans rfl
    have HBR := Lib.hid (show Below w.heap.size w wr by rw [hwr]; exact HB2.out)
    clear hwr
    go_wp2_with fail
    go_ret
    exact ⟨rfl, HBR.out⟩
set_option maxRecDepth 100000 in
theorem nodes_zero (w : World) : Calls Tryz.prog 43 #[.slice none 0 0, .slice none 0 0] w (Leaves (.bool true) w) := by
  have HS := Lib.hid (fun W => same_zero W)
  unfold zeroV at HS
  go_enter Tryz.func43, Tryz.ntmps43
  go_wp2_with fail
  with_reducible refine (HS.out _).mono ?_
  rintro e w2 ⟨rfl, hb⟩
  have HB := Lib.hid hb
  clear hb
  go_wp2_with fail
  go_ret
  exact ⟨rfl, HB.out⟩

set_option maxRecDepth 100000 in
set_option maxHeartbeats 4000000 in
theorem docs_zero (w : World) : Calls Tryz.prog 13 #[docZ, docZ] w (Leaves (.bool true) w) := by
  have HN := Lib.hid (fun W => nodes_zero W)
  have HS := Lib.hid (fun W => same_zero W)
  unfold zeroV at HS
  unfold docZ docV
  obtain ⟨wA, hwA⟩ : ∃ W, w.alloc (.cells #[.slice none 0 0, .int .i64 0, .string ⟨#[]⟩, .string ⟨#[]⟩, .slice none 0 0, .slice none 0 0, .slice none 0 0] 29) = W := ⟨_, rfl⟩
  have hbA : Below w.heap.size w wA := by rw [← hwA]; exact (Below.refl _ _).alloc (Nat.le_refl _) _
  have hA : wA.heap[w.heap.size]? = some (.cells #[.slice none 0 0, .int .i64 0, .string ⟨#[]⟩, .string ⟨#[]⟩, .slice none 0 0, .slice none 0 0, .slice none 0 0] 29 (0, 0)) := by rw [← hwA]; exact heap_alloc_new w _
  have hsz : wA.heap.size = w.heap.size + 1 := by rw [← hwA]; simp
  obtain ⟨wB, hwB⟩ : ∃ W, wA.alloc (.cells #[.slice none 0 0, .int .i64 0, .string ⟨#[]⟩, .string ⟨#[]⟩, .slice none 0 0, .slice none 0 0, .slice none 0 0] 29) = W := ⟨_, rfl⟩
  have hbB : Below wA.heap.size wA wB := by rw [← hwB]; exact (Below.refl _ _).alloc (Nat.le_refl _) _
  have hB : wB.heap[w.heap.size + 1]? = some (.cells #[.slice none 0 0, .int .i64 0, .string ⟨#[]⟩, .string ⟨#[]⟩, .slice none 0 0, .slice none 0 0, .slice none 0 0] 29 (0, 0)) := by rw [← hsz, ← hwB]; exact heap_alloc_new wA _
  have HAB := Lib.hid (block_keep hA (keeps_below hbB Non) (fun h => h))
  have HBB := Lib.hid hB
  have HBW := Lib.hid (below_then hbA hbB)
  have HWA := Lib.hid hwA
  have HWB := Lib.hid hwB
  clear hwA hbA hA hsz hwB hbB hB
  go_enter Tryz.func13, Tryz.ntmps13
  go_wp2_with fail
  rw [HWA.out, HWB.out]
  with_reducible refine (HN.out wB).mono ?_
  rintro e w2 ⟨rfl, hb⟩
  have HB2 := Lib.hid (below_then HBW.out hb)
  have HA2 := Lib.hid (block_keep HAB.out (keeps_below hb Non) (fun h => h))
  have HC2 := Lib.hid (block_keep HBB.out (keeps_below hb Non) (fun h => h))
  have z1 := (cell_of_block HA2.out 1).trans rfl
  have z2 := (cell_of_block HA2.out 2).trans rfl
  have z3 := (cell_of_block HA2.out 3).trans rfl
  have z4 := (cell_of_block HA2.out 4).trans rfl
  have z5 := (cell_of_block HA2.out 5).trans rfl
  have y1 := (cell_of_block HC2.out 1).trans rfl
  have y2 := (cell_of_block HC2.out 2).trans rfl
  have y3 := (cell_of_block HC2.out 3).trans rfl
  have y4 := (cell_of_block HC2.out 4).trans rfl
  have y5 := (cell_of_block HC2.out 5).trans rfl
  clear hb
  go_wp2_with fail
  with_reducible refine (HS.out w2).mono ?_
  rintro e w3 ⟨rfl, hb⟩
  have HB3 := Lib.hid (below_then HB2.out hb)
  have HA3 := Lib.hid (block_keep HA2.out (keeps_below hb Non) (fun h => h))
  have HC3 := Lib.hid (block_keep HC2.out (keeps_below hb Non) (fun h => h))
  clear z1 z2 z3 z4 z5 y1 y2 y3 y4 y5
  have z6 := (cell_of_block HA3.out 6).trans rfl
  have y6 := (cell_of_block HC3.out 6).trans rfl
  clear hb
  go_wp2_with fail
  with_reducible refine (HN.out w3).mono ?_
  rintro e w4 ⟨rfl, hb⟩
  have HB4 := Lib.hid (below_then HB3.out hb)
  clear hb
  go_wp2_with fail
  go_ret
  exact ⟨rfl, HB4.out⟩

set_option maxRecDepth 100000 in
set_option maxHeartbeats 16000000 in
theorem bounds_calls {w : World} {a : Option Addr} {c : Nat} {l : List UInt8} (hd : DocAt w a c l) (hE : EnvAt w) (hg : Handle w) (h15 : 15 ≤ w.heap.size) : Calls Tryz.prog 3 #[.slice a l.length c] w (Leaves (.bool true) w) := by
  have HAW := Lib.hid (awake10_calls w hE hg h15)
  have HD := Lib.hid hd
  have HE := Lib.hid hE
  have HG := Lib.hid hg
  have H15 := Lib.hid h15
  obtain ⟨n, hn⟩ : ∃ n, l.length = n := ⟨_, rfl⟩
  have HN := Lib.hid hn
  rw [hn]
  by_cases hl : 8192 < n
  · have hz : (8192 : Int) < (n : Int) := by omega
    clear hd hE hg h15 hn hl
    go_enter Tryz.func3, Tryz.ntmps3
    go_wp2_with fail
    with_reducible refine HAW.out.mono ?_
    rintro e w1 ⟨rfl, hb⟩
    have HB1 := Lib.hid hb
    clear hb
    go_wp2_with fail
    go_ret
    exact ⟨rfl, HB1.out⟩
  have hz : ¬ ((8192 : Int) < (n : Int)) := by omega
  have HLE := Lib.hid (show n ≤ 8192 by omega)
  clear hd hE hg h15 hn hl
  go_enter Tryz.func3, Tryz.ntmps3
  go_wp2_with fail
  with_reducible refine HAW.out.mono ?_
  rintro e w1 ⟨rfl, hb⟩
  have HB1 := Lib.hid hb
  clear hb HAW
  have HA : Hid (Calls Tryz.prog 11 #[.slice a n c] w1 (ParseOut w1 (parseS l))) := Lib.hid (by
    have h := parse_calls (HD.out.keep HB1.out) (HE.out.below HB1.out) (HG.out.below HB1.out) (Nat.le_trans H15.out HB1.out.size)
    rw [HN.out] at h
    exact h)
  obtain ⟨P, hP⟩ : ∃ P, parseS l = P := ⟨_, rfl⟩
  rw [hP] at HA
  have HP := Lib.hid hP
  clear hP
  cases P with
  | error cp =>
    obtain ⟨cd, p⟩ := cp
    go_wp2_with fail
    with_reducible refine HA.out.mono ?_
    rintro e w3 ⟨ev, rfl, hc0, her, hb⟩
    unfold docZ docV
    obtain ⟨w4, hw4⟩ : ∃ W, w3.alloc (.cells #[.slice none 0 0, .int .i64 0, .string ⟨#[]⟩, .string ⟨#[]⟩, .slice none 0 0, .slice none 0 0, .slice none 0 0] 29) = W := ⟨_, rfl⟩
    have hb34 : Below w3.heap.size w3 w4 := by rw [← hw4]; exact (Below.refl _ _).alloc (Nat.le_refl _) _
    have hblk : w4.heap[w3.heap.size]? = some (.cells #[.slice none 0 0, .int .i64 0, .string ⟨#[]⟩, .string ⟨#[]⟩, .slice none 0 0, .slice none 0 0, .slice none 0 0] 29 (0, 0)) := by rw [← hw4]; exact heap_alloc_new w3 _
    have HBK := Lib.hid hblk
    have hb4 := below_then HB1.out (below_then hb hb34)
    have HB4 := Lib.hid hb4
    have HER := Lib.hid (her.below hb34)
    have HCO := Lib.hid (code_calls _ _ ev w4 HER.out (HG.out.below hb4))
    have hcz : ((cd : Int) != 0) = true := by rw [bne_iff_ne]; omega
    have HW4 := Lib.hid hw4
    clear hb hb34 hb4 her hw4 hblk HA hc0
    go_wp2_with fail
    rw [HW4.out]
    with_reducible refine HCO.out.mono ?_
    rintro e w5 ⟨rfl, hb5⟩
    have hblk5 := block_keep HBK.out (keeps_below hb5 Non) (fun h => h)
    have k0 := (cell_of_block hblk5 0).trans rfl
    have k1 := (cell_of_block hblk5 1).trans rfl
    have k2 := (cell_of_block hblk5 2).trans rfl
    have k3 := (cell_of_block hblk5 3).trans rfl
    have k4 := (cell_of_block hblk5 4).trans rfl
    have k5 := (cell_of_block hblk5 5).trans rfl
    have k6 := (cell_of_block hblk5 6).trans rfl
    have hdz := docs_zero w5
    unfold docZ docV at hdz
    have HDZ := Lib.hid hdz
    have HB5 := Lib.hid (below_then HB4.out hb5)
    clear hblk5 hb5 hdz
    go_wp2_with fail
    with_reducible refine HDZ.out.mono ?_
    rintro e w6 ⟨rfl, hb6⟩
    have HB6 := Lib.hid (below_then HB5.out hb6)
    clear hb6
    go_wp2_with fail
    go_ret
    exact ⟨rfl, HB6.out⟩
  | ok q =>
    have HBN := Lib.hid (parse_bounds HP.out (by have h5 := HN.out; have h6 := HLE.out; omega))
    go_wp2_with fail
    with_reducible refine HA.out.mono ?_
    rintro e w3 ⟨dv, rfl, hdoc, hb⟩
    obtain ⟨bv, av, r, rb, ra, rfl, hnd, hrb, hnb, hra, hna⟩ := hdoc.ex
    obtain ⟨q1, q2, q3, hat, rows, hri, hni⟩ := hnd.kids
    have hrk : r.kind = 1 := q1.trans HBN.out.1
    clear q1 q2 q3 hni
    obtain ⟨zb, cb, hbv⟩ : ∃ zb cb, bv = .slice zb rb.length cb := by
      obtain ⟨x1, x2, x3, _⟩ := hrb
      exact ⟨x1, x2, x3⟩
    obtain ⟨za, ca, hav⟩ : ∃ za ca, av = .slice za ra.length ca := by
      obtain ⟨x1, x2, x3, _⟩ := hra
      exact ⟨x1, x2, x3⟩
    subst hbv
    subst hav
    obtain ⟨n1, hn1⟩ : ∃ z, rb.length = z := ⟨_, rfl⟩
    obtain ⟨n2, hn2⟩ : ∃ z, ra.length = z := ⟨_, rfl⟩
    obtain ⟨z7, z8, z9, hrav⟩ := hat.slice
    obtain ⟨y1, y2, y3, hkv⟩ := hri.slice
    obtain ⟨rk, rn, rx, rav, rkv⟩ := r
    dsimp only at hrav hkv hrk
    subst hrav
    subst hkv
    subst hrk
    unfold docV
    dsimp only
    obtain ⟨sn, hsn⟩ : ∃ z, strB rn = z := ⟨_, rfl⟩
    obtain ⟨st, hst⟩ : ∃ z, strB rx = z := ⟨_, rfl⟩
    rw [hsn, hst, hn1, hn2]
    obtain ⟨w4, hw4⟩ : ∃ W, w3.alloc (.cells #[.slice zb n1 cb, .int .i64 1, .string sn, .string st, .slice z7 z8 z9, .slice y1 y2 y3, .slice za n2 ca] 29) = W := ⟨_, rfl⟩
    have hb34 : Below w3.heap.size w3 w4 := by rw [← hw4]; exact (Below.refl _ _).alloc (Nat.le_refl _) _
    have hblk : w4.heap[w3.heap.size]? = some (.cells #[.slice zb n1 cb, .int .i64 1, .string sn, .string st, .slice z7 z8 z9, .slice y1 y2 y3, .slice za n2 ca] 29 (0, 0)) := by rw [← hw4]; exact heap_alloc_new w3 _
    have HBK := Lib.hid hblk
    have HND := Lib.hid (NodeIn.keep (S' := Any) hnd (keeps_below hb34 Non) (fun _ _ h => h) (fun _ _ => trivial))
    have HR0 := Lib.hid (RowIn.keep (S' := Any) hrb (keeps_below hb34 Non) (fun _ _ h => h) (fun _ _ => trivial))
    have HN0 := Lib.hid (NodesIn.keep (S' := Any) hnb (keeps_below hb34 Non) (fun _ _ h => h) (fun _ _ => trivial))
    have HR6 := Lib.hid (RowIn.keep (S' := Any) hra (keeps_below hb34 Non) (fun _ _ h => h) (fun _ _ => trivial))
    have HN6 := Lib.hid (NodesIn.keep (S' := Any) hna (keeps_below hb34 Non) (fun _ _ h => h) (fun _ _ => trivial))
    have HL0 := Lib.hid hn1
    have HL6 := Lib.hid hn2
    have HB4 := Lib.hid (below_then HB1.out (below_then hb hb34))
    have HW4 := Lib.hid hw4
    have HCO := Lib.hid (code_nil w4)
    have HSN := Lib.hid hsn
    have HST := Lib.hid hst
    have HLM : Hid (q.2.1.count + n1 + n2 ≤ 4096) := Lib.hid (by have h5 := HBN.out.2.2.2.1; have h9 := HN0.out.1; have h10 := HN6.out.1; omega)
    clear hdoc hnd hrb hnb hra hna hat hri hb hb34 hblk hw4 HA hsn hst hn1 hn2
    go_wp2_with fail
    rw [HW4.out]
    with_reducible refine HCO.out.mono ?_
    rintro e w5 ⟨rfl, hb5⟩
    have hct := rcount_calls 1000000 (HND.out.keep (S' := Any) (keeps_below hb5 Non) (fun _ _ h => h) (fun _ h => h)) (by have h5 := HLM.out; omega) (Nat.le_refl _)
    obtain ⟨C, hC⟩ : ∃ z, q.2.1.count = z := ⟨_, rfl⟩
    rw [hC] at hct
    unfold nodeV at hct
    dsimp only at hct
    rw [HSN.out, HST.out] at hct
    have HCT := Lib.hid hct
    have HCE := Lib.hid hC
    have HB5 := Lib.hid hb5
    rw [hC] at HLM
    have hblk5 := block_keep HBK.out (keeps_below hb5 Non) (fun h => h)
    have m1 := (cell_of_block hblk5 1).trans rfl
    have m2 := (cell_of_block hblk5 2).trans rfl
    have m3 := (cell_of_block hblk5 3).trans rfl
    have m4 := (cell_of_block hblk5 4).trans rfl
    have m5 := (cell_of_block hblk5 5).trans rfl
    clear hblk5
    clear hct hb5 HCO hC
    go_wp2_with fail
    with_reducible refine HCT.out.mono ?_
    rintro e w6 ⟨rfl, hb6⟩
    have hb46 : Below w4.heap.size w4 w6 := HB5.out.trans (hb6.mono HB5.out.size)
    have HB46 := Lib.hid hb46
    clear m1 m2 m3 m4 m5 hb6 hb46 HCT
    go_wp2_with fail
    go_loopg [5, 6] n1 (fun g s5 s6 wx => ∃ i : Nat, i + g = n1 ∧ s6 = .int .i64 (i : Int) ∧ s5 = .int .i64 ((C + i : Nat) : Int) ∧ Below w4.heap.size w4 wx)
    case atStart => exact ⟨0, by omega, rfl, rfl, HB46.out⟩
    case round =>
      obtain ⟨i, hig, rfl, rfl, hb⟩ := hrel
      have HB := Lib.hid hb
      clear hb
      have hblkX := block_keep HBK.out (keeps_below HB.out Non) (fun h => h)
      have m0 := (cell_of_block hblkX 0).trans rfl
      clear hblkX
      cases gk with
      | succ g =>
        have hlt : i < n1 := by omega
        have hltI : (i : Int) < (n1 : Int) := by omega
        have hi0 : (0 : Int) ≤ (i : Int) := by omega
        obtain ⟨b2, o2, y, u, ha, hy, hu, hcell⟩ : ∃ b2 o2 y u, zb = some ⟨b2, o2, none⟩ ∧ rb[i]? = some y ∧ q.1[i]? = some u ∧ NrIn w4 b2 (o2 + i * 5) y := by
          obtain ⟨y, hy⟩ : ∃ y, rb[i]? = some y := ⟨_, List.getElem?_eq_getElem (by have := HL0.out; omega)⟩
          obtain ⟨u, hu⟩ : ∃ u, q.1[i]? = some u := ⟨_, List.getElem?_eq_getElem (by have := HN0.out.1; have := HL0.out; omega)⟩
          obtain ⟨_, _, e1, _, _, _, h5⟩ := HR0.out
          injection e1 with e1 _ _
          rcases h5 with h5 | ⟨b, o, h6, _, h7⟩
          · rw [h5] at hy; simp at hy
          · exact ⟨b, o, y, u, e1.trans h6, hy, hu, h7 i y hy⟩
        have hyk : y.kind = 3 ∨ y.kind = 4 := by
          rw [(HN0.out.2 i y u hy hu).kids.1]
          exact HBN.out.2.2.2.2.1 u (List.mem_of_getElem? hu)
        obtain ⟨y0, _, _, _, _⟩ := hcell.keep (keeps_below HB.out Non) (fun h => h)
        subst ha
        obtain ⟨yk, yn, yt, ya, yv⟩ := y
        dsimp only at y0 hyk
        have hadd : IntKind.i64.wrap ((i : Int) + 1) = (i : Int) + 1 := IntWalk.i64_in _ (by have := HLM.out; omega)
        obtain ⟨c1, hc1⟩ : ∃ z, C + i = z := ⟨_, rfl⟩
        rw [hc1]
        have hadd2 : IntKind.i64.wrap ((c1 : Int) + 1) = (c1 : Int) + 1 := IntWalk.i64_in _ (by have := HLM.out; omega)
        have HC1 := Lib.hid hc1
        clear hc1 hcell hy hu
        rcases hyk with rfl | rfl
        all_goals go_wp2_with fail
        all_goals go_roundg g
        all_goals first
          | exact ⟨i + 1, by omega, rfl, congrArg (Value.int .i64) (by have := HC1.out; omega), HB.out⟩
          | omega
      | zero =>
        obtain rfl : n1 = i := by omega
        have hge : ¬ (n1 < n1) := by omega
        go_wp2_with fail
        go_loopg [5, 7] n2 (fun g s5 s7 wx => ∃ i : Nat, i + g = n2 ∧ s7 = .int .i64 (i : Int) ∧ s5 = .int .i64 ((C + n1 + i : Nat) : Int) ∧ Below w4.heap.size w4 wx)
        case atStart => exact ⟨0, by omega, rfl, rfl, HB.out⟩
        case round =>
          obtain ⟨i, hig, rfl, rfl, hb⟩ := hrel
          have HB := Lib.hid hb
          clear hb
          have hblkX := block_keep HBK.out (keeps_below HB.out Non) (fun h => h)
          have m6 := (cell_of_block hblkX 6).trans rfl
          clear hblkX
          cases gk with
          | succ g =>
            have hlt : i < n2 := by omega
            have hltI : (i : Int) < (n2 : Int) := by omega
            have hi0 : (0 : Int) ≤ (i : Int) := by omega
            obtain ⟨b2, o2, y, u, ha, hy, hu, hcell⟩ : ∃ b2 o2 y u, za = some ⟨b2, o2, none⟩ ∧ ra[i]? = some y ∧ q.2.2[i]? = some u ∧ NrIn w4 b2 (o2 + i * 5) y := by
              obtain ⟨y, hy⟩ : ∃ y, ra[i]? = some y := ⟨_, List.getElem?_eq_getElem (by have := HL6.out; omega)⟩
              obtain ⟨u, hu⟩ : ∃ u, q.2.2[i]? = some u := ⟨_, List.getElem?_eq_getElem (by have := HN6.out.1; have := HL6.out; omega)⟩
              obtain ⟨_, _, e1, _, _, _, h5⟩ := HR6.out
              injection e1 with e1 _ _
              rcases h5 with h5 | ⟨b, o, h6, _, h7⟩
              · rw [h5] at hy; simp at hy
              · exact ⟨b, o, y, u, e1.trans h6, hy, hu, h7 i y hy⟩
            have hyk : y.kind = 3 ∨ y.kind = 4 := by
              rw [(HN6.out.2 i y u hy hu).kids.1]
              exact HBN.out.2.2.2.2.2 u (List.mem_of_getElem? hu)
            obtain ⟨y0, _, _, _, _⟩ := hcell.keep (keeps_below HB.out Non) (fun h => h)
            subst ha
            obtain ⟨yk, yn, yt, ya, yv⟩ := y
            dsimp only at y0 hyk
            have hadd : IntKind.i64.wrap ((i : Int) + 1) = (i : Int) + 1 := IntWalk.i64_in _ (by have := HLM.out; omega)
            obtain ⟨c1, hc1⟩ : ∃ z, C + n1 + i = z := ⟨_, rfl⟩
            rw [hc1]
            have hadd2 : IntKind.i64.wrap ((c1 : Int) + 1) = (c1 : Int) + 1 := IntWalk.i64_in _ (by have := HLM.out; omega)
            have HC1 := Lib.hid hc1
            clear hc1 hcell hy hu
            rcases hyk with rfl | rfl
            all_goals go_wp2_with fail
            all_goals go_roundg g
            all_goals first
              | exact ⟨i + 1, by omega, rfl, congrArg (Value.int .i64) (by have := HC1.out; omega), HB.out⟩
              | omega
          | zero =>
            obtain rfl : n2 = i := by omega
            have hge : ¬ (n2 < n2) := by omega
            obtain ⟨c1, hc1⟩ : ∃ z, C + n1 + n2 = z := ⟨_, rfl⟩
            rw [hc1]
            have HC1 := Lib.hid hc1
            clear hc1
            have hblkW := block_keep HBK.out (keeps_below HB.out Non) (fun h => h)
            have p1 := (cell_of_block hblkW 1).trans rfl
            have p2 := (cell_of_block hblkW 2).trans rfl
            have p3 := (cell_of_block hblkW 3).trans rfl
            have p4 := (cell_of_block hblkW 4).trans rfl
            have p5 := (cell_of_block hblkW 5).trans rfl
            clear hblkW
            have hsd := sound_calls 1000000 (HND.out.keep (S' := Any) (keeps_below HB.out Non) (fun _ _ h => h) (fun _ h => h)) HBN.out.2.1 (by have := HBN.out.2.2.2.1; omega) (Nat.le_refl _)
            unfold nodeV at hsd
            dsimp only at hsd
            rw [HSN.out, HST.out] at hsd
            have HSD := Lib.hid hsd
            clear hsd
            go_wp2_with fail
            with_reducible refine HSD.out.mono ?_
            rintro e w6 ⟨rfl, hb6⟩
            have hb46 : Below w4.heap.size w4 w6 := HB.out.trans (hb6.mono HB.out.size)
            have HB6 := Lib.hid hb46
            clear p1 p2 p3 p4 p5 m6
            have hblkV := block_keep HBK.out (keeps_below hb46 Non) (fun h => h)
            have r1 := (cell_of_block hblkV 1).trans rfl
            have r2 := (cell_of_block hblkV 2).trans rfl
            have r3 := (cell_of_block hblkV 3).trans rfl
            have r4 := (cell_of_block hblkV 4).trans rfl
            have r5 := (cell_of_block hblkV 5).trans rfl
            clear hblkV
            have hdp := rdepth_calls 1000000 (HND.out.keep (S' := Any) (keeps_below hb46 Non) (fun _ _ h => h) (fun _ h => h)) (by have := HBN.out.2.2.2.1; omega) (Nat.le_refl _)
            unfold nodeV at hdp
            dsimp only at hdp
            rw [HSN.out, HST.out] at hdp
            obtain ⟨dp, hdpe⟩ : ∃ z, q.2.1.depth = z := ⟨_, rfl⟩
            rw [hdpe] at hdp
            have hd32 : dp ≤ 32 := by rw [← hdpe]; exact HBN.out.2.2.1
            have hc40 : c1 ≤ 4096 := by have h5 := HBN.out.2.2.2.1; have h6 := HC1.out; have h7 := HL0.out; have h8 := HL6.out; have h9 := HN0.out.1; have h10 := HN6.out.1; have h11 := HCE.out; omega
            have hd32I : (dp : Int) ≤ 32 := by omega
            have hc40I : (c1 : Int) ≤ 4096 := by omega
            have HDP := Lib.hid hdp
            clear hdp hb6 hb46 hdpe
            go_wp2_with fail
            with_reducible refine HDP.out.mono ?_
            rintro e w7 ⟨rfl, hb7⟩
            have HB7 := Lib.hid (below_then HB4.out (HB6.out.trans (hb7.mono HB6.out.size)))
            clear hb7
            go_wp2_with fail
            go_ret
            exact ⟨rfl, HB7.out⟩

end Go.Proofs.YtfonflbpkbibbaaGreatDoor
