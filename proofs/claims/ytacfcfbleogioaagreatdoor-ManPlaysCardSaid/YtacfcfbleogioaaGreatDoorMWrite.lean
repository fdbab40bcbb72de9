/-
  Write: a manifest takes the place of others. Conditions: the disk lies in blocks of the law's own; it is small; the slice leads to numbers beside it; the library's table of powers of ten is laid.
-/
import Derived.Test.YtacfcfbleogioaaGreatDoorMClos
import Derived.Test.YtacfcfbleogioaaGreatDoorMContA
import Derived.Test.YtacfcfbleogioaaGreatDoorMEnc
import Derived.Test.YtacfcfbleogioaaGreatDoorSErr
namespace Go.Proofs.YtacfcfbleogioaaGreatDoor
open Go.RowKit Go.Lib Go.Joins

/-- What Write and Clean leave: an error or none, and the disk. -/
def MSt (w0 w : World) (S : Nat → Prop) (B : Nat) (c g : Int) (d : Dsk) (e : Ending) (w' : World) : Prop :=
  ∃ ev, e = .returned ev ∧ ErrAt w.heap.size w' c g ev ∧ ∃ S', Live w0 w' S' B d ∧ Fresh S w.heap.size S' ∧ Keeps S w w' ∧ ∃ n0, ErrAt n0 w' c g ev ∧ ∀ k, S' k → k < n0
/-- What turns the disk's blocks leaves an error that is younger. -/
theorem ErrAt.off {n0 : Nat} {w w' : World} {S : Nat → Prop} {c n : Int} {v : Value} (h : ErrAt n0 w c n v) (hk : Keeps S w w') (hS : ∀ k, S k → k < n0) : ErrAt n0 w' c n v := by
  rcases h with h | ⟨h0, b, h1, h2, h3, h4⟩
  · exact .inl h
  · have hb : ¬ S b := fun e => by have := hS b e; omega
    exact .inr ⟨h0, b, h1, (World.cell?_of_block (a := ⟨b, 0, none⟩) (hk.block b (lt_of_cell h2) hb)).trans h2, (World.cell?_of_block (a := ⟨b, 1, none⟩) (hk.block b (lt_of_cell h3) hb)).trans h3, h4⟩
theorem vrow_of_own {w : World} {base e n : Nat} {v : Value} {l : List Value} (h : w.ownsRow base e 1 v n l) (hn : l.length = n) : ∃ a c, v = .slice a n c ∧ VRow w (fun k => v.ownBlock = some k) a l ∧ n ≤ c ∧ c ≤ maxLen := by
  rcases h.2 with ⟨h1, h0⟩ | ⟨g, cap, cur, h1, hg, hgb, hcap, hcm, hcur, htk⟩
  · exact ⟨none, 0, by rw [h1, h0], .inl (List.length_eq_zero_iff.1 (by omega)), by omega, Nat.zero_le _⟩
  · refine ⟨_, cap, h1, .inr ⟨g, 0, rfl, by rw [h1]; rfl, fun i x hx => ?_⟩, hcap, hcm⟩
    have := h.cells (g := g) (by rw [h1]; rfl) i x hx
    rwa [Addr.add_mid] at this
theorem among_fnd (n : ByteArray) : ∀ L : List Fil, among (L.map Fil.name) n = (fnd n L).isSome
  | [] => rfl
  | f :: L => by
    rw [List.map_cons, among_cons, among_fnd n L]
    unfold fnd
    rw [List.find?_cons]
    by_cases h : f.name = n
    · simp [h]
    · simp [h]
theorem OpAt.later {w0 : World} {O : Nat → Prop} {B : Nat} {wb wc : World} {v : Value} {o : Opn} (h : OpAt w0 O B wb v o) (hs : SameOn O wb wc) : OpAt w0 O B wc v o := by
  obtain ⟨g, lb, h1, h2, h3⟩ := h
  exact ⟨g, lb, h1, h2, fun W S d hl ho hsm hm => h3 W S d hl ho (fun k hk => (hsm k hk).trans (hs k hk)) hm⟩
theorem opsN_write (m : Mfs) : opsN (wopsT m) ≤ 280 := by
  have := encM_le m
  simp [opsN, wopsT]
  omega
theorem opsN_del (m : Mfs) : opsN (delO tmpB :: wopsT m) ≤ 280 := by
  rw [opsN_cons]
  have := opsN_write m
  show 0 + _ ≤ _
  omega
theorem ops_byts (m : Mfs) : ∀ o ∈ delO tmpB :: wopsT m, ∀ c ∈ o.b, c < 256 := by
  intro o ho
  rcases List.mem_cons.1 ho with rfl | ho
  · exact byts_nil
  · exact wopsT_byts m o ho
theorem at4 {a b c d x : Value} {p q r s y : Opn} {Q : Value → Opn → Prop} (h1 : Q a p) (h2 : Q b q) (h3 : Q c r) (h4 : Q d s) : ∀ (i : Nat), [a, b, c, d][i]? = some x → [p, q, r, s][i]? = some y → Q x y
  | 0, hx, hy => by
    obtain rfl : a = x := by simpa using hx
    obtain rfl : p = y := by simpa using hy
    exact h1
  | 1, hx, hy => by
    obtain rfl : b = x := by simpa using hx
    obtain rfl : q = y := by simpa using hy
    exact h2
  | 2, hx, hy => by
    obtain rfl : c = x := by simpa using hx
    obtain rfl : r = y := by simpa using hy
    exact h3
  | 3, hx, hy => by
    obtain rfl : d = x := by simpa using hx
    obtain rfl : s = y := by simpa using hy
    exact h4
  | i + 4, hx, _ => by simp at hx

set_option maxRecDepth 100000 in
set_option maxHeartbeats 16000000 in
theorem mwrite_calls {w0 w : World} {S Sm : Nat → Prop} {B : Nat} {d : Dsk} {M K : Nat} (g l : Int) (a : Option Addr) (segs : List Int) (n c : Nat) (h : Live w0 w S B d) (ht : Tab w0) (hr : IRow w Sm a segs) (hn : segs.length = n) (hm : n ≤ 1099511627776) (h0 : a = none → c = 0)
    (hfew : Few d M K) (hM : M + 280 ≤ 1073741824) (hK : K + 5 ≤ 1073741000) :
    Calls Tryz.prog 19 #[.pointer (some ⟨B, 0, none⟩), .agg #[.int .i64 g, .int .i64 l, .slice a n c]] w (MSt w0 w S B (wrM d ⟨g, l, segs⟩).1 g (wrM d ⟨g, l, segs⟩).2) := by
  obtain ⟨W2, hW2⟩ : ∃ W2, (w.alloc (.cells #[.pointer (some ⟨B, 0, none⟩)] 29)).alloc (.cells #[.int .i64 g, .int .i64 l, .slice a n c] 25) = W2 := ⟨_, rfl⟩
  have hb2 : Below w.heap.size w W2 := by rw [← hW2]; exact ((Below.refl _ _).alloc (Nat.le_refl _) _).alloc (by simp) _
  have hbd : W2.heap[w.heap.size]? = some (.cells #[.pointer (some ⟨B, 0, none⟩)] 29 (0, 0)) := by
    rw [← hW2]
    exact block_below ((Below.refl _ _).alloc (Nat.le_refl _) _) (heap_alloc_new w _)
  have hs1 : (w.alloc (.cells #[.pointer (some ⟨B, 0, none⟩)] 29)).heap.size = w.heap.size + 1 := by simp
  have hbm : W2.heap[w.heap.size + 1]? = some (.cells #[.int .i64 g, .int .i64 l, .slice a n c] 25 (0, 0)) := by
    rw [← hW2, ← hs1]
    exact heap_alloc_new _ _
  have hs2 : W2.heap.size = w.heap.size + 2 := by rw [← hW2]; simp
  have HENC := Lib.hid (mencode_calls g l a segs n c W2 (hr.below hb2) hn hm h0)
  have HW2 := Lib.hid hW2
  have HB2 := Lib.hid hb2
  have HBD2 := Lib.hid hbd
  have HBM2 := Lib.hid hbm
  have HS2 := Lib.hid hs2
  have HL := Lib.hid h
  have HTAB := Lib.hid ht
  have HFEW := Lib.hid hfew
  obtain ⟨m, hmm⟩ : ∃ m : Mfs, ⟨g, l, segs⟩ = m := ⟨_, rfl⟩
  have HG : Hid (m.gen = g) := Lib.hid (by rw [← hmm])
  rw [hmm] at HENC ⊢
  have m0 : W2.cell? ⟨w.heap.size + 1, 0, none⟩ = some (.int .i64 g) := (cell_of_block hbm 0).trans rfl
  obtain ⟨PST, hP⟩ : ∃ P, MSt w0 w S B (wrM d m).1 g (wrM d m).2 = P := ⟨_, rfl⟩
  have HPO : Hid (∀ c d', wrM d m = (c, d') → ∀ e W, MSt w0 w S B c g d' e W → PST e W) := Lib.hid (fun c d' hw e W hm => by rw [← hP, hw]; exact hm)
  rw [hP]
  clear hW2 hb2 hbd hbm hs1 hs2 h ht hr hn hfew hmm h0 hm hP
  go_enter Tryz.func19, Tryz.ntmps19
  go_wp2_with fail
  rw [HW2.out]
  with_reducible refine HENC.out.mono ?_
  rintro e w3 ⟨v3, rfl, hown3⟩
  obtain ⟨sa, sc, rfl, hrow3, h03, h13, h23⟩ := hown3.form
  obtain ⟨eb, heb⟩ : ∃ eb, (encM m).length = eb := ⟨_, rfl⟩
  rw [heb] at h13 hrow3 ⊢
  obtain ⟨W4, hW4⟩ : ∃ W4, w3.alloc (.cells #[.slice sa eb sc] 61) = W4 := ⟨_, rfl⟩
  have hb4 : Below w3.heap.size w3 W4 := by rw [← hW4]; exact (Below.refl _ _).alloc (Nat.le_refl _) _
  have hbb : W4.heap[w3.heap.size]? = some (.cells #[.slice sa eb sc] 61 (0, 0)) := by rw [← hW4]; exact heap_alloc_new w3 _
  have hs4 : W4.heap.size = w3.heap.size + 1 := by rw [← hW4]; simp
  have hb24 := below_then hown3.bel hb4
  have HBD := Lib.hid (block_below hb24 HBD2.out)
  have HBM := Lib.hid (block_below hb24 HBM2.out)
  have HBB := Lib.hid hbb
  have HB4 := Lib.hid (below_then HB2.out hb24)
  have HROW := Lib.hid (hrow3.below hb4)
  have HOB : Hid (∀ k, (Value.slice sa eb sc).ownBlock = some k → W2.heap.size ≤ k ∧ k < w3.heap.size) := Lib.hid (fun k e => ⟨hown3.new k (by rw [heb]; exact e), hown3.lt k (by rw [heb]; exact e)⟩)
  have HSZ : Hid (W2.heap.size ≤ w3.heap.size ∧ W4.heap.size = w3.heap.size + 1) := Lib.hid ⟨hown3.bel.size, hs4⟩
  have HEB := Lib.hid heb
  have HH := Lib.hid (And.intro h03 (And.intro h13 h23))
  have HW4 := Lib.hid hW4
  have HL4 := Lib.hid (HL.out.quiet HB4.out)
  have c4m : W4.cell? ⟨w.heap.size + 1, 0, none⟩ = some (.int .i64 g) := (cell_of_block HBM.out 0).trans rfl
  have c4d : W4.cell? ⟨w.heap.size, 0, none⟩ = some (.pointer (some ⟨B, 0, none⟩)) := (cell_of_block HBD.out 0).trans rfl
  have c4b : W4.cell? ⟨w3.heap.size, 0, none⟩ = some (.slice sa eb sc) := (cell_of_block HBB.out 0).trans rfl
  have x4m := c4m
  have x4d := c4d
  have x4b := c4b
  rw [← hW4] at x4m x4d x4b
  clear hown3 hrow3 h03 h13 h23 heb hW4 hb4 hbb hs4 hb24 HENC HW2 HB2 HBD2 HBM2 m0
  cases hmay : mayM m with
  | false =>
    have he0 : eb = 0 := by rw [← HEB.out, encM_not hmay]; rfl
    have HWR : Hid (wrM d m = (80, d)) := Lib.hid (if_pos hmay)
    have HFL := Lib.hid (fail_calls 80 g W4)
    subst he0
    clear hmay
    go_wp2_with fail
    rw [HW4.out]
    with_reducible refine HFL.out.mono ?_
    rintro e w5 ⟨ev, rfl, herr, hb5⟩
    have HF : Hid (PST (.returned ev) w5) := Lib.hid (HPO.out 80 d HWR.out _ _ ⟨ev, rfl, herr.low HB4.out.size, S, HL4.out.quiet hb5, fun k e => .inl e, (keeps_below HB4.out S).trans (keeps_below hb5 Non) (fresh_non _ _), _, herr, HL4.out.disk.2.1⟩)
    clear herr hb5
    go_wp2
    exact HF.out
  | true =>
    have hne : ((eb : Int) == 0) = false := by
      have h1 := encM_len hmay
      rw [HEB.out] at h1
      have : ¬ (eb : Int) = 0 := by omega
      simpa using this
    have hebM : eb ≤ 280 := by rw [← HEB.out]; exact encM_le m
    have HWR : Hid (wrM d m = runB d (if among (d.L.map Fil.name) tmpB then delO tmpB :: wopsT m else wopsT m)) := Lib.hid (by
      unfold wrM wopsB
      rw [if_neg (by rw [hmay]; decide), among_fnd])
    have HNAMES : Hid (Calls Tryz.prog 41 #[.pointer (some ⟨B, 0, none⟩)] W4 (NamesOut (d.L.map Fil.name) W4)) := Lib.hid (by
      obtain ⟨hi, _, F, T, cs, hd⟩ := HL4.out.disk
      exact names_calls W4 hd hi)
    have hmost : d.L.length ≤ 64 := HFEW.out.inv.most
    obtain ⟨NS, hNS⟩ : ∃ NS, d.L.map Fil.name = NS := ⟨_, rfl⟩
    have hnsl : NS.length ≤ 64 := by rw [← hNS, List.length_map]; exact hmost
    rw [hNS] at HNAMES HWR
    clear hmay hmost hNS
    go_wp2_with fail
    rw [HW4.out]
    with_reducible refine HNAMES.out.mono ?_
    rintro e w5 ⟨v5, rfl, hown5, hb5⟩
    obtain ⟨a5, c5, rfl, hvr5, _, _⟩ := vrow_of_own hown5 (List.length_map _)
    obtain ⟨nn, hnn⟩ : ∃ nn, NS.length = nn := ⟨_, rfl⟩
    rw [hnn] at hnsl hown5 ⊢
    have HCT : Hid (Calls Tryz.prog 53 #[.slice a5 nn c5, .string ⟨#[109, 97, 110, 46, 116, 109, 112]⟩] w5 (Stays (.bool (among NS tmpB)) w5)) := Lib.hid (scont_calls a5 NS tmpB nn c5 w5 hvr5 hnn (by omega))
    have HB5 := Lib.hid hb5
    clear hown5 hb5 hvr5 hnn HNAMES
    cases hth : among NS tmpB with
    | true =>
      rw [hth] at HCT
      have HWR2 : Hid (wrM d m = runB d (delO tmpB :: wopsT m)) := Lib.hid (by rw [HWR.out, hth, if_pos rfl])
      clear hth
      have hap6 := (OwnF.nil w5).append [.func (.func 54) #[] #[.pointer (some ⟨w.heap.size, 0, none⟩)]] rfl (fun u hu => by rw [List.mem_singleton.1 hu]; rfl) (by simp)
      obtain ⟨v6, w6, hrun6, hown6⟩ := hap6
      obtain ⟨a6, c6, hv6, hvr6, _, _⟩ := hown6.form
      have hv6' : v6 = .slice a6 1 c6 := hv6
      clear hv6
      subst hv6'
      have HRUN6 := Lib.hid hrun6
      clear hrun6
      go_wp2_with fail
      with_reducible refine HCT.out.mono ?_
      rintro e w5x ⟨rfl, hw5⟩
      obtain rfl : w5 = w5x := by first | exact hw5 | exact hw5.symm
      have hap7 := hown6.append [.func (.func 56) #[] #[.pointer (some ⟨w.heap.size, 0, none⟩)], .func (.func 58) #[] #[.pointer (some ⟨w.heap.size, 0, none⟩), .pointer (some ⟨w3.heap.size, 0, none⟩)], .func (.func 60) #[] #[.pointer (some ⟨w.heap.size, 0, none⟩)], .func (.func 62) #[] #[.pointer (some ⟨w.heap.size, 0, none⟩), .pointer (some ⟨w.heap.size + 1, 0, none⟩)]] (m := 4) rfl (fun u hu => by simp only [List.mem_cons, List.not_mem_nil, or_false] at hu; rcases hu with rfl | rfl | rfl | rfl <;> rfl) (by simp)
      obtain ⟨v7, w7, hrun7, hown7⟩ := hap7
      obtain ⟨a7, c7, hv7, hvr7, _, _⟩ := hown7.form
      have hv7' : v7 = .slice a7 5 c7 := hv7
      clear hv7
      subst hv7'
      have HRUN7 := Lib.hid hrun7
      have hb57 : Below w5.heap.size w5 w7 := hown7.bel
      have hb47 := below_then HB5.out hb57
      obtain ⟨O, hOd⟩ : ∃ O : Nat → Prop, O = fun k => k = w.heap.size ∨ k = w.heap.size + 1 ∨ k = w3.heap.size ∨ (Value.slice sa eb sc).ownBlock = some k ∨ (Value.slice a7 5 c7).ownBlock = some k := ⟨_, rfl⟩
      have hb07 := below_then HB4.out hb47
      have hoff : Off S w7 O := by
        intro k hk
        have e1 := HSZ.out
        have e2 := hb47.size
        have e3 := HS2.out
        have e4 := HB5.out.size
        rw [hOd] at hk
        have hge : w.heap.size ≤ k ∧ k < w7.heap.size := by
          rcases hk with rfl | rfl | rfl | hk | hk
          · omega
          · omega
          · omega
          · have := HOB.out k hk; omega
          · have := hown7.new k hk; have := hown7.lt k hk; omega
        exact ⟨hge.2, fun hs => by have := HL.out.disk.2.1 k hs; omega⟩
      have hl7 : Live w0 w7 S B d := HL.out.quiet hb07
      have k7d : w7.cell? ⟨w.heap.size, 0, none⟩ = some (.pointer (some ⟨B, 0, none⟩)) := (cell_of_block (block_below hb47 HBD.out) 0).trans rfl
      have k7m : w7.cell? ⟨w.heap.size + 1, 0, none⟩ = some (.int .i64 g) := (cell_of_block (block_below hb47 HBM.out) 0).trans rfl
      have k7b : w7.cell? ⟨w3.heap.size, 0, none⟩ = some (.slice sa eb sc) := (cell_of_block (block_below hb47 HBB.out) 0).trans rfl
      have hO1 : O w.heap.size := by rw [hOd]; exact .inl rfl
      have hO2 : O (w.heap.size + 1) := by rw [hOd]; exact .inr (.inl rfl)
      have hO3 : O w3.heap.size := by rw [hOd]; exact .inr (.inr (.inl rfl))
      have hO4 : ∀ k, (Value.slice sa eb sc).ownBlock = some k → O k := fun k e => by rw [hOd]; exact .inr (.inr (.inr (.inl e)))
      have hvO : VRow w7 O a7 ([.func (.func 54) #[] #[.pointer (some ⟨w.heap.size, 0, none⟩)]] ++ [.func (.func 56) #[] #[.pointer (some ⟨w.heap.size, 0, none⟩)], .func (.func 58) #[] #[.pointer (some ⟨w.heap.size, 0, none⟩), .pointer (some ⟨w3.heap.size, 0, none⟩)], .func (.func 60) #[] #[.pointer (some ⟨w.heap.size, 0, none⟩)], .func (.func 62) #[] #[.pointer (some ⟨w.heap.size, 0, none⟩), .pointer (some ⟨w.heap.size + 1, 0, none⟩)]]) := hvr7.mono (fun k e => by rw [hOd]; exact .inr (.inr (.inr (.inr e))))
      have q1 : OpAt w0 O B w7 (.func (.func 56) #[] #[.pointer (some ⟨w.heap.size, 0, none⟩)]) ⟨1, tmpB, noS, 0, []⟩ := cl_create hO1 k7d
      have q2 : OpAt w0 O B w7 (.func (.func 58) #[] #[.pointer (some ⟨w.heap.size, 0, none⟩), .pointer (some ⟨w3.heap.size, 0, none⟩)]) ⟨2, tmpB, noS, 0, encM m⟩ := cl_append (HROW.out.below hb47) (fun k e => hO4 k e) HEB.out HH.out.1 HH.out.2.1 HH.out.2.2 (by omega) hO3 hO1 k7d k7b
      have q3 : OpAt w0 O B w7 (.func (.func 60) #[] #[.pointer (some ⟨w.heap.size, 0, none⟩)]) ⟨4, tmpB, noS, 0, []⟩ := cl_sync hO1 k7d
      have q4 : OpAt w0 O B w7 (.func (.func 62) #[] #[.pointer (some ⟨w.heap.size, 0, none⟩), .pointer (some ⟨w.heap.size + 1, 0, none⟩)]) ⟨5, tmpB, mnameB m.gen, 0, []⟩ := by rw [HG.out]; exact cl_rename HTAB.out hO1 hO2 k7d k7m
      have q0 : OpAt w0 O B w7 (.func (.func 54) #[] #[.pointer (some ⟨w.heap.size, 0, none⟩)]) (delO tmpB) := cl_del hO1 k7d
      have hall : ∀ (i : Nat) (f : Value) (o : Opn), (([.func (.func 54) #[] #[.pointer (some ⟨w.heap.size, 0, none⟩)]] ++ [.func (.func 56) #[] #[.pointer (some ⟨w.heap.size, 0, none⟩)], .func (.func 58) #[] #[.pointer (some ⟨w.heap.size, 0, none⟩), .pointer (some ⟨w3.heap.size, 0, none⟩)], .func (.func 60) #[] #[.pointer (some ⟨w.heap.size, 0, none⟩)], .func (.func 62) #[] #[.pointer (some ⟨w.heap.size, 0, none⟩), .pointer (some ⟨w.heap.size + 1, 0, none⟩)]]))[i]? = some f → (delO tmpB :: wopsT m)[i]? = some o → OpAt w0 O B w7 f o := by
        intro i f o hf ho
        cases i with
        | zero =>
          obtain rfl : _ = f := by simpa using hf
          obtain rfl : delO tmpB = o := by simpa using ho
          exact q0
        | succ i => exact at4 q1 q2 q3 q4 i (by simpa using hf) (by simpa [wopsT] using ho)
      have HDO : Hid (∀ X, Below w7.heap.size w7 X → Calls Tryz.prog 64 #[.slice a7 5 c7] X (Does w7 S B (.int .i64 (runB d (delO tmpB :: wopsT m)).1) (runB d (delO tmpB :: wopsT m)).2)) := Lib.hid (fun X hbx =>
        Calls.after (mdo_calls a7 ([.func (.func 54) #[] #[.pointer (some ⟨w.heap.size, 0, none⟩)]] ++ [.func (.func 56) #[] #[.pointer (some ⟨w.heap.size, 0, none⟩)], .func (.func 58) #[] #[.pointer (some ⟨w.heap.size, 0, none⟩), .pointer (some ⟨w3.heap.size, 0, none⟩)], .func (.func 60) #[] #[.pointer (some ⟨w.heap.size, 0, none⟩)], .func (.func 62) #[] #[.pointer (some ⟨w.heap.size, 0, none⟩), .pointer (some ⟨w.heap.size + 1, 0, none⟩)]]) (delO tmpB :: wopsT m) 5 c7 (hl7.quiet hbx) (hoff.below hbx) (hvO.below hbx) rfl rfl (fun i f o hf ho => (hall i f o hf ho).later (fun k hk => hbx.block k (hoff k hk).1)) HFEW.out (ops_byts m) (by have := opsN_del m; omega) (by omega)) (keeps_below hbx S))
      have HSC : Hid (∀ X, Keeps S w7 X → X.cell? ⟨w.heap.size + 1, 0, none⟩ = some (.int .i64 g)) := Lib.hid (fun X hk => (World.cell?_of_block (a := ⟨w.heap.size + 1, 0, none⟩) (hk.block _ (hoff _ hO2).1 (hoff _ hO2).2)).trans k7m)
      have HB0 : Hid (Below w7.heap.size w7 w7.drew) := Lib.hid (below_drewN w7 1)
      have HL7 := Lib.hid hl7
      have HB07 := Lib.hid hb07
      obtain ⟨q, hq⟩ : ∃ q, runB d (delO tmpB :: wopsT m) = q := ⟨_, rfl⟩
      rw [hq] at HDO HWR2
      obtain ⟨ec, d9⟩ := q
      dsimp only at HDO
      have HFL := Lib.hid (fun X => fail_calls ec g X)
      have k7m' : w7.cell? ⟨w.heap.size + 1, 0, none⟩ = some (.int .i64 g) := k7m
      clear hrun7 hown7 hb57 hb47 hb07 hoff hl7 k7d k7b hO1 hO2 hO3 hO4 hvO q1 q2 q3 q4 hall hOd hvr7 hq k7m q0 hown6 hvr6
      go_wp2_with (at_builtin; first | refine wpList_step (fun K hK => step_app HRUN6.out (.tmp 18) (.tmp 20) rfl rfl rfl rfl (hK _ _ ?_)) | refine wpList_step (fun K hK => step_app HRUN7.out (.tmp 22) (.tmp 27) rfl rfl rfl rfl (hK _ _ ?_)))
      clear HRUN6 HRUN7 c4m c4d c4b x4m x4d x4b
      go_wp2
      refine wp_region_held_drew (S := fun W => W.cell? ⟨w.heap.size + 1, 0, none⟩ = some (.int .i64 g)) (by kernel_rfl) (HSC.out _ (keeps_below HB0.out S)) (fun hHeld => ?_)
      refine wpAnyH_take (i := 0) (v := ?_) rfl (by kernel_rfl) (by kernel_rfl) (by kernel_rfl) (fun _ _ _ h => h) (Or.inl ⟨by rfl, ?_⟩) (by assumption) ?_
      rotate_left
      · intro W hS
        try dsimp only at hS
        go_simp
        try with_reducible rfl
      simp only [List.getElem_toArray, List.getElem_cons_zero, Act.put, List.setIfInBounds_toArray, List.set_cons_zero, List.set_cons_succ]
      refine wpAnyH_take (i := 2) (v := ?_) rfl (by kernel_rfl) (by kernel_rfl) (by kernel_rfl) (fun _ _ _ h => h) (Or.inl ⟨by rfl, ?_⟩) (by assumption) ?_
      rotate_left
      · intro W hS
        try dsimp only at hS
        go_simp
        try with_reducible rfl
      simp only [List.getElem_toArray, List.getElem_cons_succ, List.getElem_cons_zero, Act.put, List.setIfInBounds_toArray, List.set_cons_zero, List.set_cons_succ]
      refine wpAnyH_take (i := 3) (v := ?_) rfl (by kernel_rfl) (by kernel_rfl) (by kernel_rfl) (fun _ _ _ h => h) (Or.inl ⟨by rfl, ?_⟩) (by assumption) ?_
      rotate_left
      · intro W hS
        try dsimp only at hS
        go_simp
        try with_reducible rfl
      simp only [List.getElem_toArray, List.getElem_cons_succ, List.getElem_cons_zero, Act.put, List.setIfInBounds_toArray, List.set_cons_zero, List.set_cons_succ]
      refine wpAnyH_ready (rs := [1]) (by kernel_rfl) (by simp) ?_
      refine AllReadyH.cons rfl (fun K hK => ?_) AllReadyH.nil
      go_simp
      with_reducible refine (HDO.out _ HB0.out).mono ?_
      rintro e w8 ⟨rfl, ht8⟩
      obtain ⟨S8, hl8, hf8, hk8⟩ := HL7.out.turns ht8
      have HK8 := Lib.hid hk8
      have HL8 := Lib.hid hl8
      have HF8 := Lib.hid hf8
      clear ht8 hl8 hf8 hk8
      refine hK.out _ _ (HSC.out _ HK8.out) (fun hHeld => ?_)
      clear hK K
      try simp only [List.getElem_toArray, List.getElem_cons_succ, List.getElem_cons_zero, Act.put, List.setIfInBounds_toArray, List.set_cons_zero, List.set_cons_succ]
      refine wpAnyH_ready (rs := [4]) (by kernel_rfl) (by simp) ?_
      refine AllReadyH.cons rfl (fun K hK => ?_) AllReadyH.nil
      go_simp
      with_reducible refine (HFL.out w8).mono ?_
      rintro e w9 ⟨ev, rfl, herr, hb9⟩
      have HKA : Hid (Keeps S w w8) := Lib.hid ((keeps_below HB07.out S).trans HK8.out (fun k e => .inl e))
      have HF : Hid (PST (.returned ev) w9) := Lib.hid (HPO.out ec d9 HWR2.out _ _ ⟨ev, rfl, herr.low HKA.out.size, S8, HL8.out.quiet hb9, fun k e => by
        rcases HF8.out k e with e | e
        · exact .inl e
        · exact .inr (Nat.le_trans HB07.out.size e), HKA.out.trans (keeps_below hb9 Non) (fresh_non _ _), _, herr, HL8.out.disk.2.1⟩)
      have HB9 := Lib.hid hb9
      clear herr hb9
      refine hK.out _ _ (HSC.out _ (HK8.out.trans (keeps_below HB9.out Non) (fresh_non _ _))) (fun hHeld => ?_)
      clear hK K
      try simp only [List.getElem_toArray, List.getElem_cons_succ, List.getElem_cons_zero, Act.put, List.setIfInBounds_toArray, List.set_cons_zero, List.set_cons_succ]
      refine wpAnyH_take (i := 5) (v := ?_) rfl (by kernel_rfl) (by kernel_rfl) (by kernel_rfl) (fun _ _ _ h => h) (Or.inl ⟨by rfl, ?_⟩) (by assumption) ?_
      rotate_left
      · intro W hS
        try dsimp only at hS
        go_simp
        try with_reducible rfl
      simp only [List.getElem_toArray, List.getElem_cons_succ, List.getElem_cons_zero, Act.put, List.setIfInBounds_toArray, List.set_cons_zero, List.set_cons_succ]
      refine wpAnyH_done (by kernel_rfl) ?_ _
      go_wp2
      exact HF.out
    | false =>
      rw [hth] at HCT
      have HWR2 : Hid (wrM d m = runB d (wopsT m)) := Lib.hid (by rw [HWR.out, hth, if_neg (by decide)])
      clear hth
      go_wp2_with fail
      with_reducible refine HCT.out.mono ?_
      rintro e w5x ⟨rfl, hw5⟩
      obtain rfl : w5 = w5x := by first | exact hw5 | exact hw5.symm
      have hap7 := (OwnF.nil w5).append [.func (.func 56) #[] #[.pointer (some ⟨w.heap.size, 0, none⟩)], .func (.func 58) #[] #[.pointer (some ⟨w.heap.size, 0, none⟩), .pointer (some ⟨w3.heap.size, 0, none⟩)], .func (.func 60) #[] #[.pointer (some ⟨w.heap.size, 0, none⟩)], .func (.func 62) #[] #[.pointer (some ⟨w.heap.size, 0, none⟩), .pointer (some ⟨w.heap.size + 1, 0, none⟩)]] (m := 4) rfl (fun u hu => by simp only [List.mem_cons, List.not_mem_nil, or_false] at hu; rcases hu with rfl | rfl | rfl | rfl <;> rfl) (by simp)
      obtain ⟨v7, w7, hrun7, hown7⟩ := hap7
      obtain ⟨a7, c7, hv7, hvr7, _, _⟩ := hown7.form
      have hv7' : v7 = .slice a7 4 c7 := hv7
      clear hv7
      subst hv7'
      have HRUN7 := Lib.hid hrun7
      have hb57 : Below w5.heap.size w5 w7 := hown7.bel
      have hb47 := below_then HB5.out hb57
      obtain ⟨O, hOd⟩ : ∃ O : Nat → Prop, O = fun k => k = w.heap.size ∨ k = w.heap.size + 1 ∨ k = w3.heap.size ∨ (Value.slice sa eb sc).ownBlock = some k ∨ (Value.slice a7 4 c7).ownBlock = some k := ⟨_, rfl⟩
      have hb07 := below_then HB4.out hb47
      have hoff : Off S w7 O := by
        intro k hk
        have e1 := HSZ.out
        have e2 := hb47.size
        have e3 := HS2.out
        have e4 := HB5.out.size
        rw [hOd] at hk
        have hge : w.heap.size ≤ k ∧ k < w7.heap.size := by
          rcases hk with rfl | rfl | rfl | hk | hk
          · omega
          · omega
          · omega
          · have := HOB.out k hk; omega
          · have := hown7.new k hk; have := hown7.lt k hk; omega
        exact ⟨hge.2, fun hs => by have := HL.out.disk.2.1 k hs; omega⟩
      have hl7 : Live w0 w7 S B d := HL.out.quiet hb07
      have k7d : w7.cell? ⟨w.heap.size, 0, none⟩ = some (.pointer (some ⟨B, 0, none⟩)) := (cell_of_block (block_below hb47 HBD.out) 0).trans rfl
      have k7m : w7.cell? ⟨w.heap.size + 1, 0, none⟩ = some (.int .i64 g) := (cell_of_block (block_below hb47 HBM.out) 0).trans rfl
      have k7b : w7.cell? ⟨w3.heap.size, 0, none⟩ = some (.slice sa eb sc) := (cell_of_block (block_below hb47 HBB.out) 0).trans rfl
      have hO1 : O w.heap.size := by rw [hOd]; exact .inl rfl
      have hO2 : O (w.heap.size + 1) := by rw [hOd]; exact .inr (.inl rfl)
      have hO3 : O w3.heap.size := by rw [hOd]; exact .inr (.inr (.inl rfl))
      have hO4 : ∀ k, (Value.slice sa eb sc).ownBlock = some k → O k := fun k e => by rw [hOd]; exact .inr (.inr (.inr (.inl e)))
      have hvO : VRow w7 O a7 ([] ++ [.func (.func 56) #[] #[.pointer (some ⟨w.heap.size, 0, none⟩)], .func (.func 58) #[] #[.pointer (some ⟨w.heap.size, 0, none⟩), .pointer (some ⟨w3.heap.size, 0, none⟩)], .func (.func 60) #[] #[.pointer (some ⟨w.heap.size, 0, none⟩)], .func (.func 62) #[] #[.pointer (some ⟨w.heap.size, 0, none⟩), .pointer (some ⟨w.heap.size + 1, 0, none⟩)]]) := hvr7.mono (fun k e => by rw [hOd]; exact .inr (.inr (.inr (.inr e))))
      have q1 : OpAt w0 O B w7 (.func (.func 56) #[] #[.pointer (some ⟨w.heap.size, 0, none⟩)]) ⟨1, tmpB, noS, 0, []⟩ := cl_create hO1 k7d
      have q2 : OpAt w0 O B w7 (.func (.func 58) #[] #[.pointer (some ⟨w.heap.size, 0, none⟩), .pointer (some ⟨w3.heap.size, 0, none⟩)]) ⟨2, tmpB, noS, 0, encM m⟩ := cl_append (HROW.out.below hb47) (fun k e => hO4 k e) HEB.out HH.out.1 HH.out.2.1 HH.out.2.2 (by omega) hO3 hO1 k7d k7b
      have q3 : OpAt w0 O B w7 (.func (.func 60) #[] #[.pointer (some ⟨w.heap.size, 0, none⟩)]) ⟨4, tmpB, noS, 0, []⟩ := cl_sync hO1 k7d
      have q4 : OpAt w0 O B w7 (.func (.func 62) #[] #[.pointer (some ⟨w.heap.size, 0, none⟩), .pointer (some ⟨w.heap.size + 1, 0, none⟩)]) ⟨5, tmpB, mnameB m.gen, 0, []⟩ := by rw [HG.out]; exact cl_rename HTAB.out hO1 hO2 k7d k7m
      have hall : ∀ (i : Nat) (f : Value) (o : Opn), (([] ++ [.func (.func 56) #[] #[.pointer (some ⟨w.heap.size, 0, none⟩)], .func (.func 58) #[] #[.pointer (some ⟨w.heap.size, 0, none⟩), .pointer (some ⟨w3.heap.size, 0, none⟩)], .func (.func 60) #[] #[.pointer (some ⟨w.heap.size, 0, none⟩)], .func (.func 62) #[] #[.pointer (some ⟨w.heap.size, 0, none⟩), .pointer (some ⟨w.heap.size + 1, 0, none⟩)]]))[i]? = some f → (wopsT m)[i]? = some o → OpAt w0 O B w7 f o := fun i f o hf ho => at4 q1 q2 q3 q4 i (by simpa using hf) ho
      have HDO : Hid (∀ X, Below w7.heap.size w7 X → Calls Tryz.prog 64 #[.slice a7 4 c7] X (Does w7 S B (.int .i64 (runB d (wopsT m)).1) (runB d (wopsT m)).2)) := Lib.hid (fun X hbx =>
        Calls.after (mdo_calls a7 ([] ++ [.func (.func 56) #[] #[.pointer (some ⟨w.heap.size, 0, none⟩)], .func (.func 58) #[] #[.pointer (some ⟨w.heap.size, 0, none⟩), .pointer (some ⟨w3.heap.size, 0, none⟩)], .func (.func 60) #[] #[.pointer (some ⟨w.heap.size, 0, none⟩)], .func (.func 62) #[] #[.pointer (some ⟨w.heap.size, 0, none⟩), .pointer (some ⟨w.heap.size + 1, 0, none⟩)]]) (wopsT m) 4 c7 (hl7.quiet hbx) (hoff.below hbx) (hvO.below hbx) rfl rfl (fun i f o hf ho => (hall i f o hf ho).later (fun k hk => hbx.block k (hoff k hk).1)) HFEW.out (wopsT_byts m) (by have := opsN_write m; omega) (by omega)) (keeps_below hbx S))
      have HSC : Hid (∀ X, Keeps S w7 X → X.cell? ⟨w.heap.size + 1, 0, none⟩ = some (.int .i64 g)) := Lib.hid (fun X hk => (World.cell?_of_block (a := ⟨w.heap.size + 1, 0, none⟩) (hk.block _ (hoff _ hO2).1 (hoff _ hO2).2)).trans k7m)
      have HB0 : Hid (Below w7.heap.size w7 w7.drew) := Lib.hid (below_drewN w7 1)
      have HL7 := Lib.hid hl7
      have HB07 := Lib.hid hb07
      obtain ⟨q, hq⟩ : ∃ q, runB d (wopsT m) = q := ⟨_, rfl⟩
      rw [hq] at HDO HWR2
      obtain ⟨ec, d9⟩ := q
      dsimp only at HDO
      have HFL := Lib.hid (fun X => fail_calls ec g X)
      have k7m' : w7.cell? ⟨w.heap.size + 1, 0, none⟩ = some (.int .i64 g) := k7m
      clear hrun7 hown7 hb57 hb47 hb07 hoff hl7 k7d k7b hO1 hO2 hO3 hO4 hvO q1 q2 q3 q4 hall hOd hvr7 hq k7m
      go_wp2_with (at_builtin; refine wpList_step (fun K hK => step_app HRUN7.out (.tmp 22) (.tmp 27) rfl rfl rfl rfl (hK _ _ ?_)))
      clear HRUN7 c4m c4d c4b x4m x4d x4b
      go_wp2
      refine wp_region_held_drew (S := fun W => W.cell? ⟨w.heap.size + 1, 0, none⟩ = some (.int .i64 g)) (by kernel_rfl) (HSC.out _ (keeps_below HB0.out S)) (fun hHeld => ?_)
      refine wpAnyH_take (i := 0) (v := ?_) rfl (by kernel_rfl) (by kernel_rfl) (by kernel_rfl) (fun _ _ _ h => h) (Or.inl ⟨by rfl, ?_⟩) (by assumption) ?_
      rotate_left
      · intro W hS
        try dsimp only at hS
        go_simp
        try with_reducible rfl
      simp only [List.getElem_toArray, List.getElem_cons_zero, Act.put, List.setIfInBounds_toArray, List.set_cons_zero, List.set_cons_succ]
      refine wpAnyH_take (i := 2) (v := ?_) rfl (by kernel_rfl) (by kernel_rfl) (by kernel_rfl) (fun _ _ _ h => h) (Or.inl ⟨by rfl, ?_⟩) (by assumption) ?_
      rotate_left
      · intro W hS
        try dsimp only at hS
        go_simp
        try with_reducible rfl
      simp only [List.getElem_toArray, List.getElem_cons_succ, List.getElem_cons_zero, Act.put, List.setIfInBounds_toArray, List.set_cons_zero, List.set_cons_succ]
      refine wpAnyH_take (i := 3) (v := ?_) rfl (by kernel_rfl) (by kernel_rfl) (by kernel_rfl) (fun _ _ _ h => h) (Or.inl ⟨by rfl, ?_⟩) (by assumption) ?_
      rotate_left
      · intro W hS
        try dsimp only at hS
        go_simp
        try with_reducible rfl
      simp only [List.getElem_toArray, List.getElem_cons_succ, List.getElem_cons_zero, Act.put, List.setIfInBounds_toArray, List.set_cons_zero, List.set_cons_succ]
      refine wpAnyH_ready (rs := [1]) (by kernel_rfl) (by simp) ?_
      refine AllReadyH.cons rfl (fun K hK => ?_) AllReadyH.nil
      go_simp
      with_reducible refine (HDO.out _ HB0.out).mono ?_
      rintro e w8 ⟨rfl, ht8⟩
      obtain ⟨S8, hl8, hf8, hk8⟩ := HL7.out.turns ht8
      have HK8 := Lib.hid hk8
      have HL8 := Lib.hid hl8
      have HF8 := Lib.hid hf8
      clear ht8 hl8 hf8 hk8
      refine hK.out _ _ (HSC.out _ HK8.out) (fun hHeld => ?_)
      clear hK K
      try simp only [List.getElem_toArray, List.getElem_cons_succ, List.getElem_cons_zero, Act.put, List.setIfInBounds_toArray, List.set_cons_zero, List.set_cons_succ]
      refine wpAnyH_ready (rs := [4]) (by kernel_rfl) (by simp) ?_
      refine AllReadyH.cons rfl (fun K hK => ?_) AllReadyH.nil
      go_simp
      with_reducible refine (HFL.out w8).mono ?_
      rintro e w9 ⟨ev, rfl, herr, hb9⟩
      have HKA : Hid (Keeps S w w8) := Lib.hid ((keeps_below HB07.out S).trans HK8.out (fun k e => .inl e))
      have HF : Hid (PST (.returned ev) w9) := Lib.hid (HPO.out ec d9 HWR2.out _ _ ⟨ev, rfl, herr.low HKA.out.size, S8, HL8.out.quiet hb9, fun k e => by
        rcases HF8.out k e with e | e
        · exact .inl e
        · exact .inr (Nat.le_trans HB07.out.size e), HKA.out.trans (keeps_below hb9 Non) (fresh_non _ _), _, herr, HL8.out.disk.2.1⟩)
      have HB9 := Lib.hid hb9
      clear herr hb9
      refine hK.out _ _ (HSC.out _ (HK8.out.trans (keeps_below HB9.out Non) (fresh_non _ _))) (fun hHeld => ?_)
      clear hK K
      try simp only [List.getElem_toArray, List.getElem_cons_succ, List.getElem_cons_zero, Act.put, List.setIfInBounds_toArray, List.set_cons_zero, List.set_cons_succ]
      refine wpAnyH_take (i := 5) (v := ?_) rfl (by kernel_rfl) (by kernel_rfl) (by kernel_rfl) (fun _ _ _ h => h) (Or.inl ⟨by rfl, ?_⟩) (by assumption) ?_
      rotate_left
      · intro W hS
        try dsimp only at hS
        go_simp
        try with_reducible rfl
      simp only [List.getElem_toArray, List.getElem_cons_succ, List.getElem_cons_zero, Act.put, List.setIfInBounds_toArray, List.set_cons_zero, List.set_cons_succ]
      refine wpAnyH_done (by kernel_rfl) ?_ _
      go_wp2
      exact HF.out

end Go.Proofs.YtacfcfbleogioaaGreatDoor
