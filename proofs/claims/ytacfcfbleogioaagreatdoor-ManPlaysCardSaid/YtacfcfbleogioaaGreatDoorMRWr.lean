/-
  The reference's Write. Conditions: the disk lies in memory; it is small; the slice leads to numbers beside it.
-/
import Derived.Test.YtacfcfbleogioaaGreatDoorMRName
import Derived.Test.YtacfcfbleogioaaGreatDoorMREnc
import Derived.Test.YtacfcfbleogioaaGreatDoorRLoadA
import Derived.Deep.DeepCutAuto
namespace Go.Proofs.YtacfcfbleogioaaGreatDoor
open Go.RowKit Go.Lib Go.Joins

theorem few_sml8 {d : Dsk} {m k : Nat} (h : Few d m k) (hm : m ≤ 1073741824) (hk : k ≤ 1073741823) : Sml d := ⟨Nat.le_trans h.used hm, h.ops0, by have := h.ops1; omega⟩
theorem tr_step8 (d : Dsk) (o : Opn) : (Go.Proofs.YtacfcfbleogioaaGreatDoor.step d o).2.tr = d.tr := (step_room d o).2.1
/-- An operation without bytes. -/
theorem rdo_plain {w : World} {S : Nat → Prop} {B : Nat} {d : Dsk} {M K : Nat} (k : Nat) (hk : 1 ≤ k ∧ k ≤ 6) (s t : ByteArray) (hd : RefD w S B d) (hfew : Few d M K) (hM : M ≤ 1073741824) (hK : K ≤ 1073741823) (htr : d.tr.length ≤ 1000) (hs : s.size ≤ 1099511627776) (ht : t.size ≤ 1099511627776) :
    Calls Tryz.prog 66 #[.pointer (some ⟨B, 0, none⟩), .int .i64 (k : Int), .string s, .string t, .int .i64 0, .slice none 0 0] w (RDoes w S B (.int .i64 (Go.Proofs.YtacfcfbleogioaaGreatDoor.step d ⟨k, s, t, 0, []⟩).1) (Go.Proofs.YtacfcfbleogioaaGreatDoor.step d ⟨k, s, t, 0, []⟩).2) :=
  rdo_calls (O := Non) s t 0 none [] 0 0 w hk ⟨hd, few_sml8 hfew hM hK, hs, ht, ⟨fun c hc => by simp at hc, .inl rfl⟩, fun k e => e.elim, fun _ => rfl, rfl, Nat.le_refl _, Nat.zero_le _, Nat.zero_le _, by omega⟩

/-- The reference's disk on the way of a call that turns it; beside it the manifest's box and its numbers. -/
structure RW (w w' : World) (S S' : Nat → Prop) (B F : Nat) (d' : Dsk) (C : Obj) (Sm : Nat → Prop) (a : Option Addr) (segs : List Int) : Prop where
  ref : RefD w' S' B d'
  fr : Fresh S w.heap.size S'
  kp : Keeps S w w'
  box : w'.heap[F]? = some C
  nF : ¬ S' F
  row : IRow w' Sm a segs
  off : ∀ k, Sm k → ¬ S' k ∧ k < w'.heap.size
theorem RW.quiet {w w' w'' : World} {S S' : Nat → Prop} {B F : Nat} {d' : Dsk} {C : Obj} {Sm : Nat → Prop} {a : Option Addr} {segs : List Int} (h : RW w w' S S' B F d' C Sm a segs) (hb : Below w'.heap.size w' w'') : RW w w'' S S' B F d' C Sm a segs :=
  ⟨h.ref.below hb, h.fr, h.kp.trans (keeps_below hb Non) (fresh_non _ _), block_below hb h.box, h.nF, h.row.below hb, fun k hk => ⟨(h.off k hk).1, Nat.lt_of_lt_of_le (h.off k hk).2 hb.size⟩⟩
theorem RW.turn2 {w w' w'' : World} {S S' : Nat → Prop} {B F : Nat} {d' d'' : Dsk} {C : Obj} {Sm : Nat → Prop} {a : Option Addr} {segs : List Int} (h : RW w w' S S' B F d' C Sm a segs) (ht : RTurns w' S' B d'' w'') : ∃ S'', RW w w'' S S'' B F d'' C Sm a segs ∧ Fresh S' w'.heap.size S'' ∧ Keeps S' w' w'' := by
  obtain ⟨S'', h1, h2, h3⟩ := ht
  refine ⟨S'', ⟨h1, fresh_trans h.fr h2 h.kp.size, h.kp.trans h3 h.fr, block_keep h.box h3 h.nF, fun e => ?_, h.row.keep h3 (fun k hk => (h.off k hk).1), fun k hk => ⟨fun e => ?_, Nat.lt_of_lt_of_le (h.off k hk).2 h3.size⟩⟩, h2, h3⟩
  · rcases h2 F e with h4 | h4
    · exact h.nF h4
    · have := lt_of_block h.box; omega
  · rcases h2 k e with h4 | h4
    · exact (h.off k hk).1 h4
    · have := (h.off k hk).2; omega
theorem RW.turn {w w' w'' : World} {S S' : Nat → Prop} {B F : Nat} {d' d'' : Dsk} {C : Obj} {Sm : Nat → Prop} {a : Option Addr} {segs : List Int} (h : RW w w' S S' B F d' C Sm a segs) (ht : RTurns w' S' B d'' w'') : ∃ S'', RW w w'' S S'' B F d'' C Sm a segs := by
  obtain ⟨S'', h1, _⟩ := h.turn2 ht
  exact ⟨S'', h1⟩
theorem RW.turns {w w' : World} {S S' : Nat → Prop} {B F : Nat} {d' : Dsk} {C : Obj} {Sm : Nat → Prop} {a : Option Addr} {segs : List Int} (h : RW w w' S S' B F d' C Sm a segs) : RTurns w S B d' w' := ⟨S', h.ref, h.fr, h.kp⟩
theorem RW.start {w W : World} {S : Nat → Prop} {B : Nat} {d : Dsk} {C : Obj} {Sm : Nat → Prop} {a : Option Addr} {segs : List Int} (hd : RefD w S B d) (hr : IRow w Sm a segs) (hoff : ∀ k, Sm k → ¬ S k ∧ k < w.heap.size) (hb : Below w.heap.size w W) (hc : W.heap[w.heap.size]? = some C) : RW w W S S B w.heap.size d C Sm a segs :=
  ⟨hd.below hb, fresh_refl _ _, keeps_below hb _, hc, fun e => by have := hd.2.1 _ e; omega, hr.below hb, fun k hk => ⟨(hoff k hk).1, Nat.lt_of_lt_of_le (hoff k hk).2 hb.size⟩⟩

/-- How far the operations have come: what is left, or the code of the one that failed. -/
def Mid8 (d : Dsk) (ops rest : List Opn) (c : Int) (d' : Dsk) : Prop := runB d ops = if c = 0 then runB d' rest else (c, d')
theorem Mid8.start (d : Dsk) (ops : List Opn) : Mid8 d ops ops 0 d := (if_pos rfl).symm
theorem Mid8.step {d d' : Dsk} {ops rest : List Opn} {o : Opn} (h : Mid8 d ops (o :: rest) 0 d') : Mid8 d ops rest (Go.Proofs.YtacfcfbleogioaaGreatDoor.step d' o).1 (Go.Proofs.YtacfcfbleogioaaGreatDoor.step d' o).2 := by
  unfold Mid8 at h ⊢
  rw [h, if_pos rfl, runB]
theorem Mid8.skip {d d' : Dsk} {ops rest : List Opn} {o : Opn} {c : Int} (h : Mid8 d ops (o :: rest) c d') (hc : c ≠ 0) : Mid8 d ops rest c d' := by
  unfold Mid8 at h ⊢
  rw [h, if_neg hc, if_neg hc]
theorem Mid8.all {d d' : Dsk} {ops : List Opn} {c : Int} (h : Mid8 d ops [] c d') : runB d ops = (c, d') := by
  unfold Mid8 at h
  rw [h]
  split
  · next h0 => rw [h0]; rfl
  · rfl

set_option maxRecDepth 100000 in
set_option maxHeartbeats 16000000 in
theorem rwrite8_calls {w : World} {S Sm : Nat → Prop} {B : Nat} {d : Dsk} {M K : Nat} (g l : Int) (a : Option Addr) (segs : List Int) (n c : Nat) (hd : RefD w S B d) (hr : IRow w Sm a segs) (hoff : ∀ k, Sm k → ¬ S k ∧ k < w.heap.size) (hn : segs.length = n) (hm : n ≤ 1099511627776)
    (hfew : Few d M K) (hM : M + 280 ≤ 1073741824) (hK : K + 5 ≤ 1073741823) (htr : d.tr.length ≤ 1000) :
    Calls Tryz.prog 20 #[.pointer (some ⟨B, 0, none⟩), .agg #[.int .i64 g, .int .i64 l, .slice a n c]] w (RDoes w S B (.int .i64 (wrM d ⟨g, l, segs⟩).1) (wrM d ⟨g, l, segs⟩).2) := by
  obtain ⟨C, hC⟩ : ∃ C : Obj, Obj.cells #[.int .i64 g, .int .i64 l, .slice a n c] 25 (0, 0) = C := ⟨_, rfl⟩
  obtain ⟨F, hF⟩ : ∃ F, w.heap.size = F := ⟨_, rfl⟩
  obtain ⟨W1, hW1⟩ : ∃ W1, w.alloc (.cells #[.int .i64 g, .int .i64 l, .slice a n c] 25) = W1 := ⟨_, rfl⟩
  have hb1 : Below w.heap.size w W1 := by rw [← hW1]; exact (Below.refl _ _).alloc (Nat.le_refl _) _
  have hk1 : W1.heap[w.heap.size]? = some C := by rw [← hW1, ← hC]; exact heap_alloc_new _ _
  have hrw1 := RW.start hd hr hoff hb1 hk1
  rw [hF] at hrw1
  have HC : Hid (∀ (W : World), W.heap[F]? = some C → W.cell? ⟨F, 0, none⟩ = some (.int .i64 g) ∧ W.cell? ⟨F, 1, none⟩ = some (.int .i64 l) ∧ W.cell? ⟨F, 2, none⟩ = some (.slice a n c)) := Lib.hid (fun W h => by
    rw [← hC] at h
    exact ⟨(cell_of_block h 0).trans rfl, (cell_of_block h 1).trans rfl, (cell_of_block h 2).trans rfl⟩)
  obtain ⟨c0, c1, c2⟩ := HC.out _ hrw1.box
  have HN := Lib.hid hn
  have HMAY := Lib.hid (rmay8_calls g l a segs n c W1 hrw1.row hn (by omega))
  have HW1 := Lib.hid hW1
  have HF := Lib.hid hF
  have HRW1 := Lib.hid hrw1
  have HFEW := Lib.hid hfew
  have HTR := Lib.hid htr
  have HMK : Hid (M + 280 ≤ 1073741824 ∧ K + 5 ≤ 1073741823) := Lib.hid ⟨hM, hK⟩
  have HNM : Hid (∀ W, Calls Tryz.prog 49 #[.int .i64 g] W (Leaves (.string (mnameB g)) W)) := Lib.hid (rname8_calls g)
  have HNS : Hid ((mnameB g).size ≤ 1099511627776) := Lib.hid (Nat.le_trans (mnameB_size g) (by decide))
  have HEN : Hid (∀ W, IRow W Sm a segs → Calls Tryz.prog 67 #[.agg #[.int .i64 g, .int .i64 l, .slice a n c]] W (Gives (encM ⟨g, l, segs⟩) W)) := Lib.hid (fun W h => rencode8_calls g l a segs n c W h hn hm)
  obtain ⟨m, hmm⟩ : ∃ m : Mfs, ⟨g, l, segs⟩ = m := ⟨_, rfl⟩
  have hmg : m.gen = g := by rw [← hmm]
  rw [hmm] at HMAY HEN ⊢
  have HOPS : Hid (wopsT m = [⟨1, tmpB, noS, 0, []⟩, ⟨2, tmpB, noS, 0, encM m⟩, ⟨4, tmpB, noS, 0, []⟩, ⟨5, tmpB, mnameB g, 0, []⟩]) := Lib.hid (by rw [← hmg]; rfl)
  have HEL : Hid ((encM m).length ≤ 280 ∧ ∀ c ∈ encM m, c < 256) := Lib.hid ⟨encM_le m, encM_byts m⟩
  have HTN : Hid (tmpB.size ≤ 1099511627776 ∧ noS.size ≤ 1099511627776) := Lib.hid ⟨by decide, by decide⟩
  obtain ⟨PST, hP⟩ : ∃ P, RDoes w S B (.int .i64 (wrM d m).1) (wrM d m).2 = P := ⟨_, rfl⟩
  have HPO : Hid (∀ c d', wrM d m = (c, d') → ∀ W, RTurns w S B d' W → PST (.returned (.int .i64 c)) W) := Lib.hid (fun c d' hw W h => by rw [← hP, hw]; exact ⟨rfl, h⟩)
  rw [hP]
  clear hP hd hr hoff hn hm hfew hM hK htr hb1 hk1 hW1 hC hrw1 hmm hmg
  go_enter Tryz.func20, Tryz.ntmps20
  go_wp2_with fail
  try rw [HW1.out]
  try rw [HF.out]
  with_reducible refine HMAY.out.mono ?_
  rintro e w2 ⟨rfl, hb2⟩
  have HRW2 := Lib.hid (HRW1.out.quiet hb2)
  have HB2 := Lib.hid hb2
  clear hb2 c0 c1 c2
  cases hmay : mayM m with
  | false =>
    have HF1 := Lib.hid (HPO.out 80 d (if_pos hmay) w2 HRW2.out.turns)
    clear hmay
    go_wp2
    exact HF1.out
  | true =>
  have HWR : Hid (wrM d m = runB d (wopsB d m)) := Lib.hid (if_neg (by rw [hmay]; decide))
  obtain ⟨OPS, hops⟩ : ∃ x, wopsB d m = x := ⟨_, rfl⟩
  rw [hops] at HWR
  have HRD := Lib.hid (Go.Proofs.YtacfcfbleogioaaGreatDoor.rread_calls tmpB w2 HRW2.out.ref (by have := HFEW.out.used; have := HMK.out.1; omega))
  obtain ⟨q, hq⟩ : ∃ q, fnd tmpB d.L = q := ⟨_, rfl⟩
  have hqo : (codeO q = 0 → OPS = delO tmpB :: wopsT m) ∧ (codeO q ≠ 0 → OPS = wopsT m) := by
    rw [← hops, ← hq]
    unfold wopsB
    cases fnd tmpB d.L with
    | none => exact ⟨fun h => absurd h (by decide), fun _ => rfl⟩
    | some f => exact ⟨fun _ => rfl, fun h => absurd rfl h⟩
  rw [hq] at HRD
  obtain ⟨cq, hcq⟩ : ∃ cq, codeO q = cq := ⟨_, rfl⟩
  rw [hcq] at hqo
  have HQO := Lib.hid hqo
  unfold ReadAny at HRD
  rw [hcq] at HRD
  unfold tmpB at HRD
  clear hmay hops hq hqo hcq HMAY HRW1 HB2 HW1 HF
  go_wp2_with fail
  with_reducible refine HRD.out.mono ?_
  rintro e w3 ⟨a3, c3, S3, rfl, _, _, hb3⟩
  have HRW3 := Lib.hid (HRW2.out.quiet hb3)
  clear hb3 HRD HRW2
  go_upto_if 17 with (fail)
  go_cut [5] (fun cv wr => ∃ (cc : Int) (dd : Dsk) (SS : Nat → Prop), cv = .int .i64 cc ∧ Mid8 d OPS [⟨1, tmpB, noS, 0, []⟩, ⟨2, tmpB, noS, 0, encM m⟩, ⟨4, tmpB, noS, 0, []⟩, ⟨5, tmpB, mnameB g, 0, []⟩] cc dd ∧ RW w wr S SS B F dd C Sm a segs ∧ Few dd M (K + 1) ∧ dd.tr.length ≤ 1000)
  case first =>
    by_cases hc : cq = 0
    · have hcb : (cq == 0) = true := by simp [hc]
      have HMID : Hid (Mid8 d OPS (delO tmpB :: [⟨1, tmpB, noS, 0, []⟩, ⟨2, tmpB, noS, 0, encM m⟩, ⟨4, tmpB, noS, 0, []⟩, ⟨5, tmpB, mnameB g, 0, []⟩]) 0 d) := Lib.hid (by rw [← HOPS.out, ← HQO.out.1 hc]; exact Mid8.start _ _)
      have HDO : Hid (Calls Tryz.prog 66 #[.pointer (some ⟨B, 0, none⟩), .int .i64 6, .string ⟨#[109, 97, 110, 46, 116, 109, 112]⟩, .string ⟨#[]⟩, .int .i64 0, .slice none 0 0] w3 (RDoes w3 S B (.int .i64 (Go.Proofs.YtacfcfbleogioaaGreatDoor.step d ⟨6, tmpB, noS, 0, []⟩).1) (Go.Proofs.YtacfcfbleogioaaGreatDoor.step d ⟨6, tmpB, noS, 0, []⟩).2)) := Lib.hid (rdo_plain 6 (by omega) tmpB noS HRW3.out.ref HFEW.out (by have := HMK.out.1; omega) (by have := HMK.out.2; omega) HTR.out HTN.out.1 HTN.out.2)
      have HST := Lib.hid (HFEW.out.step (delO tmpB) (fun c hc => by cases hc) (Nat.le_refl M))
      have HTS : Hid ((Go.Proofs.YtacfcfbleogioaaGreatDoor.step d (delO tmpB)).2.tr.length ≤ 1000) := Lib.hid (by rw [tr_step8]; exact HTR.out)
      unfold delO at HMID HST HTS
      have hm1 := HMID.out.step
      obtain ⟨d4, hd4⟩ : ∃ x, (Go.Proofs.YtacfcfbleogioaaGreatDoor.step d ⟨6, tmpB, noS, 0, []⟩).2 = x := ⟨_, rfl⟩
      obtain ⟨c4, hc4⟩ : ∃ x, (Go.Proofs.YtacfcfbleogioaaGreatDoor.step d ⟨6, tmpB, noS, 0, []⟩).1 = x := ⟨_, rfl⟩
      rw [hd4, hc4] at HDO hm1
      rw [hd4] at HST HTS
      have HM1 := Lib.hid hm1
      clear hm1 hd4 hc4 hc HMID
      go_wp2_with fail
      with_reducible refine HDO.out.mono ?_
      rintro e w4 ⟨rfl, ht4⟩
      obtain ⟨S4, hrw4⟩ := HRW3.out.turn ht4
      have HRW4 := Lib.hid hrw4
      clear hrw4 ht4 HDO
      go_wp2_with fail
      go_meet
      exact ⟨c4, d4, S4, rfl, HM1.out, HRW4.out, HST.out, HTS.out⟩
    · have hcb : (cq == 0) = false := by simp [hc]
      have HMID : Hid (Mid8 d OPS [⟨1, tmpB, noS, 0, []⟩, ⟨2, tmpB, noS, 0, encM m⟩, ⟨4, tmpB, noS, 0, []⟩, ⟨5, tmpB, mnameB g, 0, []⟩] 0 d) := Lib.hid (by rw [← HOPS.out, ← HQO.out.2 hc]; exact Mid8.start _ _)
      clear hc
      go_wp2_with fail
      go_meet
      exact ⟨0, d, S, rfl, HMID.out, HRW3.out, HFEW.out.mono (Nat.le_refl _) (Nat.le_succ _), HTR.out⟩
  case rest =>
  clear HRW3 HQO HOPS HFEW HTR
  obtain ⟨cc, dd, SS, rfl, hmid, hrw, hfew, htr⟩ := hcut
  have HMID := Lib.hid hmid
  have HRW := Lib.hid hrw
  have HFEW := Lib.hid hfew
  have HTR := Lib.hid htr
  clear hmid hrw hfew htr
  go_upto_if 21 with (fail)
  go_cut [5] (fun cv wr => ∃ (cc : Int) (dd : Dsk) (SS : Nat → Prop), cv = .int .i64 cc ∧ Mid8 d OPS [⟨2, tmpB, noS, 0, encM m⟩, ⟨4, tmpB, noS, 0, []⟩, ⟨5, tmpB, mnameB g, 0, []⟩] cc dd ∧ RW w wr S SS B F dd C Sm a segs ∧ Few dd M (K + 2) ∧ dd.tr.length ≤ 1000)
  case first =>
    by_cases hc : cc = 0
    · subst hc
      have HM1 := Lib.hid HMID.out.step
      have HST := Lib.hid (HFEW.out.step ⟨1, tmpB, noS, 0, []⟩ (fun c hc => by cases hc) (Nat.le_refl _))
      have HTS : Hid ((Go.Proofs.YtacfcfbleogioaaGreatDoor.step dd ⟨1, tmpB, noS, 0, []⟩).2.tr.length ≤ 1000) := Lib.hid (by rw [tr_step8]; exact HTR.out)
      have HDO : Hid (∀ W, RefD W SS B dd → Calls Tryz.prog 66 #[.pointer (some ⟨B, 0, none⟩), .int .i64 1, .string ⟨#[109, 97, 110, 46, 116, 109, 112]⟩, .string ⟨#[]⟩, .int .i64 0, .slice none 0 0] W (RDoes W SS B (.int .i64 (Go.Proofs.YtacfcfbleogioaaGreatDoor.step dd ⟨1, tmpB, noS, 0, []⟩).1) (Go.Proofs.YtacfcfbleogioaaGreatDoor.step dd ⟨1, tmpB, noS, 0, []⟩).2)) := Lib.hid (fun W h =>
        rdo_plain 1 (by omega) tmpB noS h HFEW.out (by have := HMK.out.1; omega) (by have := HMK.out.2; omega) HTR.out HTN.out.1 HTN.out.2)
      obtain ⟨d4, hd4⟩ : ∃ x, (Go.Proofs.YtacfcfbleogioaaGreatDoor.step dd ⟨1, tmpB, noS, 0, []⟩).2 = x := ⟨_, rfl⟩
      obtain ⟨c4, hc4⟩ : ∃ x, (Go.Proofs.YtacfcfbleogioaaGreatDoor.step dd ⟨1, tmpB, noS, 0, []⟩).1 = x := ⟨_, rfl⟩
      rw [hd4] at HDO HM1 HST HTS
      rw [hc4] at HDO HM1
      clear hd4 hc4 HMID
      go_wp2_with fail
      with_reducible refine (HDO.out _ HRW.out.ref).mono ?_
      rintro e w4 ⟨rfl, ht4⟩
      obtain ⟨S4, hrw4⟩ := HRW.out.turn ht4
      have HRW4 := Lib.hid hrw4
      clear hrw4 ht4
      go_wp2_with fail
      go_meet
      exact ⟨c4, d4, S4, rfl, HM1.out, HRW4.out, HST.out, HTS.out⟩
    · have hcb : (cc == 0) = false := by simp [hc]
      have HM1 := Lib.hid (HMID.out.skip hc)
      clear hc
      go_wp2_with fail
      go_meet
      exact ⟨cc, dd, SS, rfl, HM1.out, HRW.out, HFEW.out.mono (Nat.le_refl _) (Nat.le_succ _), HTR.out⟩
  case rest =>
  clear HMID HRW HFEW HTR
  obtain ⟨cc, dd, SS, rfl, hmid, hrw, hfew, htr⟩ := hcut
  have HMID := Lib.hid hmid
  have HRW := Lib.hid hrw
  have HFEW := Lib.hid hfew
  have HTR := Lib.hid htr
  clear hmid hrw hfew htr
  go_upto_if 25 with (fail)
  go_cut [5] (fun cv wr => ∃ (cc : Int) (dd : Dsk) (SS : Nat → Prop), cv = .int .i64 cc ∧ Mid8 d OPS [⟨4, tmpB, noS, 0, []⟩, ⟨5, tmpB, mnameB g, 0, []⟩] cc dd ∧ RW w wr S SS B F dd C Sm a segs ∧ Few dd (M + 280) (K + 3) ∧ dd.tr.length ≤ 1000)
  case first =>
    by_cases hc : cc = 0
    · subst hc
      have HM1 := Lib.hid HMID.out.step
      have HST := Lib.hid (HFEW.out.step ⟨2, tmpB, noS, 0, encM m⟩ (HEL.out.2) (Nat.add_le_add_left HEL.out.1 M))
      have HTS : Hid ((Go.Proofs.YtacfcfbleogioaaGreatDoor.step dd ⟨2, tmpB, noS, 0, encM m⟩).2.tr.length ≤ 1000) := Lib.hid (by rw [tr_step8]; exact HTR.out)
      have HDO : Hid (∀ W, RefD W SS B dd → ∀ (O : Nat → Prop) (av : Option Addr) (nv cv : Nat), Row W O av (encM m) → (∀ k, O k → ¬ SS k) → (av = none → cv = 0) → (encM m).length = nv → nv ≤ cv → cv ≤ maxLen → Calls Tryz.prog 66 #[.pointer (some ⟨B, 0, none⟩), .int .i64 2, .string ⟨#[109, 97, 110, 46, 116, 109, 112]⟩, .string ⟨#[]⟩, .int .i64 0, .slice av nv cv] W (RDoes W SS B (.int .i64 (Go.Proofs.YtacfcfbleogioaaGreatDoor.step dd ⟨2, tmpB, noS, 0, encM m⟩).1) (Go.Proofs.YtacfcfbleogioaaGreatDoor.step dd ⟨2, tmpB, noS, 0, encM m⟩).2)) := Lib.hid (fun W h O av nv cv h1 h2 h3 h4 h5 h6 =>
        rdo_calls (O := O) (k := 2) tmpB noS 0 av (encM m) nv cv W (by omega) ⟨h, few_sml8 HFEW.out (by have := HMK.out.1; omega) (by have := HMK.out.2; omega), HTN.out.1, HTN.out.2, h1, h2, h3, h4, h5, h6, by have := HEL.out.1; omega, by have := HTR.out; omega⟩)
      obtain ⟨d4, hd4⟩ : ∃ x, (Go.Proofs.YtacfcfbleogioaaGreatDoor.step dd ⟨2, tmpB, noS, 0, encM m⟩).2 = x := ⟨_, rfl⟩
      obtain ⟨c4, hc4⟩ : ∃ x, (Go.Proofs.YtacfcfbleogioaaGreatDoor.step dd ⟨2, tmpB, noS, 0, encM m⟩).1 = x := ⟨_, rfl⟩
      rw [hd4] at HDO HM1 HST HTS
      rw [hc4] at HDO HM1
      clear hd4 hc4 HMID
      obtain ⟨c0, c1, c2⟩ := HC.out _ HRW.out.box
      go_wp2_with fail
      with_reducible refine (HEN.out _ HRW.out.row).mono ?_
      rintro e w5 ⟨v5, rfl, hown5⟩
      obtain ⟨av, cv, rfl, hrow5, h05, hl5, hm5⟩ := hown5.form
      have HRW5 := Lib.hid (HRW.out.quiet hown5.bel)
      have hoff5 : ∀ k, (Value.slice av (encM m).length cv).ownBlock = some k → ¬ SS k := fun k e hs => by
        have h1 := hown5.new k e
        have h2 := HRW.out.ref.2.1 k hs
        omega
      have HDD := Lib.hid (HDO.out _ HRW5.out.ref _ av _ cv hrow5 hoff5 h05 rfl hl5 hm5)
      obtain ⟨nv, hnv⟩ : ∃ x, (encM m).length = x := ⟨_, rfl⟩
      rw [hnv] at HDD ⊢
      clear hown5 hrow5 h05 hl5 hm5 hoff5 hnv c0 c1 c2 HDO
      go_wp2_with fail
      with_reducible refine HDD.out.mono ?_
      rintro e w4 ⟨rfl, ht4⟩
      obtain ⟨S4, hrw4⟩ := HRW5.out.turn ht4
      have HRW4 := Lib.hid hrw4
      clear hrw4 ht4
      go_wp2_with fail
      go_meet
      exact ⟨c4, d4, S4, rfl, HM1.out, HRW4.out, HST.out, HTS.out⟩
    · have hcb : (cc == 0) = false := by simp [hc]
      have HM1 := Lib.hid (HMID.out.skip hc)
      clear hc
      go_wp2_with fail
      go_meet
      exact ⟨cc, dd, SS, rfl, HM1.out, HRW.out, HFEW.out.mono (Nat.le_add_right _ _) (Nat.le_succ _), HTR.out⟩
  case rest =>
  clear HMID HRW HFEW HTR
  obtain ⟨cc, dd, SS, rfl, hmid, hrw, hfew, htr⟩ := hcut
  have HMID := Lib.hid hmid
  have HRW := Lib.hid hrw
  have HFEW := Lib.hid hfew
  have HTR := Lib.hid htr
  clear hmid hrw hfew htr
  go_upto_if 31 with (fail)
  go_cut [5] (fun cv wr => ∃ (cc : Int) (dd : Dsk) (SS : Nat → Prop), cv = .int .i64 cc ∧ Mid8 d OPS [⟨5, tmpB, mnameB g, 0, []⟩] cc dd ∧ RW w wr S SS B F dd C Sm a segs ∧ Few dd (M + 280) (K + 4) ∧ dd.tr.length ≤ 1000)
  case first =>
    by_cases hc : cc = 0
    · subst hc
      have HM1 := Lib.hid HMID.out.step
      have HST := Lib.hid (HFEW.out.step ⟨4, tmpB, noS, 0, []⟩ (fun c hc => by cases hc) (Nat.le_refl _))
      have HTS : Hid ((Go.Proofs.YtacfcfbleogioaaGreatDoor.step dd ⟨4, tmpB, noS, 0, []⟩).2.tr.length ≤ 1000) := Lib.hid (by rw [tr_step8]; exact HTR.out)
      have HDO : Hid (∀ W, RefD W SS B dd → Calls Tryz.prog 66 #[.pointer (some ⟨B, 0, none⟩), .int .i64 4, .string ⟨#[109, 97, 110, 46, 116, 109, 112]⟩, .string ⟨#[]⟩, .int .i64 0, .slice none 0 0] W (RDoes W SS B (.int .i64 (Go.Proofs.YtacfcfbleogioaaGreatDoor.step dd ⟨4, tmpB, noS, 0, []⟩).1) (Go.Proofs.YtacfcfbleogioaaGreatDoor.step dd ⟨4, tmpB, noS, 0, []⟩).2)) := Lib.hid (fun W h =>
        rdo_plain 4 (by omega) tmpB noS h HFEW.out (by have := HMK.out.1; omega) (by have := HMK.out.2; omega) HTR.out HTN.out.1 HTN.out.2)
      obtain ⟨d4, hd4⟩ : ∃ x, (Go.Proofs.YtacfcfbleogioaaGreatDoor.step dd ⟨4, tmpB, noS, 0, []⟩).2 = x := ⟨_, rfl⟩
      obtain ⟨c4, hc4⟩ : ∃ x, (Go.Proofs.YtacfcfbleogioaaGreatDoor.step dd ⟨4, tmpB, noS, 0, []⟩).1 = x := ⟨_, rfl⟩
      rw [hd4] at HDO HM1 HST HTS
      rw [hc4] at HDO HM1
      clear hd4 hc4 HMID
      go_wp2_with fail
      with_reducible refine (HDO.out _ HRW.out.ref).mono ?_
      rintro e w4 ⟨rfl, ht4⟩
      obtain ⟨S4, hrw4⟩ := HRW.out.turn ht4
      have HRW4 := Lib.hid hrw4
      clear hrw4 ht4
      go_wp2_with fail
      go_meet
      exact ⟨c4, d4, S4, rfl, HM1.out, HRW4.out, HST.out, HTS.out⟩
    · have hcb : (cc == 0) = false := by simp [hc]
      have HM1 := Lib.hid (HMID.out.skip hc)
      clear hc
      go_wp2_with fail
      go_meet
      exact ⟨cc, dd, SS, rfl, HM1.out, HRW.out, HFEW.out.mono (Nat.le_refl _) (Nat.le_succ _), HTR.out⟩
  case rest =>
  clear HMID HRW HFEW HTR
  obtain ⟨cc, dd, SS, rfl, hmid, hrw, hfew, htr⟩ := hcut
  have HMID := Lib.hid hmid
  have HRW := Lib.hid hrw
  have HFEW := Lib.hid hfew
  have HTR := Lib.hid htr
  clear hmid hrw hfew htr
  go_upto_if 35 with (fail)
  go_cut [5] (fun cv wr => ∃ (cc : Int) (dd : Dsk) (SS : Nat → Prop), cv = .int .i64 cc ∧ Mid8 d OPS [] cc dd ∧ RW w wr S SS B F dd C Sm a segs ∧ Few dd (M + 280) (K + 5) ∧ dd.tr.length ≤ 1000)
  case first =>
    by_cases hc : cc = 0
    · subst hc
      have HM1 := Lib.hid HMID.out.step
      have HST := Lib.hid (HFEW.out.step ⟨5, tmpB, mnameB g, 0, []⟩ (fun c hc => by cases hc) (Nat.le_refl _))
      have HTS : Hid ((Go.Proofs.YtacfcfbleogioaaGreatDoor.step dd ⟨5, tmpB, mnameB g, 0, []⟩).2.tr.length ≤ 1000) := Lib.hid (by rw [tr_step8]; exact HTR.out)
      have HDO : Hid (∀ W, RefD W SS B dd → Calls Tryz.prog 66 #[.pointer (some ⟨B, 0, none⟩), .int .i64 5, .string ⟨#[109, 97, 110, 46, 116, 109, 112]⟩, .string (mnameB g), .int .i64 0, .slice none 0 0] W (RDoes W SS B (.int .i64 (Go.Proofs.YtacfcfbleogioaaGreatDoor.step dd ⟨5, tmpB, mnameB g, 0, []⟩).1) (Go.Proofs.YtacfcfbleogioaaGreatDoor.step dd ⟨5, tmpB, mnameB g, 0, []⟩).2)) := Lib.hid (fun W h =>
        rdo_plain 5 (by omega) tmpB (mnameB g) h HFEW.out (by have := HMK.out.1; omega) (by have := HMK.out.2; omega) HTR.out HTN.out.1 HNS.out)
      obtain ⟨d4, hd4⟩ : ∃ x, (Go.Proofs.YtacfcfbleogioaaGreatDoor.step dd ⟨5, tmpB, mnameB g, 0, []⟩).2 = x := ⟨_, rfl⟩
      obtain ⟨c4, hc4⟩ : ∃ x, (Go.Proofs.YtacfcfbleogioaaGreatDoor.step dd ⟨5, tmpB, mnameB g, 0, []⟩).1 = x := ⟨_, rfl⟩
      rw [hd4] at HDO HM1 HST HTS
      rw [hc4] at HDO HM1
      clear hd4 hc4 HMID
      obtain ⟨c0, c1, c2⟩ := HC.out _ HRW.out.box
      go_wp2_with fail
      with_reducible refine (HNM.out _).mono ?_
      rintro e w5 ⟨rfl, hb5⟩
      have HRW5 := Lib.hid (HRW.out.quiet hb5)
      clear hb5 c0 c1 c2
      go_wp2_with fail
      with_reducible refine (HDO.out _ HRW5.out.ref).mono ?_
      rintro e w4 ⟨rfl, ht4⟩
      obtain ⟨S4, hrw4⟩ := HRW5.out.turn ht4
      have HRW4 := Lib.hid hrw4
      clear hrw4 ht4
      go_wp2_with fail
      go_meet
      exact ⟨c4, d4, S4, rfl, HM1.out, HRW4.out, HST.out, HTS.out⟩
    · have hcb : (cc == 0) = false := by simp [hc]
      have HM1 := Lib.hid (HMID.out.skip hc)
      clear hc
      go_wp2_with fail
      go_meet
      exact ⟨cc, dd, SS, rfl, HM1.out, HRW.out, HFEW.out.mono (Nat.le_refl _) (Nat.le_succ _), HTR.out⟩
  case rest =>
  clear HMID HRW HFEW HTR
  obtain ⟨cc, dd, SS, rfl, hmid, hrw, hfew, htr⟩ := hcut
  have HFIN := Lib.hid (HPO.out cc dd (HWR.out.trans hmid.all) _ hrw.turns)
  clear hmid hrw hfew htr
  go_wp2
  exact HFIN.out

end Go.Proofs.YtacfcfbleogioaaGreatDoor
