/-
 All's contract: a document's tokens in a slice of the call's own, or an error of a code and a place.
-/
import Derived.KernelRfl
import Derived.Test.YtjpkkflhcjjefaaGreatDoorXTk
namespace Go.Proofs.YtjpkkflhcjjefaaGreatDoor
def Sx.Nz {α : Type} (s : Sx α) : Prop := ∀ c p, s = .no c p → c ≠ 0
theorem Sx.nz_no {α : Type} {c p : Nat} (h : c ≠ 0) : (Sx.no c p : Sx α).Nz := fun _ _ e => by cases e; exact h
theorem Sx.nz_ok {α : Type} (x : α) (i : Nat) (r : List UInt8) : (Sx.ok x i r).Nz := fun _ _ e => by cases e
theorem Sx.Nz.then {α β : Type} {s : Sx α} {f : α → Nat → List UInt8 → Sx β} (h : s.Nz) (hf : ∀ x j t, (f x j t).Nz) : (s.then f).Nz := by
 cases s with
 | no c p => intro c' p' e; cases e; exact h c p rfl
 | ok x j t => exact hf x j t
theorem peekS_nz (i : Nat) (r : List UInt8) : (peekS i r).Nz := by cases r; exact Sx.nz_no (by decide); exact Sx.nz_ok _ _ _
theorem mustS_nz (c : UInt8) (i : Nat) (r : List UInt8) : (mustS c i r).Nz := by
 cases r with
 | nil => exact Sx.nz_no (by decide)
 | cons x t => rw [mustS]; split; exact Sx.nz_ok _ _ _; exact Sx.nz_no (by decide)
theorem blkS_nz : ∀ (r : List UInt8) (i : Nat), (blkS i r).Nz
 | [], _ => Sx.nz_no (by decide)
 | x :: t, i => by rw [blkS]; split; exact blkS_nz t _; exact Sx.nz_ok _ _ _
theorem blanksS_nz (i : Nat) (r : List UInt8) : (blanksS i r).Nz := (blkS_nz r i).then fun _ _ _ => Sx.nz_ok _ _ _
theorem nmG_nz : ∀ (g : Nat) (fb : Bool) (i : Nat) (r : List UInt8), (nmG g fb i r).Nz
 | 0, _, _, _ => Sx.nz_no (by decide)
 | g + 1, fb, i, r => by
  rw [nmG]
  split
  ·exact Sx.nz_no (by decide)
  ·split
   ·exact nmG_nz g _ _ _
   ·exact Sx.nz_ok _ _ _
theorem nameS_nz (i : Nat) (r : List UInt8) : (nameS i r).Nz := (nmG_nz _ _ _ _).then fun _ _ _ => by
 try dsimp only
 split
 ·exact Sx.nz_no (by decide)
 ·exact Sx.nz_ok _ _ _
theorem upToS_nz (m : List UInt8) (i : Nat) (r : List UInt8) : (upToS m i r).Nz := by
 unfold upToS
 split
 ·exact Sx.nz_no (by decide)
 ·exact Sx.nz_ok _ _ _
theorem refS_nz (i : Nat) (r : List UInt8) : (refS i r).Nz := by
 unfold refS
 split
 ·exact Sx.nz_no (by decide)
 ·split
  ·exact Sx.nz_no (by decide)
  ·exact Sx.nz_ok _ _ _
theorem mixG_nz (q : Option UInt8) : ∀ (g i : Nat) (r : List UInt8), (mixG q g i r).Nz
 | 0, _, _ => Sx.nz_no (by decide)
 | g + 1, i, r => by
  rw [mixG]
  split
  ·exact Sx.nz_no (by decide)
  ·split
   ·exact (refS_nz _ _).then fun _ _ _ => (mixG_nz q g _ _).then fun _ _ _ => Sx.nz_ok _ _ _
   ·exact Sx.nz_ok _ _ _
theorem valueS_nz (i : Nat) (r : List UInt8) : (valueS i r).Nz := (peekS_nz _ _).then fun _ _ _ => by
 try dsimp only
 split
 ·exact Sx.nz_no (by decide)
 ·exact (mixG_nz _ _ _ _).then fun _ _ _ => (mustS_nz _ _ _).then fun _ _ _ => Sx.nz_ok _ _ _
theorem attrS_nz (ns : List (List UInt8)) (i : Nat) (r : List UInt8) : (attrS ns i r).Nz := (nameS_nz _ _).then fun _ _ _ => by
 try dsimp only
 split
 ·exact Sx.nz_no (by decide)
 ·exact (blanksS_nz _ _).then fun _ _ _ => (mustS_nz _ _ _).then fun _ _ _ => (blanksS_nz _ _).then fun _ _ _ => (valueS_nz _ _).then fun _ _ _ => Sx.nz_ok _ _ _
theorem tagG_nz : ∀ (g : Nat) (ats : List (List UInt8 × List UInt8)) (i : Nat) (r : List UInt8), (tagG g ats i r).Nz
 | 0, _, _, _ => Sx.nz_no (by decide)
 | g + 1, ats, i, r => by
  rw [tagG]
  refine (blanksS_nz _ _).then fun _ _ _ => (peekS_nz _ _).then fun _ _ _ => ?_
  try dsimp only
  split
  ·exact (mustS_nz _ _ _).then fun _ _ _ => Sx.nz_ok _ _ _
  ·split
   ·exact (mustS_nz _ _ _).then fun _ _ _ => Sx.nz_ok _ _ _
   ·split
    ·exact Sx.nz_no (by decide)
    ·exact (attrS_nz _ _ _).then fun _ _ _ => tagG_nz g _ _ _
theorem startS_nz (i : Nat) (r : List UInt8) : (startS i r).Nz := (nameS_nz _ _).then fun _ _ _ => (tagG_nz _ _ _ _).then fun _ _ _ => Sx.nz_ok _ _ _
theorem endTagS_nz (i : Nat) (r : List UInt8) : (endTagS i r).Nz := (nameS_nz _ _).then fun _ _ _ => (blanksS_nz _ _).then fun _ _ _ => (mustS_nz _ _ _).then fun _ _ _ => Sx.nz_ok _ _ _
theorem piS_nz (i : Nat) (r : List UInt8) : (piS i r).Nz := (nameS_nz _ _).then fun _ _ _ => by
 try dsimp only
 split
 ·exact Sx.nz_no (by decide)
 ·refine (blanksS_nz _ _).then fun _ _ _ => ?_
  try dsimp only
  split
  ·exact (upToS_nz _ _ _).then fun _ _ _ => Sx.nz_ok _ _ _
  ·exact (mustS_nz _ _ _).then fun _ _ _ => (mustS_nz _ _ _).then fun _ _ _ => Sx.nz_ok _ _ _
theorem commentS_nz (i : Nat) (r : List UInt8) : (commentS i r).Nz := (upToS_nz _ _ _).then fun _ _ _ => (peekS_nz _ _).then fun _ _ _ => by
 try dsimp only
 split
 ·exact Sx.nz_no (by decide)
 ·exact Sx.nz_ok _ _ _
theorem opensS_nz (m : List UInt8) (i : Nat) (r : List UInt8) : (opensS m i r).Nz := by
 unfold opensS
 split
 ·exact Sx.nz_no (by decide)
 ·split <;> exact Sx.nz_ok _ _ _
theorem lenS_nz (i : Nat) {m : Sx Bool} {yes : Nat → List UInt8 → Sx Tk} {no : Sx Tk} (hm : m.Nz) (hy : ∀ j t, (yes j t).Nz) (hn : no.Nz) : (lenS i m yes no).Nz := hm.then fun _ _ _ => by
 try dsimp only
 split
 ·exact hy _ _
 ·exact hn
theorem tokS_nz (i : Nat) (r : List UInt8) : (tokS i r).Nz := by
 unfold tokS
 split
 ·exact (mixG_nz _ _ _ _).then fun _ _ _ => Sx.nz_ok _ _ _
 ·refine lenS_nz i (opensS_nz _ _ _) (fun _ _ => (commentS_nz _ _).then fun _ _ _ => Sx.nz_ok _ _ _) ?_
  refine lenS_nz i (opensS_nz _ _ _) (fun _ _ => (upToS_nz _ _ _).then fun _ _ _ => Sx.nz_ok _ _ _) ?_
  refine lenS_nz i (opensS_nz _ _ _) (fun _ _ => Sx.nz_no (by decide)) ?_
  refine lenS_nz i (opensS_nz _ _ _) (fun _ _ => (piS_nz _ _).then fun _ _ _ => Sx.nz_ok _ _ _) ?_
  refine lenS_nz i (opensS_nz _ _ _) (fun _ _ => (endTagS_nz _ _).then fun _ _ _ => Sx.nz_ok _ _ _) ?_
  refine lenS_nz i (opensS_nz _ _ _) (fun _ _ => (startS_nz _ _).then fun _ _ _ => Sx.nz_ok _ _ _) ?_
  first
   | exact Sx.nz_ok _ _ _
   | exact Sx.nz_no (by decide)
theorem Sx.nz_ite {α : Type} {c : Prop} [Decidable c] {s t : Sx α} (hs : s.Nz) (ht : t.Nz) : (if c then s else t).Nz := by
 split
 ·exact hs
 ·exact ht
theorem declS_nz (b : List UInt8) : (declS b).Nz := Sx.nz_ite ((upToS_nz _ _ _).then fun _ _ _ => Sx.nz_ite (Sx.nz_ok _ _ _) (Sx.nz_no (by decide))) (Sx.nz_ok _ _ _)
end Go.Proofs.YtjpkkflhcjjefaaGreatDoor
namespace Go.Proofs.YtjpkkflhcjjefaaGreatDoor
end Go.Proofs.YtjpkkflhcjjefaaGreatDoor
namespace Go.Proofs.YtjpkkflhcjjefaaGreatDoor
open Go.RowKit Go.Lib Go.Joins
set_option maxHeartbeats 32000000
theorem ScAt.far {W W' : World} {B : Nat} {a : Option Addr} {c : Nat} {l : List UInt8} {i : Nat} {t : List UInt8} {O : Nat → Prop} (h : ScAt W B a c l i t) (hk : Keeps O W W') (hO : ¬ O B) (hdoc : 0 < l.length → ∀ b o, a = some ⟨b, o, none⟩ → ¬ O b) : ScAt W' B a c l i t where
 blk := block_keep h.blk hk hO
 row := by
  rcases h.row with h0 | ⟨b, o, h1, h2, h3⟩
  ·exact .inl h0
  ·by_cases h0 : l.length = 0
   ·exact .inl h0
   ·exact .inr ⟨b, o, h1, h2, fun k hk' => (World.cell?_of_block (hk.block b (lt_of_cell (h3 k hk')) (hdoc (by omega) b o h1))).trans (h3 k hk')⟩
 nul := h.nul
 cap := h.cap
 most := h.most
 few := h.few
 fits := h.fits
 left := h.left
theorem allS_eq (l : List UInt8) : allS l = if 65536 < l.length then .no 8 65536 else if 0 ≤ badZ (fs l) l.length then .no 1 (badZ (fs l) l.length).toNat else (declS l).then fun _ j t => toksG (t.length + 1) j t := rfl
theorem toksG_succ (g i : Nat) (x : UInt8) (r : List UInt8) : toksG (g + 1) i (x :: r) = (tokS i (x :: r)).then fun tk j t => (toksG g j t).then fun l k t2 => .ok (tk :: l) k t2 := by
 rw [toksG, if_neg (List.cons_ne_nil _ _)]
theorem toksG_nil (g i : Nat) : toksG g i [] = .ok [] i [] := by
 cases g with
 | zero => rfl
 | succ g => rw [toksG, if_pos rfl]
def TwoP (w0 : Nat) : Nat → Prop := fun k => k = w0 ∨ k = w0 + 1
set_option maxRecDepth 100000 in
theorem all_calls {w : World} {a : Option Addr} {c : Nat} {l : List UInt8} (hd : DocAt w a c l) (hE : EnvAt w) (h15 : 15 ≤ w.heap.size) : Calls Tryz.prog 40 #[.slice a l.length c] w (AllOut w (allS l)) := by
 have hmf : ∀ (fn : Fn) (first cap : Array Value) (w : World), (Instr.makeFunc fn first cap).run Tryz.prog w = .ok (.func fn first cap) w := fun _ _ _ _ => rfl
 obtain ⟨Q, hQ⟩ : ∃ Q, allS l = Q := ⟨_, rfl⟩
 have HQ := hid hQ
 rw [hQ]
 obtain ⟨w2, hw2⟩ : ∃ W, (w.alloc (.cells #[.slice none 0 0] 80)).alloc (.cells #[.nilIface] 31) = W := ⟨_, rfl⟩
 have hb2 : Below w.heap.size w w2 := by
  rw [← hw2]
  exact ((Below.refl _ _).alloc (Nat.le_refl _) _).alloc (by simp) _
 have hs2 : w2.heap.size = w.heap.size + 2 := by rw [← hw2]; simp
 have hp2 : AtP w.heap.size w2 (.slice none 0 0) := by
  rw [← hw2]
  refine ⟨?_, ?_⟩
  ·rw [Below.heap_alloc _ _ _ (by simp)]
   exact heap_alloc_new w _
  ·have h := heap_alloc_new (w.alloc (.cells #[.slice none 0 0] 80)) (.cells #[.nilIface] 31)
   simp only [World.size_alloc] at h
   exact h
 have HW2 := hid hw2
 have HB2 := hid hb2
 have HP2 := hid hp2
 have HS2 := hid hs2
 have HD := hid hd
 have HE := hid hE
 have HCK : Hid (Calls Tryz.prog 71 #[.slice a l.length c] w2 (ChkOut l w2)) := hid (check_calls a c l (hd.keep hb2).row8 hd.cap (by have := hd.most; unfold maxLen at this; omega) (hE.below hb2).laid)
 have HDOC : Hid (0 < l.length → ∀ b o, a = some ⟨b, o, none⟩ → b < w.heap.size) := hid (fun hl b o ha => by
  rcases hd.row with h0 | ⟨b', o', h1, h2⟩
  ·omega
  ·rw [ha] at h1
   cases h1
   exact lt_of_cell (h2 0 hl))
 have hcap := hd.cap
 obtain ⟨n, hn⟩ : ∃ n, l.length = n := ⟨_, rfl⟩
 have HN := hid hn
 rw [hn] at HCK hcap ⊢
 clear hd hE hb2 hp2 hs2 hw2 hn hQ
 go_enter_defers Tryz.func40, Tryz.ntmps40
 go_wp2_with fail
 rw [HW2.out]
 with_reducible refine HCK.out.mono ?_
 rintro e w3 ⟨hck, hb⟩
 have hb3 : Below w.heap.size w w3 := HB2.out.trans (hb.mono (by rw [HS2.out]; omega))
 have HB3 := hid hb3
 have HP3 := hid (HP2.out.keep (keeps_below hb Non) (fun h => h) (fun h => h))
 have hsz3 : w.heap.size + 2 ≤ w3.heap.size := by have := hb.size; have := HS2.out; omega
 clear hb hb3 HCK
 by_cases c1 : 65536 < l.length
 ·rw [if_pos c1] at hck
  subst hck
  have HF : Hid (∀ tmps : Array Value, tmps.getD 2 undef = .pointer (some ⟨w.heap.size, 0, none⟩) → tmps.getD 3 undef = .pointer (some ⟨w.heap.size + 1, 0, none⟩) → Go.Leaves Tryz.prog Tryz.f40 tmps (AllOut w Q) (dfr w.heap.size) (.panicking [{ v := wrongV 8 65536, recovered := false }]) w3) := hid (fun tmps h2 h3 => by
   rw [← HQ.out, allS_eq, if_pos c1]
   exact all_panic 8 65536 (by decide) tmps h2 h3 _ HP3.out HB3.out)
  clear c1
  go_wp2_with fail
  exact HF.out _ rfl rfl
 rw [if_neg c1] at hck
 by_cases c2 : 0 ≤ badZ (fs l) l.length
 ·rw [if_pos c2] at hck
  subst hck
  have HF : Hid (∀ tmps : Array Value, tmps.getD 2 undef = .pointer (some ⟨w.heap.size, 0, none⟩) → tmps.getD 3 undef = .pointer (some ⟨w.heap.size + 1, 0, none⟩) → Go.Leaves Tryz.prog Tryz.f40 tmps (AllOut w Q) (dfr w.heap.size) (.panicking [{ v := wrongV 1 (badZ (fs l) l.length).toNat, recovered := false }]) w3) := hid (fun tmps h2 h3 => by
   rw [← HQ.out, allS_eq, if_neg c1, if_pos c2]
   exact all_panic 1 _ (by decide) tmps h2 h3 _ HP3.out HB3.out)
  clear c1 c2
  go_wp2_with fail
  exact HF.out _ rfl rfl
 rw [if_neg c2] at hck
 subst hck
 have HQ2 : Hid (Q = (declS l).then fun _ j t => toksG (t.length + 1) j t) := hid (by rw [← HQ.out, allS_eq, if_neg c1, if_neg c2])
 have hsc := (HD.out.keep HB3.out).scan (by omega)
 have hk4 : Below w3.heap.size w3 (w3.alloc (.cells #[.slice a l.length c, .int .i64 0] 119)) := (Below.refl _ _).alloc (Nat.le_refl _) _
 rw [HN.out] at hk4
 have hsc2 : ScAt (w3.alloc (.cells #[.slice a n c, .int .i64 0] 119)) w3.heap.size a c l 0 l := by
  rw [← HN.out]
  exact hsc
 clear hsc c1 c2
 obtain ⟨B, hB⟩ : ∃ B, w3.heap.size = B := ⟨_, rfl⟩
 have HBe := hid hB
 obtain ⟨w4, hw4⟩ : ∃ W, w3.alloc (.cells #[.slice a n c, .int .i64 0] 119) = W := ⟨_, rfl⟩
 have HW4 := hid hw4
 have hs4 : w4.heap.size = B + 1 := by rw [← hw4, ← hB]; simp
 rw [hw4] at hk4 hsc2
 have HB4 : Hid (Below w.heap.size w w4) := hid (HB3.out.trans (hk4.mono (by omega)))
 have HP4 : Hid (AtP w.heap.size w4 (.slice none 0 0)) := hid (HP3.out.keep (keeps_below hk4 Non) (fun h => h) (fun h => h))
 rw [hB] at hsc2
 have HS4 := hid hsc2
 have hB15 : 15 ≤ B := by omega
 have hBp : w.heap.size + 2 ≤ B := by omega
 have HC4 := hid (declaration_calls HS4.out (HE.out.below HB4.out) hB15)
 clear hk4 hsc2 hw4 hB
 obtain ⟨S, hS⟩ : ∃ S, declS l = S := ⟨_, rfl⟩
 have hq := HQ2.out
 have hnz := declS_nz l
 rw [hS] at HC4 hq hnz
 clear hS HQ2
 go_upto_region 4 with (fail)
 rw [HBe.out, HW4.out]
 cases S with
 | no cd p =>
  have HF : Hid (∀ W, Keeps (One B) w4 W → cd ≠ 0 → ∀ tmps : Array Value, tmps.getD 2 undef = .pointer (some ⟨w.heap.size, 0, none⟩) → tmps.getD 3 undef = .pointer (some ⟨w.heap.size + 1, 0, none⟩) → Go.Leaves Tryz.prog Tryz.f40 tmps (AllOut w Q) (dfr w.heap.size) (.panicking [{ v := wrongV cd p, recovered := false }]) W) := hid (fun W hk hcd tmps h2 h3 => by
   rw [hq]
   exact all_panic cd p hcd tmps h2 h3 _ (HP4.out.keep hk (fun h => by have h' : w.heap.size = B := h; omega) (fun h => by have h' : w.heap.size + 1 = B := h; omega)) (HB4.out.trans (hk.toBelow (by omega) (fun k h => by have h' : k = B := h; omega))))
  clear hq
  go_wp2_with fail
  with_reducible refine HC4.out.mono ?_
  rintro e w5 ⟨rfl, hk⟩
  have HF1 := hid (HF.out w5 hk (hnz cd p rfl))
  clear hk
  go_wp2_with fail
  exact HF1.out _ rfl rfl
 | ok y j1 t1 =>
  rw [Sx.then_ok] at hq
  have HQ5 := hid hq
  clear hq
  go_wp2_with fail
  with_reducible refine HC4.out.mono ?_
  rintro e w5 ⟨rfl, hs5, hk5⟩
  have HS5 := hid hs5
  have HB5 : Hid (Below w.heap.size w w5) := hid (HB4.out.trans (hk5.toBelow (by omega) (fun k h => by have h' : k = B := h; omega)))
  have HP5 : Hid (AtP w.heap.size w5 (.slice none 0 0)) := hid (HP4.out.keep hk5 (fun h => by have h' : w.heap.size = B := h; omega) (fun h => by have h' : w.heap.size + 1 = B := h; omega))
  have hsz5 : B + 1 ≤ w5.heap.size := by have := hk5.size; omega
  clear hs5 hk5
  obtain ⟨G, hG⟩ : ∃ G, t1.length = G := ⟨_, rfl⟩
  have hG65 : G ≤ 65536 := by have := HS5.out.len; have := HS5.out.few; omega
  have HG := hid hG
  clear hG
  go_wp2_with fail
  go_loopg [] (G + 1) (fun gk wr => ∃ j u v ps, u.length + 1 ≤ gk ∧ ps.length + gk ≤ G + 1 ∧ Q = ((toksG gk j u).then fun ts k t2 => .ok (ps.map Prod.fst ++ ts) k t2) ∧ OwnT (B + 1) wr v ps ∧ AtP w.heap.size wr v ∧ ScAt wr B a c l j u ∧ Below w.heap.size w wr ∧ B + 1 ≤ wr.heap.size)
  case atStart => exact ⟨j1, t1, _, [], by rw [HG.out]; exact Nat.le_refl _, by show 0 + (G + 1) ≤ _; omega, by rw [HQ5.out, HG.out]; cases toksG (G + 1) j1 t1 <;> rfl, OwnT.nil _ _, HP5.out, HS5.out, HB5.out, hsz5⟩
  case round =>
   obtain ⟨j, u, v, ps, hg, hps, hq, hown, hat, hs, hb, hszr⟩ := hrel
   have HO := hid hown
   have HP := hid hat
   have HS := hid hs
   have HB := hid hb
   have HQR := hid hq
   obtain ⟨z0, z1⟩ := hs.cells
   have hlen := hs.len
   rw [HN.out] at z0 hlen
   obtain ⟨p0, p1, f0, f1⟩ := hat.cells
   clear hown hat hs hb hq
   cases u with
   | nil =>
    have hge : ¬ ((j : Int) < (n : Int)) := by rw [List.length_nil] at hlen; omega
    obtain ⟨va, vc, rfl⟩ := HO.out.form
    have hpf : AtP w.heap.size ((wr.setCell ⟨w.heap.size, 0, none⟩ (.slice va ps.length vc)).setCell ⟨w.heap.size + 1, 0, none⟩ .nilIface) (.slice va ps.length vc) := by
     refine ⟨?_, ?_⟩
     ·rw [Below.heap_setCell _ ⟨w.heap.size + 1, 0, none⟩ _ w.heap.size (by simp)]
      exact block_setCell (i := 0) HP.out.p _
     ·have h1 : (wr.setCell ⟨w.heap.size, 0, none⟩ (.slice va ps.length vc)).heap[w.heap.size + 1]? = some (.cells #[.nilIface] 31 (0, 0)) := by
       rw [Below.heap_setCell _ ⟨w.heap.size, 0, none⟩ _ (w.heap.size + 1) (by simp)]
       exact HP.out.q
      exact block_setCell (i := 0) h1 _
    have hkf : Keeps (TwoP w.heap.size) wr ((wr.setCell ⟨w.heap.size, 0, none⟩ (.slice va ps.length vc)).setCell ⟨w.heap.size + 1, 0, none⟩ .nilIface) :=
     ((Keeps.refl _ wr).setCell (p := ⟨w.heap.size, 0, none⟩) (.inl (.inl rfl)) _).setCell (p := ⟨w.heap.size + 1, 0, none⟩) (.inl (.inr rfl)) _
    have HF : Hid (∀ tmps : Array Value, tmps.getD 2 undef = .pointer (some ⟨w.heap.size, 0, none⟩) → tmps.getD 3 undef = .pointer (some ⟨w.heap.size + 1, 0, none⟩) → Go.Leaves Tryz.prog Tryz.f40 tmps (AllOut w Q) (dfr w.heap.size) .returning ((wr.setCell ⟨w.heap.size, 0, none⟩ (.slice va ps.length vc)).setCell ⟨w.heap.size + 1, 0, none⟩ .nilIface)) := hid (fun tmps h2 h3 => by
     refine all_return tmps h2 h3 _ hpf _ ?_
     rw [HQR.out, toksG_nil]
     refine ⟨_, ps, rfl, by rw [List.append_nil], (HO.out.keep hkf (fun k hk h => by have h' : k = w.heap.size ∨ k = w.heap.size + 1 := h; omega)).older (by omega), HB.out.trans (hkf.toBelow HB.out.size (fun k h => by have h' : k = w.heap.size ∨ k = w.heap.size + 1 := h; omega))⟩)
    clear hpf hkf
    go_wp2_with fail
    exact HF.out _ rfl rfl
   | cons x t =>
    rw [List.length_cons] at hlen hg
    have hlt : (j : Int) < (n : Int) := by omega
    obtain ⟨g, rfl⟩ : ∃ g, gk = g + 1 := ⟨gk - 1, by omega⟩
    obtain ⟨va, vc, rfl⟩ := HO.out.form
    go_upto_region 6 with (fail)
    obtain ⟨x0, hx0⟩ : ∃ W, wr.drew = W := ⟨_, rfl⟩
    have hbx : Below wr.heap.size wr x0 := by rw [← hx0]; exact ⟨rfl, rfl, rfl, Nat.le_refl _, fun _ _ => rfl⟩
    have HPX := hid (HP.out.keep (keeps_below hbx Non) (fun h => h) (fun h => h))
    have HSX := hid (HS.out.keep hbx)
    have HBX : Hid (Below w.heap.size w x0) := hid (HB.out.trans (hbx.mono HB.out.size))
    have HOX := hid (HO.out.keep (keeps_below hbx Non) (fun _ _ h => h))
    have hszx : B + 1 ≤ x0.heap.size := Nat.le_trans hszr hbx.size
    refine wp_region_z (S := fun W => W.cell? ⟨w.heap.size, 0, none⟩ = some (.slice va ps.length vc)) 5 (by kernel_rfl) (by rw [hx0]; exact HPX.out.cells.1) (fun hHeld => ?_)
    rw [hx0] at hHeld ⊢
    clear hbx hx0 p0 p1 f0 f1 z0 z1 hlen
    refine wpAnyZ_take (i := 0) (f := 6) (v := ?_) rfl (by kernel_rfl) (by kernel_rfl) (by kernel_rfl) (by kernel_rfl) (by kernel_rfl) (fun c a w h => leaves_put 20 (by decide) _ a.tmps _ a.defers (.panicking c) w h) (Or.inl ⟨by rfl, ?_⟩) (by assumption) ?_
    rotate_left
    ·intro W hS
     try dsimp only at hS
     go_simp
     try with_reducible rfl
    try simp only [LT, Act.put]
    refine wpAnyZ_take (i := 1) (f := 6) (v := ?_) rfl (by kernel_rfl) (by kernel_rfl) (by kernel_rfl) (by kernel_rfl) (by kernel_rfl) (fun c a w h => leaves_put 21 (by decide) _ a.tmps _ a.defers (.panicking c) w h) (Or.inl ⟨by rfl, ?_⟩) (by assumption) ?_
    rotate_left
    ·intro W hS
     try dsimp only at hS
     go_simp
     try with_reducible rfl
    try simp only [LT, Act.put]
    have HQT : Hid (Q = ((tokS j (x :: t)).then fun tk j t => (toksG g j t).then fun l k t2 => .ok (tk :: l) k t2).then fun ts k t2 => .ok (ps.map Prod.fst ++ ts) k t2) := hid (by rw [HQR.out, toksG_succ])
    have HT := hid (token_calls HSX.out (HE.out.below HBX.out) hB15)
    have hsh := fun y j' t' (h : tokS j (x :: t) = .ok y j' t') => (tokS_fwd1 j x t).shorter h
    obtain ⟨T, hT⟩ : ∃ T, tokS j (x :: t) = T := ⟨_, rfl⟩
    have hq := HQT.out
    have hnz2 := tokS_nz j (x :: t)
    rw [hT] at HT hq hsh hnz2
    clear HQR HQT hT
    cases T with
    | no cd p =>
     have HF : Hid (∀ W, Keeps (One B) x0 W → cd ≠ 0 → ∀ tmps : Array Value, tmps.getD 2 undef = .pointer (some ⟨w.heap.size, 0, none⟩) → tmps.getD 3 undef = .pointer (some ⟨w.heap.size + 1, 0, none⟩) → Go.Leaves Tryz.prog Tryz.f40 tmps (AllOut w Q) (dfr w.heap.size) (.panicking [{ v := wrongV cd p, recovered := false }]) W) := hid (fun W hk hcd tmps h2 h3 => by
      rw [hq]
      exact all_panic cd p hcd tmps h2 h3 _ (HPX.out.keep hk (fun h => by have h' : w.heap.size = B := h; omega) (fun h => by have h' : w.heap.size + 1 = B := h; omega)) (HBX.out.trans (hk.toBelow HBX.out.size (fun k h => by have h' : k = B := h; omega))))
     clear hq hsh
     refine wpAnyZ_one (i := 2) (by kernel_rfl) rfl (fun K hK => ?_)
     go_simp
     with_reducible refine HT.out.mono ?_
     rintro e w7 ⟨rfl, hk⟩
     exact HF.out w7 hk (hnz2 cd p rfl) _ rfl rfl
    | ok tk j2 t2 =>
     have hshort := hsh _ _ _ rfl
     rw [List.length_cons] at hshort
     rw [Sx.then_ok] at hq
     have HQ7 := hid hq
     clear hq hsh
     refine wpAnyZ_one (i := 2) (by kernel_rfl) rfl (fun K hK => ?_)
     go_simp
     with_reducible refine HT.out.mono ?_
     rintro e w7 ⟨tv, rfl, hA, hs7, hk7⟩
     obtain ⟨ta, tc, rfl, _⟩ := hA.form
     have HP7 := hid (HPX.out.keep hk7 (fun h => by have h' : w.heap.size = B := h; omega) (fun h => by have h' : w.heap.size + 1 = B := h; omega))
     have hO7 := HOX.out.keep hk7 (fun k hk h => by have h' : k = B := h; omega)
     have hA7 := hA.older (n0 := B + 1) hszx
     have hap : ∀ k, (Value.slice ta tk.attrs.length tc).ownBlock = some k → (Value.slice va ps.length vc).ownBlock ≠ some k := fun k e hv => by
      have h1 := hA.new k e
      have h2 := HOX.out.lt k hv
      omega
     have hB7 : Below w.heap.size w w7 := HBX.out.trans (hk7.toBelow HBX.out.size (fun k h => by have h' : k = B := h; omega))
     have hsz7 : B + 1 ≤ w7.heap.size := Nat.le_trans hszx hk7.size
     obtain ⟨v8, w8, hrun, hO8, hk8⟩ := hO7.append tk _ hA7 hap hsz7 (by omega)
     obtain ⟨wa, hwa⟩ : ∃ W, w7.alloc (.cells #[.int .i64 (tk.kind : Int), .int .i64 (tk.at_ : Int), .string (strB tk.name), .string (strB tk.text), .slice ta tk.attrs.length tc] 87) = W := ⟨_, rfl⟩
     have hbl : ∀ k, (Value.slice va ps.length vc).ownBlock = some k → B + 1 ≤ k := fun k e => HOX.out.new k e
     have HP8 := hid (HP7.out.keep hk8 (fun h => by have := hbl _ h; omega) (fun h => by have := hbl _ h; omega))
     have HS8 := hid (hs7.far hk8 (fun h => by have := hbl _ h; omega) (fun hl b o ha h => by have := hbl _ h; have := HDOC.out hl b o ha; omega))
     have hB8 : Below w.heap.size w w8 := hB7.trans (hk8.toBelow hB7.size (fun k h => by have := hbl _ h; omega))
     have hsz8 : B + 1 ≤ w8.heap.size := Nat.le_trans hsz7 hk8.size
     obtain ⟨wb, wc, rfl⟩ := hO8.form
     rw [show (ps ++ [(tk, Value.slice ta tk.attrs.length tc)]).length = ps.length + 1 from by simp] at hrun hO8
     have hheld7 := HP7.out.cells.1
     have hheldA : wa.cell? ⟨w.heap.size, 0, none⟩ = some (.slice va ps.length vc) := by
      rw [← hwa]
      exact (World.cell?_of_block (Below.heap_alloc w7 _ _ (by have := hB7.size; have := lt_of_block HP7.out.p; omega))).trans hheld7
     have hheld8 := HP8.out.cells.1
     rw [hwa] at hrun
     have HRUN := hid hrun
     have HWA := hid hwa
     have HO8 := hid hO8
     have HB8 := hid hB8
     clear hA hs7 hk7 hO7 hA7 hap hB7 hrun hO8 hk8 hwa hbl hB8
     refine hK.out _ _ hheld7 (fun hHeld => ?_)
     clear hK K
     try simp only [LT, Act.put]
     unfold tokV
     refine wpAnyZ_one (i := 3) (by kernel_rfl) rfl (fun K hK => ?_)
     go_simp
     rw [HWA.out]
     refine hK.out _ _ hheldA (fun hHeld => ?_)
     clear hK K
     try simp only [LT, Act.put]
     refine wpAnyZ_one (i := 4) (by kernel_rfl) rfl (fun K hK => ?_)
     refine step_app HRUN.out (.tmp 20) (.tmp 23) rfl rfl rfl rfl (hK.out _ _ hheld8 (fun hHeld => ?_))
     clear hK K
     try simp only [LT, Act.put]
     have hf8 := HP8.out.cells.2.2.1
     refine wpAnyZ_last (by kernel_rfl) rfl (by kernel_rfl) (fun K hK => ?_)
     go_simp
     refine hK.out _ _ ?_
     clear hK K
     try simp only [LT, Act.put]
     have hk9 : Keeps (fun k => k = w.heap.size) w8 (w8.setCell ⟨w.heap.size, 0, none⟩ (.slice wb (ps.length + 1) wc)) := (Keeps.refl (fun k => k = w.heap.size) w8).setCell (p := ⟨w.heap.size, 0, none⟩) (.inl rfl) _
     have HP9 : Hid (AtP w.heap.size (w8.setCell ⟨w.heap.size, 0, none⟩ (.slice wb (ps.length + 1) wc)) (.slice wb (ps.length + 1) wc)) := hid ⟨block_setCell (i := 0) HP8.out.p _, block_keep HP8.out.q hk9 (by omega)⟩
     have HS9 := hid (HS8.out.far hk9 (fun h => by omega) (fun hl b o ha h => by have := HDOC.out hl b o ha; omega))
     have HB9 := hid (HB8.out.trans (hk9.toBelow HB8.out.size (fun k h => by omega)))
     have HO9 := hid (HO8.out.keep hk9 (fun k hk h => by omega))
     have hsz9 : B + 1 ≤ (w8.setCell ⟨w.heap.size, 0, none⟩ (.slice wb (ps.length + 1) wc)).heap.size := Nat.le_trans hsz8 hk9.size
     obtain ⟨w9, hw9⟩ : ∃ W, w8.setCell ⟨w.heap.size, 0, none⟩ (.slice wb (ps.length + 1) wc) = W := ⟨_, rfl⟩
     rw [hw9] at HP9 HS9 HB9 HO9 hsz9 ⊢
     clear hk9 hw9
     have HQ9 : Hid (Q = (toksG g j2 t2).then fun ts k t2 => .ok ((ps ++ [(tk, Value.slice ta tk.attrs.length tc)]).map Prod.fst ++ ts) k t2) := hid (by
      rw [HQ7.out, List.map_append]
      cases toksG g j2 t2 with
      | no cd p => rfl
      | ok ts k t3 =>
       show Sx.ok (ps.map Prod.fst ++ (tk :: ts)) k t3 = Sx.ok (ps.map Prod.fst ++ [tk] ++ ts) k t3
       rw [List.append_assoc]
       rfl)
     go_wp2_with fail
     go_roundg g
     case measure => omega
     case rel => exact ⟨j2, t2, _, _, by omega, by rw [List.length_append, List.length_cons, List.length_nil]; omega, HQ9.out, HO9.out, HP9.out, HS9.out, HB9.out, hsz9⟩
end Go.Proofs.YtjpkkflhcjjefaaGreatDoor
