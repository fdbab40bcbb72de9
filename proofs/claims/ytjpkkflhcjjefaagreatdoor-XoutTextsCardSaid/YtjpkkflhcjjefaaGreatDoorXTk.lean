/-
 A law for a region that draws its order and of which the last operation waits for all others; tokens in a slice of the call's own, and append to it; a document in memory; what All leaves, and its deferred call's two ends.
-/
import Derived.Test.YtjpkkflhcjjefaaGreatDoorXD
import Derived.Lib.SlBytesRowKit
import Derived.Test.YtjpkkflhcjjefaaGreatDoorXPt
import Derived.Defers
import Derived.Recover
import Derived.Laws.ResultCell
import Derived.Deep.RegionHeld
namespace Go.Proofs.YtjpkkflhcjjefaaGreatDoor
open Go.RowKit Go.Lib Go.Joins
set_option maxHeartbeats 32000000
theorem ScAt.bytes {w : World} {B : Nat} {a : Option Addr} {c : Nat} {l : List UInt8} {i : Nat} {t : List UInt8} (h : ScAt w B a c l i t) : Lib.BytesIn w a l.length (intsB l) := by
 intro hpos
 rcases h.row with h1 | ⟨b, o, h1, _, h3⟩
 ·omega
 ·refine ⟨b, o, h1, fun k hk => ?_⟩
  rw [h3 k hk, intsB_getD _ _ hk]
theorem prefix_split {m l : List UInt8} (h : m.isPrefixOf l = true) : l = m ++ l.drop m.length := by
 obtain ⟨r, rfl⟩ := List.isPrefixOf_iff_prefix.1 h
 rw [List.drop_left]
theorem cutp_bytes {W : World} {B : Nat} {a : Option Addr} {c : Nat} {l : List UInt8} {i : Nat} {t : List UInt8} (h : ScAt W B a c l i t) (m : List UInt8) (p : Option Addr) (mc : Nat) (h2 : Lib.BytesIn W p m.length (intsB m)) : Calls Tryz.prog 99 #[.slice a l.length c, .slice p m.length mc] W (fun e w' => e = .returned (.tuple #[if m.isPrefixOf l = true then .slice (tailA a c m.length) (l.length - m.length) (c - m.length) else .slice a l.length c, .bool (m.isPrefixOf l)]) ∧ w' = W) := by
 refine (Tryz.bytes_CutPrefix_all a p l.length c m.length mc (intsB l) (intsB m) W (intsB_len l) (intsB_len m) h.cap h.bytes h2).mono ?_
 rintro e w' ⟨rfl, rfl⟩
 refine ⟨?_, rfl⟩
 rw [trimPrefixV_eq (intsB_len l) h.bytes, bytesOf_ints, bytesOf_ints, intsB_len]
 rfl
def xmlB : List UInt8 := [60, 63, 120, 109, 108]
theorem upToS_len {m : List UInt8} {i : Nat} {t x : List UInt8} {j : Nat} {u : List UInt8} (h : upToS m i t = .ok x j u) : x.length ≤ t.length := by
 unfold upToS at h
 cases hc : cutS m t with
 | none => rw [hc] at h; cases h
 | some q =>
  rw [hc] at h
  cases h
  have := cutS_le m hc
  exact Nat.le_trans (eols_length _) this.1
def declR : Sx (List UInt8) → Sx Unit
 | .ok u j t => if declaresS u = true then .ok () j t else .no 2 0
 | .no cd p => .no cd p
theorem declS_eq (b : List UInt8) : declS b = if xmlB.isPrefixOf b = true then (match b.drop 5 with | [] => .ok () 0 b | x :: t => if blankB (x.toNat : Int) = true then declR (upToS [63, 62] 5 (x :: t)) else .ok () 0 b) else .ok () 0 b := by
 unfold declS
 rw [show ([60, 63, 120, 109, 108] : List UInt8) = xmlB from rfl]
 by_cases h : xmlB.isPrefixOf b = true
 ·rw [if_pos h]
  cases hd : b.drop 5 with
  | nil => rw [if_neg (by simp)]
  | cons x t =>
   dsimp only
   by_cases h2 : blankB (x.toNat : Int) = true
   ·rw [if_pos ⟨h, h2⟩, if_pos h2]
    cases upToS [63, 62] 5 (x :: t) <;> rfl
   ·rw [if_neg (fun h3 => h2 h3.2), if_neg h2]
 ·rw [if_neg (fun h3 => h h3.1), if_neg h]
set_option maxRecDepth 100000 in
theorem declaration_calls {w : World} {B : Nat} {a : Option Addr} {c : Nat} {l : List UInt8} (h : ScAt w B a c l 0 l) (hE : EnvAt w) (hB : 15 ≤ B) : Calls Tryz.prog 72 #[.pointer (some ⟨B, 0, none⟩)] w (ScOut w B a c l (fun _ : Unit => .tuple #[]) (declS l)) := by
 rw [declS_eq]
 obtain ⟨e0, e1⟩ := h.cells
 have hfew := h.few
 have hcap := h.cap
 have HS := hid h
 have HE := hid hE
 have kc := fun (w : World) (C : Array Value) (n c : Nat) => Lib.run_convert_bytes_const (P := Tryz.prog) w 43 5 C n c Tryz.underlying43 Tryz.underlying5
 have HPR : Hid (∀ W, Below w.heap.size w W → ∀ mb, Lib.BytesIn W (some ⟨mb, 0, none⟩) 5 (intsB xmlB) → Calls Tryz.prog 99 #[.slice a l.length c, .slice (some ⟨mb, 0, none⟩) 5 5] W (fun e w' => e = .returned (.tuple #[if xmlB.isPrefixOf l = true then .slice (tailA a c 5) (l.length - 5) (c - 5) else .slice a l.length c, .bool (xmlB.isPrefixOf l)]) ∧ w' = W)) := hid (fun W hb mb h2 => cutp_bytes (HS.out.keep hb) xmlB _ 5 h2)
 have HBY : Hid (∀ W : World, Lib.BytesIn (W.alloc (.cells #[.int .u8 60, .int .u8 63, .int .u8 120, .int .u8 109, .int .u8 108] 5 (5, 6))) (some ⟨W.heap.size, 0, none⟩) 5 (intsB xmlB)) := hid (fun W _ => ⟨W.heap.size, 0, rfl, fun k hk => by
  rw [World.cell?_alloc_mark]
  rcases k with _ | _ | _ | _ | _ | k
  ·rfl
  ·rfl
  ·rfl
  ·rfl
  ·rfl
  ·omega⟩)
 by_cases hp : xmlB.isPrefixOf l = true
 ·rw [if_pos hp]
  rw [hp, if_pos rfl] at HPR
  have hsp := prefix_split hp
  rw [show xmlB.length = 5 from rfl] at hsp
  have hl5 := congrArg List.length hsp
  rw [List.length_append, show xmlB.length = 5 from rfl] at hl5
  have HTL := hid (fun W (hb : Below w.heap.size w W) => ((HS.out.keep hb).tail 5 (by omega)).1)
  obtain ⟨ta, hta⟩ : ∃ x, tailA a c 5 = x := ⟨_, rfl⟩
  rw [hta] at HPR HTL
  obtain ⟨r, hr⟩ : ∃ r, l.drop 5 = r := ⟨_, rfl⟩
  rw [hr] at HTL hl5 ⊢
  obtain ⟨n, hn⟩ : ∃ n, l.length = n := ⟨_, rfl⟩
  obtain ⟨nr, hnr⟩ : ∃ x, n - 5 = x := ⟨_, rfl⟩
  obtain ⟨cr, hcr⟩ : ∃ x, c - 5 = x := ⟨_, rfl⟩
  rw [hn] at e0 hfew hcap HPR HTL hl5
  rw [hnr] at HPR HTL
  rw [hcr] at HPR
  have HR := hid hr
  have HN := hid hn
  have hnrr : nr = r.length := by omega
  cases r with
  | nil =>
   have h0 : nr = 0 := hnrr
   subst h0
   clear HTL hsp hnr hcr hnrr hr hn hp
   dsimp only
   have HF : Hid (∀ W, Below w.heap.size w W → ScOut w B a c l (fun _ : Unit => .tuple #[]) (.ok () 0 l) (.returned (.tuple #[])) W) := hid (fun W hb => ⟨rfl, HS.out.keep hb, keeps_below hb _⟩)
   clear h hE hfew hcap hl5
   go_enter Tryz.func72, Tryz.ntmps72
   go_wp2_with fail
   have HB0 : Hid (Below w.heap.size w (w.alloc (.cells #[.int .u8 60, .int .u8 63, .int .u8 120, .int .u8 109, .int .u8 108] 5 (5, 6)))) := hid (Below.alloc ⟨rfl, rfl, rfl, Nat.le_refl _, fun _ _ => rfl⟩ (Nat.le_refl _) _)
   with_reducible refine (HPR.out _ HB0.out _ (HBY.out w)).mono ?_
   rintro e wx ⟨rfl, hx⟩
   have HBx : Hid (Below w.heap.size w wx) := hid (by rw [hx]; exact HB0.out)
   clear hx HB0
   go_wp2_with fail
   go_end0
   exact HF.out _ HBx.out
  | cons x t =>
   dsimp only
   rw [List.length_cons] at hnrr hl5
   have hpos : ((nr : Int) == 0) = false := by
    rw [beq_eq_false_iff_ne]
    omega
   have hp1 : (0 : Int) < (nr : Int) := by omega
   obtain ⟨tb, tof, hta2, hcell⟩ : ∃ b o, ta = some ⟨b, o, none⟩ ∧ ∀ W, Below w.heap.size w W → W.cell? ⟨b, o, none⟩ = some (.int .u8 (x.toNat : Int)) := by
    obtain ⟨b, o, h1, h2⟩ := HTL.out w ⟨rfl, rfl, rfl, Nat.le_refl _, fun _ _ => rfl⟩ (by omega)
    refine ⟨b, o, h1, fun W hb => ?_⟩
    obtain ⟨b', o', h1', h2'⟩ := HTL.out W hb (by omega)
    rw [h1] at h1'
    cases h1'
    have := h2' 0 (by omega)
    rw [Nat.add_zero] at this
    rw [this]
    rfl
   rw [hta2] at HPR
   have HCELL := hid hcell
   have hwr : IntKind.i32.wrap (x.toNat : Int) = (x.toNat : Int) := IntWalk.i32_in _ (by have := x.toNat_lt; omega)
   obtain ⟨bl, hbl⟩ : ∃ y, blankB (x.toNat : Int) = y := ⟨_, rfl⟩
   have HBL := hid (fun W => blank_calls (x.toNat : Int) W)
   rw [hbl] at HBL ⊢
   obtain ⟨xn, hxn⟩ : ∃ y : Int, (x.toNat : Int) = y := ⟨_, rfl⟩
   rw [hxn] at HCELL hwr HBL
   clear hcell hta hta2 HTL hsp hcr hr hn hp hxn hbl
   cases bl with
   | false =>
    rw [if_neg (by decide)]
    have HF : Hid (∀ W, Below w.heap.size w W → ScOut w B a c l (fun _ : Unit => .tuple #[]) (.ok () 0 l) (.returned (.tuple #[])) W) := hid (fun W hb => ⟨rfl, HS.out.keep hb, keeps_below hb _⟩)
    clear h hE hfew hcap hl5 hnrr hnr
    go_enter Tryz.func72, Tryz.ntmps72
    go_wp2_with fail
    have HB0 : Hid (Below w.heap.size w (w.alloc (.cells #[.int .u8 60, .int .u8 63, .int .u8 120, .int .u8 109, .int .u8 108] 5 (5, 6)))) := hid (Below.alloc ⟨rfl, rfl, rfl, Nat.le_refl _, fun _ _ => rfl⟩ (Nat.le_refl _) _)
    with_reducible refine (HPR.out _ HB0.out _ (HBY.out w)).mono ?_
    rintro e wx ⟨rfl, hx⟩
    have HBx : Hid (Below w.heap.size w wx) := hid (by rw [hx]; exact HB0.out)
    clear hx HB0
    have e5 := HCELL.out _ HBx.out
    go_wp2_with fail
    with_reducible refine (HBL.out _).mono ?_
    rintro e wy ⟨rfl, hy⟩
    have hy' := hy.symm
    subst hy'
    clear hy
    go_wp2_with fail
    go_end0
    exact HF.out _ HBx.out
   | true =>
    rw [if_pos rfl]
    have hsub : IntKind.i64.wrap ((n : Int) - (nr : Int)) = ((5 : Nat) : Int) := by
     rw [show ((n : Int) - (nr : Int)) = 5 by omega]
     exact IntWalk.i64_in _ (by omega)
    obtain ⟨Q, hQ⟩ : ∃ Q, upToS [63, 62] 5 (x :: t) = Q := ⟨_, rfl⟩
    have HQ := hid hQ
    have HR5 : Hid (x :: t = l.drop 5 ∧ 5 ≤ l.length) := hid ⟨HR.out.symm, by rw [HN.out]; omega⟩
    rw [hQ]
    clear h hE hfew hcap hl5 hnrr hnr hQ
    go_enter Tryz.func72, Tryz.ntmps72
    go_wp2_with fail
    have HB0 : Hid (Below w.heap.size w (w.alloc (.cells #[.int .u8 60, .int .u8 63, .int .u8 120, .int .u8 109, .int .u8 108] 5 (5, 6)))) := hid (Below.alloc ⟨rfl, rfl, rfl, Nat.le_refl _, fun _ _ => rfl⟩ (Nat.le_refl _) _)
    with_reducible refine (HPR.out _ HB0.out _ (HBY.out w)).mono ?_
    rintro e wx ⟨rfl, hx⟩
    have HBx : Hid (Below w.heap.size w wx) := hid (by rw [hx]; exact HB0.out)
    clear hx HB0
    have e5 := HCELL.out _ HBx.out
    go_wp2_with fail
    with_reducible refine (HBL.out _).mono ?_
    rintro e wy ⟨rfl, hy⟩
    have hy' := hy.symm
    subst hy'
    clear hy
    have f1 := unfrozen_of_block (HS.out.keep HBx.out).blk 1
    obtain ⟨z0, z1⟩ := (HS.out.keep HBx.out).cells
    rw [HN.out] at z0
    clear e0 e1
    go_wp2_with fail
    have HP := hid ((HS.out.keep HBx.out).place HR5.out.2 HR5.out.1)
    have HK2 : Hid (Keeps (One B) w (wx.setCell ⟨B, 1, none⟩ (.int .i64 ((5 : Nat) : Int)))) := hid ((keeps_below HBx.out (One B)).trans HP.out.2 (fresh_refl _ _))
    have HS2 := hid HP.out.1
    clear HP
    rw [show ((5 : Nat) : Int) = 5 from rfl] at HS2 HK2
    obtain ⟨w2, hw2⟩ : ∃ W, wx.setCell ⟨B, 1, none⟩ (.int .i64 5) = W := ⟨_, rfl⟩
    rw [hw2] at HS2 HK2 ⊢
    clear hw2 e5 f1
    have HUP := hid (upTo_at HS2.out (HE.out.keeps HK2.out hB) hB [63, 62] ⟨#[63, 62]⟩ rfl (by decide) (by decide))
    rw [HQ.out] at HUP
    with_reducible refine HUP.out.mono ?_
    clear HUP
    cases Q with
    | no cd p =>
     rintro e w3 ⟨rfl, hk⟩
     have HF : Hid (ScOut w B a c l (fun _ : Unit => .tuple #[]) (declR (.no cd p)) (.panicked [{ v := wrongV cd p, recovered := false }]) w3) := hid ⟨rfl, HK2.out.trans hk (fresh_refl _ _)⟩
     clear hk
     go_wp2_with fail
     exact ⟨rfl, HF.out⟩
    | ok u j t2 =>
     rintro e w3 ⟨rfl, hs3, hk⟩
     have HK3 : Hid (Keeps (One B) w w3) := hid (HK2.out.trans hk (fresh_refl _ _))
     have HS3 := hid hs3
     clear hs3 hk
     have HD := hid (declares_calls u w3 (by
      have h1 := upToS_len HQ.out
      rw [HR5.out.1, List.length_drop] at h1
      have := HS.out.few
      omega) (HE.out.keeps HK3.out hB))
     dsimp only
     obtain ⟨us, hus⟩ : ∃ x, strB u = x := ⟨_, rfl⟩
     rw [hus] at HD ⊢
     clear hus
     obtain ⟨D, hD⟩ : ∃ D, declaresS u = D := ⟨_, rfl⟩
     have HDD := hid hD
     rw [hD] at HD
     go_wp2_with fail
     with_reducible refine HD.out.mono ?_
     rintro e w4 ⟨rfl, hb⟩
     have HB4 := hid hb
     clear hb
     cases D with
     | false =>
      have HF : Hid (ScOut w B a c l (fun _ : Unit => .tuple #[]) (declR (.ok u j t2)) (.panicked [{ v := wrongV 2 0, recovered := false }]) w4) := hid (by
       rw [declR, if_neg (by rw [HDD.out]; decide)]
       exact ⟨rfl, HK3.out.trans (keeps_below HB4.out Non) (fresh_non _ _)⟩)
      go_wp2_with fail
      exact ⟨rfl, HF.out⟩
     | true =>
      have HF : Hid (ScOut w B a c l (fun _ : Unit => .tuple #[]) (declR (.ok u j t2)) (.returned (.tuple #[])) w4) := hid (by
       rw [declR, if_pos HDD.out]
       exact ⟨rfl, HS3.out.keep HB4.out, HK3.out.trans (keeps_below HB4.out Non) (fresh_non _ _)⟩)
      go_wp2_with fail
      go_end0
      exact HF.out
 ·rw [if_neg hp]
  have hpf : xmlB.isPrefixOf l = false := by
   cases h9 : xmlB.isPrefixOf l with
   | true => exact absurd h9 hp
   | false => rfl
  rw [hpf, if_neg (by decide)] at HPR
  have HF : Hid (∀ W, Below w.heap.size w W → ScOut w B a c l (fun _ : Unit => .tuple #[]) (.ok () 0 l) (.returned (.tuple #[])) W) := hid (fun W hb => ⟨rfl, HS.out.keep hb, keeps_below hb _⟩)
  obtain ⟨n, hn⟩ : ∃ n, l.length = n := ⟨_, rfl⟩
  rw [hn] at HPR e0
  clear h hE hfew hcap hp hpf hn
  go_enter Tryz.func72, Tryz.ntmps72
  go_wp2_with fail
  have HB0 : Hid (Below w.heap.size w (w.alloc (.cells #[.int .u8 60, .int .u8 63, .int .u8 120, .int .u8 109, .int .u8 108] 5 (5, 6)))) := hid (Below.alloc ⟨rfl, rfl, rfl, Nat.le_refl _, fun _ _ => rfl⟩ (Nat.le_refl _) _)
  with_reducible refine (HPR.out _ HB0.out _ (HBY.out w)).mono ?_
  rintro e wx ⟨rfl, hx⟩
  have HBx : Hid (Below w.heap.size w wx) := hid (by rw [hx]; exact HB0.out)
  clear hx HB0
  go_wp2_with fail
  go_end0
  exact HF.out _ HBx.out
def ChkOut (l : List UInt8) (w : World) (e : Ending) (w' : World) : Prop :=
 (if 65536 < l.length then e = .panicked [{ v := wrongV 8 65536, recovered := false }] else if 0 ≤ badZ (fs l) l.length then e = .panicked [{ v := wrongV 1 (badZ (fs l) l.length).toNat, recovered := false }] else e = .returned (.tuple #[])) ∧ Below w.heap.size w w'
set_option maxRecDepth 100000 in
theorem check_calls {w : World} (a : Option Addr) (c : Nat) (l : List UInt8) (hr : Row8 w a l.length (fs l)) (hc : l.length ≤ c) (hc2 : c ≤ 9223372036854775807) (hL : Laid w) : Calls Tryz.prog 71 #[.slice a l.length c] w (ChkOut l w) := by
 by_cases h1 : 65536 < l.length
 ·have HF : Hid (ChkOut l w (.panicked [{ v := wrongV 8 65536, recovered := false }]) w) := hid ⟨by rw [if_pos h1], Below.refl _ _⟩
  obtain ⟨n, hn⟩ : ∃ n, l.length = n := ⟨_, rfl⟩
  rw [hn] at h1 ⊢
  have hz : (65536 : Int) < (n : Int) := by omega
  clear hr hL hn hc hc2
  go_enter Tryz.func71, Tryz.ntmps71
  go_wp2_with fail
  exact ⟨rfl, HF.out⟩
 ·have HB := hid (bad_calls a l.length c (fs l) w hL hc hc2 hr (by omega))
  obtain ⟨z, hz⟩ : ∃ z, badZ (fs l) l.length = z := ⟨_, rfl⟩
  have HZ := hid hz
  have HN1 := hid h1
  rw [hz] at HB
  obtain ⟨n, hn⟩ : ∃ n, l.length = n := ⟨_, rfl⟩
  have HN := hid hn
  rw [hn] at h1 HB ⊢
  have hz1 : ¬ ((65536 : Int) < (n : Int)) := by omega
  clear hr hL hn hc hc2 hz
  by_cases h2 : 0 ≤ z
  ·have HF : Hid (∀ w', Below w.heap.size w w' → ChkOut l w (.panicked [{ v := .iface 115 (.agg #[.int .i64 1, .int .i64 z]), recovered := false }]) w') := hid (fun w' hb => ⟨by
    rw [if_neg HN1.out, HZ.out, if_pos h2]
    unfold wrongV
    rw [Int.toNat_of_nonneg h2]
    rfl, hb⟩)
   go_enter Tryz.func71, Tryz.ntmps71
   go_wp2_with fail
   with_reducible refine HB.out.mono ?_
   rintro e w1 ⟨rfl, hb⟩
   have HF1 := hid (HF.out w1 hb)
   clear hb
   go_wp2_with fail
   exact ⟨rfl, HF1.out⟩
  ·have HF : Hid (∀ w', Below w.heap.size w w' → ChkOut l w (.returned (.tuple #[])) w') := hid (fun w' hb => ⟨by
    rw [if_neg HN1.out, HZ.out, if_neg h2], hb⟩)
   go_enter Tryz.func71, Tryz.ntmps71
   go_wp2_with fail
   with_reducible refine HB.out.mono ?_
   rintro e w1 ⟨rfl, hb⟩
   have HF1 := hid (HF.out w1 hb)
   clear hb
   go_wp2_with fail
   go_end0
   exact HF1.out
theorem catch_idle2 (p q : Addr) (w : World) :
  CallsD Tryz.prog 70 #[.pointer (some p), .pointer (some q)] .returning w fun e u' w' => e = .returned (.tuple #[]) ∧ u' = .returning ∧ w' = w := by
 refine callsD_of_wpS Tryz.func70 rfl fun c₀ cs hu => ?_
 apply wpS_seq
 apply wpS_region
 simp [wpOpsS, go_sem, recoverD, hu, Tryz.ntmps70, Exit.thenS]
 refine wpS_of_wp ?_
 simp only [Array.replicate_succ, Array.replicate_zero, List.push_toArray, List.nil_append, List.cons_append]
 go_wp2_with fail
 cases c₀
 simp_all [bodyPostS, results, Tryz.results70]
def CaughtOut (p q : Nat) (cd pl : Nat) (older : List PanicEntry) (w : World) (e : Ending) (u' : FrameMode) (w' : World) : Prop :=
 e = .returned (.tuple #[]) ∧ u' = .panicking ({ v := wrongV cd pl, recovered := true } :: older) ∧ ∃ w1 b, Below w.heap.size w w1 ∧ w.heap.size ≤ b ∧ w1.cell? ⟨b, 0, none⟩ = some (.string segS) ∧ w1.cell? ⟨b, 1, none⟩ = some (plainV cd pl) ∧
  w' = (w1.setCell ⟨p, 0, none⟩ (.slice none 0 0)).setCell ⟨q, 0, none⟩ (.iface 96 (.pointer (some ⟨b, 0, none⟩)))
set_option maxRecDepth 100000 in
theorem catch_wrong (p q : Nat) (cd pl : Nat) (hcd : cd ≠ 0) (older : List PanicEntry) (x y : Value) (w : World) (h0 : w.cell? ⟨p, 0, none⟩ = some x) (h1 : w.cell? ⟨q, 0, none⟩ = some y) (f0 : w.frozen? ⟨p, 0, none⟩ = false) (f1 : w.frozen? ⟨q, 0, none⟩ = false) (hpq : p ≠ q) :
  CallsD Tryz.prog 70 #[.pointer (some ⟨p, 0, none⟩), .pointer (some ⟨q, 0, none⟩)] (.panicking ({ v := wrongV cd pl, recovered := false } :: older)) w (CaughtOut p q cd pl older w) := by
 have HC := hid hcd
 have hz : ((cd : Int) == 0) = false := by
  rw [beq_eq_false_iff_ne]
  omega
 have hp := lt_of_cell h0
 have hq := lt_of_cell h1
 refine callsD_of_wpS Tryz.func70 rfl fun c₀ cs hu => ?_
 have HF : Hid (∀ a w', a.defers = [] → (∃ w1 b, Below w.heap.size w w1 ∧ w.heap.size ≤ b ∧ w1.cell? ⟨b, 0, none⟩ = some (.string segS) ∧ w1.cell? ⟨b, 1, none⟩ = some (plainV cd pl) ∧ w' = (w1.setCell ⟨p, 0, none⟩ (.slice none 0 0)).setCell ⟨q, 0, none⟩ (.iface 96 (.pointer (some ⟨b, 0, none⟩)))) →
   bodyPostS Tryz.prog Tryz.f70 c₀ cs (CaughtOut p q cd pl older w) .normal a ({ c₀ with mode := .panicking ({ v := wrongV cd pl, recovered := true } :: older) } :: cs) w') := hid (fun a w' hd h => ⟨hd, _, rfl, _, by simp [results, Tryz.results70, go_sem], rfl, rfl, h⟩)
 apply wpS_seq
 apply wpS_region
 simp [wpOpsS, go_sem, recoverD, hu, Tryz.ntmps70, Exit.thenS]
 refine wpS_of_wp ?_
 simp only [Array.replicate_succ, Array.replicate_zero, List.push_toArray, List.nil_append, List.cons_append]
 unfold wrongV at HF ⊢
 have hta : ∀ w : World, (Instr.typeAssert (.iface 115 (.agg #[.int .i64 (cd : Int), .int .i64 (pl : Int)])) 20 115 true).run Tryz.prog w = .ok (.tuple #[.agg #[.int .i64 (cd : Int), .int .i64 (pl : Int)], .bool true]) w := fun _ => by kernel_rfl
 have HN := hid (fun W => new_code (cd : Int) (pl : Int) W hz)
 have HWr := hid (fun W => wrap_some segS 78 (.agg #[.int .i64 (cd : Int), .int .i64 (pl : Int)]) W)
 unfold segS at HWr
 go_wp2_with fail
 obtain ⟨wa, hwa⟩ : ∃ W, w.alloc (.cells #[.int .i64 (cd : Int), .int .i64 (pl : Int)] 115) = W := ⟨_, rfl⟩
 have HBA : Hid (Below w.heap.size w wa) := hid (by rw [← hwa]; exact (Below.refl _ _).alloc (Nat.le_refl _) _)
 rw [hwa]
 clear hwa
 with_reducible refine (HN.out wa).mono ?_
 rintro e wb ⟨rfl, hx⟩
 subst hx
 unfold plainV at *
 go_wp2_with fail
 with_reducible refine (HWr.out wa).mono ?_
 rintro e wb ⟨rfl, hx⟩
 have hab : Below w.heap.size w wb := by
  rw [← hx]
  exact HBA.out.alloc HBA.out.size _
 have hc0 : wb.cell? ⟨wa.heap.size, 0, none⟩ = some (.string ⟨#[120, 109, 108]⟩) := by rw [← hx]; simp
 have hc1 : wb.cell? ⟨wa.heap.size, 1, none⟩ = some (.iface 78 (.agg #[.int .i64 (cd : Int), .int .i64 (pl : Int)])) := by rw [← hx]; simp
 have g0 := (hab.cell (p := ⟨p, 0, none⟩) hp).trans h0
 have g1 := (hab.cell (p := ⟨q, 0, none⟩) hq).trans h1
 have k0 := (hab.frozen (p := ⟨p, 0, none⟩) hp).trans f0
 have k1 := (hab.frozen (p := ⟨q, 0, none⟩) hq).trans f1
 have hle := HBA.out.size
 have HZ : Hid (∃ w1 b, Below w.heap.size w w1 ∧ w.heap.size ≤ b ∧ w1.cell? ⟨b, 0, none⟩ = some (.string segS) ∧ w1.cell? ⟨b, 1, none⟩ = some (.iface 78 (.agg #[.int .i64 (cd : Int), .int .i64 (pl : Int)])) ∧ (wb.setCell ⟨p, 0, none⟩ (.slice none 0 0)).setCell ⟨q, 0, none⟩ (.iface 96 (.pointer (some ⟨wa.heap.size, 0, none⟩))) = (w1.setCell ⟨p, 0, none⟩ (.slice none 0 0)).setCell ⟨q, 0, none⟩ (.iface 96 (.pointer (some ⟨b, 0, none⟩)))) := hid ⟨wb, wa.heap.size, hab, hle, hc0, hc1, rfl⟩
 have e1 : (wb.setCell ⟨p, 0, none⟩ (.slice none 0 0)).cell? ⟨q, 0, none⟩ = some y := by
  exact (World.cell?_of_block (Below.heap_setCell wb ⟨p, 0, none⟩ _ q (fun h => hpq h.symm))).trans g1
 have e2 : (wb.setCell ⟨p, 0, none⟩ (.slice none 0 0)).frozen? ⟨q, 0, none⟩ = false := by rw [World.frozen?_setCell]; exact k1
 clear hab hc0 hc1 hx h0 h1 f0 f1 g1 k1 hle
 go_wp2_with fail
 exact HF.out _ _ rfl HZ.out
end Go.Proofs.YtjpkkflhcjjefaaGreatDoor
namespace Go.Proofs.YtjpkkflhcjjefaaGreatDoor
open Go
set_option maxHeartbeats 32000000
section
variable {P : Program} {ops : Array Oper} {Q : Exit → Act → World → Prop} {md : Region.Mode} {S : World → Prop} {z : Nat}
def wpAnyZ (P : Program) (md : Region.Mode) (ops : Array Oper) (Q : Exit → Act → World → Prop) (S : World → Prop) (z : Nat) : Nat → Array Bool → Act → World → Prop
 | 0, listed, a, w => Region.ready md ops listed = [] ∧ Q .normal a w
 | fuel + 1, listed, a, w =>
  (Region.ready md ops listed = [] → Q .normal a w) ∧
  ∀ i ∈ Region.ready md ops listed, wpOp P ops Q i (fun a' w' => (i = z ∨ S w') ∧ wpAnyZ P md ops Q S z fuel (listed.setIfInBounds i true) a' w') a w
theorem wpAny_of_z : ∀ (fuel : Nat) (listed : Array Bool) (a : Act) (w : World), wpAnyZ P md ops Q S z fuel listed a w → wpAny P md ops Q fuel listed a w
 | 0, _, _, _, h => h
 | fuel + 1, _, _, _, h => ⟨h.1, fun i hi => wpOp_mono (fun a' w' h' => wpAny_of_z fuel _ a' w' h'.2) (h.2 i hi)⟩
def Closed (md : Region.Mode) (ops : Array Oper) (listed : Array Bool) : Prop :=
 ∀ j o, ops[j]? = some o → listed.getD j false = true → ∀ e ∈ o.after, Region.binds md e = true → listed.getD e.on false = true
def closedB (md : Region.Mode) (ops : Array Oper) (listed : Array Bool) : Bool :=
 (List.range ops.size).all fun j => !listed.getD j false || ((ops[j]?).map (·.after.toList.all fun e => !Region.binds md e || listed.getD e.on false)).getD true
theorem closedB_spec {listed : Array Bool} (h : closedB md ops listed = true) : Closed md ops listed := by
 intro j o ho hj e he hb
 unfold closedB at h
 have hlt : j < ops.size := (Array.getElem?_eq_some_iff.1 ho).1
 have h1 := List.all_eq_true.1 h j (List.mem_range.2 hlt)
 rw [hj, ho] at h1
 simp only [Bool.not_true, Bool.false_or, Option.map_some, Option.getD_some] at h1
 have h2 := List.all_eq_true.1 h1 e (Array.mem_toList_iff.2 he)
 rw [hb] at h2
 simpa using h2
theorem getD_set {listed : Array Bool} {i j : Nat} (h : listed.getD j false = true) : (listed.setIfInBounds i true).getD j false = true := by
 by_cases hij : i = j
 ·subst hij
  rcases Nat.lt_or_ge i listed.size with h' | h'
  ·simp [h']
  ·simp [Array.getElem?_eq_none h'] at h
 ·rw [getD_set_ne false hij]; exact h
theorem Closed.step {listed : Array Bool} (h : Closed md ops listed) {i : Nat} (hi : i ∈ Region.ready md ops listed) : Closed md ops (listed.setIfInBounds i true) := by
 intro j o ho hj e he hb
 by_cases hij : i = j
 ·subst hij
  obtain ⟨_, o', ho', hall⟩ := mem_ready.1 hi
  rw [ho] at ho'
  obtain rfl := Option.some.inj ho'
  exact getD_set (hall e he hb)
 ·rw [getD_set_ne false hij] at hj
  exact getD_set (h j o ho hj e he hb)
def waits (md : Region.Mode) (ops : Array Oper) : Nat → Nat → Nat → Bool
 | 0, _, _ => false
 | fuel + 1, n, i => match ops[n]? with
  | none => false
  | some o => o.after.toList.any fun e => Region.binds md e && (e.on == i || waits md ops fuel e.on i)
theorem waits_spec {listed : Array Bool} (hc : Closed md ops listed) {i : Nat} : ∀ (fuel n : Nat) (o : Oper), ops[n]? = some o → waits md ops fuel n i = true →
  (∀ e ∈ o.after, Region.binds md e = true → listed.getD e.on false = true) → listed.getD i false = true
 | 0, n, o, _, h, _ => by cases h
 | fuel + 1, n, o, ho, h, hall => by
  unfold waits at h
  rw [ho] at h
  obtain ⟨e, he, h2⟩ := List.any_eq_true.1 h
  rw [Bool.and_eq_true, Bool.or_eq_true] at h2
  obtain ⟨hb, h3⟩ := h2
  have hl := hall e (Array.mem_toList_iff.1 he) hb
  rcases h3 with h3 | h3
  ·rw [← beq_iff_eq.1 h3]; exact hl
  ·cases fuel with
   | zero => cases h3
   | succ fuel =>
    cases hoe : ops[e.on]? with
    | none => unfold waits at h3; rw [hoe] at h3; cases h3
    | some oe => exact waits_spec hc (fuel + 1) e.on oe hoe h3 (hc e.on oe hoe hl)
theorem wpAnyZ_first {i f : Nat} {oi : Oper} {v : Value} (hi : ops[i]? = some oi) (hsel : ∀ (j : Nat) (o : Oper) cs b, ops[j]? = some o → o.op ≠ .select cs b)
  (hQ : ∀ c a w, Q (.panic c) (a.put oi.dst v) w → Q (.panic c) a w) (hz : waits md ops f z i = true) :
  ∀ (fuel : Nat) (listed : Array Bool) (a : Act) (w : World), Closed md ops listed →
   (∀ j oj, ops[j]? = some oj → j ≠ i → listed.getD j true = false → (∀ e ∈ oj.after, Region.binds md e = true → e.on ≠ i) → oi.apart ops oj = true) →
   i ∈ Region.ready md ops listed → YieldsIf P ops S oi v a → S w →
   wpAnyZ P md ops Q S z fuel (listed.setIfInBounds i true) (a.put oi.dst v) w → wpAnyZ P md ops Q S z (fuel + 1) listed a w := by
 intro fuel
 induction fuel with
 | zero =>
  intro listed a w _ _ hr hy hS H
  refine ⟨fun h => (by rw [h] at hr; cases hr), fun j hj => ?_⟩
  by_cases hji : j = i
  ·subst hji; exact hy.wpOp hi hS ⟨.inr hS, H⟩
  ·have := ready_mono hj hji
   rw [H.1] at this
   cases this
 | succ fuel ih =>
  intro listed a w hcl hfree hr hy hS H
  refine ⟨fun h => (by rw [h] at hr; cases hr), fun j hj => ?_⟩
  by_cases hji : j = i
  ·subst hji; exact hy.wpOp hi hS ⟨.inr hS, H⟩
  ·have h1 := H.2 j (ready_mono hj hji)
   obtain ⟨hjun, oj, hoj, hall⟩ := mem_ready.1 hj
   have hiun : listed.getD i false = false := by
    have h0 := (mem_ready.1 hr).1
    rcases Nat.lt_or_ge i listed.size with h' | h'
    ·simp [h'] at h0 ⊢; exact h0
    ·simp [Array.getElem?_eq_none h'] at h0
   have hjz : j ≠ z := by
    rintro rfl
    have := waits_spec hcl f j oj hoj hz hall
    rw [hiun] at this
    cases this
   have hnot : ∀ e ∈ oj.after, Region.binds md e = true → e.on ≠ i := fun e he hb heq => by
    have h1 := hall e he hb
    rw [heq, hiun] at h1
    cases h1
   have h2 := wpOp_putIf hoj (hfree j oj hoj hji hjun hnot) (fun cs b => hsel i oi cs b hi) (fun cs b => hsel j oj cs b hoj) hQ hy h1
   have hfree' : ∀ k ok, ops[k]? = some ok → k ≠ i → (listed.setIfInBounds j true).getD k true = false →
     (∀ e ∈ ok.after, Region.binds md e = true → e.on ≠ i) → oi.apart ops ok = true := fun k ok hk hki hun hno => by
    refine hfree k ok hk hki ?_ hno
    by_cases hjk : j = k
    ·subst hjk; exact hjun
    ·rw [getD_set_ne true hjk] at hun; exact hun
   refine wpOp_mono (fun a' w' h3 => ?_) h2
   have hS' : S w' := h3.2.1.resolve_left hjz
   refine ⟨.inr hS', ih (listed.setIfInBounds j true) a' w' (hcl.step hj) hfree' (ready_mono hr (Ne.symm hji)) h3.1 hS' ?_⟩
   rw [Array.setIfInBounds_comm _ _ hji]
   exact h3.2.2
theorem wpAnyZ_take {i f : Nat} {oi : Oper} {v : Value} {fuel : Nat} {listed : Array Bool} {a : Act} {w : World} (hi : ops[i]? = some oi)
  (hs : Region.noSelect ops = true) (hf : Region.free md ops listed i = true) (hr : (Region.ready md ops listed).contains i = true) (hz : waits md ops f z i = true) (hc : closedB md ops listed = true)
  (hQ : ∀ c a w, Q (.panic c) (a.put oi.dst v) w → Q (.panic c) a w) (hy : YieldsIf P ops S oi v a) (hS : S w)
  (h : wpAnyZ P md ops Q S z fuel (listed.setIfInBounds i true) (a.put oi.dst v) w) : wpAnyZ P md ops Q S z (fuel + 1) listed a w :=
 wpAnyZ_first hi (Region.noSelect_spec hs) hQ hz fuel listed a w (closedB_spec hc) (Region.free_spec hi hf) (by simpa using hr) hy hS h
theorem tkZ (i f : Nat) {oi : Oper} {v : Value} {fuel : Nat} {listed : Array Bool} {a : Act} {w : World} (h : wpAnyZ P md ops Q S z fuel (listed.setIfInBounds i true) (a.put oi.dst v) w) (hi : ops[i]? = some oi := by rfl)
  (hy : ∀ w, S w → (execOp a.eval oi).run P w = .ok (.value v) w := by (intro W hS; (try dsimp only at hS); go_simp; try with_reducible rfl))
  (hk : (Region.noSelect ops && Region.free md ops listed i && (Region.ready md ops listed).contains i && waits md ops f z i && closedB md ops listed) = true := by kernel_rfl)
  (hQ : ∀ c a w, Q (.panic c) (a.put oi.dst v) w → Q (.panic c) a w := by exact fun _ _ _ h => h) (hg : Region.wanted oi (yielded ops a.tmps) = true := by rfl) (hS : S w := by assumption) : wpAnyZ P md ops Q S z (fuel + 1) listed a w := by
 rw [Bool.and_eq_true, Bool.and_eq_true, Bool.and_eq_true, Bool.and_eq_true] at hk
 exact wpAnyZ_take hi hk.1.1.1.1 hk.1.1.1.2 hk.1.1.2 hk.1.2 hk.2 hQ (.inl ⟨hg, hy⟩) hS h
theorem wpAnyZ_one {i : Nat} {o : Oper} {fuel : Nat} {listed : Array Bool} {a : Act} {w : World} (hr : Region.ready md ops listed = [i]) (ho : ops[i]? = some o)
  (h : ∀ K' : Act → World → Prop, Shut (∀ a w, S w → (S w → wpAnyZ P md ops Q S z fuel (listed.setIfInBounds i true) a w) → K' a w) → if Region.wanted o (yielded ops a.tmps) = true then Oper.wp P o a w K' Q else K' (a.put o.dst undef) w) :
  wpAnyZ P md ops Q S z (fuel + 1) listed a w := by
 refine ⟨fun h0 => (by rw [hr] at h0; cases h0), fun j hj => ?_⟩
 rw [hr] at hj
 obtain rfl := List.mem_singleton.1 hj
 exact wpOp_step ho (fun K' hK => h K' (fun a w hS hW => hK a w ⟨.inr hS, hW hS⟩))
theorem wpAnyZ_last {o : Oper} {fuel : Nat} {listed : Array Bool} {a : Act} {w : World} (hr : Region.ready md ops listed = [z]) (ho : ops[z]? = some o) (hd : Region.ready md ops (listed.setIfInBounds z true) = [])
  (h : ∀ K' : Act → World → Prop, Shut (∀ a w, Q .normal a w → K' a w) → if Region.wanted o (yielded ops a.tmps) = true then Oper.wp P o a w K' Q else K' (a.put o.dst undef) w) :
  wpAnyZ P md ops Q S z (fuel + 1) listed a w := by
 refine ⟨fun h0 => (by rw [hr] at h0; cases h0), fun j hj => ?_⟩
 rw [hr] at hj
 obtain rfl := List.mem_singleton.1 hj
 refine wpOp_step ho (fun K' hK => h K' (fun a w hq => hK a w ⟨.inl rfl, ?_⟩))
 cases fuel with
 | zero => exact ⟨hd, hq⟩
 | succ fuel => exact ⟨fun _ => hq, fun i hi => by rw [hd] at hi; cases hi⟩
theorem wp_region_z {id : Nat} {a : Act} {w : World} (z : Nat) (hm : P.follows .mixedOrders = true) (hS : S w.drew)
  (h : S w.drew → wpAnyZ P .any ops Q S z ops.size (Array.replicate ops.size false) a w.drew) : (Code.region id ops true).wp P Q a w :=
 wp_region_any hm (wpAny_of_z _ _ _ _ (h hS))
end
end Go.Proofs.YtjpkkflhcjjefaaGreatDoor
namespace Go.Proofs.YtjpkkflhcjjefaaGreatDoor
open Go.RowKit Go.Lib Go.Joins
def tksC : List (Tk × Value) → List Value
 | [] => []
 | x :: t => .int .i64 (x.1.kind : Int) :: .int .i64 (x.1.at_ : Int) :: .string (strB x.1.name) :: .string (strB x.1.text) :: x.2 :: tksC t
theorem tksC_app : ∀ (l m : List (Tk × Value)), tksC (l ++ m) = tksC l ++ tksC m
 | [], _ => rfl
 | x :: t, m => by rw [List.cons_append]; show _ :: _ :: _ :: _ :: _ :: tksC (t ++ m) = _; rw [tksC_app t m]; rfl
theorem tksC_at : ∀ {l : List (Tk × Value)} {i : Nat} {x : Tk × Value}, l[i]? = some x → (tksC l)[i * 5]? = some (.int .i64 (x.1.kind : Int)) ∧ (tksC l)[i * 5 + 1]? = some (.int .i64 (x.1.at_ : Int)) ∧ (tksC l)[i * 5 + 2]? = some (.string (strB x.1.name)) ∧ (tksC l)[i * 5 + 3]? = some (.string (strB x.1.text)) ∧ (tksC l)[i * 5 + 4]? = some x.2
 | [], _, _, h => by simp at h
 | y :: t, 0, x, h => by
  obtain rfl : y = x := by simpa using h
  exact ⟨rfl, rfl, rfl, rfl, rfl⟩
 | y :: t, i + 1, x, h => by
  rw [List.getElem?_cons_succ] at h
  obtain ⟨h1, h2, h3, h4, h5⟩ := tksC_at h
  rw [show (i + 1) * 5 = i * 5 + 1 + 1 + 1 + 1 + 1 by omega]
  exact ⟨h1, h2, h3, h4, h5⟩
theorem infoT : (Tryz.prog.info? 87).map (fun i => (i.zero, i.size, i.bytes)) = some (some (.agg #[.int .i64 0, .int .i64 0, .string ⟨#[]⟩, .string ⟨#[]⟩, .slice none 0 0]), 5, 72) := by kernel_rfl
structure OwnT (n0 : Nat) (w : World) (v : Value) (ps : List (Tk × Value)) : Prop where
 row : w.ownsRow 0 87 5 v ps.length (tksC ps)
 new : ∀ k, v.ownBlock = some k → n0 ≤ k
 atts : ∀ p, p ∈ ps → OwnA n0 w p.2 p.1.attrs
 apart : ∀ p, p ∈ ps → ∀ k, p.2.ownBlock = some k → v.ownBlock ≠ some k
theorem OwnT.nil (n0 : Nat) (w : World) : OwnT n0 w (.slice none 0 0) [] := ⟨World.ownsRow_nil _ _ _ _, (fun k e => by cases e), (fun _ h => by cases h), (fun _ h => by cases h)⟩
theorem OwnT.keep {n0 : Nat} {w w' : World} {O : Nat → Prop} {v : Value} {ps : List (Tk × Value)} (h : OwnT n0 w v ps) (hk : Keeps O w w') (hO : ∀ k, n0 ≤ k → ¬ O k) : OwnT n0 w' v ps :=
 ⟨ownsRow_keep h.row hk (fun k e => hO k (h.new k e)), h.new, fun p hp => (h.atts p hp).keep hk hO, h.apart⟩
theorem OwnT.older {n0 n1 : Nat} {w : World} {v : Value} {ps : List (Tk × Value)} (h : OwnT n1 w v ps) (hn : n0 ≤ n1) : OwnT n0 w v ps := ⟨h.row, fun k e => Nat.le_trans hn (h.new k e), fun p hp => (h.atts p hp).older hn, h.apart⟩
theorem OwnT.lt {n0 : Nat} {w : World} {v : Value} {ps : List (Tk × Value)} (h : OwnT n0 w v ps) : ∀ k, v.ownBlock = some k → k < w.heap.size := fun k e => (h.row.lt k e).2
theorem OwnT.form {n0 : Nat} {w : World} {v : Value} {ps : List (Tk × Value)} (h : OwnT n0 w v ps) : ∃ a c, v = .slice a ps.length c := by
 rcases h.row.2 with ⟨h1, h0⟩ | ⟨g, cap, cur, h1, _⟩
 ·exact ⟨none, 0, by rw [h1, h0]⟩
 ·exact ⟨_, cap, h1⟩
theorem OwnA.one {n0 : Nat} {w : World} {v : Value} {l : List (List UInt8 × List UInt8)} (h : OwnA n0 w v l) : v.oneCell' = true := by
 obtain ⟨a, c, rfl, _⟩ := h.form
 rfl
theorem tksC_one : ∀ {l : List (Tk × Value)} {u : Value}, (∀ p, p ∈ l → p.2.oneCell' = true) → u ∈ tksC l → u.oneCell' = true
 | [], _, _, h => by cases h
 | x :: t, u, hx, h => by
  have h2 : u = .int .i64 (x.1.kind : Int) ∨ u = .int .i64 (x.1.at_ : Int) ∨ u = .string (strB x.1.name) ∨ u = .string (strB x.1.text) ∨ u = x.2 ∨ u ∈ tksC t := by
   have : u ∈ (.int .i64 (x.1.kind : Int) :: .int .i64 (x.1.at_ : Int) :: .string (strB x.1.name) :: .string (strB x.1.text) :: x.2 :: tksC t : List Value) := h
   simpa using this
  rcases h2 with rfl | rfl | rfl | rfl | rfl | h2
  ·rfl
  ·rfl
  ·rfl
  ·rfl
  ·exact hx x (List.mem_cons_self ..)
  ·exact tksC_one (fun p hp => hx p (List.mem_cons_of_mem _ hp)) h2
theorem OwnT.append {n0 : Nat} {w : World} {v : Value} {ps : List (Tk × Value)} (h : OwnT n0 w v ps) (x : Tk) (xv : Value) (hx : OwnA n0 w xv x.attrs) (hap : ∀ k, xv.ownBlock = some k → v.ownBlock ≠ some k) (hn : n0 ≤ w.heap.size) (hs : ps.length ≤ 1000000) :
  ∃ v' w', (∀ ty, (Builtin.append_ #[80, 80] ty #[v, .slice (some ⟨w.heap.size, 0, none⟩) 1 1]).run Tryz.prog (w.alloc (.cells #[.int .i64 (x.kind : Int), .int .i64 (x.at_ : Int), .string (strB x.name), .string (strB x.text), xv] 87)) = .ok v' w') ∧ OwnT n0 w' v' (ps ++ [(x, xv)]) ∧ Keeps (fun k => v.ownBlock = some k) w w' := by
 obtain ⟨v', w', h1, h2, h3, h4⟩ := append_any (w := w.alloc (.cells #[.int .i64 (x.kind : Int), .int .i64 (x.at_ : Int), .string (strB x.name), .string (strB x.text), xv] 87)) Tryz.underlying80 infoT rfl (by decide) (h.row.alloc _) (b := ⟨w.heap.size, 0, none⟩) (m := 1) (c := 1) (news := tksC [(x, xv)]) rfl (newA_cells w (tksC [(x, xv)]) _)
  (fun u hu => tksC_one (fun p hp => by rw [List.mem_singleton.1 hp]; exact hx.one) hu) (by unfold maxLen; omega) (by omega)
 have hk : Keeps (fun k => v.ownBlock = some k) w w' := ((Keeps.refl _ w).alloc _).grown h3 (fun k e => .inl e)
 refine ⟨v', w', h1, ⟨by rw [List.length_append, tksC_app]; exact h2, fun k e => ?_, fun p hp => ?_, fun p hp k e hv => ?_⟩, hk⟩
 ·rcases h4 k e with h5 | h5
  ·exact h.new k h5
  ·simp at h5; omega
 ·rcases List.mem_append.1 hp with h5 | h5
  ·have h6 := h.atts p h5
   exact ⟨ownsRow_keep h6.row hk (fun k e hv => h.apart p h5 k e hv), h6.new⟩
  ·rw [List.mem_singleton.1 h5]
   exact ⟨ownsRow_keep hx.row hk (fun k e hv => hap k e hv), hx.new⟩
 ·have hlt : k < w.heap.size := by
   rcases List.mem_append.1 hp with h5 | h5
   ·exact (h.atts p h5).lt k e
   ·rw [List.mem_singleton.1 h5] at e
    exact hx.lt k e
  rcases h4 k hv with h5 | h5
  ·rcases List.mem_append.1 hp with h6 | h6
   ·exact h.apart p h6 k e h5
   ·rw [List.mem_singleton.1 h6] at e
    exact hap k e h5
  ·simp at h5; omega
structure DocAt (w : World) (a : Option Addr) (c : Nat) (l : List UInt8) : Prop where
 row : l.length = 0 ∨ ∃ b o, a = some ⟨b, o, none⟩ ∧ ∀ k, k < l.length → w.cell? ⟨b, o + k, none⟩ = some (.int .u8 (fs l k : Int))
 nul : a = none → c = 0
 cap : l.length ≤ c
 most : c ≤ maxLen
theorem DocAt.row8 {w : World} {a : Option Addr} {c : Nat} {l : List UInt8} (h : DocAt w a c l) : Row8 w a l.length (fs l) :=
 ⟨fs_lt l, by have := h.cap; have := h.most; unfold maxLen at this; omega, h.row⟩
theorem DocAt.keep {w w' : World} {a : Option Addr} {c : Nat} {l : List UInt8} (h : DocAt w a c l) (hb : Below w.heap.size w w') : DocAt w' a c l where
 row := by
  rcases h.row with h0 | ⟨b, o, h1, h2⟩
  ·exact .inl h0
  ·exact .inr ⟨b, o, h1, fun k hk => (hb.cell (lt_of_cell (h2 k hk))).trans (h2 k hk)⟩
 nul := h.nul
 cap := h.cap
 most := h.most
theorem DocAt.scan {w : World} {a : Option Addr} {c : Nat} {l : List UInt8} (h : DocAt w a c l) (hf : l.length ≤ 65536) : ScAt (w.alloc (.cells #[.slice a l.length c, .int .i64 0] 119)) w.heap.size a c l 0 l where
 blk := heap_alloc_new w _
 row := by
  rcases (h.keep ((Below.refl _ _).alloc (Nat.le_refl _) _)).row with h0 | ⟨b, o, h1, h2⟩
  ·exact .inl h0
  ·by_cases h0 : l.length = 0
   ·exact .inl h0
   ·refine .inr ⟨b, o, h1, ?_, h2⟩
    rcases h.row with h3 | ⟨b', o', h3, h4⟩
    ·omega
    ·rw [h1] at h3
     cases h3
     have := lt_of_cell (h4 0 (by omega))
     omega
 nul := h.nul
 cap := h.cap
 most := h.most
 few := hf
 fits := Nat.zero_le _
 left := rfl
def AllOut (w : World) : Sx (List Tk) → Ending → World → Prop
 | .ok ts _ _, e, w' => ∃ v ps, e = .returned (.tuple #[v, .nilIface]) ∧ ps.map Prod.fst = ts ∧ OwnT w.heap.size w' v ps ∧ Below w.heap.size w w'
 | .no cd p, e, w' => ∃ ev, e = .returned (.tuple #[.slice none 0 0, ev]) ∧ cd ≠ 0 ∧ ErrAt w.heap.size w' (cd : Int) (p : Int) ev ∧ Below w.heap.size w w'
theorem results_put (k : Nat) (hk : k ≠ 2 ∧ k ≠ 3) (v : Value) (tmps : Array Value) : results Tryz.f40 (tmps.setIfInBounds k v) = results Tryz.f40 tmps := by
 have h2 : (tmps.setIfInBounds k v).getD 2 undef = tmps.getD 2 undef := by
  rw [Array.getD_eq_getD_getElem?, Array.getD_eq_getD_getElem?, Array.getElem?_setIfInBounds_ne hk.1]
 have h3 : (tmps.setIfInBounds k v).getD 3 undef = tmps.getD 3 undef := by
  rw [Array.getD_eq_getD_getElem?, Array.getD_eq_getD_getElem?, Array.getElem?_setIfInBounds_ne hk.2]
 unfold results
 simp only [Tryz.results40, Array.mapM_eq_mapM_toList, List.mapM_cons, List.mapM_nil, h2, h3]
theorem leaves_put (k : Nat) (hk : k ≠ 2 ∧ k ≠ 3) (v : Value) (tmps : Array Value) (R : Ending → World → Prop) : ∀ (ds : List Deferred) (u : FrameMode) (w : World), Go.Leaves Tryz.prog Tryz.f40 (tmps.setIfInBounds k v) R ds u w → Go.Leaves Tryz.prog Tryz.f40 tmps R ds u w
 | [], .returning, w, h => by
  unfold Go.Leaves at h ⊢
  rw [results_put k hk v tmps] at h
  exact h
 | [], .panicking chain, w, h => h
 | [], .run, w, h => h
 | d :: ds, u, w, h => by
  obtain ⟨h1, fv, cap, f, args, h2, h3, h4⟩ := h
  refine ⟨h1, fv, cap, f, args, h2, h3, h4.mono fun e u' w' he => ?_⟩
  cases e with
  | returned x => exact leaves_put k hk v tmps R ds _ w' he
  | panicked chain => exact leaves_put k hk v tmps R ds _ w' he
  | outgrown => exact he
end Go.Proofs.YtjpkkflhcjjefaaGreatDoor
namespace Go.Proofs.YtjpkkflhcjjefaaGreatDoor
open Go.RowKit Go.Lib Go.Joins
structure AtP (w0 : Nat) (W : World) (v : Value) : Prop where
 p : W.heap[w0]? = some (.cells #[v] 80 (0, 0))
 q : W.heap[w0 + 1]? = some (.cells #[.nilIface] 31 (0, 0))
theorem AtP.cells {w0 : Nat} {W : World} {v : Value} (h : AtP w0 W v) : W.cell? ⟨w0, 0, none⟩ = some v ∧ W.cell? ⟨w0 + 1, 0, none⟩ = some .nilIface ∧ W.frozen? ⟨w0, 0, none⟩ = false ∧ W.frozen? ⟨w0 + 1, 0, none⟩ = false :=
 ⟨by rw [World.cell?, h.p]; rfl, by rw [World.cell?, h.q]; rfl, unfrozen_of_block h.p 0, unfrozen_of_block h.q 0⟩
theorem AtP.keep {w0 : Nat} {W W' : World} {v : Value} {O : Nat → Prop} (h : AtP w0 W v) (hk : Keeps O W W') (h1 : ¬ O w0) (h2 : ¬ O (w0 + 1)) : AtP w0 W' v := ⟨block_keep h.p hk h1, block_keep h.q hk h2⟩
def dfr (w0 : Nat) : List Deferred := [{ target := .fn (.func 70) #[.pointer (some ⟨w0, 0, none⟩), .pointer (some ⟨w0 + 1, 0, none⟩)], args := #[] }]
set_option maxRecDepth 100000 in
theorem all_panic {w W : World} (cd pl : Nat) (hcd : cd ≠ 0) (tmps : Array Value) (h2 : tmps.getD 2 undef = .pointer (some ⟨w.heap.size, 0, none⟩)) (h3 : tmps.getD 3 undef = .pointer (some ⟨w.heap.size + 1, 0, none⟩)) (x : Value) (hP : AtP w.heap.size W x) (hb : Below w.heap.size w W) :
  Go.Leaves Tryz.prog Tryz.f40 tmps (AllOut w (.no cd pl)) (dfr w.heap.size) (.panicking [{ v := wrongV cd pl, recovered := false }]) W := by
 obtain ⟨c0, c1, f0, f1⟩ := hP.cells
 refine leaves_cons (f := 70) (args := #[.pointer (some ⟨w.heap.size, 0, none⟩), .pointer (some ⟨w.heap.size + 1, 0, none⟩)]) (by simp) (by simp [go_sem]) ?_
 refine (catch_wrong w.heap.size (w.heap.size + 1) cd pl hcd [] x .nilIface W c0 c1 f0 f1 (by omega)).mono ?_
 rintro e u' w'' ⟨rfl, rfl, w1, b, hb1, hbn, d0, d1, rfl⟩
 have hP1 := hP.keep (keeps_below hb1 Non) (fun h => h) (fun h => h)
 have hbb : Below w.heap.size w w1 := hb.trans (hb1.mono hb.size)
 have hlt0 := lt_of_block hP1.p
 have hlt1 := lt_of_block hP1.q
 have hB : Below w.heap.size w ((w1.setCell ⟨w.heap.size, 0, none⟩ (.slice none 0 0)).setCell ⟨w.heap.size + 1, 0, none⟩ (.iface 96 (.pointer (some ⟨b, 0, none⟩)))) :=
  Below.setCell (Below.setCell hbb (p := ⟨w.heap.size, 0, none⟩) (Nat.le_refl _) _) (p := ⟨w.heap.size + 1, 0, none⟩) (Nat.le_succ _) _
 have hltb := lt_of_block hP.q
 have hb0 : b ≠ w.heap.size := by omega
 have hb2 : b ≠ w.heap.size + 1 := by omega
 have k0 : ((w1.setCell ⟨w.heap.size, 0, none⟩ (.slice none 0 0)).setCell ⟨w.heap.size + 1, 0, none⟩ (.iface 96 (.pointer (some ⟨b, 0, none⟩)))).cell? ⟨b, 0, none⟩ = some (.string segS) :=
  (World.cell?_of_block ((Below.heap_setCell _ ⟨w.heap.size + 1, 0, none⟩ _ b hb2).trans (Below.heap_setCell w1 ⟨w.heap.size, 0, none⟩ _ b hb0))).trans d0
 have k1 : ((w1.setCell ⟨w.heap.size, 0, none⟩ (.slice none 0 0)).setCell ⟨w.heap.size + 1, 0, none⟩ (.iface 96 (.pointer (some ⟨b, 0, none⟩)))).cell? ⟨b, 1, none⟩ = some (plainV cd pl) :=
  (World.cell?_of_block ((Below.heap_setCell _ ⟨w.heap.size + 1, 0, none⟩ _ b hb2).trans (Below.heap_setCell w1 ⟨w.heap.size, 0, none⟩ _ b hb0))).trans d1
 have hle := hb.size
 obtain ⟨e0, e1, _, _⟩ := hP1.cells
 have hz : AllOut w (.no cd pl) (.returned (.tuple #[.slice none 0 0, .iface 96 (.pointer (some ⟨b, 0, none⟩))])) ((w1.setCell ⟨w.heap.size, 0, none⟩ (.slice none 0 0)).setCell ⟨w.heap.size + 1, 0, none⟩ (.iface 96 (.pointer (some ⟨b, 0, none⟩)))) :=
  ⟨_, rfl, hcd, .inr ⟨by omega, b, rfl, k0, k1, by omega⟩, hB⟩
 clear k0 k1 hB hP hP1 d0 d1 c0 c1 f0 f1 hb hb1 hbb
 rw [Array.getD_eq_getD_getElem?] at h2 h3
 simp [Go.Leaves, settle, results, Tryz.results40, go_sem, h2, h3, e0, e1]
 exact hz
set_option maxRecDepth 100000 in
theorem all_return {w W : World} (tmps : Array Value) (h2 : tmps.getD 2 undef = .pointer (some ⟨w.heap.size, 0, none⟩)) (h3 : tmps.getD 3 undef = .pointer (some ⟨w.heap.size + 1, 0, none⟩)) (x : Value) (hP : AtP w.heap.size W x) (R : Ending → World → Prop) (hR : R (.returned (.tuple #[x, .nilIface])) W) :
  Go.Leaves Tryz.prog Tryz.f40 tmps R (dfr w.heap.size) .returning W := by
 obtain ⟨c0, c1, f0, f1⟩ := hP.cells
 refine leaves_cons (f := 70) (args := #[.pointer (some ⟨w.heap.size, 0, none⟩), .pointer (some ⟨w.heap.size + 1, 0, none⟩)]) (by simp) (by simp [go_sem]) ?_
 refine (catch_idle2 ⟨w.heap.size, 0, none⟩ ⟨w.heap.size + 1, 0, none⟩ W).mono ?_
 rintro e u' w'' ⟨rfl, rfl, rfl⟩
 clear hP f0 f1
 rw [Array.getD_eq_getD_getElem?] at h2 h3
 simp [Go.Leaves, settle, results, Tryz.results40, go_sem, h2, h3, c0, c1]
 exact hR
end Go.Proofs.YtjpkkflhcjjefaaGreatDoor
