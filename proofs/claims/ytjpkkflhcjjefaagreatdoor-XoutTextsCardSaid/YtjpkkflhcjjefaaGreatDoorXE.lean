/-
 A comment, and an end tag, told by a document's scan.
-/
import Derived.Test.YtjpkkflhcjjefaaGreatDoorXV
namespace Go.Proofs.YtjpkkflhcjjefaaGreatDoor
open Go.RowKit Go.Lib Go.Joins
set_option maxRecDepth 100000
set_option maxHeartbeats 32000000
theorem mark_row (W : World) (m : List UInt8) : ∃ mb mc W1, (convert 9 43 (.string (strB m))).run Tryz.prog W = .ok (.slice (some ⟨mb, 0, none⟩) m.length mc) W1 ∧ Below W.heap.size W W1 ∧ ∀ W2, Below W1.heap.size W1 W2 → Lib.BytesIn W2 (some ⟨mb, 0, none⟩) m.length (intsB m) := by
 refine ⟨W.heap.size, grownCap W (strB m).size 0 5, bytesWorld W 5 (strB m), Lib.run_convert_string_bytes (P := Tryz.prog) W 9 43 5 (strB m) Tryz.underlying9 Tryz.underlying43 Tryz.underlying5, bytesWorld_below W (strB m), fun W2 hb _ => ⟨_, 0, rfl, fun k hk => ?_⟩⟩
 have hc := bytesWorld_cell W 5 (strB m) k hk
 rw [Nat.zero_add, cell_below hb hc, intsB_getD m k hk]
 rfl
theorem opens_calls {w : World} {B : Nat} {a : Option Addr} {c : Nat} {l : List UInt8} {i : Nat} {t : List UInt8} (h : ScAt w B a c l i t) (m : List UInt8) (hml : m.length ≤ 1000) : Calls Tryz.prog 103 #[.pointer (some ⟨B, 0, none⟩), .string (strB m)] w (ScOut w B a c l (fun x : Bool => .bool x) (opensS m i t)) := by
 obtain ⟨e0, e1⟩ := h.cells
 have hfew := h.few
 have hcap := h.cap
 have hfit := h.fits
 obtain ⟨n, hn⟩ : ∃ n, l.length = n := ⟨_, rfl⟩
 obtain ⟨TL, hT⟩ : ∃ TL, t.length = TL := ⟨_, rfl⟩
 obtain ⟨M, hM⟩ : ∃ M, m.length = M := ⟨_, rfl⟩
 have hlen := h.len
 rw [hn] at e0 hfew hcap hfit hlen
 rw [hT] at hlen
 rw [hM] at hml
 have hTL : n - i = TL := by omega
 have HS := hid h
 have HNL := hid hn
 have HTL := hid hT
 have HML := hid hM
 have HLE := hid hlen
 have hq0 : (0 : Int) ≤ (i : Int) := by omega
 have hq1 : (i : Int) ≤ (n : Int) := by omega
 obtain ⟨ms, hms⟩ : ∃ ms, strB m = ms := ⟨_, rfl⟩
 have hsz : ms.size = M := by rw [← hms, ← hM]; rfl
 have HMS := hid hms
 have HTA : Hid (∀ k, (convert 43 9 (.slice (tailA a c i) TL (c - i))).run Tryz.prog (w.drewN k) = .ok (.string (strB t)) (w.drewN k)) := hid (fun k => by
  have := (HS.out.drawn k).conv i TL (c - i) (by rw [HNL.out]; omega)
  rw [← HS.out.left, List.take_of_length_le (by rw [hT]; exact Nat.le_refl _)] at this
  exact this)
 have HBI : Hid (∀ W, Below w.heap.size w W → ∀ mb mc, Lib.BytesIn W (some ⟨mb, 0, none⟩) M (intsB m) → Calls Tryz.prog 128 #[.slice (tailA a c i) TL (c - i), .slice (some ⟨mb, 0, none⟩) M mc] W (Stays (.bool (m.isPrefixOf t)) W)) := hid (fun W hb mb mc h2 => by
  obtain ⟨h1, _, h4⟩ := (HS.out.keep hb).tail i (by rw [HNL.out]; exact hfit)
  rw [HNL.out, hTL] at h1 h4
  have h := Tryz.bytes_HasPrefix_all (tailA a c i) (some ⟨mb, 0, none⟩) TL (c - i) M mc (intsB (l.drop i)) (intsB m) W (by rw [intsB_len, ← HS.out.left, hT]) (by rw [intsB_len, hM]) h4 h1 h2
  rw [bytesOf_ints, bytesOf_ints, ← HS.out.left] at h
  exact h)
 obtain ⟨ta, hta⟩ : ∃ ta, (if c = i then a else Option.map (fun x => x.add i) a) = ta := ⟨_, rfl⟩
 have hta2 : tailA a c i = ta := hta
 rw [hta2] at HTA HBI
 have HTAE := hid hta
 have HMR : Hid (∀ W, ∃ mb mc W1, (convert 9 43 (.string ms)).run Tryz.prog W = .ok (.slice (some ⟨mb, 0, none⟩) M mc) W1 ∧ Below W.heap.size W W1 ∧ ∀ W2, Below W1.heap.size W1 W2 → Lib.BytesIn W2 (some ⟨mb, 0, none⟩) M (intsB m)) := hid (fun W => by rw [← hms, ← hM]; exact mark_row W m)
 have HPF : Hid (∀ W, Calls Tryz.prog 134 #[.string ms, .string (strB t)] W (Stays (.bool (t.isPrefixOf m)) W)) := hid (fun W => by
  have h := Tryz.strings_HasPrefix ms (strB t) W
  rw [← hms] at h ⊢
  exact h)
 obtain ⟨Q, hQ⟩ : ∃ Q, opensS m i t = Q := ⟨_, rfl⟩
 rw [hQ, hms]
 have HQ := hid hQ
 have HNEG : Hid (¬ (TL < M ∧ t.isPrefixOf m = true) → m.isPrefixOf t = false → ∀ W, Below w.heap.size w W → ScOut w B a c l (fun x : Bool => .bool x) Q (.returned (.bool false)) W) := hid (fun h1 h2 W hb => by
  rw [← HQ.out]
  unfold opensS
  rw [HTL.out, HML.out, if_neg h1, h2, if_neg Bool.false_ne_true]
  exact ⟨rfl, HS.out.keep hb, keeps_below hb _⟩)
 have HYES : Hid (¬ (TL < M ∧ t.isPrefixOf m = true) → m.isPrefixOf t = true → ∀ W, Below w.heap.size w W → W.frozen? ⟨B, 1, none⟩ = false ∧ i + M ≤ n ∧ ScOut w B a c l (fun x : Bool => .bool x) Q (.returned (.bool true)) (W.setCell ⟨B, 1, none⟩ (.int .i64 ((i + M : Nat) : Int)))) := hid (fun h1 h2 W hb => by
  have hp := (List.isPrefixOf_iff_prefix.1 h2).length_le
  rw [HTL.out, HML.out] at hp
  have hpl := (HS.out.keep hb).place (j := i + M) (by rw [HNL.out]; omega) (u := t.drop M) (by rw [HS.out.left, List.drop_drop])
  refine ⟨unfrozen_of_block (HS.out.keep hb).blk 1, by omega, ?_⟩
  rw [← HQ.out]
  unfold opensS
  rw [HTL.out, HML.out, if_neg h1, h2, if_pos rfl]
  exact ⟨rfl, hpl.1, (keeps_below hb (One B)).trans hpl.2 (fresh_refl _ _)⟩)
 clear h hn hT hM hQ hms hlen hta hta2
 go_enter Tryz.func103, Tryz.ntmps103
 go_wp2_with fail
 go_quiet (fail)
 rw [HTAE.out]
 obtain ⟨mb, mc, W1, hcv1, hb1, hm1⟩ := HMR.out (w.drewN nq)
 have HB1 : Hid (Below w.heap.size w W1) := hid (below_then (below_drewNv (Below.refl _ _) nq) hb1)
 have HM1 := hid (hm1 W1 (Below.refl _ _))
 have HP1 := hid (HBI.out W1 HB1.out mb mc HM1.out)
 have HC := hid hcv1
 obtain ⟨z0, z1⟩ := (HS.out.keep HB1.out).cells
 rw [HNL.out] at z0
 clear hb1 hm1 hcv1
 by_cases hlt : TL < M
 ·have hd : decide ((TL : Int) < (M : Int)) = true := by simp; omega
  have hpf : m.isPrefixOf t = false := by
   cases hp : m.isPrefixOf t with
   | false => rfl
   | true =>
    have := (List.isPrefixOf_iff_prefix.1 hp).length_le
    rw [HTL.out, HML.out] at this
    omega
  rw [hpf] at HP1
  have hcv := HTA.out nq
  have HPF1 := hid (HPF.out (w.drewN nq))
  cases hp : t.isPrefixOf m with
  | true =>
   rw [hp] at HPF1
   have HF : Hid (ScOut w B a c l (fun x : Bool => .bool x) Q (.panicked [{ v := wrongV 6 n, recovered := false }]) (w.drewN nq)) := hid (by
    rw [← HQ.out]
    unfold opensS
    rw [HTL.out, HML.out, if_pos ⟨hlt, hp⟩, HLE.out]
    exact ⟨rfl, (Keeps.refl _ _).drewN nq⟩)
   clear hp hpf
   go_wp2_with fail
   with_reducible refine HPF1.out.mono ?_
   rintro e w2 ⟨rfl, rfl⟩
   go_wp2_with fail
   exact ⟨rfl, HF.out⟩
  | false =>
   rw [hp] at HPF1
   have HF := hid (HNEG.out (fun h => by rw [hp] at h; exact absurd h.2 (by decide)) hpf W1 HB1.out)
   have hcv1 := HC.out
   clear hp hpf
   go_wp2_with fail
   with_reducible refine HPF1.out.mono ?_
   rintro e w2 ⟨rfl, rfl⟩
   go_wp2_with fail
   with_reducible refine HP1.out.mono ?_
   rintro e w2 ⟨rfl, rfl⟩
   go_wp2_with fail
   go_ret
   exact HF.out
 ·have hd : decide ((TL : Int) < (M : Int)) = false := by simp; omega
  cases hp : m.isPrefixOf t with
  | false =>
   rw [hp] at HP1
   have HF := hid (HNEG.out (fun h => hlt h.1) hp W1 HB1.out)
   have hcv1 := HC.out
   clear hp
   go_wp2_with fail
   with_reducible refine HP1.out.mono ?_
   rintro e w2 ⟨rfl, rfl⟩
   go_wp2_with fail
   go_ret
   exact HF.out
  | true =>
   rw [hp] at HP1
   obtain ⟨f1, hfl, hF⟩ := HYES.out (fun h => hlt h.1) hp W1 HB1.out
   have HF := hid hF
   have hadd : IntKind.i64.wrap ((i : Int) + (M : Int)) = ((i + M : Nat) : Int) := IntWalk.i64_in _ (by omega)
   have hcv1 := HC.out
   clear hp hF
   go_wp2_with fail
   with_reducible refine HP1.out.mono ?_
   rintro e w2 ⟨rfl, rfl⟩
   go_wp2_with fail
   go_ret
   exact HF.out
theorem peek_calls {w : World} {B : Nat} {a : Option Addr} {c : Nat} {l : List UInt8} {i : Nat} {t : List UInt8} (h : ScAt w B a c l i t) : Calls Tryz.prog 135 #[.pointer (some ⟨B, 0, none⟩)] w (ScOut w B a c l (fun x : UInt8 => .int .u8 (x.toNat : Int)) (peekS i t)) := by
 cases t with
 | nil =>
  refine (peek_end h).mono ?_
  rintro e w' ⟨rfl, k, rfl⟩
  exact ⟨rfl, (Keeps.refl _ _).drewN k⟩
 | cons x t =>
  refine (peek_ok h).mono ?_
  rintro e w' ⟨rfl, k, rfl⟩
  exact ⟨rfl, h.drawn k, (Keeps.refl _ _).drewN k⟩
theorem peekS_ok {i : Nat} {t : List UInt8} {x : UInt8} {j : Nat} {u : List UInt8} (h : peekS i t = .ok x j u) : j = i ∧ u = t ∧ ∃ t', t = x :: t' := by
 cases t with
 | nil => cases h
 | cons y t => cases h; exact ⟨rfl, rfl, _, rfl⟩
theorem upTo_at {w : World} {B : Nat} {a : Option Addr} {c : Nat} {l : List UInt8} {i : Nat} {t : List UInt8} (h : ScAt w B a c l i t) (hE : EnvAt w) (hB : 15 ≤ B) (m : List UInt8) (ms : ByteArray) (hms : strB m = ms) (hm : m ≠ []) (hml : m.length ≤ 1000) : Calls Tryz.prog 101 #[.pointer (some ⟨B, 0, none⟩), .string ms] w (ScOut w B a c l (fun x => .string (strB x)) (upToS m i t)) := by
 rw [← hms]
 exact upTo_calls h hE hB m hm hml
theorem opens_at {w : World} {B : Nat} {a : Option Addr} {c : Nat} {l : List UInt8} {i : Nat} {t : List UInt8} (h : ScAt w B a c l i t) (m : List UInt8) (ms : ByteArray) (hms : strB m = ms) (hml : m.length ≤ 1000) : Calls Tryz.prog 103 #[.pointer (some ⟨B, 0, none⟩), .string ms] w (ScOut w B a c l (fun x : Bool => .bool x) (opensS m i t)) := by
 rw [← hms]
 exact opens_calls h m hml
theorem upToS_place {m : List UInt8} {i : Nat} {t x : List UInt8} {j : Nat} {u : List UInt8} (h : upToS m i t = .ok x j u) : i + m.length ≤ j := by
 unfold upToS at h
 cases hc : cutS m t with
 | none => rw [hc] at h; cases h
 | some q => rw [hc] at h; cases h; omega
theorem must_at {w : World} {B : Nat} {a : Option Addr} {c : Nat} {l : List UInt8} {i : Nat} {t : List UInt8} (h : ScAt w B a c l i t) (b : UInt8) (y : Int) (hy : (b.toNat : Int) = y) : Calls Tryz.prog 138 #[.pointer (some ⟨B, 0, none⟩), .int .u8 y] w (ScOut w B a c l (fun _ : Unit => .tuple #[]) (mustS b i t)) := by
 rw [← hy]
 exact must_calls h b
theorem endTag_calls {w : World} {B : Nat} {a : Option Addr} {c : Nat} {l : List UInt8} {i : Nat} {t : List UInt8} (h : ScAt w B a c l i t) (hE : EnvAt w) (hB : 15 ≤ B) : Calls Tryz.prog 106 #[.pointer (some ⟨B, 0, none⟩)] w (ScOut w B a c l (fun x => .string (strB x)) (endTagS i t)) := by
 obtain ⟨Q, hQ⟩ : ∃ Q, endTagS i t = Q := ⟨_, rfl⟩
 rw [hQ]
 have HS0 := hid h
 have HE0 := hid hE
 have HK0 : Hid (Keeps (One B) w w) := hid (Keeps.refl _ _)
 have HQ0 : Hid (Q = (nameS i t).then fun nm j t => (blanksS j t).then fun _ j t => (mustS 62 j t).then fun _ k t2 => .ok nm k t2) := hid (by rw [← hQ]; rfl)
 clear h hE hQ
 go_enter Tryz.func106, Tryz.ntmps106
 obtain ⟨S0, hS0⟩ : ∃ S, nameS i t = S := ⟨_, rfl⟩
 have HC0 := hid (name_calls HS0.out HE0.out hB)
 have hq0 := HQ0.out
 rw [hS0] at HC0 hq0
 cases S0 with
 | no cd p =>
  have HF : Hid (∀ wx, Keeps (One B) w wx → ScOut w B a c l (fun x => .string (strB x)) Q (.panicked [{ v := wrongV cd p, recovered := false }]) wx) := hid (fun wx hk => by
   rw [hq0]
   exact ⟨rfl, HK0.out.trans hk (fresh_refl _ _)⟩)
  clear hq0 hS0
  go_wp2_with fail
  with_reducible refine HC0.out.mono ?_
  rintro e wx ⟨rfl, hk⟩
  have HF1 := hid (HF.out wx hk)
  clear hk
  go_wp2_with fail
  exact ⟨rfl, HF1.out⟩
 | ok x0 j1 u1 =>
  rw [Sx.then_ok] at hq0
  have HQ1 := hid hq0
  have HSS0 := hid hS0
  clear hq0 hS0
  go_wp2_with fail
  with_reducible refine HC0.out.mono ?_
  rintro e w1 ⟨rfl, hs, hk⟩
  have HS1 := hid hs
  have HK1 : Hid (Keeps (One B) w w1) := hid (HK0.out.trans hk (fresh_refl _ _))
  have HE1 : Hid (EnvAt w1) := hid (HE0.out.keeps hk hB)
  clear hs hk
  obtain ⟨S1, hS1⟩ : ∃ S, blanksS j1 u1 = S := ⟨_, rfl⟩
  have HC1 := hid (blanks_calls HS1.out)
  have hq1 := HQ1.out
  rw [hS1] at HC1 hq1
  cases S1 with
  | no cd p =>
   have HF : Hid (∀ wx, Keeps (One B) w1 wx → ScOut w B a c l (fun x => .string (strB x)) Q (.panicked [{ v := wrongV cd p, recovered := false }]) wx) := hid (fun wx hk => by
    rw [hq1]
    exact ⟨rfl, HK1.out.trans hk (fresh_refl _ _)⟩)
   clear hq1 hS1
   go_wp2_with fail
   with_reducible refine HC1.out.mono ?_
   rintro e wx ⟨rfl, hk⟩
   have HF1 := hid (HF.out wx hk)
   clear hk
   go_wp2_with fail
   exact ⟨rfl, HF1.out⟩
  | ok x1 j2 u2 =>
   rw [Sx.then_ok] at hq1
   have HQ2 := hid hq1
   have HSS1 := hid hS1
   clear hq1 hS1
   go_wp2_with fail
   with_reducible refine HC1.out.mono ?_
   rintro e w2 ⟨rfl, hs, hk⟩
   have HS2 := hid hs
   have HK2 : Hid (Keeps (One B) w w2) := hid (HK1.out.trans hk (fresh_refl _ _))
   have HE2 : Hid (EnvAt w2) := hid (HE1.out.keeps hk hB)
   clear hs hk
   obtain ⟨S2, hS2⟩ : ∃ S, mustS 62 j2 u2 = S := ⟨_, rfl⟩
   have HC2 := hid (must_at HS2.out 62 62 rfl)
   have hq2 := HQ2.out
   rw [hS2] at HC2 hq2
   cases S2 with
   | no cd p =>
    have HF : Hid (∀ wx, Keeps (One B) w2 wx → ScOut w B a c l (fun x => .string (strB x)) Q (.panicked [{ v := wrongV cd p, recovered := false }]) wx) := hid (fun wx hk => by
     rw [hq2]
     exact ⟨rfl, HK2.out.trans hk (fresh_refl _ _)⟩)
    clear hq2 hS2
    go_wp2_with fail
    with_reducible refine HC2.out.mono ?_
    rintro e wx ⟨rfl, hk⟩
    have HF1 := hid (HF.out wx hk)
    clear hk
    go_wp2_with fail
    exact ⟨rfl, HF1.out⟩
   | ok x2 j3 u3 =>
    rw [Sx.then_ok] at hq2
    have HQ3 := hid hq2
    have HSS2 := hid hS2
    clear hq2 hS2
    go_wp2_with fail
    with_reducible refine HC2.out.mono ?_
    rintro e w3 ⟨rfl, hs, hk⟩
    have HS3 := hid hs
    have HK3 : Hid (Keeps (One B) w w3) := hid (HK2.out.trans hk (fresh_refl _ _))
    have HE3 : Hid (EnvAt w3) := hid (HE2.out.keeps hk hB)
    clear hs hk
    have HF : Hid (ScOut w B a c l (fun x => .string (strB x)) Q (.returned (.string (strB x0))) w3) := hid (by
     rw [HQ3.out]
     exact ⟨rfl, HS3.out, HK3.out⟩)
    go_wp2_with fail
    go_ret
    exact HF.out
theorem comment_calls {w : World} {B : Nat} {a : Option Addr} {c : Nat} {l : List UInt8} {i : Nat} {t : List UInt8} (h : ScAt w B a c l i t) (hE : EnvAt w) (hB : 15 ≤ B) : Calls Tryz.prog 104 #[.pointer (some ⟨B, 0, none⟩)] w (ScOut w B a c l (fun x => .string (strB x)) (commentS i t)) := by
 obtain ⟨Q, hQ⟩ : ∃ Q, commentS i t = Q := ⟨_, rfl⟩
 rw [hQ]
 have HS0 := hid h
 have HE0 := hid hE
 have HK0 : Hid (Keeps (One B) w w) := hid (Keeps.refl _ _)
 have HQ0 : Hid (Q = (upToS [45, 45] i t).then fun u j t => (peekS j t).then fun x _ _ => if x ≠ 62 then .no 2 (j - 2) else .ok u (j + 1) (t.drop 1)) := hid (by rw [← hQ]; rfl)
 clear h hE hQ
 go_enter Tryz.func104, Tryz.ntmps104
 obtain ⟨S0, hS0⟩ : ∃ S, upToS [45, 45] i t = S := ⟨_, rfl⟩
 have HC0 := hid (upTo_at HS0.out HE0.out hB [45, 45] ⟨#[45, 45]⟩ rfl (by decide) (by decide))
 have hq0 := HQ0.out
 rw [hS0] at HC0 hq0
 cases S0 with
 | no cd p =>
  have HF : Hid (∀ wx, Keeps (One B) w wx → ScOut w B a c l (fun x => .string (strB x)) Q (.panicked [{ v := wrongV cd p, recovered := false }]) wx) := hid (fun wx hk => by
   rw [hq0]
   exact ⟨rfl, HK0.out.trans hk (fresh_refl _ _)⟩)
  clear hq0 hS0
  go_wp2_with fail
  with_reducible refine HC0.out.mono ?_
  rintro e wx ⟨rfl, hk⟩
  have HF1 := hid (HF.out wx hk)
  clear hk
  go_wp2_with fail
  exact ⟨rfl, HF1.out⟩
 | ok x0 j1 u1 =>
  rw [Sx.then_ok] at hq0
  have HQ1 := hid hq0
  have HSS0 := hid hS0
  clear hq0 hS0
  go_wp2_with fail
  with_reducible refine HC0.out.mono ?_
  rintro e w1 ⟨rfl, hs, hk⟩
  have HS1 := hid hs
  have HK1 : Hid (Keeps (One B) w w1) := hid (HK0.out.trans hk (fresh_refl _ _))
  have HE1 : Hid (EnvAt w1) := hid (HE0.out.keeps hk hB)
  clear hs hk
  obtain ⟨S1, hS1⟩ : ∃ S, peekS j1 u1 = S := ⟨_, rfl⟩
  have HC1 := hid (peek_calls HS1.out)
  have hq1 := HQ1.out
  rw [hS1] at HC1 hq1
  cases S1 with
  | no cd p =>
   have HF : Hid (∀ wx, Keeps (One B) w1 wx → ScOut w B a c l (fun x => .string (strB x)) Q (.panicked [{ v := wrongV cd p, recovered := false }]) wx) := hid (fun wx hk => by
    rw [hq1]
    exact ⟨rfl, HK1.out.trans hk (fresh_refl _ _)⟩)
   clear hq1 hS1
   go_wp2_with fail
   with_reducible refine HC1.out.mono ?_
   rintro e wx ⟨rfl, hk⟩
   have HF1 := hid (HF.out wx hk)
   clear hk
   go_wp2_with fail
   exact ⟨rfl, HF1.out⟩
  | ok x1 j2 u2 =>
   rw [Sx.then_ok] at hq1
   have HQ2 := hid hq1
   have HSS1 := hid hS1
   clear hq1 hS1
   go_wp2_with fail
   with_reducible refine HC1.out.mono ?_
   rintro e w2 ⟨rfl, hs, hk⟩
   have HS2 := hid hs
   have HK2 : Hid (Keeps (One B) w w2) := hid (HK1.out.trans hk (fresh_refl _ _))
   have HE2 : Hid (EnvAt w2) := hid (HE1.out.keeps hk hB)
   clear hs hk
   obtain ⟨rfl, rfl, t', rfl⟩ := peekS_ok HSS1.out
   obtain ⟨z0, z1⟩ := HS2.out.cells
   have hpl := upToS_place HSS0.out
   have hfit := HS2.out.fits
   have hfew := HS2.out.few
   by_cases hx : x1 = 62
   ·have hz : ((x1.toNat : Int) != 62) = false := by simp [hx]
    have hd := HS2.out.head
    have hadd : IntKind.i64.wrap ((j2 : Int) + 1) = ((j2 + 1 : Nat) : Int) := IntWalk.i64_in _ (by omega)
    have f1 := unfrozen_of_block HS2.out.blk 1
    have hp := HS2.out.place (j := j2 + 1) hd.1 (u := t') hd.2.2
    have HF : Hid (ScOut w B a c l (fun x => .string (strB x)) Q (.returned (.string (strB x0))) (w2.setCell ⟨B, 1, none⟩ (.int .i64 ((j2 + 1 : Nat) : Int)))) := hid (by
     rw [HQ2.out, if_neg (fun h => h hx)]
     exact ⟨rfl, hp.1, HK2.out.trans hp.2 (fresh_refl _ _)⟩)
    clear hp hd hx hpl
    go_wp2_with fail
    go_ret
    exact HF.out
   ·have hz : ((x1.toNat : Int) != 62) = true := by
     simp only [bne_iff_ne, ne_eq]
     exact fun h => hx (UInt8.toNat_inj.1 (by have : (62 : UInt8).toNat = 62 := rfl; omega))
    have hsub : IntKind.i64.wrap ((j2 : Int) - 2) = ((j2 - 2 : Nat) : Int) := by
     have h2 : ([45, 45] : List UInt8).length = 2 := rfl
     rw [IntWalk.i64_in _ (by omega)]
     omega
    have HF : Hid (ScOut w B a c l (fun x => .string (strB x)) Q (.panicked [{ v := wrongV 2 (j2 - 2), recovered := false }]) w2) := hid (by
     rw [HQ2.out, if_pos hx]
     exact ⟨rfl, HK2.out⟩)
    clear hx hpl
    go_wp2_with fail
    exact ⟨rfl, HF.out⟩
end Go.Proofs.YtjpkkflhcjjefaaGreatDoor
