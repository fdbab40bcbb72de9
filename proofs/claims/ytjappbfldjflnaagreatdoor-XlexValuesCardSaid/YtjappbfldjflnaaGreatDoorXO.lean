/-
  Whether a mark stands where a document's scan is. Conditions: the scan lies in memory; the mark is one to a thousand bytes.
-/
import Derived.Test.YtjappbfldjflnaaGreatDoorXV
namespace Go.Proofs.YtjappbfldjflnaaGreatDoor
open Go.RowKit Go.Lib Go.Joins

theorem mark_row (W : World) (m : List UInt8) : ∃ mb mc W1, (convert 9 22 (.string (strB m))).run Tryz.prog W = .ok (.slice (some ⟨mb, 0, none⟩) m.length mc) W1 ∧ Below W.heap.size W W1 ∧ ∀ W2, Below W1.heap.size W1 W2 → Lib.BytesIn W2 (some ⟨mb, 0, none⟩) m.length (intsB m) := by
  refine ⟨W.heap.size, grownCap W (strB m).size 0 5, bytesWorld W 5 (strB m), Lib.run_convert_string_bytes (P := Tryz.prog) W 9 22 5 (strB m) Tryz.underlying9 Tryz.underlying22 Tryz.underlying5, bytesWorld_below W (strB m), fun W2 hb _ => ⟨_, 0, rfl, fun k hk => ?_⟩⟩
  have hc := bytesWorld_cell W 5 (strB m) k hk
  rw [Nat.zero_add, cell_below hb hc, intsB_getD m k hk]
  rfl
set_option maxRecDepth 100000 in
set_option maxHeartbeats 8000000 in
theorem opens_calls {w : World} {B : Nat} {a : Option Addr} {c : Nat} {l : List UInt8} {i : Nat} {t : List UInt8} (h : ScAt w B a c l i t) (m : List UInt8) (hml : m.length ≤ 1000) : Calls Tryz.prog 44 #[.pointer (some ⟨B, 0, none⟩), .string (strB m)] w (ScOut w B a c l (fun x : Bool => .bool x) (opensS m i t)) := by
  obtain ⟨e0, e1⟩ := h.cells
  have hfew := h.few
  have hcap := h.cap
  have hfit := h.fits
  obtain ⟨n, hn⟩ : ∃ n, l.length = n := ⟨_, rfl⟩
  obtain ⟨TL, hT⟩ : ∃ TL, t.length = TL := ⟨_, rfl⟩
  obtain ⟨M, hM⟩ : ∃ M, m.length = M := ⟨_, rfl⟩
  have hlen := h.len
  rw [hn] at e0 hfew hcap hfit hlen
  rw [hT] at hlen
  rw [hM] at hml
  have hTL : n - i = TL := by omega
  have HS := Lib.hid h
  have HNL := Lib.hid hn
  have HTL := Lib.hid hT
  have HML := Lib.hid hM
  have HLE := Lib.hid hlen
  have hq0 : (0 : Int) ≤ (i : Int) := by omega
  have hq1 : (i : Int) ≤ (n : Int) := by omega
  obtain ⟨ms, hms⟩ : ∃ ms, strB m = ms := ⟨_, rfl⟩
  have hsz : ms.size = M := by rw [← hms, ← hM]; rfl
  have HMS := Lib.hid hms
  have HTA : Hid (∀ k, (convert 22 9 (.slice (tailA a c i) TL (c - i))).run Tryz.prog (w.drewN k) = .ok (.string (strB t)) (w.drewN k)) := Lib.hid (fun k => by
    have := (HS.out.drawn k).conv i TL (c - i) (by rw [HNL.out]; omega)
    rw [← HS.out.left, List.take_of_length_le (by rw [hT]; exact Nat.le_refl _)] at this
    exact this)
  have HBI : Hid (∀ W, Below w.heap.size w W → ∀ mb mc, Lib.BytesIn W (some ⟨mb, 0, none⟩) M (intsB m) → Calls Tryz.prog 63 #[.slice (tailA a c i) TL (c - i), .slice (some ⟨mb, 0, none⟩) M mc] W (Stays (.bool (m.isPrefixOf t)) W)) := Lib.hid (fun W hb mb mc h2 => by
    obtain ⟨h1, _, h4⟩ := (HS.out.keep hb).tail i (by rw [HNL.out]; exact hfit)
    rw [HNL.out, hTL] at h1 h4
    have h := Tryz.bytes_HasPrefix_all (tailA a c i) (some ⟨mb, 0, none⟩) TL (c - i) M mc (intsB (l.drop i)) (intsB m) W (by rw [intsB_len, ← HS.out.left, hT]) (by rw [intsB_len, hM]) h4 h1 h2
    rw [bytesOf_ints, bytesOf_ints, ← HS.out.left] at h
    exact h)
  obtain ⟨ta, hta⟩ : ∃ ta, (if c = i then a else Option.map (fun x => x.add i) a) = ta := ⟨_, rfl⟩
  have hta2 : tailA a c i = ta := hta
  rw [hta2] at HTA HBI
  have HTAE := Lib.hid hta
  have HMR : Hid (∀ W, ∃ mb mc W1, (convert 9 22 (.string ms)).run Tryz.prog W = .ok (.slice (some ⟨mb, 0, none⟩) M mc) W1 ∧ Below W.heap.size W W1 ∧ ∀ W2, Below W1.heap.size W1 W2 → Lib.BytesIn W2 (some ⟨mb, 0, none⟩) M (intsB m)) := Lib.hid (fun W => by rw [← hms, ← hM]; exact mark_row W m)
  have HPF : Hid (∀ W, Calls Tryz.prog 72 #[.string ms, .string (strB t)] W (Stays (.bool (t.isPrefixOf m)) W)) := Lib.hid (fun W => by
    have h := Tryz.strings_HasPrefix ms (strB t) W
    rw [← hms] at h ⊢
    exact h)
  obtain ⟨Q, hQ⟩ : ∃ Q, opensS m i t = Q := ⟨_, rfl⟩
  rw [hQ, hms]
  have HQ := Lib.hid hQ
  have HNEG : Hid (¬ (TL < M ∧ t.isPrefixOf m = true) → m.isPrefixOf t = false → ∀ W, Below w.heap.size w W → ScOut w B a c l (fun x : Bool => .bool x) Q (.returned (.bool false)) W) := Lib.hid (fun h1 h2 W hb => by
    rw [← HQ.out]
    unfold opensS
    rw [HTL.out, HML.out, if_neg h1, h2, if_neg Bool.false_ne_true]
    exact ⟨rfl, HS.out.keep hb, keeps_below hb _⟩)
  have HYES : Hid (¬ (TL < M ∧ t.isPrefixOf m = true) → m.isPrefixOf t = true → ∀ W, Below w.heap.size w W → W.frozen? ⟨B, 1, none⟩ = false ∧ i + M ≤ n ∧ ScOut w B a c l (fun x : Bool => .bool x) Q (.returned (.bool true)) (W.setCell ⟨B, 1, none⟩ (.int .i64 ((i + M : Nat) : Int)))) := Lib.hid (fun h1 h2 W hb => by
    have hp := (List.isPrefixOf_iff_prefix.1 h2).length_le
    rw [HTL.out, HML.out] at hp
    have hpl := (HS.out.keep hb).place (j := i + M) (by rw [HNL.out]; omega) (u := t.drop M) (by rw [HS.out.left, List.drop_drop])
    refine ⟨unfrozen_of_block (HS.out.keep hb).blk 1, by omega, ?_⟩
    rw [← HQ.out]
    unfold opensS
    rw [HTL.out, HML.out, if_neg h1, h2, if_pos rfl]
    exact ⟨rfl, hpl.1, (keeps_below hb (One B)).trans hpl.2 (fresh_refl _ _)⟩)
  clear h hn hT hM hQ hms hlen hta hta2
  go_enter Tryz.func44, Tryz.ntmps44
  go_wp2_with fail
  go_quiet (fail)
  rw [HTAE.out]
  obtain ⟨mb, mc, W1, hcv1, hb1, hm1⟩ := HMR.out (w.drewN nq)
  have HB1 : Hid (Below w.heap.size w W1) := Lib.hid (below_then (below_drewNv (Below.refl _ _) nq) hb1)
  have HM1 := Lib.hid (hm1 W1 (Below.refl _ _))
  have HP1 := Lib.hid (HBI.out W1 HB1.out mb mc HM1.out)
  have HC := Lib.hid hcv1
  obtain ⟨z0, z1⟩ := (HS.out.keep HB1.out).cells
  rw [HNL.out] at z0
  clear hb1 hm1 hcv1
  by_cases hlt : TL < M
  · have hd : decide ((TL : Int) < (M : Int)) = true := by simp; omega
    have hpf : m.isPrefixOf t = false := by
      cases hp : m.isPrefixOf t with
      | false => rfl
      | true =>
        have := (List.isPrefixOf_iff_prefix.1 hp).length_le
        rw [HTL.out, HML.out] at this
        omega
    rw [hpf] at HP1
    have hcv := HTA.out nq
    have HPF1 := Lib.hid (HPF.out (w.drewN nq))
    cases hp : t.isPrefixOf m with
    | true =>
      rw [hp] at HPF1
      have HF : Hid (ScOut w B a c l (fun x : Bool => .bool x) Q (.panicked [{ v := wrongV 6 n, recovered := false }]) (w.drewN nq)) := Lib.hid (by
        rw [← HQ.out]
        unfold opensS
        rw [HTL.out, HML.out, if_pos ⟨hlt, hp⟩, HLE.out]
        exact ⟨rfl, (Keeps.refl _ _).drewN nq⟩)
      clear hp hpf
      go_wp2_with fail
      with_reducible refine HPF1.out.mono ?_
      rintro e w2 ⟨rfl, rfl⟩
      go_wp2_with fail
      exact ⟨rfl, HF.out⟩
    | false =>
      rw [hp] at HPF1
      have HF := Lib.hid (HNEG.out (fun h => by rw [hp] at h; exact absurd h.2 (by decide)) hpf W1 HB1.out)
      have hcv1 := HC.out
      clear hp hpf
      go_wp2_with fail
      with_reducible refine HPF1.out.mono ?_
      rintro e w2 ⟨rfl, rfl⟩
      go_wp2_with fail
      with_reducible refine HP1.out.mono ?_
      rintro e w2 ⟨rfl, rfl⟩
      go_wp2_with fail
      go_ret
      exact HF.out
  · have hd : decide ((TL : Int) < (M : Int)) = false := by simp; omega
    cases hp : m.isPrefixOf t with
    | false =>
      rw [hp] at HP1
      have HF := Lib.hid (HNEG.out (fun h => hlt h.1) hp W1 HB1.out)
      have hcv1 := HC.out
      clear hp
      go_wp2_with fail
      with_reducible refine HP1.out.mono ?_
      rintro e w2 ⟨rfl, rfl⟩
      go_wp2_with fail
      go_ret
      exact HF.out
    | true =>
      rw [hp] at HP1
      obtain ⟨f1, hfl, hF⟩ := HYES.out (fun h => hlt h.1) hp W1 HB1.out
      have HF := Lib.hid hF
      have hadd : IntKind.i64.wrap ((i : Int) + (M : Int)) = ((i + M : Nat) : Int) := IntWalk.i64_in _ (by omega)
      have hcv1 := HC.out
      clear hp hF
      go_wp2_with fail
      with_reducible refine HP1.out.mono ?_
      rintro e w2 ⟨rfl, rfl⟩
      go_wp2_with fail
      go_ret
      exact HF.out

end Go.Proofs.YtjappbfldjflnaaGreatDoor
