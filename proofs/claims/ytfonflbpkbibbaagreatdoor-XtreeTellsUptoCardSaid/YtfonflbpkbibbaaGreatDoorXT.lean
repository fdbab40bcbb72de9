/-
  What stands up to a mark, told by a document's scan. Conditions: the laid variables hold what their initialisers lay; the scan lies in memory, in a block behind theirs; the mark is one to a thousand bytes. strconv.ParseUint at base 10 and 16 and 31 bits, at every text: the number, or an error. Conditions: the library's two errors lie in their variables.
-/
import Derived.Test.YtfonflbpkbibbaaGreatDoorXPf
import Derived.Laws.Closers25
import Derived.Laws.Closers25b
import Derived.BigCall
import Derived.BigGuard
namespace Go.Proofs.YtfonflbpkbibbaaGreatDoor
open Go.RowKit Go.Lib Go.Joins

/-- What bytes.Cut hands back of a document's rest. -/
def cutOut (p : Option Addr) (n c : Nat) (q : Option (List UInt8 × List UInt8)) (W : World) (e : Ending) (w' : World) : Prop :=
  (∃ v, e = .returned (.tuple #[.slice p (match q with | none => n | some q => q.1.length) c, v, .bool q.isSome])) ∧ ∃ k, w' = W.drewN k
theorem cut_calls {W : World} {B : Nat} {a : Option Addr} {c : Nat} {l : List UInt8} {i : Nat} {t : List UInt8} (h : ScAt W B a c l i t) (hM : MaxLen W) (j : Nat) (hj : j ≤ l.length) (p2 : Option Addr) (c2 : Nat) (m : List UInt8) (hm : m ≠ []) (hl : m.length ≤ 1000) (h2 : Lib.BytesIn W p2 m.length (intsB m)) : Calls Tryz.prog 125 #[.slice (tailA a c j) (l.length - j) (c - j), .slice p2 m.length c2] W (cutOut (tailA a c j) (l.length - j) (c - j) (cutS m (l.drop j)) W) := by
  obtain ⟨mx, hmx⟩ := hM
  obtain ⟨h1, h3, h4⟩ := h.tail j hj
  have hfew := h.few
  refine (Tryz.bytes_Cut_all (tailA a c j) p2 (l.length - j) (c - j) m.length c2 (intsB (l.drop j)) (intsB m) mx W (by rw [intsB_len, List.length_drop]) (intsB_len m) (intsB_range _) (intsB_range _) h1 h2 h3 h4 (by omega) (by omega) hmx).mono ?_
  rintro e w' ⟨rfl, hk⟩
  refine ⟨?_, hk⟩
  rw [bytesOf_ints, bytesOf_ints, index_cutS m hm]
  cases cutS m (l.drop j) with
  | none => exact ⟨_, rfl⟩
  | some q =>
    unfold Lib.cutV
    rw [if_pos (by simp)]
    exact ⟨Lib.fromV (tailA a c j) (l.length - j) (c - j) (q.1.length + m.length), by simp⟩

def upToR (m : List UInt8) (i n : Nat) : Option (List UInt8 × List UInt8) → Sx (List UInt8)
  | none => .no 6 (i + n)
  | some q => .ok (eols q.1) (i + q.1.length + m.length) q.2
theorem upToS_eq (m : List UInt8) (i : Nat) (r : List UInt8) : upToS m i r = upToR m i r.length (cutS m r) := by
  unfold upToS
  cases cutS m r <;> rfl
set_option maxRecDepth 100000 in
set_option maxHeartbeats 8000000 in
theorem upTo_calls {w : World} {B : Nat} {a : Option Addr} {c : Nat} {l : List UInt8} {i : Nat} {t : List UInt8} (h : ScAt w B a c l i t) (hE : EnvAt w) (hB : 15 ≤ B) (m : List UInt8) (hm : m ≠ []) (hml : m.length ≤ 1000) : Calls Tryz.prog 93 #[.pointer (some ⟨B, 0, none⟩), .string (strB m)] w (ScOut w B a c l (fun x => .string (strB x)) (upToS m i t)) := by
  obtain ⟨e0, e1⟩ := h.cells
  have hfew := h.few
  have hcap := h.cap
  have hfit := h.fits
  obtain ⟨n, hn⟩ : ∃ n, l.length = n := ⟨_, rfl⟩
  rw [hn] at e0 hfew hcap hfit
  have HS := Lib.hid h
  have HEnv := Lib.hid hE
  have HNL := Lib.hid hn
  have hq0 : (0 : Int) ≤ (i : Int) := by omega
  have hq1 : (i : Int) ≤ (n : Int) := by omega
  obtain ⟨R, hR⟩ : ∃ R, cutS m t = R := ⟨_, rfl⟩
  have HQ : Hid (upToS m i t = upToR m i t.length R) := Lib.hid (by rw [upToS_eq, hR])
  obtain ⟨ms, hms⟩ : ∃ ms, strB m = ms := ⟨_, rfl⟩
  have hsz : ms.size = m.length := by rw [← hms]; rfl
  have HMS := Lib.hid hms
  have HR := Lib.hid hR
  have HCV := Lib.hid (fun W : World => Lib.run_convert_string_bytes (P := Tryz.prog) W 9 22 5 ms Tryz.underlying9 Tryz.underlying22 Tryz.underlying5)
  obtain ⟨Q, hQ⟩ : ∃ Q, upToS m i t = Q := ⟨_, rfl⟩
  rw [hQ, hms]
  rw [hQ] at HQ
  have HCUT : Hid (∀ W, Below w.heap.size w W → ∀ mb mc, Lib.BytesIn W (some ⟨mb, 0, none⟩) m.length (intsB m) → Calls Tryz.prog 125 #[.slice (if c = i then a else Option.map (fun x => x.add i) a) (n - i) (c - i), .slice (some ⟨mb, 0, none⟩) m.length mc] W (cutOut (tailA a c i) (n - i) (c - i) R W)) := Lib.hid (fun W hb mb mc h2 => by
    have h := cut_calls (HS.out.keep hb) (HEnv.out.below hb).mx i (by rw [HNL.out]; exact hfit) (some ⟨mb, 0, none⟩) mc m hm hml h2
    rw [HNL.out, ← HS.out.left, HR.out] at h
    exact h)
  have HCE : Hid (∀ W, Below w.heap.size w W → W.cell? ⟨B, 0, none⟩ = some (.slice a n c) ∧ W.cell? ⟨B, 1, none⟩ = some (.int .i64 (i : Int))) := Lib.hid (fun W hb => by
    obtain ⟨z0, z1⟩ := (HS.out.keep hb).cells
    rw [HNL.out] at z0
    exact ⟨z0, z1⟩)
  clear h hn hE hR hQ hms
  go_enter Tryz.func93, Tryz.ntmps93
  go_upto_region 1 with (fail)
  obtain ⟨x0, hx0⟩ : ∃ W, w.drew = W := ⟨_, rfl⟩
  have hbx0 : Below w.heap.size w x0 := by rw [← hx0]; exact ⟨rfl, rfl, rfl, Nat.le_refl _, fun _ _ => rfl⟩
  have HBx0 := Lib.hid hbx0
  refine wp_region_held_drew (S := fun W => W.cell? ⟨B, 0, none⟩ = some (.slice a n c) ∧ W.cell? ⟨B, 1, none⟩ = some (.int .i64 (i : Int))) (by kernel_rfl) (by rw [hx0]; exact HCE.out _ hbx0) (fun hHeld => ?_)
  rw [hx0] at hHeld ⊢
  clear hx0 hbx0
  refine wpAnyH_take (i := 0) (v := ?_) rfl (by kernel_rfl) (by kernel_rfl) (by kernel_rfl) (fun _ _ _ h => h) (Or.inl ⟨by rfl, ?_⟩) (by assumption) ?_
  rotate_left
  · intro W hS
    try dsimp only at hS
    go_simp
    try with_reducible rfl
  simp only [List.getElem_toArray, List.getElem_cons_zero, Act.put, List.setIfInBounds_toArray, List.set_cons_zero, List.set_cons_succ]
  refine wpAnyH_take (i := 1) (v := ?_) rfl (by kernel_rfl) (by kernel_rfl) (by kernel_rfl) (fun _ _ _ h => h) (Or.inl ⟨by rfl, ?_⟩) (by assumption) ?_
  rotate_left
  · intro W hS
    try dsimp only at hS
    go_simp
    try with_reducible rfl
  simp only [List.getElem_toArray, List.getElem_cons_succ, List.getElem_cons_zero, Act.put, List.setIfInBounds_toArray, List.set_cons_zero, List.set_cons_succ]
  refine wpAnyH_take (i := 2) (v := ?_) rfl (by kernel_rfl) (by kernel_rfl) (by kernel_rfl) (fun _ _ _ h => h) (Or.inl ⟨by rfl, ?_⟩) (by assumption) ?_
  rotate_left
  · intro W hS
    try dsimp only at hS
    go_simp
    try with_reducible rfl
  simp only [List.getElem_toArray, List.getElem_cons_succ, List.getElem_cons_zero, Act.put, List.setIfInBounds_toArray, List.set_cons_zero, List.set_cons_succ]
  refine wpAnyH_take (i := 3) (v := ?_) rfl (by kernel_rfl) (by kernel_rfl) (by kernel_rfl) (fun _ _ _ h => h) (Or.inl ⟨by rfl, ?_⟩) (by assumption) ?_
  rotate_left
  · intro W hS
    try dsimp only at hS
    go_simp
    try with_reducible rfl
  simp only [List.getElem_toArray, List.getElem_cons_succ, List.getElem_cons_zero, Act.put, List.setIfInBounds_toArray, List.set_cons_zero, List.set_cons_succ]
  refine wpAnyH_take (i := 4) (v := ?_) rfl (by kernel_rfl) (by kernel_rfl) (by kernel_rfl) (fun _ _ _ h => h) (Or.inl ⟨by rfl, ?_⟩) (by assumption) ?_
  rotate_left
  · intro W hS
    try dsimp only at hS
    go_simp
    try with_reducible rfl
  simp only [List.getElem_toArray, List.getElem_cons_succ, List.getElem_cons_zero, Act.put, List.setIfInBounds_toArray, List.set_cons_zero, List.set_cons_succ]
  refine wpAnyH_take (i := 5) (v := ?_) rfl (by kernel_rfl) (by kernel_rfl) (by kernel_rfl) (fun _ _ _ h => h) (Or.inl ⟨by rfl, ?_⟩) (by assumption) ?_
  rotate_left
  · intro W hS
    try dsimp only at hS
    go_simp
    try with_reducible rfl
  simp only [List.getElem_toArray, List.getElem_cons_succ, List.getElem_cons_zero, Act.put, List.setIfInBounds_toArray, List.set_cons_zero, List.set_cons_succ]
  refine wpAnyH_take (i := 6) (v := ?_) rfl (by kernel_rfl) (by kernel_rfl) (by kernel_rfl) (fun _ _ _ h => h) (Or.inl ⟨by rfl, ?_⟩) (by assumption) ?_
  rotate_left
  · intro W hS
    try dsimp only at hS
    go_simp
    try with_reducible rfl
  simp only [List.getElem_toArray, List.getElem_cons_succ, List.getElem_cons_zero, Act.put, List.setIfInBounds_toArray, List.set_cons_zero, List.set_cons_succ]
  refine wpAnyH_take (i := 7) (v := ?_) rfl (by kernel_rfl) (by kernel_rfl) (by kernel_rfl) (fun _ _ _ h => h) (Or.inl ⟨by rfl, ?_⟩) (by assumption) ?_
  rotate_left
  · intro W hS
    try dsimp only at hS
    go_simp
    try with_reducible rfl
  simp only [List.getElem_toArray, List.getElem_cons_succ, List.getElem_cons_zero, Act.put, List.setIfInBounds_toArray, List.set_cons_zero, List.set_cons_succ]
  refine wpAnyH_take (i := 8) (v := ?_) rfl (by kernel_rfl) (by kernel_rfl) (by kernel_rfl) (fun _ _ _ h => h) (Or.inl ⟨by rfl, ?_⟩) (by assumption) ?_
  rotate_left
  · intro W hS
    try dsimp only at hS
    go_simp
    try with_reducible rfl
  simp only [List.getElem_toArray, List.getElem_cons_succ, List.getElem_cons_zero, Act.put, List.setIfInBounds_toArray, List.set_cons_zero, List.set_cons_succ]
  refine wpAnyH_take (i := 9) (v := ?_) rfl (by kernel_rfl) (by kernel_rfl) (by kernel_rfl) (fun _ _ _ h => h) (Or.inl ⟨by rfl, ?_⟩) (by assumption) ?_
  rotate_left
  · intro W hS
    try dsimp only at hS
    go_simp
    try with_reducible rfl
  simp only [List.getElem_toArray, List.getElem_cons_succ, List.getElem_cons_zero, Act.put, List.setIfInBounds_toArray, List.set_cons_zero, List.set_cons_succ]
  refine wpAnyH_ready (rs := [10]) (by kernel_rfl) (by simp) ?_
  refine AllReadyH.cons rfl (fun K hK => ?_) AllReadyH.nil
  go_simp
  rw [HCV.out]
  simp only [Result.andThen, Oper.upon_value]
  obtain ⟨x1, hx1⟩ : ∃ W, bytesWorld x0 5 ms = W := ⟨_, rfl⟩
  obtain ⟨mb, hmb⟩ : ∃ b, x0.heap.size = b := ⟨_, rfl⟩
  obtain ⟨mc, hmc⟩ : ∃ b, grownCap x0 ms.size 0 5 = b := ⟨_, rfl⟩
  have hbx1 : Below w.heap.size w x1 := by rw [← hx1]; exact below_then HBx0.out (bytesWorld_below x0 ms)
  have HBx1 := Lib.hid hbx1
  have HM1 : Hid (∀ W, Below x1.heap.size x1 W → Lib.BytesIn W (some ⟨mb, 0, none⟩) m.length (intsB m)) := Lib.hid (fun W hb _ => ⟨mb, 0, rfl, fun k hk => by
    have hc := bytesWorld_cell x0 5 ms k (by rw [hsz]; exact hk)
    rw [hx1, hmb] at hc
    rw [Nat.zero_add, cell_below hb hc, ← HMS.out, intsB_getD m k hk]
    rfl⟩)
  rw [hx1, hmb, hmc, hsz]
  clear hx1 hmb hmc hbx1
  refine hK.out _ _ (HCE.out _ HBx1.out) (fun hHeld => ?_)
  clear hK K
  try simp only [Act.put, List.setIfInBounds_toArray, List.set_cons_zero, List.set_cons_succ]
  refine wpAnyH_ready (rs := [11]) (by kernel_rfl) (by simp) ?_
  refine AllReadyH.cons rfl (fun K hK => ?_) AllReadyH.nil
  go_simp
  with_reducible refine (HCUT.out x1 HBx1.out mb mc (HM1.out x1 (Below.refl _ _))).mono ?_
  rintro e x2 ⟨⟨v2, rfl⟩, k2, rfl⟩
  refine hK.out _ _ (HCE.out _ (below_drewNv HBx1.out k2)) (fun hHeld => ?_)
  clear hK K
  try simp only [List.getElem_toArray, List.getElem_cons_succ, List.getElem_cons_zero, Act.put, List.setIfInBounds_toArray, List.set_cons_zero, List.set_cons_succ]
  refine wpAnyH_take (i := 12) (v := ?_) rfl (by kernel_rfl) (by kernel_rfl) (by kernel_rfl) (fun _ _ _ h => h) (Or.inl ⟨by rfl, ?_⟩) (by assumption) ?_
  rotate_left
  · intro W hS
    try dsimp only at hS
    go_simp
    try with_reducible rfl
  simp only [List.getElem_toArray, List.getElem_cons_succ, List.getElem_cons_zero, Act.put, List.setIfInBounds_toArray, List.set_cons_zero, List.set_cons_succ]
  refine wpAnyH_take (i := 13) (v := ?_) rfl (by kernel_rfl) (by kernel_rfl) (by kernel_rfl) (fun _ _ _ h => h) (Or.inl ⟨by rfl, ?_⟩) (by assumption) ?_
  rotate_left
  · intro W hS
    try dsimp only at hS
    go_simp
    try with_reducible rfl
  simp only [List.getElem_toArray, List.getElem_cons_succ, List.getElem_cons_zero, Act.put, List.setIfInBounds_toArray, List.set_cons_zero, List.set_cons_succ]
  refine wpAnyH_take (i := 14) (v := ?_) rfl (by kernel_rfl) (by kernel_rfl) (by kernel_rfl) (fun _ _ _ h => h) (Or.inl ⟨by rfl, ?_⟩) (by assumption) ?_
  rotate_left
  · intro W hS
    try dsimp only at hS
    go_simp
    try with_reducible rfl
  simp only [List.getElem_toArray, List.getElem_cons_succ, List.getElem_cons_zero, Act.put, List.setIfInBounds_toArray, List.set_cons_zero, List.set_cons_succ]
  refine wpAnyH_take (i := 15) (v := ?_) rfl (by kernel_rfl) (by kernel_rfl) (by kernel_rfl) (fun _ _ _ h => h) (Or.inl ⟨by rfl, ?_⟩) (by assumption) ?_
  rotate_left
  · intro W hS
    try dsimp only at hS
    go_simp
    try with_reducible rfl
  simp only [List.getElem_toArray, List.getElem_cons_succ, List.getElem_cons_zero, Act.put, List.setIfInBounds_toArray, List.set_cons_zero, List.set_cons_succ]
  refine wpAnyH_take (i := 16) (v := ?_) rfl (by kernel_rfl) (by kernel_rfl) (by kernel_rfl) (fun _ _ _ h => h) (Or.inl ⟨by rfl, ?_⟩) (by assumption) ?_
  rotate_left
  · intro W hS
    try dsimp only at hS
    go_simp
    try with_reducible rfl
  simp only [List.getElem_toArray, List.getElem_cons_succ, List.getElem_cons_zero, Act.put, List.setIfInBounds_toArray, List.set_cons_zero, List.set_cons_succ]
  refine wpAnyH_take (i := 17) (v := ?_) rfl (by kernel_rfl) (by kernel_rfl) (by kernel_rfl) (fun _ _ _ h => h) (Or.inl ⟨by rfl, ?_⟩) (by assumption) ?_
  rotate_left
  · intro W hS
    try dsimp only at hS
    go_simp
    try with_reducible rfl
  simp only [List.getElem_toArray, List.getElem_cons_succ, List.getElem_cons_zero, Act.put, List.setIfInBounds_toArray, List.set_cons_zero, List.set_cons_succ]
  refine wpAnyH_take (i := 18) (v := ?_) rfl (by kernel_rfl) (by kernel_rfl) (by kernel_rfl) (fun _ _ _ h => h) (Or.inl ⟨by rfl, ?_⟩) (by assumption) ?_
  rotate_left
  · intro W hS
    try dsimp only at hS
    go_simp
    try with_reducible rfl
  simp only [List.getElem_toArray, List.getElem_cons_succ, List.getElem_cons_zero, Act.put, List.setIfInBounds_toArray, List.set_cons_zero, List.set_cons_succ]
  refine wpAnyH_done (by kernel_rfl) ?_ _
  clear hHeld
  have HS2 := Lib.hid (HS.out.keep (below_drewNv HBx1.out k2))
  have HK2 : Hid (Keeps (One B) w (x1.drewN k2)) := Lib.hid (keeps_below (below_drewNv HBx1.out k2) _)
  have HE2 : Hid (EnvAt (x1.drewN k2)) := Lib.hid (HEnv.out.below (below_drewNv HBx1.out k2))
  obtain ⟨z0, z1⟩ := HCE.out _ (below_drewNv HBx1.out k2)
  generalize (if c = i then a else Option.map (fun x => x.add i) a) = ta
  cases R with
  | none =>
    have HF : Hid (ScOut w B a c l (fun x => .string (strB x)) Q (.panicked [{ v := wrongV 6 n, recovered := false }]) (x1.drewN k2)) := Lib.hid (by
      rw [HQ.out]
      unfold upToR
      rw [HS.out.len, HNL.out]
      exact ⟨rfl, HK2.out⟩)
    dsimp only [Option.isSome]
    go_wp2_with fail
    exact ⟨rfl, HF.out⟩
  | some q =>
    dsimp only [Option.isSome]
    obtain ⟨q1, q2⟩ := q
    have hsp := cutS_split m HR.out
    have hlen := HS.out.len
    dsimp only at hsp ⊢
    rw [hsp, List.length_append, List.length_append, HNL.out] at hlen
    obtain ⟨A, hA⟩ : ∃ A, q1.length = A := ⟨_, rfl⟩
    obtain ⟨M, hM⟩ : ∃ M, m.length = M := ⟨_, rfl⟩
    rw [hA, hM] at hlen
    rw [hM] at hsz
    obtain ⟨S1, hS1⟩ : ∃ S1, A + M = S1 := ⟨_, rfl⟩
    obtain ⟨S2, hS2⟩ : ∃ S2, i + S1 = S2 := ⟨_, rfl⟩
    have hadd1 : IntKind.i64.wrap ((A : Int) + (M : Int)) = (S1 : Int) := by rw [← hS1]; exact IntWalk.i64_in _ (by omega)
    have hadd2 : IntKind.i64.wrap ((i : Int) + (S1 : Int)) = (S2 : Int) := by rw [← hS2]; exact IntWalk.i64_in _ (by omega)
    have f1 := unfrozen_of_block HS2.out.blk 1
    have hpl := HS2.out.place (j := S2) (by rw [HNL.out]; omega) (u := q2) (by
      have h1 : t.drop S1 = q2 := by
        rw [hsp, ← List.append_assoc, List.drop_left' (by rw [List.length_append, hA, hM]; exact hS1)]
      rw [← h1, HS.out.left, List.drop_drop, hS2])
    have HS3 := Lib.hid hpl.1
    have HK3 : Hid (Keeps (One B) w ((x1.drewN k2).setCell ⟨B, 1, none⟩ (.int .i64 (S2 : Int)))) := Lib.hid (HK2.out.trans hpl.2 (fresh_refl _ _))
    have HE3 : Hid (EnvAt ((x1.drewN k2).setCell ⟨B, 1, none⟩ (.int .i64 (S2 : Int)))) := Lib.hid (HE2.out.keeps hpl.2 hB)
    have HTX : Hid (t.take A = q1) := Lib.hid (by rw [hsp, List.take_left' hA])
    have hcv : ∀ k, (convert 22 9 (.slice (tailA a c i) A (c - i))).run Tryz.prog (((x1.drewN k2).setCell ⟨B, 1, none⟩ (.int .i64 (S2 : Int))).drewN k) = .ok (.string (strB q1)) (((x1.drewN k2).setCell ⟨B, 1, none⟩ (.int .i64 (S2 : Int))).drewN k) := fun k => by
      have := (HS3.out.drawn k).conv i A (c - i) (by rw [HNL.out]; omega)
      rw [← HS.out.left, HTX.out] at this
      exact this
    have hcv0 : (convert 22 9 (.slice (tailA a c i) A (c - i))).run Tryz.prog ((x1.drewN k2).setCell ⟨B, 1, none⟩ (.int .i64 (S2 : Int))) = .ok (.string (strB q1)) ((x1.drewN k2).setCell ⟨B, 1, none⟩ (.int .i64 (S2 : Int))) := hcv 0
    have HLN := Lib.hid (lines_calls (strB q1) ((x1.drewN k2).setCell ⟨B, 1, none⟩ (.int .i64 (S2 : Int))) (by show q1.length ≤ _; omega) HE3.out.mx)
    have HF : Hid (∀ w', Below ((x1.drewN k2).setCell ⟨B, 1, none⟩ (.int .i64 (S2 : Int))).heap.size ((x1.drewN k2).setCell ⟨B, 1, none⟩ (.int .i64 (S2 : Int))) w' → ScOut w B a c l (fun x => .string (strB x)) Q (.returned (.string (strB (eols q1)))) w') := Lib.hid (fun w' hb => by
      rw [HQ.out]
      unfold upToR
      dsimp only
      rw [hA, hM, Nat.add_assoc, hS1, hS2]
      exact ⟨rfl, HS3.out.keep hb, HK3.out.trans (keeps_below hb Non) (fresh_non _ _)⟩)
    obtain ⟨TA, hTA⟩ : ∃ TA, tailA a c i = TA := ⟨_, rfl⟩
    rw [hTA] at hcv hcv0 ⊢
    rw [hA]
    clear hpl hsp hS1 hS2 hA hM hTA
    go_wp2_with fail
    with_reducible refine HLN.out.mono ?_
    rintro e w3 ⟨rfl, hb3⟩
    have HF2 := Lib.hid (HF.out w3 hb3)
    clear hb3
    go_wp2_with fail
    go_ret
    exact HF2.out
end Go.Proofs.YtfonflbpkbibbaaGreatDoor
namespace Go.Proofs.YtfonflbpkbibbaaGreatDoor
open Go.RowKit Go.Lib Go.Joins

set_option maxRecDepth 100000 in
theorem bits_or32 : ∀ n : Fin 256, bits .or .u8 (n.val : Int) 32 = ((n.val ||| 32 : Nat) : Int) := by decide
set_option maxRecDepth 100000 in
theorem dig_digit : ∀ n : Fin 256, 48 ≤ n.val → n.val ≤ 57 → digS (UInt8.ofNat n.val) = n.val - 48 := by decide
set_option maxRecDepth 100000 in
theorem dig_letter : ∀ n : Fin 256, ¬ (48 ≤ n.val ∧ n.val ≤ 57) → 97 ≤ n.val ||| 32 → n.val ||| 32 ≤ 122 → (n.val ||| 32 ≤ 102 ∧ digS (UInt8.ofNat n.val) = (n.val ||| 32) - 87) ∨ (102 < n.val ||| 32 ∧ digS (UInt8.ofNat n.val) = 99) := by decide
set_option maxRecDepth 100000 in
theorem dig_other : ∀ n : Fin 256, ¬ (48 ≤ n.val ∧ n.val ≤ 57) → ¬ (97 ≤ n.val ||| 32 ∧ n.val ||| 32 ≤ 122) → digS (UInt8.ofNat n.val) = 99 := by decide
set_option maxRecDepth 100000 in
theorem or32_lt : ∀ n : Fin 256, n.val ||| 32 < 256 := by decide
theorem digsS_ge (b : Nat) (hb : 1 ≤ b) : ∀ (ds : List UInt8) (v x : Nat), digsS b v ds = some x → v ≤ x
  | [], v, x, h => by cases h; exact Nat.le_refl _
  | c :: t, v, x, h => by
    unfold digsS at h
    by_cases hc : digS c < b
    · rw [if_pos hc] at h
      have := digsS_ge b hb t _ _ h
      have : v * 1 ≤ v * b := Nat.mul_le_mul_left v hb
      omega
    · rw [if_neg hc] at h; cases h
def belowS (q : Option Nat) : Option Nat := q.bind fun v => if v < 2147483648 then some v else none
/-- What the inner ParseUint answers. -/
def NumOut (q : Option Nat) (w : World) (e : Ending) (w' : World) : Prop :=
  (match q with
    | some v => e = .returned (.tuple #[.int .u64 (v : Int), .nilIface])
    | none => ∃ u k, e = .returned (.tuple #[.int .u64 u, .iface 259 (.int .i64 k)]) ∧ (k = 1 ∨ k = 2)) ∧ Below w.heap.size w w'
theorem NumOut.some {q : Option Nat} {w w' : World} {v : Nat} (h : belowS q = some v) (hb : Below w.heap.size w w') : NumOut (belowS q) w (.returned (.tuple #[.int .u64 (v : Int), .nilIface])) w' := by
  rw [h]; exact ⟨rfl, hb⟩
theorem NumOut.none {q : Option Nat} {w w' : World} (h : belowS q = Option.none) (u k : Int) (hk : k = 1 ∨ k = 2) (hb : Below w.heap.size w w') : NumOut (belowS q) w (.returned (.tuple #[.int .u64 u, .iface 259 (.int .i64 k)])) w' := by
  rw [h]; exact ⟨⟨u, k, rfl, hk⟩, hb⟩

set_option maxHeartbeats 32000000 in
set_option maxRecDepth 100000 in
theorem inner10_calls (t : ByteArray) (hne : t.size ≠ 0) (hmax : t.size ≤ 1073741824) (w : World) :
    Calls Tryz.prog 209 #[.string t, .int .i64 10, .int .i64 31] w (NumOut (belowS (digsS 10 0 t.data.toList)) w) := by
  have e157 : ∀ args w, (callFunc 218 args).run Tryz.prog w = .ok (.enter 218 args) w := enters_of Tryz.func218 (by kernel_rfl) rfl
  have hemp : t.toList.isEmpty = false := by
    rw [← decide_eq_emptyBytes]
    exact decide_eq_false (fun h => hne (by rw [h]; rfl))
  have hcv := Lib.run_convert_string_bytes (P := Tryz.prog) w 9 22 5 t Tryz.underlying9 Tryz.underlying22 Tryz.underlying5
  have hB : ∀ j, j < t.size → (Lib.bytesWorld w 5 t).cell? ⟨w.heap.size, j, none⟩ = some (.int .u8 (t.data.toList.getD j 0).toNat) := fun j hj => Lib.bytesWorld_cell w 5 t j hj
  have HBE := Lib.hid (bytesWorld_below w t)
  obtain ⟨W1, hW1⟩ : ∃ W1, W1 = Lib.bytesWorld w 5 t := ⟨_, rfl⟩
  rw [← hW1] at hcv hB HBE
  clear hW1
  obtain ⟨bs, hL⟩ : ∃ bs, bs = t.data.toList := ⟨_, rfl⟩
  have hLn : bs.length = t.size := by rw [hL, Lib.size_eq]
  rw [← hL] at hB ⊢
  clear hL
  have hmv : IntKind.u64.wrap (IntKind.u64.wrap 2147483648 - 1) = 2147483647 := by
    rw [IntKind.wrap_u64, IntKind.wrap_u64]
    decide
  obtain ⟨D, hD⟩ : ∃ D, digsS 10 0 bs = D := ⟨_, rfl⟩
  rw [hD]
  have HOK : Hid (∀ v : Nat, belowS D = some v → ∀ k, NumOut (belowS D) w (.returned (.tuple #[.int .u64 (v : Int), .nilIface])) (W1.drewN k)) := Lib.hid (fun v h k => NumOut.some h (below_drewNv HBE.out k))
  have HNO : Hid (belowS D = none → ∀ (u x : Int), (x = 1 ∨ x = 2) → ∀ k, NumOut (belowS D) w (.returned (.tuple #[.int .u64 u, .iface 259 (.int .i64 x)])) (W1.drewN k)) := Lib.hid (fun h u x hx k => NumOut.none h u x hx (below_drewNv HBE.out k))
  have HD := Lib.hid hD
  clear hD HBE
  go_enter Tryz.func209, Tryz.ntmps209
  go_wp2
  go_loop [12, 13, 101] (fun vu vn vi => ∃ (k acc : Nat) (a : Int), vu = .bool false ∧ vn = .int .u64 a ∧ vi = .int .i64 k ∧ k ≤ t.size ∧ Hid (a = (acc : Int) ∧ acc ≤ 2147483647 ∧ digsS 10 acc (bs.drop k) = D))
    (fun _ _ vi => t.size - (intOf vi).toNat)
  case atStart => exact ⟨0, 0, 0, rfl, rfl, rfl, by omega, rfl, by omega, HD.out⟩
  case round =>
    obtain ⟨k, acc, a, rfl, rfl, rfl, hk, hh⟩ := hrel
    obtain ⟨ha, hacc, hdec⟩ := hh.out
    clear hh
    have a0 : 0 ≤ a := by omega
    have a1 : a ≤ 2147483647 := by omega
    by_cases hkn : k < t.size
    · have hc := hB k hkn
      have hdrop : bs.drop k = bs[k]'(by omega) :: bs.drop (k + 1) := List.drop_eq_getElem_cons (by omega)
      have hget : bs.getD k 0 = bs[k]'(by omega) := by simp [List.getD, List.getElem?_eq_getElem (show k < bs.length by omega)]
      rw [hdrop] at hdec
      rw [hget] at hc
      generalize bs[k]'(by omega) = c at hc hdec
      have hc256 : c.toNat < 256 := c.toNat_lt
      have hof : UInt8.ofNat c.toNat = c := UInt8.ofNat_toNat
      obtain ⟨m, hm⟩ : ∃ m, c.toNat = m := ⟨_, rfl⟩
      rw [hm] at hc hc256 hof
      clear hB hdrop hget
      rw [digsS] at hdec
      by_cases hdig : 48 ≤ m ∧ m ≤ 57
      · obtain ⟨hd0, hd1⟩ := hdig
        have hdg := dig_digit ⟨m, hc256⟩ hd0 hd1
        dsimp only at hdg
        rw [hof] at hdg
        rw [hdg, if_pos (by omega)] at hdec
        by_cases hov : 2147483647 < acc * 10 + (m - 48)
        · have hno := HNO.out (by
            rw [← hdec]
            cases hq : digsS 10 (acc * 10 + (m - 48)) (bs.drop (k + 1)) with
            | none => rfl
            | some x =>
              have := digsS_ge 10 (by decide) _ _ _ hq
              show (if x < 2147483648 then some x else none) = none
              rw [if_neg (by omega)])
          have HN := Lib.hid hno
          have iov : 2147483647 < a * 10 + ((m : Int) - 48) := by omega
          clear hacc hov ha hdec hno hdg hof hm
          go_wp2
          go_ret2
          exact HN.out _ _ (.inl rfl) 0
        · have HN : Hid (a * 10 + ((m : Int) - 48) = ((acc * 10 + (m - 48) : Nat) : Int) ∧ acc * 10 + (m - 48) ≤ 2147483647 ∧ digsS 10 (acc * 10 + (m - 48)) (bs.drop (k + 1)) = D) := Lib.hid ⟨by omega, by omega, hdec⟩
          have iov : a * 10 + ((m : Int) - 48) ≤ 2147483647 := by omega
          clear hacc hov hdec ha hdg hof hm
          go_wp2
          refine ⟨⟨k + 1, acc * 10 + (m - 48), a * 10 + ((m : Int) - 48), rfl, (by first | rfl | (congr 1; omega)), (by first | rfl | (congr 1; omega)), by omega, HN⟩, by simp [intOf]; omega⟩
      · have hbo := bits_or32 ⟨m, hc256⟩
        have hvl := or32_lt ⟨m, hc256⟩
        have hlt := dig_letter ⟨m, hc256⟩ hdig
        have hot := dig_other ⟨m, hc256⟩ hdig
        dsimp only at hbo hvl hlt hot
        rw [hof] at hlt hot
        obtain ⟨v, hv⟩ : ∃ v, m ||| 32 = v := ⟨_, rfl⟩
        rw [hv] at hbo hvl hlt hot
        have hdig' : ¬ (48 ≤ (m : Int) ∧ (m : Int) ≤ 57) := by omega
        by_cases hle : 97 ≤ v ∧ v ≤ 122
        · obtain ⟨hl0, hl1⟩ := hle
          have h95n : ¬ m = 95 := by
            intro h
            rw [h] at hv
            have : (95 ||| 32 : Nat) = 127 := by decide
            omega
          have h95 : ((m : Int) == 95) = false := by simp; omega
          rcases hlt hl0 hl1 with ⟨h102, hdg⟩ | ⟨h102, hdg⟩
          · rw [hdg, if_neg (by omega)] at hdec
            have HN := Lib.hid (HNO.out (by rw [← hdec]; rfl))
            clear hacc hdec ha hdg hof hm hlt hot hv
            go_wp2_with (go_at_fn 218; refine (Tryz.internal_strconv_lower _ _).mono ?_; rintro e w' ⟨rfl, rfl⟩; try rw [hbo])
            all_goals go_ret2
            all_goals exact HN.out _ _ (.inr rfl) 0
          · rw [hdg, if_neg (by decide)] at hdec
            have HN := Lib.hid (HNO.out (by rw [← hdec]; rfl))
            clear hacc hdec ha hdg hof hm hlt hot hv
            go_wp2_with (go_at_fn 218; refine (Tryz.internal_strconv_lower _ _).mono ?_; rintro e w' ⟨rfl, rfl⟩; try rw [hbo])
            all_goals go_ret2
            all_goals exact HN.out _ _ (.inr rfl) 0
        · have hdg := hot hle
          rw [hdg, if_neg (by decide)] at hdec
          have HN := Lib.hid (HNO.out (by rw [← hdec]; rfl))
          have hle' : ¬ (97 ≤ (v : Int) ∧ (v : Int) ≤ 122) := by omega
          clear hacc hdec ha hdg hof hm hlt hot hv
          go_wp2_with (go_at_fn 218; refine (Tryz.internal_strconv_lower _ _).mono ?_; rintro e w' ⟨rfl, rfl⟩; try rw [hbo])
          all_goals go_ret2
          all_goals exact HN.out _ _ (.inr rfl) 0
    · have hkk : k = t.size := by omega
      subst hkk
      rw [List.drop_eq_nil_of_le (by omega)] at hdec
      have HN := Lib.hid (HOK.out acc (by
        rw [← hdec]
        show (if acc < 2147483648 then some acc else none) = some acc
        rw [if_pos (by omega)]))
      subst ha
      clear hacc hdec a0 a1
      go_wp2
      go_ret2
      exact HN.out 0

set_option maxHeartbeats 32000000 in
set_option maxRecDepth 100000 in
theorem inner16_calls (t : ByteArray) (hne : t.size ≠ 0) (hmax : t.size ≤ 1073741824) (w : World) :
    Calls Tryz.prog 209 #[.string t, .int .i64 16, .int .i64 31] w (NumOut (belowS (digsS 16 0 t.data.toList)) w) := by
  have e157 : ∀ args w, (callFunc 218 args).run Tryz.prog w = .ok (.enter 218 args) w := enters_of Tryz.func218 (by kernel_rfl) rfl
  have hemp : t.toList.isEmpty = false := by
    rw [← decide_eq_emptyBytes]
    exact decide_eq_false (fun h => hne (by rw [h]; rfl))
  have hcv := Lib.run_convert_string_bytes (P := Tryz.prog) w 9 22 5 t Tryz.underlying9 Tryz.underlying22 Tryz.underlying5
  have hB : ∀ j, j < t.size → (Lib.bytesWorld w 5 t).cell? ⟨w.heap.size, j, none⟩ = some (.int .u8 (t.data.toList.getD j 0).toNat) := fun j hj => Lib.bytesWorld_cell w 5 t j hj
  have HBE := Lib.hid (bytesWorld_below w t)
  obtain ⟨W1, hW1⟩ : ∃ W1, W1 = Lib.bytesWorld w 5 t := ⟨_, rfl⟩
  rw [← hW1] at hcv hB HBE
  clear hW1
  obtain ⟨bs, hL⟩ : ∃ bs, bs = t.data.toList := ⟨_, rfl⟩
  have hLn : bs.length = t.size := by rw [hL, Lib.size_eq]
  rw [← hL] at hB ⊢
  clear hL
  have hmv : IntKind.u64.wrap (IntKind.u64.wrap 2147483648 - 1) = 2147483647 := by
    rw [IntKind.wrap_u64, IntKind.wrap_u64]
    decide
  obtain ⟨D, hD⟩ : ∃ D, digsS 16 0 bs = D := ⟨_, rfl⟩
  rw [hD]
  have HOK : Hid (∀ v : Nat, belowS D = some v → ∀ k, NumOut (belowS D) w (.returned (.tuple #[.int .u64 (v : Int), .nilIface])) (W1.drewN k)) := Lib.hid (fun v h k => NumOut.some h (below_drewNv HBE.out k))
  have HNO : Hid (belowS D = none → ∀ (u x : Int), (x = 1 ∨ x = 2) → ∀ k, NumOut (belowS D) w (.returned (.tuple #[.int .u64 u, .iface 259 (.int .i64 x)])) (W1.drewN k)) := Lib.hid (fun h u x hx k => NumOut.none h u x hx (below_drewNv HBE.out k))
  have HD := Lib.hid hD
  clear hD HBE
  go_enter Tryz.func209, Tryz.ntmps209
  go_wp2
  go_loop [12, 13, 101] (fun vu vn vi => ∃ (k acc : Nat) (a : Int), vu = .bool false ∧ vn = .int .u64 a ∧ vi = .int .i64 k ∧ k ≤ t.size ∧ Hid (a = (acc : Int) ∧ acc ≤ 2147483647 ∧ digsS 16 acc (bs.drop k) = D))
    (fun _ _ vi => t.size - (intOf vi).toNat)
  case atStart => exact ⟨0, 0, 0, rfl, rfl, rfl, by omega, rfl, by omega, HD.out⟩
  case round =>
    obtain ⟨k, acc, a, rfl, rfl, rfl, hk, hh⟩ := hrel
    obtain ⟨ha, hacc, hdec⟩ := hh.out
    clear hh
    have a0 : 0 ≤ a := by omega
    have a1 : a ≤ 2147483647 := by omega
    by_cases hkn : k < t.size
    · have hc := hB k hkn
      have hdrop : bs.drop k = bs[k]'(by omega) :: bs.drop (k + 1) := List.drop_eq_getElem_cons (by omega)
      have hget : bs.getD k 0 = bs[k]'(by omega) := by simp [List.getD, List.getElem?_eq_getElem (show k < bs.length by omega)]
      rw [hdrop] at hdec
      rw [hget] at hc
      generalize bs[k]'(by omega) = c at hc hdec
      have hc256 : c.toNat < 256 := c.toNat_lt
      have hof : UInt8.ofNat c.toNat = c := UInt8.ofNat_toNat
      obtain ⟨m, hm⟩ : ∃ m, c.toNat = m := ⟨_, rfl⟩
      rw [hm] at hc hc256 hof
      clear hB hdrop hget
      rw [digsS] at hdec
      by_cases hdig : 48 ≤ m ∧ m ≤ 57
      · obtain ⟨hd0, hd1⟩ := hdig
        have hdg := dig_digit ⟨m, hc256⟩ hd0 hd1
        dsimp only at hdg
        rw [hof] at hdg
        rw [hdg, if_pos (by omega)] at hdec
        by_cases hov : 2147483647 < acc * 16 + (m - 48)
        · have hno := HNO.out (by
            rw [← hdec]
            cases hq : digsS 16 (acc * 16 + (m - 48)) (bs.drop (k + 1)) with
            | none => rfl
            | some x =>
              have := digsS_ge 16 (by decide) _ _ _ hq
              show (if x < 2147483648 then some x else none) = none
              rw [if_neg (by omega)])
          have HN := Lib.hid hno
          have iov : 2147483647 < a * 16 + ((m : Int) - 48) := by omega
          clear hacc hov ha hdec hno hdg hof hm
          go_wp2
          go_ret2
          exact HN.out _ _ (.inl rfl) 0
        · have HN : Hid (a * 16 + ((m : Int) - 48) = ((acc * 16 + (m - 48) : Nat) : Int) ∧ acc * 16 + (m - 48) ≤ 2147483647 ∧ digsS 16 (acc * 16 + (m - 48)) (bs.drop (k + 1)) = D) := Lib.hid ⟨by omega, by omega, hdec⟩
          have iov : a * 16 + ((m : Int) - 48) ≤ 2147483647 := by omega
          clear hacc hov hdec ha hdg hof hm
          go_wp2
          refine ⟨⟨k + 1, acc * 16 + (m - 48), a * 16 + ((m : Int) - 48), rfl, (by first | rfl | (congr 1; omega)), (by first | rfl | (congr 1; omega)), by omega, HN⟩, by simp [intOf]; omega⟩
      · have hbo := bits_or32 ⟨m, hc256⟩
        have hvl := or32_lt ⟨m, hc256⟩
        have hlt := dig_letter ⟨m, hc256⟩ hdig
        have hot := dig_other ⟨m, hc256⟩ hdig
        dsimp only at hbo hvl hlt hot
        rw [hof] at hlt hot
        obtain ⟨v, hv⟩ : ∃ v, m ||| 32 = v := ⟨_, rfl⟩
        rw [hv] at hbo hvl hlt hot
        have hdig' : ¬ (48 ≤ (m : Int) ∧ (m : Int) ≤ 57) := by omega
        by_cases hle : 97 ≤ v ∧ v ≤ 122
        · obtain ⟨hl0, hl1⟩ := hle
          have h95n : ¬ m = 95 := by
            intro h
            rw [h] at hv
            have : (95 ||| 32 : Nat) = 127 := by decide
            omega
          have h95 : ((m : Int) == 95) = false := by simp; omega
          rcases hlt hl0 hl1 with ⟨h102, hdg⟩ | ⟨h102, hdg⟩
          · rw [hdg, if_pos (by omega)] at hdec
            by_cases hov : 2147483647 < acc * 16 + (v - 87)
            · have hno := HNO.out (by
                rw [← hdec]
                cases hq : digsS 16 (acc * 16 + (v - 87)) (bs.drop (k + 1)) with
                | none => rfl
                | some x =>
                  have := digsS_ge 16 (by decide) _ _ _ hq
                  show (if x < 2147483648 then some x else none) = none
                  rw [if_neg (by omega)])
              have HN := Lib.hid hno
              have iov : 2147483647 < a * 16 + ((v : Int) - 97 + 10) := by omega
              clear hacc hov ha hdec hno hdg hof hm hlt hot hv
              go_wp2_with (go_at_fn 218; refine (Tryz.internal_strconv_lower _ _).mono ?_; rintro e w' ⟨rfl, rfl⟩; try rw [hbo])
              all_goals go_ret2
              all_goals exact HN.out _ _ (.inl rfl) 0
            · have HN : Hid (a * 16 + ((v : Int) - 97 + 10) = ((acc * 16 + (v - 87) : Nat) : Int) ∧ acc * 16 + (v - 87) ≤ 2147483647 ∧ digsS 16 (acc * 16 + (v - 87)) (bs.drop (k + 1)) = D) := Lib.hid ⟨by omega, by omega, hdec⟩
              have iov : a * 16 + ((v : Int) - 97 + 10) ≤ 2147483647 := by omega
              clear hacc hov hdec ha hdg hof hm hlt hot hv
              go_wp2_with (go_at_fn 218; refine (Tryz.internal_strconv_lower _ _).mono ?_; rintro e w' ⟨rfl, rfl⟩; try rw [hbo])
              all_goals refine ⟨⟨k + 1, acc * 16 + (v - 87), a * 16 + ((v : Int) - 97 + 10), rfl, (by first | rfl | (congr 1; omega)), (by first | rfl | (congr 1; omega)), by omega, HN⟩, by simp [intOf]; omega⟩
          · rw [hdg, if_neg (by decide)] at hdec
            have HN := Lib.hid (HNO.out (by rw [← hdec]; rfl))
            clear hacc hdec ha hdg hof hm hlt hot hv
            go_wp2_with (go_at_fn 218; refine (Tryz.internal_strconv_lower _ _).mono ?_; rintro e w' ⟨rfl, rfl⟩; try rw [hbo])
            all_goals go_ret2
            all_goals exact HN.out _ _ (.inr rfl) 0
        · have hdg := hot hle
          rw [hdg, if_neg (by decide)] at hdec
          have HN := Lib.hid (HNO.out (by rw [← hdec]; rfl))
          have hle' : ¬ (97 ≤ (v : Int) ∧ (v : Int) ≤ 122) := by omega
          clear hacc hdec ha hdg hof hm hlt hot hv
          go_wp2_with (go_at_fn 218; refine (Tryz.internal_strconv_lower _ _).mono ?_; rintro e w' ⟨rfl, rfl⟩; try rw [hbo])
          all_goals go_ret2
          all_goals exact HN.out _ _ (.inr rfl) 0
    · have hkk : k = t.size := by omega
      subst hkk
      rw [List.drop_eq_nil_of_le (by omega)] at hdec
      have HN := Lib.hid (HOK.out acc (by
        rw [← hdec]
        show (if acc < 2147483648 then some acc else none) = some acc
        rw [if_pos (by omega)]))
      subst ha
      clear hacc hdec a0 a1
      go_wp2
      go_ret2
      exact HN.out 0

end Go.Proofs.YtfonflbpkbibbaaGreatDoor
