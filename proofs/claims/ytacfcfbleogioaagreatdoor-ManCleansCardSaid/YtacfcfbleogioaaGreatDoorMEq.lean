/-
  bytes.Equal of two rows; append to a slice that is full. No condition but that the rows are rows.
-/
import Derived.Test.YtacfcfbleogioaaGreatDoorShelves
import Derived.Test.YtacfcfbleogioaaGreatDoorOwn
namespace Go.Proofs.YtacfcfbleogioaaGreatDoor
open Go.RowKit Go.Lib Go.Joins

theorem bytesOf_inj : ∀ {l m : List Nat}, (∀ c ∈ l, c < 256) → (∀ c ∈ m, c < 256) → Lib.bytesOf (l.map (fun c : Nat => (c : Int))) = Lib.bytesOf (m.map (fun c : Nat => (c : Int))) → l = m
  | [], [], _, _, _ => rfl
  | [], _ :: _, _, _, h => by simp [Lib.bytesOf] at h
  | _ :: _, [], _, _, h => by simp [Lib.bytesOf] at h
  | x :: l, y :: m, hl, hm, h => by
    simp only [Lib.bytesOf, List.map_cons, List.cons.injEq] at h
    have hx := hl x (List.mem_cons_self ..)
    have hy := hm y (List.mem_cons_self ..)
    have h1 := congrArg UInt8.toNat h.1
    simp only [Int.toNat_natCast, UInt8.toNat_ofNat'] at h1
    have hxy : x = y := by omega
    rw [hxy, bytesOf_inj (l := l) (m := m) (fun c hc => hl c (List.mem_cons_of_mem _ hc)) (fun c hc => hm c (List.mem_cons_of_mem _ hc)) (by simpa [Lib.bytesOf] using h.2)]
theorem bytesIn_row {w : World} {S : Nat → Prop} {a : Option Addr} {l : List Nat} (h : Row w S a l) : Lib.BytesIn w a l.length (l.map (fun c : Nat => (c : Int))) := by
  rcases h.2 with h0 | ⟨b, o, ha, _, hc⟩
  · subst h0
    exact Lib.BytesIn.nil _ _ _
  · subst ha
    refine Lib.BytesIn.of_cells (fun i hi => ?_)
    rw [Addr.add_mid, hc i l[i] (List.getElem?_eq_getElem hi), List.getD_eq_getElem?_getD, List.getElem?_map, List.getElem?_eq_getElem hi]
    rfl
theorem equal_calls {w : World} {S S' : Nat → Prop} {a a' : Option Addr} {l m : List Nat} (n n' c c' : Nat) (h : Row w S a l) (h' : Row w S' a' m) (hn : l.length = n) (hn' : m.length = n') :
    Calls Tryz.prog 78 #[.slice a n c, .slice a' n' c'] w (Tells (.bool (decide (l = m))) w) := by
  subst hn hn'
  refine (Tryz.bytes_Equal_all a a' l.length c m.length c' _ _ w (List.length_map _) (List.length_map _) (bytesIn_row h) (bytesIn_row h')).mono ?_
  rintro e w' ⟨rfl, rfl⟩
  refine ⟨?_, 0, rfl⟩
  congr 2
  rw [Bool.eq_iff_iff]
  simp only [beq_iff_eq, decide_eq_true_eq]
  exact ⟨bytesOf_inj h.1 h'.1, fun e => by rw [e]⟩

/-- Bytes appended to a slice that is full are of the call's own. -/
theorem append_full {w : World} {b ad : Addr} {l x : List Nat} {S S' : Nat → Prop} {n m c : Nat} (hr : Row w S (some b) l) (hn : l.length = n) (hx : Row w S' (some ad) x) (hm : x.length = m) (h0 : 0 < m) (hs : n + m ≤ 2147483648) :
    ∃ v' w', (∀ ty, (Builtin.append_ #[61, 61] ty #[.slice (some b) n n, .slice (some ad) m c]).run Tryz.prog w = .ok v' w') ∧ Own w w' v' (l ++ x) := by
  obtain ⟨i5, hi5, hj50, hj51, hj52⟩ := info_parts info5
  have hlen : (l ++ x).length = n + m := by rw [List.length_append, hn, hm]
  have hcap := grownCap_ge w (n + m) n 5
  have hcm := grownCap_le_maxLen w (n + m) n 5 (by unfold maxLen; omega)
  refine ⟨_, _, fun ty => run_append_grow (P := Tryz.prog) w 61 ty 5 i5 (.int .u8 0) Tryz.underlying61 hi5 hj50 b n n (cellsN l) (by rw [cellsN_len, hj51, hn, Nat.mul_one]) (row_cells hr) ad m c (cellsN x) (by rw [cellsN_len, hj51, hm, Nat.mul_one]) (row_cells hx) (by omega) (by omega) (growslice_fits (by omega) (by rw [hj52]; omega)), ?_⟩
  obtain ⟨C, hC⟩ : ∃ C, grownCap w (n + m) n 5 = C := ⟨_, rfl⟩
  rw [hC] at hcap hcm ⊢
  refine ⟨⟨by rw [cellsN_len, Nat.mul_one], .inr ⟨w.heap.size, C, _, by rw [hlen], Nat.zero_le _, heap_alloc_new w.drew _, by rw [hlen]; exact hcap, hcm, ?_, ?_⟩⟩, Byts.app hr.1 hx.1, fun k e => Nat.le_of_eq (Option.some.inj e), (Below.refl _ _).drew.alloc (Nat.le_refl _) _⟩
  · simp [Builtin.zeroCells, Value.cells, cellsN_len, hn, hm]; omega
  · rw [hlen, cellsN_app]
    simp [cellsN_len, hn, hm, List.take_append, List.take_of_length_le]

end Go.Proofs.YtacfcfbleogioaaGreatDoor
