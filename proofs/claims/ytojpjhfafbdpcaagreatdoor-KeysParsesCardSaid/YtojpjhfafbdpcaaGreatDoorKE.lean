/-
  The text of rules, by the program. Conditions: the rules lie in memory; their text is no longer than 2 to the 40.
-/
import Derived.Test.YtojpjhfafbdpcaaGreatDoorKV
import Derived.OrdersHeld
import Derived.Deep.RegionHeld
import Derived.Deep.RegionHeld3
namespace Go.Proofs.YtojpjhfafbdpcaaGreatDoor
open Go.RowKit Go.Lib Go.Joins

theorem strB_app (a b : List UInt8) : strB a ++ strB b = strB (a ++ b) := by
  apply ByteArray.ext
  rw [ByteArray.data_append]
  simp [strB]
theorem join_eq (sep : List UInt8) : ∀ l : List (List UInt8), Lib.join l sep = joinB sep l
  | [] => rfl
  | [x] => by
    rw [joinB]
    unfold Lib.join
    simp [List.intercalate]
  | x :: y :: t => by
    rw [joinB_cons, ← join_eq sep (y :: t)]
    unfold Lib.join
    simp [List.intercalate, List.intersperse]
theorem join_calls {w : World} {S : Nat → Prop} {v : Value} {l : List (List UInt8)} (h : StrIn w S v l) (sep : List UInt8) (hs : (joinB sep l).length ≤ 140737488355328) (hn : l.length ≤ 140737488355328) :
    Calls Tryz.prog 39 #[v, .string (strB sep)] w (Leaves (.string (strB (joinB sep l))) w) := by
  obtain ⟨a, c, rfl, hc, hm, ha, hr⟩ := h
  rcases hr with rfl | ⟨b, o, rfl, _, hr⟩
  · refine (Tryz.strings_Join_none a c (strB sep) w).mono ?_
    rintro e w' ⟨rfl, rfl⟩
    exact ⟨rfl, Below.refl _ _⟩
  · cases l with
    | nil =>
      refine (Tryz.strings_Join_none _ c (strB sep) w).mono ?_
      rintro e w' ⟨rfl, rfl⟩
      exact ⟨rfl, Below.refl _ _⟩
    | cons x t =>
      have hb : b < w.heap.size := lt_of_cell (hr 0 x rfl)
      have hmap : ((x :: t).map strB).map (·.data.toList) = x :: t := by
        rw [List.map_map]
        exact List.map_id _
      have hj : Lib.join (((x :: t).map strB).map (·.data.toList)) (strB sep).data.toList = joinB sep (x :: t) := by
        rw [hmap]
        exact join_eq sep _
      have h := Tryz.strings_Join b o c ((x :: t).map strB) (strB sep) w (fun j y hy => by
        rw [List.getElem?_map] at hy
        obtain ⟨z, hz, rfl⟩ := Option.map_eq_some_iff.1 hy
        exact hr j z hz) hb (by rw [List.length_map]; exact hn) (by rw [List.length_map]; exact hc) (by rw [hj]; exact hs)
      rw [hj, List.length_map] at h
      exact h
/-- A rule's line, as the program puts it together. -/
theorem line_eq (x : Rl) : (((⟨#[47]⟩ : ByteArray) ++ strB (joinB [47] x.path)) ++ (⟨#[32, 123]⟩ : ByteArray) ++ strB (joinB [44, 32] x.keys)) ++ (⟨#[125, 10]⟩ : ByteArray) = strB (lineW x ++ [10]) := by
  have h1 : (⟨#[47]⟩ : ByteArray) = strB [47] := rfl
  have h2 : (⟨#[32, 123]⟩ : ByteArray) = strB [32, 123] := rfl
  have h3 : (⟨#[125, 10]⟩ : ByteArray) = strB [125, 10] := rfl
  rw [h1, h2, h3, strB_app, strB_app, strB_app, strB_app]
  congr 1
  unfold lineW
  simp
theorem text_take {l : List Rl} {j : Nat} {x : Rl} (hx : l[j]? = some x) : textW (l.take (j + 1)) = textW (l.take j) ++ (lineW x ++ [10]) := by
  rw [List.take_add_one, hx, Option.toList_some, textW_app, textW, textW]
theorem text_part (l : List Rl) (j : Nat) : (textW (l.take j)).length ≤ (textW l).length := by
  have h := textW_app (l.take j) (l.drop j)
  rw [List.take_append_drop] at h
  rw [h, List.length_append]
  omega
theorem text_mem {l : List Rl} {x : Rl} (hx : x ∈ l) : (joinB [47] x.path).length ≤ (textW l).length ∧ (joinB [44, 32] x.keys).length ≤ (textW l).length := by
  induction l with
  | nil => cases hx
  | cons y t ih =>
    rw [textW, List.length_append, List.length_cons]
    rcases List.mem_cons.1 hx with rfl | h
    · unfold lineW
      simp only [List.length_cons, List.length_append]
      omega
    · have := ih h
      omega
theorem builder_new (T : TypeId) (w : World) : Lib.IsBuilderF T 5 w.heap.size w.heap.size [] (w.alloc (.cells #[.pointer none, .slice none 0 0] T)) :=
  .inl ⟨Nat.le_refl _, .slice none 0 0, heap_alloc_new w _, World.ownsRowF_nil _ _ _ _, by simp [Value.ownBlock]⟩
theorem builder_below {T e : TypeId} {b0 b : Nat} {bs : List Value} {w w' : World} (h : Lib.IsBuilderF T e b0 b bs w) (hk : Below w.heap.size w w') : Lib.IsBuilderF T e b0 b bs w' := by
  have key : ∀ p, Lib.BuilderAtF T e b0 b p bs w → Lib.BuilderAtF T e b0 b p bs w' := by
    rintro p ⟨h1, v, h2, h3, h4⟩
    refine ⟨h1, v, (hk.block b (lt_of_block h2)).trans h2, ?_, h4⟩
    refine ⟨h3.1, ?_⟩
    rcases h3.2 with h5 | ⟨g, cap, cur, fz, r1, r2, r3, r4⟩
    · exact .inl h5
    · exact .inr ⟨g, cap, cur, fz, r1, r2, (hk.block g (lt_of_block r3)).trans r3, r4⟩
  rcases h with h | h
  · exact .inl (key _ h)
  · exact .inr (key _ h)

set_option maxRecDepth 100000 in
set_option maxHeartbeats 8000000 in
theorem text_calls {w : World} {S : Nat → Prop} {v : Value} {l : List Rl} (hl : RlsIn w S v l) (hs : (textW l).length ≤ 1099511627776) (hf : ∀ r ∈ l, r.path.length ≤ 1099511627776 ∧ r.keys.length ≤ 1099511627776) :
    Calls Tryz.prog 19 #[v] w (Leaves (.string (strB (textW l))) w) := by
  obtain ⟨a, c, rfl, hlc, hcm, _⟩ := hl.form
  obtain ⟨n, hn⟩ : ∃ n, l.length = n := ⟨_, rfl⟩
  rw [hn] at hl hlc ⊢
  obtain ⟨b0, hb0⟩ : ∃ b, w.heap.size = b := ⟨_, rfl⟩
  obtain ⟨W1, hW1⟩ : ∃ W1, w.alloc (.cells #[.pointer none, .slice none 0 0] 62) = W1 := ⟨_, rfl⟩
  have hbu : Lib.IsBuilderF 62 5 b0 b0 (Lib.byteCells (textW (l.take 0))) W1 := by rw [← hW1, ← hb0]; exact builder_new _ _
  have hb1 : Below b0 w W1 := by rw [← hW1, ← hb0]; exact (Below.refl _ _).alloc (Nat.le_refl _) _
  have HR := Lib.hid hl
  have HN := Lib.hid hn
  have HF := Lib.hid hf
  have HS := Lib.hid hs
  have HB0 := Lib.hid hb0
  have HBU1 := Lib.hid hbu
  have HB1 := Lib.hid hb1
  have HW1 := Lib.hid hW1
  have hm : n ≤ 9223372036854775807 := by unfold maxLen at hcm; omega
  clear hl hf hn hcm hs hbu hb1 hW1
  go_enter Tryz.func19, Tryz.ntmps19
  clear hb0
  go_wp2_with fail
  rw [HW1.out, HB0.out]
  go_loopg [8] n (fun gk i wr => ∃ (j : Nat), i = .int .i64 (j : Int) ∧ gk + j = n ∧ Lib.IsBuilderF 62 5 b0 b0 (Lib.byteCells (textW (l.take j))) wr ∧ Below b0 w wr)
  case atStart => exact ⟨0, rfl, rfl, HBU1.out, HB1.out⟩
  case round =>
    obtain ⟨j, rfl, hg, hbu, hb⟩ := hrel
    have HG := Lib.hid hg
    have HBU := Lib.hid hbu
    have HB := Lib.hid hb
    clear hg hbu hb
    by_cases hlt : j < n
    · obtain ⟨g', rfl⟩ : ∃ g', gk = g' + 1 := ⟨gk - 1, by have := HG.out; omega⟩
      have hdd : decide ((j : Int) < (n : Int)) = true := by simp; omega
      have hji : (j : Int) < (n : Int) := by omega
      have hjc : j ≤ c := by omega
      obtain ⟨x, hx⟩ : ∃ x, l[j]? = some x := ⟨l[j]'(by rw [HN.out]; exact hlt), List.getElem?_eq_getElem _⟩
      have hfx := HF.out x (List.mem_of_getElem? hx)
      have htm := text_mem (List.mem_of_getElem? hx)
      have hss := HS.out
      obtain ⟨b, o, pv, kv, rfl, c0, c1, hpv, hkv⟩ := (HR.out.below (by rw [HB0.out]; exact HB.out)).at hx
      obtain ⟨Wr, hWr⟩ : ∃ Wr, wr.alloc (.cells #[pv, kv] 38) = Wr := ⟨_, rfl⟩
      have hbr : Below wr.heap.size wr Wr := by rw [← hWr]; exact (Below.refl _ _).alloc (Nat.le_refl _) _
      have hkr : Wr.heap[wr.heap.size]? = some (.cells #[pv, kv] 38 (0, 0)) := by rw [← hWr]; exact heap_alloc_new _ _
      have HPV := Lib.hid ((hpv.below hbr).below (Below.refl _ _).drew)
      have HKV := Lib.hid (fun (W : World) (hb : Below Wr.heap.size Wr W) => join_calls ((hkv.below hbr).below hb) [44, 32] (by omega) (by omega))
      have HJ1 := Lib.hid (join_calls ((hpv.below hbr).below (Below.refl _ _).drew) [47] (by omega) (by omega))
      have HLE := Lib.hid (line_eq x)
      have htt := text_take hx
      have htp := text_part l (j + 1)
      obtain ⟨pa, pc, rfl, _⟩ := hpv.form
      obtain ⟨ka, kc, rfl, _⟩ := hkv.form
      obtain ⟨n1, hn1⟩ : ∃ n1, x.path.length = n1 := ⟨_, rfl⟩
      obtain ⟨n2, hn2⟩ : ∃ n2, x.keys.length = n2 := ⟨_, rfl⟩
      rw [hn1] at c0 HPV HJ1 hWr hkr
      rw [hn2] at c1 HKV hWr hkr
      obtain ⟨jp, hjp⟩ : ∃ s, strB (joinB [47] x.path) = s := ⟨_, rfl⟩
      obtain ⟨jk, hjk⟩ : ∃ s, strB (joinB [44, 32] x.keys) = s := ⟨_, rfl⟩
      rw [hjp] at HJ1 HLE
      rw [hjk] at HKV HLE
      have hjz : jp.size ≤ 1099511627776 := by rw [← hjp, strB_size]; omega
      have hjy : jk.size ≤ 1099511627776 := by rw [← hjk, strB_size]; omega
      obtain ⟨s1, hs1⟩ : ∃ s, (⟨#[47]⟩ : ByteArray) ++ jp = s := ⟨_, rfl⟩
      obtain ⟨s2, hs2⟩ : ∃ s, s1 ++ (⟨#[32, 123]⟩ : ByteArray) = s := ⟨_, rfl⟩
      obtain ⟨s3, hs3⟩ : ∃ s, s2 ++ jk = s := ⟨_, rfl⟩
      obtain ⟨s4, hs4⟩ : ∃ s, s3 ++ (⟨#[125, 10]⟩ : ByteArray) = s := ⟨_, rfl⟩
      rw [hs1, hs2, hs3, hs4] at HLE
      have z1 : s1.size = 1 + jp.size := by rw [← hs1, ByteArray.size_append]; rfl
      have z2 : s2.size = s1.size + 2 := by rw [← hs2, ByteArray.size_append]; rfl
      have z3 : s3.size = s2.size + jk.size := by rw [← hs3, ByteArray.size_append]
      have y1 : ¬ (9223372036854775807 < 1 + jp.size) := by omega
      have y2 : ¬ (9223372036854775807 < s1.size + 2) := by omega
      have y3 : ¬ (9223372036854775807 < s2.size + jk.size) := by omega
      have y4 : ¬ (9223372036854775807 < s3.size + 2) := by omega
      have HS1 := Lib.hid hs1
      have HS2 := Lib.hid hs2
      have HS3 := Lib.hid hs3
      have HS4 := Lib.hid hs4
      clear hs1 hs2 hs3 hs4 z1 z2 z3
      have e47 : strB [47] = ⟨#[47]⟩ := rfl
      have e44 : strB [44, 32] = ⟨#[44, 32]⟩ := rfl
      rw [e47] at HJ1
      rw [e44] at HKV
      have HC0 : Hid (Wr.cell? ⟨wr.heap.size, 0, none⟩ = some (.slice pa n1 pc)) := Lib.hid ((cell_of_block hkr 0).trans rfl)
      have HC1 : Hid (Wr.cell? ⟨wr.heap.size, 1, none⟩ = some (.slice ka n2 kc)) := Lib.hid ((cell_of_block hkr 1).trans rfl)
      have HKR := Lib.hid hkr
      have HBR := Lib.hid hbr
      have HWR := Lib.hid hWr
      have HTT := Lib.hid htt
      have HTL : Hid ((textW (l.take j)).length + (lineW x ++ [10]).length ≤ 1099511627776) := Lib.hid (by rw [htt, List.length_append] at htp; omega)
      have HBX : Hid (b0 < wr.heap.size) := Lib.hid (by rcases HBU.out with ⟨h1, v, h2, _⟩ | ⟨h1, v, h2, _⟩ <;> exact lt_of_block h2)
      clear hx hfx htm hss hpv hkv hbr hkr htt htp hWr hn1 hn2 hjp hjk e47 e44
      go_upto_region 5 with (fail)
      rw [HWR.out]
      refine wp_region_held_drew (S := fun W => W.cell? ⟨wr.heap.size, 0, none⟩ = some (.slice pa n1 pc) ∧ W.cell? ⟨wr.heap.size, 1, none⟩ = some (.slice ka n2 kc)) (by kernel_rfl) ⟨HC0.out, HC1.out⟩ (fun hHeld => ?_)
      refine wpAnyH_take (i := 0) (v := ?_) rfl (by kernel_rfl) (by kernel_rfl) (by kernel_rfl) (fun _ _ _ h => h) (Or.inl ⟨by rfl, ?_⟩) (by assumption) ?_
      rotate_left
      · intro W hS
        try dsimp only at hS
        go_simp
        try with_reducible rfl
      simp only [List.getElem_toArray, List.getElem_cons_zero, Act.put, List.setIfInBounds_toArray, List.set_cons_zero, List.set_cons_succ]
      refine wpAnyH_take (i := 1) (v := ?_) rfl (by kernel_rfl) (by kernel_rfl) (by kernel_rfl) (fun _ _ _ h => h) (Or.inl ⟨by rfl, ?_⟩) (by assumption) ?_
      rotate_left
      · intro W hS
        try dsimp only at hS
        go_simp
        try with_reducible rfl
      simp only [List.getElem_toArray, List.getElem_cons_succ, List.getElem_cons_zero, Act.put, List.setIfInBounds_toArray, List.set_cons_zero, List.set_cons_succ]
      refine wpAnyH_take (i := 5) (v := ?_) rfl (by kernel_rfl) (by kernel_rfl) (by kernel_rfl) (fun _ _ _ h => h) (Or.inl ⟨by rfl, ?_⟩) (by assumption) ?_
      rotate_left
      · intro W hS
        try dsimp only at hS
        go_simp
        try with_reducible rfl
      simp only [List.getElem_toArray, List.getElem_cons_succ, List.getElem_cons_zero, Act.put, List.setIfInBounds_toArray, List.set_cons_zero, List.set_cons_succ]
      refine wpAnyH_take (i := 6) (v := ?_) rfl (by kernel_rfl) (by kernel_rfl) (by kernel_rfl) (fun _ _ _ h => h) (Or.inl ⟨by rfl, ?_⟩) (by assumption) ?_
      rotate_left
      · intro W hS
        try dsimp only at hS
        go_simp
        try with_reducible rfl
      simp only [List.getElem_toArray, List.getElem_cons_succ, List.getElem_cons_zero, Act.put, List.setIfInBounds_toArray, List.set_cons_zero, List.set_cons_succ]
      refine wpAnyH_ready (rs := [2]) (by kernel_rfl) (by simp) ?_
      refine AllReadyH.cons rfl (fun K hK => ?_) AllReadyH.nil
      go_simp
      with_reducible refine (HJ1.out).mono ?_
      rintro e w10 ⟨rfl, hb10⟩
      have HB10 : Hid (Below Wr.heap.size Wr w10) := Lib.hid (((Below.refl Wr.heap.size Wr).drew).trans hb10)
      have hc0 := (HB10.out.cell (lt_of_cell HC0.out)).trans HC0.out
      have hc1 := (HB10.out.cell (lt_of_cell HC1.out)).trans HC1.out
      have HJ2 := Lib.hid (HKV.out w10 HB10.out)
      clear hb10 HJ1
      refine hK.out _ _ ⟨hc0, hc1⟩ (fun hHeld => ?_)
      clear hK K
      try simp only [List.getElem_toArray, List.getElem_cons_succ, List.getElem_cons_zero, Act.put, List.setIfInBounds_toArray, List.set_cons_zero, List.set_cons_succ]
      refine wpAnyH_take (i := 3) (v := .string s1) rfl (by kernel_rfl) (by kernel_rfl) (by kernel_rfl) (fun _ _ _ h => h) (Or.inl ⟨by rfl, ?_⟩) (by assumption) ?_
      · intro W hS
        go_simp
        exact HS1.out
      simp only [List.getElem_toArray, List.getElem_cons_succ, List.getElem_cons_zero, Act.put, List.setIfInBounds_toArray, List.set_cons_zero, List.set_cons_succ]
      refine wpAnyH_take (i := 4) (v := .string s2) rfl (by kernel_rfl) (by kernel_rfl) (by kernel_rfl) (fun _ _ _ h => h) (Or.inl ⟨by rfl, ?_⟩) (by assumption) ?_
      · intro W hS
        go_simp
        exact HS2.out
      simp only [List.getElem_toArray, List.getElem_cons_succ, List.getElem_cons_zero, Act.put, List.setIfInBounds_toArray, List.set_cons_zero, List.set_cons_succ]
      refine wpAnyH_ready (rs := [7]) (by kernel_rfl) (by simp) ?_
      refine AllReadyH.cons rfl (fun K hK => ?_) AllReadyH.nil
      go_simp
      with_reducible refine (HJ2.out).mono ?_
      rintro e w11 ⟨rfl, hb11⟩
      have HB11 : Hid (Below Wr.heap.size Wr w11) := Lib.hid (below_then HB10.out hb11)
      have hc0 := (HB11.out.cell (lt_of_cell HC0.out)).trans HC0.out
      have hc1 := (HB11.out.cell (lt_of_cell HC1.out)).trans HC1.out
      have HBU11 : Hid (Lib.IsBuilderF 62 5 b0 b0 (Lib.byteCells (textW (l.take j))) w11) := Lib.hid (builder_below HBU.out (below_then HBR.out HB11.out))
      have HWS := Lib.hid (Tryz.Builder_WriteString_k b0 b0 (Lib.byteCells (textW (l.take j))) (strB (lineW x ++ [10])) w11 HBU11.out (by rw [Lib.byteCells_length, strB_size]; have := HTL.out; omega) (by have h1 := HB.out.size; have h2 := HBR.out.size; have h3 := HB11.out.size; rw [HB0.out] at h1; omega))
      rw [← HLE.out] at HWS
      clear hb11 HJ2
      refine hK.out _ _ ⟨hc0, hc1⟩ (fun hHeld => ?_)
      clear hK K
      try simp only [List.getElem_toArray, List.getElem_cons_succ, List.getElem_cons_zero, Act.put, List.setIfInBounds_toArray, List.set_cons_zero, List.set_cons_succ]
      refine wpAnyH_take (i := 8) (v := .string s3) rfl (by kernel_rfl) (by kernel_rfl) (by kernel_rfl) (fun _ _ _ h => h) (Or.inl ⟨by rfl, ?_⟩) (by assumption) ?_
      · intro W hS
        go_simp
        exact HS3.out
      simp only [List.getElem_toArray, List.getElem_cons_succ, List.getElem_cons_zero, Act.put, List.setIfInBounds_toArray, List.set_cons_zero, List.set_cons_succ]
      refine wpAnyH_take (i := 9) (v := .string s4) rfl (by kernel_rfl) (by kernel_rfl) (by kernel_rfl) (fun _ _ _ h => h) (Or.inl ⟨by rfl, ?_⟩) (by assumption) ?_
      · intro W hS
        go_simp
        exact HS4.out
      simp only [List.getElem_toArray, List.getElem_cons_succ, List.getElem_cons_zero, Act.put, List.setIfInBounds_toArray, List.set_cons_zero, List.set_cons_succ]
      refine wpAnyH_ready (rs := [10]) (by kernel_rfl) (by simp) ?_
      refine AllReadyH.cons rfl (fun K hK => ?_) AllReadyH.nil
      go_simp
      with_reducible refine (HWS.out).mono ?_
      rintro e w12 ⟨rfl, hbu12, hb12, hoth⟩
      have hk12 := hoth _ _ (block_below HB11.out HKR.out) (by have h1 := HB.out.size; rw [HB0.out] at h1; have h2 := HBX.out; intro e; injection e with e; omega) (fun cs fz e => by injection e with _ e _; cases e)
      have hc0 : w12.cell? ⟨wr.heap.size, 0, none⟩ = some (.slice pa n1 pc) := (cell_of_block hk12 0).trans rfl
      have hc1 : w12.cell? ⟨wr.heap.size, 1, none⟩ = some (.slice ka n2 kc) := (cell_of_block hk12 1).trans rfl
      have HBU12 : Hid (Lib.IsBuilderF 62 5 b0 b0 (Lib.byteCells (textW (l.take (j + 1)))) w12) := Lib.hid (by
        have h : Lib.byteCells (textW (l.take j) ++ (lineW x ++ [10])) = Lib.byteCells (textW (l.take j)) ++ Lib.strCells (strB (lineW x ++ [10])) := List.map_append
        rw [HTT.out, h, ← HLE.out]
        exact .inr hbu12)
      have HB12 : Hid (Below b0 w w12) := Lib.hid (HB.out.trans (((below_then HBR.out HB11.out).mono (by have h1 := HB.out.size; rw [HB0.out] at h1; omega)).trans hb12))
      clear hbu12 hb12 hoth hk12 HWS
      refine hK.out _ _ ⟨hc0, hc1⟩ (fun hHeld => ?_)
      clear hK K
      try simp only [List.getElem_toArray, List.getElem_cons_succ, List.getElem_cons_zero, Act.put, List.setIfInBounds_toArray, List.set_cons_zero, List.set_cons_succ]
      refine wpAnyH_done (by kernel_rfl) ?_ _
      go_wp2_with fail
      go_roundg g'
      case measure => omega
      case rel => exact ⟨j + 1, by go_num, by have := HG.out; omega, HBU12.out, HB12.out⟩
    · have hdd : decide ((j : Int) < (n : Int)) = false := by simp; omega
      have htk : l.take j = l := List.take_of_length_le (by have := HN.out; omega)
      rw [htk] at HBU
      have HST := Lib.hid (Tryz.Builder_String_any_k b0 b0 (textW l) wr HBU.out (by rw [← HB0.out]; have := HB.out.size; omega))
      clear htk
      go_wp2_with fail
      with_reducible refine HST.out.mono ?_
      rintro e w5 ⟨rfl, _, hb5, _⟩
      have HB5 : Hid (Below w.heap.size w w5) := Lib.hid (by rw [HB0.out]; exact HB.out.trans hb5)
      clear hb5
      go_wp2
      go_ret
      exact ⟨rfl, HB5.out⟩

end Go.Proofs.YtojpjhfafbdpcaaGreatDoor
