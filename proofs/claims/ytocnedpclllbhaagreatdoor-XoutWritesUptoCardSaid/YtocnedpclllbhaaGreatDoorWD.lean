/-
 A rune beyond ASCII sought among ASCII characters: in vain. Conditions: there are four to six characters of ASCII.
-/
import Derived.Test.YtocnedpclllbhaaGreatDoorWB
import Derived.Test.YtocnedpclllbhaaGreatDoorWSh
import Derived.Test.YtocnedpclllbhaaGreatDoorOR
namespace Go.Proofs.YtocnedpclllbhaaGreatDoor
open Go.RowKit Go.Lib Go.Joins

theorem told_few {v : Bool} {c : UInt8} (h : toldB v c = true) : c = 38 ∨ c = 60 ∨ c = 62 ∨ c = 34 ∨ c = 13 ∨ c = 9 ∨ c = 10 := by
  unfold toldB at h
  simp only [Bool.or_eq_true, beq_iff_eq, Bool.and_eq_true, Bool.not_eq_true'] at h
  rcases h with (((rfl | rfl) | rfl) | ⟨rfl, _⟩) | ⟨_, (rfl | rfl) | rfl⟩ <;> simp
set_option maxRecDepth 100000 in
theorem reference_calls {v : Bool} {c : UInt8} (h : toldB v c = true) (w : World) : Calls Tryz.prog 71 #[.int .u8 (c.toNat : Int)] w (fun e w' => e = .returned (.string (strB (refC c))) ∧ w' = w) := by
  rcases told_few h with rfl | rfl | rfl | rfl | rfl | rfl | rfl
  · go_enter Tryz.func71, Tryz.ntmps71
    go_wp2_with fail
    go_ret
    exact ⟨rfl, rfl⟩
  · go_enter Tryz.func71, Tryz.ntmps71
    go_wp2_with fail
    go_ret
    exact ⟨rfl, rfl⟩
  · go_enter Tryz.func71, Tryz.ntmps71
    go_wp2_with fail
    go_ret
    exact ⟨rfl, rfl⟩
  · go_enter Tryz.func71, Tryz.ntmps71
    go_wp2_with fail
    go_ret
    exact ⟨rfl, rfl⟩
  · have hI := Tryz.strconv_Itoa_small 13 (by decide) w
    rw [show (⟨(Lib.decDigits 13).toArray⟩ : ByteArray) = ⟨#[49, 51]⟩ by kernel_rfl, show ((13 : Nat) : Int) = 13 from rfl] at hI
    have HI := Lib.hid hI
    clear hI
    go_enter Tryz.func71, Tryz.ntmps71
    go_wp2_with fail
    refine HI.out.mono ?_
    rintro e w' ⟨rfl, rfl⟩
    go_wp2_with fail
    go_ret
    exact ⟨rfl, rfl⟩
  · have hI := Tryz.strconv_Itoa_small 9 (by decide) w
    rw [show (⟨(Lib.decDigits 9).toArray⟩ : ByteArray) = ⟨#[57]⟩ by kernel_rfl, show ((9 : Nat) : Int) = 9 from rfl] at hI
    have HI := Lib.hid hI
    clear hI
    go_enter Tryz.func71, Tryz.ntmps71
    go_wp2_with fail
    refine HI.out.mono ?_
    rintro e w' ⟨rfl, rfl⟩
    go_wp2_with fail
    go_ret
    exact ⟨rfl, rfl⟩
  · have hI := Tryz.strconv_Itoa_small 10 (by decide) w
    rw [show (⟨(Lib.decDigits 10).toArray⟩ : ByteArray) = ⟨#[49, 48]⟩ by kernel_rfl, show ((10 : Nat) : Int) = 10 from rfl] at hI
    have HI := Lib.hid hI
    clear hI
    go_enter Tryz.func71, Tryz.ntmps71
    go_wp2_with fail
    refine HI.out.mono ?_
    rintro e w' ⟨rfl, rfl⟩
    go_wp2_with fail
    go_ret
    exact ⟨rfl, rfl⟩
/-- The characters that are told. -/
def toldL (v : Bool) : List UInt8 := if v = true then [38, 60, 34, 9, 10, 13] else [38, 60, 62, 13]
theorem toldL_has (v : Bool) (x : UInt8) : (toldL v).contains x = toldB v x := by
  cases v
  · exact (told_texts x).symm
  · exact (told_values x).symm
theorem toldL_small (v : Bool) : ∀ b ∈ toldL v, b.toNat < 128 := by cases v <;> decide
theorem toldL_len (v : Bool) : 4 ≤ (toldL v).length ∧ (toldL v).length ≤ 6 := by cases v <;> decide
theorem high_of {k : Nat} (h1 : k < 256) (h2 : 128 ≤ k) : 128 ≤ (UInt8.ofNat k).toNat := by rw [UInt8.toNat_ofNat']; omega
set_option maxRecDepth 100000 in
/-- What a rune beyond ASCII is written as. -/
theorem encode_high {m : Nat} (hv : Utf8.valid (m : Int) = true) (hm : 128 ≤ m) (hx : m < 1114112) : ∃ a y, (Utf8.encode (m : Int)).data.toList = a ++ [y] ∧ 1 ≤ a.length ∧ a.length ≤ 3 ∧ 128 ≤ y.toNat := by
  unfold Utf8.encode
  rw [if_pos hv, Int.toNat_natCast]
  dsimp only
  by_cases h1 : m < 2048
  · rw [if_neg (by omega), if_pos (by omega)]
    exact ⟨[_], _, rfl, by simp, by simp, high_of (by omega) (by omega)⟩
  · by_cases h2 : m < 65536
    · rw [if_neg (by omega), if_neg (by omega), if_pos (by omega)]
      exact ⟨[_, _], _, rfl, by simp, by simp, high_of (by omega) (by omega)⟩
    · rw [if_neg (by omega), if_neg (by omega), if_neg (by omega)]
      exact ⟨[_, _, _], _, rfl, by simp, by simp, high_of (by omega) (by omega)⟩

set_option maxRecDepth 100000 in
set_option maxHeartbeats 4000000 in
/-- A rune that isn't there is sought in vain: the one that stands for what is none. -/
theorem irune_bad (ms : ByteArray) (ha : ∀ (j : Nat) (h : j < ms.size), (ms[j]'h).toNat < 128) (w : World) : Calls Tryz.prog 84 #[.string ms, .int .i32 65533] w (fun e w' => e = .returned (.int .i64 (-1)) ∧ Below w.heap.size w w') := by
  have HA := Lib.hid ha
  clear ha
  go_enter Tryz.func84, Tryz.ntmps84
  go_wp2_with fail
  go_loopg [] ms.size (fun g wr => ∃ pos : Nat, wr.heap[w.heap.size]? = some (.stringIter ms pos) ∧ ms.size ≤ g + pos ∧ Below w.heap.size w wr)
  case atStart => exact ⟨0, World.iter_heap w ms 0, by omega, (Below.refl _ _).alloc (Nat.le_refl _) _⟩
  case round =>
    obtain ⟨pos, hit, hg, hb⟩ := hrel
    have HB := Lib.hid hb
    clear hb
    by_cases hp : pos < ms.size
    · have hx := HA.out pos hp
      obtain ⟨x, hxe⟩ : ∃ x, (ms[pos]'hp).toNat = x := ⟨_, rfl⟩
      have hnx : ∀ ty, (Instr.next (.pointer (some ⟨w.heap.size, 0, none⟩)) true ty).run Tryz.prog wr = _ := fun ty => Lib.run_next_ascii_at wr w.heap.size ms pos ty hit hp hx
      rw [hxe] at hnx hx
      have hbw2 := Lib.hid (Lib.below_iterAt HB.out (k := w.heap.size) (Nat.le_refl _) ms (pos + 1))
      have hit2 := Lib.hid (Lib.iterAt_heap wr w.heap.size ms pos (pos + 1) hit)
      have hne : ((x : Int) == 65533) = false := beq_eq_false_iff_ne.2 (by omega)
      have hne2 : ¬ (x : Int) = 65533 := by omega
      go_wp2_with fail
      go_roundg (gk - 1)
      case measure => omega
      case rel => exact ⟨pos + 1, hit2.out, by omega, hbw2.out⟩
    · have hnx : ∀ ty, (Instr.next (.pointer (some ⟨w.heap.size, 0, none⟩)) true ty).run Tryz.prog wr = _ := fun ty => Lib.run_next_end_at wr w.heap.size ms pos ty hit hp
      go_wp2_with fail
      go_ret
      exact ⟨rfl, HB.out⟩


theorem byte_none {y : UInt8} : ∀ {l : List UInt8}, y ∉ l → Lib.indexByte l y = -1
  | [], _ => rfl
  | b :: l, h => by
    have h1 := byte_none (l := l) (fun hm => h (List.mem_cons_of_mem _ hm))
    have h2 : (b == y) = false := beq_eq_false_iff_ne.2 (fun e => h (e ▸ List.mem_cons_self ..))
    rw [Lib.indexByte, h2, h1]
    rfl
/-- A scope that is left by a return alone: what stands behind it is hidden. -/
theorem wp_scope_ret {P : Program} {a : Act} {w : World} {Q : Exit → Act → World → Prop} {c rest : Code} (l : Nat) (hf : findLabel c l = some rest)
    (h : ∀ Q2 : Exit → Act → World → Prop, Hid (∀ a w, Q .ret a w → Q2 .ret a w) → Hid (∀ ch a w, ¬ Q2 (.panic ch) a w) → c.wp P Q2 a w) : (Code.scope c).wp P Q a w := by
  refine wp_scope_once l hf (Code.wp_mono (fun e a w hq => ?_) (h (fun e a w => e = .ret ∧ Q .ret a w) (Lib.hid fun _ _ hq => ⟨rfl, hq⟩) (Lib.hid fun _ _ _ hq => by cases hq.1)))
  obtain ⟨rfl, hq⟩ := hq
  exact hq
set_option maxRecDepth 100000 in
set_option maxHeartbeats 4000000 in
theorem irune_high (ms : ByteArray) (ha : ∀ b ∈ ms.data.toList, b.toNat < 128) (hs : 4 ≤ ms.size) (hs2 : ms.size ≤ 6) (m : Nat) (hm : 128 ≤ m) (hx : m < 1114112) (hne : m ≠ 65533) (w : World) : Calls Tryz.prog 84 #[.string ms, .int .i32 (m : Int)] w (fun e w' => e = .returned (.int .i64 (-1)) ∧ Below w.heap.size w w') := by
  have h0 : (0 : Int) ≤ (m : Int) := by omega
  have h1 : ¬ ((m : Int) < 128) := by omega
  have h2 : ¬ ((m : Int) = 65533) := by omega
  have h3 : ((m : Int) == 65533) = false := beq_eq_false_iff_ne.2 h2
  have HV := Lib.hid (Tryz.utf8_ValidRune (m : Int) w)
  obtain ⟨q, hq⟩ : ∃ q, Lib.validRune (m : Int) = q := ⟨_, rfl⟩
  rw [hq] at HV
  cases q with
  | false =>
    clear ha hq
    go_enter Tryz.func84, Tryz.ntmps84
    go_wp2_with fail
    refine HV.out.mono ?_
    rintro e w' ⟨rfl, rfl⟩
    go_wp2_with fail
    go_ret
    exact ⟨rfl, Below.refl _ _⟩
  | true =>
    have hv : Utf8.valid (m : Int) = true := by
      unfold Lib.validRune at hq
      rw [decide_eq_true_eq] at hq
      unfold Utf8.valid
      simp only [Bool.and_eq_true, Bool.or_eq_true, decide_eq_true_eq]
      omega
    obtain ⟨a, y, hay, ha1, ha3, hy⟩ := encode_high hv hm hx
    obtain ⟨es, hes⟩ : ∃ es, Utf8.encode (m : Int) = es := ⟨_, rfl⟩
    rw [hes] at hay
    have hsz : es.size = a.length + 1 := by rw [Lib.size_eq, hay, List.length_append]; rfl
    have HM := Lib.hid hm
    have hcv : ∀ W, (convert 21 9 (.int .i32 (m : Int))).run Tryz.prog W = .ok (.string es) W := fun W => by
      have h5 := run_underlying (P := Tryz.prog) Tryz.underlying21
      have h6 := run_underlying (P := Tryz.prog) Tryz.underlying9
      simp [convert, h5, h6, Conv.intToString, hes]
    have hin : a.length < ms.size := by omega
    have hie : a.length < es.size := by omega
    have hi0 : (0 : Int) ≤ (a.length : Int) := by omega
    have hin2 : (a.length : Int) < (ms.size : Int) := by omega
    have hie2 : (a.length : Int) < (es.size : Int) := by omega
    obtain ⟨x, hxe⟩ : ∃ x : UInt8, ms[a.length]'hin = x := ⟨_, rfl⟩
    have hx7 : x.toNat < 128 := ha x (by
      have h := Lib.data_getElem? ms a.length hin
      rw [hxe] at h
      exact List.mem_of_getElem? h)
    have hey : es[a.length]'hie = y := by
      have h := Lib.data_getElem? es a.length hie
      rw [hay, List.getElem?_append_right (Nat.le_refl _), Nat.sub_self] at h
      exact (Option.some.inj h).symm
    have hxy : ((x.toNat : Int) == (y.toNat : Int)) = false := beq_eq_false_iff_ne.2 (by omega)
    have hxb : ((x.toNat : Int) != (y.toNat : Int)) = true := by rw [bne, hxy]; rfl
    have hxy2 : ¬ (x.toNat : Int) = (y.toNat : Int) := by omega
    obtain ⟨A, hA⟩ : ∃ A, a.length = A := ⟨_, rfl⟩
    rw [hA] at hin hie hi0 hin2 hie2 ha1 ha3 hsz
    simp only [hA] at hxe hey
    have hw : IntKind.i64.wrap ((A : Int) + 1) = (A : Int) + 1 := IntWalk.i64_in _ (by omega)
    have hs0 : (0 : Int) ≤ (A : Int) + 1 := by omega
    have hs1 : (A : Int) + 1 ≤ (ms.size : Int) := by omega
    have HIB : Hid (∀ W, Calls Tryz.prog 102 #[.string (ms.extract (A + 1) ms.size), .int .u8 (y.toNat : Int)] W (fun e w' => e = .returned (.int .i64 (-1)) ∧ w' = W)) := Lib.hid (fun W => by
      have h := Tryz.strings_IndexByte (ms.extract (A + 1) ms.size) (y.toNat : Int) W
      rw [show ((y.toNat : Int)).toNat.toUInt8 = y by simp, byte_none (fun hm => by
        have h1 : y ∈ ms.data.toList := by
          have h2 : (ms.extract (A + 1) ms.size).data.toList = (ms.data.toList.drop (A + 1)).take (ms.size - (A + 1)) := by rw [ByteArray.data_extract, Array.toList_extract]
          rw [h2] at hm
          exact List.mem_of_mem_drop (List.mem_of_mem_take hm)
        have := ha y h1
        omega)] at h
      exact h)
    clear hq hv ha hay
    go_enter Tryz.func84, Tryz.ntmps84
    go_wp2_with fail
    refine HV.out.mono ?_
    rintro e w' ⟨rfl, rfl⟩
    go_wp2_with fail
    refine wp_scope_ret 1 rfl (fun Q2 HR2 HP2 => ?_)
    go_wp2_with fail
    go_loopg [9, 10] 0 (fun _ s9 s10 wr => s9 = .int .i64 (A : Int) ∧ wr = w')
    case atStart => exact ⟨rfl, rfl⟩
    case round =>
      obtain ⟨rfl, rfl⟩ := hrel
      go_wp2_with fail
      refine wp_scope_ret 0 rfl (fun Q3 HR3 HP3 => ?_)
      go_upto_region 6 with (fail)
      refine wp_region_z (S := fun _ => True) 6 (by kernel_rfl) trivial (fun hHeld => ?_)
      refine wpAnyZ_take (i := 0) (f := 8) (v := ?_) rfl (by kernel_rfl) (by kernel_rfl) (by kernel_rfl) (by kernel_rfl) (by kernel_rfl) (fun c _ w h => (HP3.out c _ w h).elim) (Or.inl ⟨by rfl, ?_⟩) (by assumption) ?_
      rotate_left
      · intro W hS
        try dsimp only at hS
        go_simp
        try with_reducible rfl
      try simp only [List.getElem_toArray, List.getElem_cons_zero, Act.put, List.setIfInBounds_toArray, List.set_cons_zero, List.set_cons_succ]
      refine wpAnyZ_take (i := 1) (f := 8) (v := ?_) rfl (by kernel_rfl) (by kernel_rfl) (by kernel_rfl) (by kernel_rfl) (by kernel_rfl) (fun c _ w h => (HP3.out c _ w h).elim) (Or.inl ⟨by rfl, ?_⟩) (by assumption) ?_
      rotate_left
      · intro W hS
        try dsimp only at hS
        go_simp
        try with_reducible rfl
      try simp only [List.getElem_toArray, List.getElem_cons_succ, List.getElem_cons_zero, Act.put, List.setIfInBounds_toArray, List.set_cons_zero, List.set_cons_succ]
      refine wpAnyZ_take (i := 2) (f := 8) (v := ?_) rfl (by kernel_rfl) (by kernel_rfl) (by kernel_rfl) (by kernel_rfl) (by kernel_rfl) (fun c _ w h => (HP3.out c _ w h).elim) (Or.inl ⟨by rfl, ?_⟩) (by assumption) ?_
      rotate_left
      · intro W hS
        try dsimp only at hS
        go_simp
        try with_reducible rfl
      try simp only [List.getElem_toArray, List.getElem_cons_succ, List.getElem_cons_zero, Act.put, List.setIfInBounds_toArray, List.set_cons_zero, List.set_cons_succ]
      refine wpAnyZ_take (i := 3) (f := 8) (v := ?_) rfl (by kernel_rfl) (by kernel_rfl) (by kernel_rfl) (by kernel_rfl) (by kernel_rfl) (fun c _ w h => (HP3.out c _ w h).elim) (Or.inl ⟨by rfl, ?_⟩) (by assumption) ?_
      rotate_left
      · intro W hS
        try dsimp only at hS
        go_simp
        try with_reducible rfl
      try simp only [List.getElem_toArray, List.getElem_cons_succ, List.getElem_cons_zero, Act.put, List.setIfInBounds_toArray, List.set_cons_zero, List.set_cons_succ]
      refine wpAnyZ_take (i := 4) (f := 8) (v := ?_) rfl (by kernel_rfl) (by kernel_rfl) (by kernel_rfl) (by kernel_rfl) (by kernel_rfl) (fun c _ w h => (HP3.out c _ w h).elim) (Or.inl ⟨by rfl, ?_⟩) (by assumption) ?_
      rotate_left
      · intro W hS
        try dsimp only at hS
        go_simp
        try with_reducible rfl
      try simp only [List.getElem_toArray, List.getElem_cons_succ, List.getElem_cons_zero, Act.put, List.setIfInBounds_toArray, List.set_cons_zero, List.set_cons_succ]
      refine wpAnyZ_take (i := 5) (f := 8) (v := ?_) rfl (by kernel_rfl) (by kernel_rfl) (by kernel_rfl) (by kernel_rfl) (by kernel_rfl) (fun c _ w h => (HP3.out c _ w h).elim) (Or.inl ⟨by rfl, ?_⟩) (by assumption) ?_
      rotate_left
      · intro W hS
        try dsimp only at hS
        go_simp
        rw [if_pos (by omega)]
        try with_reducible rfl
      try simp only [List.getElem_toArray, List.getElem_cons_succ, List.getElem_cons_zero, Act.put, List.setIfInBounds_toArray, List.set_cons_zero, List.set_cons_succ]
      refine wpAnyZ_last (by kernel_rfl) rfl (by kernel_rfl) (fun K hK => ?_)
      go_simp
      refine hK.out _ _ ?_
      clear hK K
      try simp only [List.getElem_toArray, List.getElem_cons_succ, List.getElem_cons_zero, Act.put, List.setIfInBounds_toArray, List.set_cons_zero, List.set_cons_succ]
      go_upto_region 7 with (fail)
      refine wp_region_z (S := fun _ => True) 8 (by kernel_rfl) trivial (fun hHeld => ?_)
      refine wpAnyZ_take (i := 0) (f := 10) (v := ?_) rfl (by kernel_rfl) (by kernel_rfl) (by kernel_rfl) (by kernel_rfl) (by kernel_rfl) (fun c _ w h => (HP3.out c _ w h).elim) (Or.inl ⟨by rfl, ?_⟩) (by assumption) ?_
      rotate_left
      · intro W hS
        try dsimp only at hS
        go_simp
        try with_reducible rfl
      try simp only [List.getElem_toArray, List.getElem_cons_zero, Act.put, List.setIfInBounds_toArray, List.set_cons_zero, List.set_cons_succ]
      refine wpAnyZ_take (i := 1) (f := 10) (v := ?_) rfl (by kernel_rfl) (by kernel_rfl) (by kernel_rfl) (by kernel_rfl) (by kernel_rfl) (fun c _ w h => (HP3.out c _ w h).elim) (Or.inl ⟨by rfl, ?_⟩) (by assumption) ?_
      rotate_left
      · intro W hS
        try dsimp only at hS
        go_simp
        try with_reducible rfl
      try simp only [List.getElem_toArray, List.getElem_cons_succ, List.getElem_cons_zero, Act.put, List.setIfInBounds_toArray, List.set_cons_zero, List.set_cons_succ]
      refine wpAnyZ_take (i := 2) (f := 10) (v := ?_) rfl (by kernel_rfl) (by kernel_rfl) (by kernel_rfl) (by kernel_rfl) (by kernel_rfl) (fun c _ w h => (HP3.out c _ w h).elim) (Or.inl ⟨by rfl, ?_⟩) (by assumption) ?_
      rotate_left
      · intro W hS
        try dsimp only at hS
        go_simp
        try with_reducible rfl
      try simp only [List.getElem_toArray, List.getElem_cons_succ, List.getElem_cons_zero, Act.put, List.setIfInBounds_toArray, List.set_cons_zero, List.set_cons_succ]
      refine wpAnyZ_take (i := 3) (f := 10) (v := ?_) rfl (by kernel_rfl) (by kernel_rfl) (by kernel_rfl) (by kernel_rfl) (by kernel_rfl) (fun c _ w h => (HP3.out c _ w h).elim) (Or.inl ⟨by rfl, ?_⟩) (by assumption) ?_
      rotate_left
      · intro W hS
        try dsimp only at hS
        go_simp
        try with_reducible rfl
      try simp only [List.getElem_toArray, List.getElem_cons_succ, List.getElem_cons_zero, Act.put, List.setIfInBounds_toArray, List.set_cons_zero, List.set_cons_succ]
      refine wpAnyZ_take (i := 4) (f := 10) (v := ?_) rfl (by kernel_rfl) (by kernel_rfl) (by kernel_rfl) (by kernel_rfl) (by kernel_rfl) (fun c _ w h => (HP3.out c _ w h).elim) (Or.inl ⟨by rfl, ?_⟩) (by assumption) ?_
      rotate_left
      · intro W hS
        try dsimp only at hS
        go_simp
        try with_reducible rfl
      try simp only [List.getElem_toArray, List.getElem_cons_succ, List.getElem_cons_zero, Act.put, List.setIfInBounds_toArray, List.set_cons_zero, List.set_cons_succ]
      refine wpAnyZ_take (i := 5) (f := 10) (v := ?_) rfl (by kernel_rfl) (by kernel_rfl) (by kernel_rfl) (by kernel_rfl) (by kernel_rfl) (fun c _ w h => (HP3.out c _ w h).elim) (Or.inl ⟨by rfl, ?_⟩) (by assumption) ?_
      rotate_left
      · intro W hS
        try dsimp only at hS
        go_simp
        try with_reducible rfl
      try simp only [List.getElem_toArray, List.getElem_cons_succ, List.getElem_cons_zero, Act.put, List.setIfInBounds_toArray, List.set_cons_zero, List.set_cons_succ]
      refine wpAnyZ_take (i := 6) (f := 10) (v := ?_) rfl (by kernel_rfl) (by kernel_rfl) (by kernel_rfl) (by kernel_rfl) (by kernel_rfl) (fun c _ w h => (HP3.out c _ w h).elim) (Or.inl ⟨by rfl, ?_⟩) (by assumption) ?_
      rotate_left
      · intro W hS
        try dsimp only at hS
        go_simp
        rw [if_pos (by omega)]
        try with_reducible rfl
      try simp only [List.getElem_toArray, List.getElem_cons_succ, List.getElem_cons_zero, Act.put, List.setIfInBounds_toArray, List.set_cons_zero, List.set_cons_succ]
      refine wpAnyZ_one (i := 7) (by kernel_rfl) rfl (fun K hK => ?_)
      go_simp
      with_reducible refine (HIB.out _).mono ?_
      rintro e x1 ⟨rfl, rfl⟩
      refine hK.out _ _ trivial (fun hHeld => ?_)
      clear hK K
      try simp only [List.getElem_toArray, List.getElem_cons_succ, List.getElem_cons_zero, Act.put, List.setIfInBounds_toArray, List.set_cons_zero, List.set_cons_succ]
      refine wpAnyZ_last (by kernel_rfl) rfl (by kernel_rfl) (fun K hK => ?_)
      go_simp
      refine hK.out _ _ ?_
      clear hK K
      try simp only [List.getElem_toArray, List.getElem_cons_succ, List.getElem_cons_zero, Act.put, List.setIfInBounds_toArray, List.set_cons_zero, List.set_cons_succ]
      go_wp2_with fail
      refine HR3.out _ _ ?_
      refine HR2.out _ _ ?_
      go_ret
      exact ⟨rfl, rfl, rfl, rfl, Nat.le_refl _, fun _ _ => rfl⟩

end Go.Proofs.YtocnedpclllbhaaGreatDoor
