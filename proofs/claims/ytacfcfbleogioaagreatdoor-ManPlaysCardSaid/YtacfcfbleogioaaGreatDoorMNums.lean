/-
  The numbers of a manifest's record, told by the program; bytes.HasPrefix, bytes.CutPrefix. Condition: the slice leads to bytes.
-/
import Derived.Test.YtacfcfbleogioaaGreatDoorMRowA
import Derived.Test.YtacfcfbleogioaaGreatDoorMDo
import Derived.Sort.LoopGhostIn
import Derived.Lib.SlBytesConst
namespace Go.Proofs.YtacfcfbleogioaaGreatDoor
open Go.RowKit Go.Lib Go.Joins Go.Shelf
attribute [local go_sem] Oper.semAt_some

set_option maxRecDepth 100000 in
set_option maxHeartbeats 2000000 in
theorem hasp_calls {S S' : Nat → Prop} (a : Option Addr) (l : List Nat) (n c : Nat) (b' : Addr) (w : World) (hr : Row w S a l) (hn : l.length = n) (hc : n ≤ c) (hr' : Row w S' (some b') magicM) :
    Calls Tryz.prog 141 #[.slice a n c, .slice (some b') 4 4] w (Tells (.bool (decide (l.take 4 = magicM))) w) := by
  by_cases h4 : 4 ≤ n
  · have HE := Lib.hid (equal_calls (w := w) 4 4 c 4 (hr.take 4) hr' (by rw [List.length_take]; omega) rfl)
    obtain ⟨q, hq⟩ : ∃ q : Bool, decide (l.take 4 = magicM) = q := ⟨_, rfl⟩
    rw [hq] at HE ⊢
    obtain ⟨b, o, rfl⟩ := row_form hr (by omega)
    have hd : decide ((n : Int) ≥ 4) = true := by simp; omega
    have hd2 : decide ((4 : Int) ≤ (n : Int)) = true := by simp; omega
    have hc4 : 4 ≤ c := by omega
    clear hr hr' hq hn
    go_enter Tryz.func141, Tryz.ntmps141
    go_wp2_with fail
    with_reducible refine HE.out.mono ?_
    rintro e w1 ⟨rfl, k, rfl⟩
    go_wp2
    go_ret
    exact ⟨rfl, k, rfl⟩
  · have hq : decide (l.take 4 = magicM) = false := decide_eq_false (fun e => by have := congrArg List.length e; rw [List.length_take] at this; simp [magicM] at this; omega)
    rw [hq]
    have hd : decide ((n : Int) ≥ 4) = false := by simp; omega
    have hd2 : decide ((4 : Int) ≤ (n : Int)) = false := by simp; omega
    clear hr hr' hq hn
    go_enter Tryz.func141, Tryz.ntmps141
    go_wp2
    go_ret
    exact ⟨rfl, 0, rfl⟩

/-- What CutPrefix answers. -/
def CutOut (S : Nat → Prop) (l : List Nat) (w : World) (e : Ending) (w' : World) : Prop :=
  (∃ k, w' = w.drewN k) ∧ ((l.take 4 ≠ magicM ∧ ∃ a n c, e = .returned (.tuple #[.slice a n c, .bool false])) ∨
    (l.take 4 = magicM ∧ ∃ a len c, e = .returned (.tuple #[.slice a len c, .bool true]) ∧ (l.drop 4).length = len ∧ Row w S a (l.drop 4) ∧ len ≤ c ∧ c ≤ maxLen))
set_option maxRecDepth 100000 in
set_option maxHeartbeats 2000000 in
theorem cutp_calls {S S' : Nat → Prop} (a : Option Addr) (l : List Nat) (n c : Nat) (b' : Addr) (w : World) (hr : Row w S a l) (hn : l.length = n) (hc : n ≤ c) (hc2 : c ≤ maxLen) (hr' : Row w S' (some b') magicM) :
    Calls Tryz.prog 118 #[.slice a n c, .slice (some b') 4 4] w (CutOut S l w) := by
  have HH := Lib.hid (hasp_calls a l n c b' w hr hn hc hr')
  by_cases hp : l.take 4 = magicM
  · rw [decide_eq_true hp] at HH
    have h4 : 4 ≤ n := by have := congrArg List.length hp; rw [List.length_take] at this; simp [magicM] at this; omega
    obtain ⟨b, o, rfl⟩ := row_form hr (by omega)
    have hlen : (l.drop 4).length = n - 4 := by rw [List.length_drop, hn]
    have HD := Lib.hid (hr.drop 4)
    have hc4 : 4 ≤ c := by omega
    have hm := hc2
    unfold maxLen at hm
    have HFIN : Hid (∀ k ad, Row w S ad (l.drop 4) → CutOut S l w (.returned (.tuple #[.slice ad (n - 4) (c - 4), .bool true])) (w.drewN k)) := Lib.hid (fun k ad h => ⟨⟨k, rfl⟩, .inr ⟨hp, ad, n - 4, c - 4, rfl, hlen, h, by omega, by unfold maxLen at hc2 ⊢; omega⟩⟩)
    by_cases hc0 : c = 4
    · have HN0 : Hid (Row w S (some ⟨b, o, none⟩) (l.drop 4)) := Lib.hid ⟨fun x hx => hr.1 x (List.mem_of_mem_drop hx), .inl (List.length_eq_zero_iff.1 (by rw [hlen]; omega))⟩
      clear hr hr' hp hn hlen HD hc2
      subst hc0
      obtain rfl : n = 4 := by omega
      go_enter Tryz.func118, Tryz.ntmps118
      go_wp2_with fail
      with_reducible refine HH.out.mono ?_
      rintro e w1 ⟨rfl, k, rfl⟩
      go_wp2
      go_ret2
      exact HFIN.out k _ HN0.out
    · have hne : ¬ c = 4 := hc0
      clear hr hr' hp hn hlen hc2
      go_enter Tryz.func118, Tryz.ntmps118
      go_wp2_with fail
      with_reducible refine HH.out.mono ?_
      rintro e w1 ⟨rfl, k, rfl⟩
      go_wp2
      go_ret2
      exact HFIN.out k _ HD.out
  · rw [decide_eq_false hp] at HH
    have HFIN : Hid (∀ k, CutOut S l w (.returned (.tuple #[.slice a n c, .bool false])) (w.drewN k)) := Lib.hid (fun k => ⟨⟨k, rfl⟩, .inl ⟨hp, a, n, c, rfl⟩⟩)
    clear hr hr' hp hn
    go_enter Tryz.func118, Tryz.ntmps118
    go_wp2_with fail
    with_reducible refine HH.out.mono ?_
    rintro e w1 ⟨rfl, k, rfl⟩
    go_wp2
    go_ret2
    exact HFIN.out k

/-! ### a chunk's number -/
theorem i64_wrap {n : Nat} (h : n < 9223372036854775808) : IntKind.i64.wrap (n : Int) = (n : Int) := by
  have e : (n : Int) % 2 ^ 64 = n := Int.emod_eq_of_lt (by omega) (by omega)
  simp only [IntKind.wrap, IntKind.bits, IntKind.signed, e]
  rw [if_neg]
  simp
  omega
theorem i64_or {a b : Nat} (ha : a < 4611686018427387904) (hb : b < 4611686018427387904) : bits .or .i64 (a : Int) (b : Int) = ((a ||| b : Nat) : Int) := by
  have hx : a ||| b < 2 ^ 62 := Nat.or_lt_two_pow (by omega) (by omega)
  show IntKind.i64.wrap ((BitVec.ofInt 64 (a : Int) ||| BitVec.ofInt 64 (b : Int)).toNat : Int) = _
  rw [BitVec.toNat_or, ofInt_u64 a (by omega), ofInt_u64 b (by omega)]
  exact i64_wrap (by omega)
theorem leB_snoc : ∀ (l : List Nat) (c : Nat), leB (l ++ [c]) = leB l + c * 256 ^ l.length
  | [], c => by simp [leB]
  | x :: l, c => by
    rw [List.cons_append, leB, leB, leB_snoc l c, List.length_cons, Nat.pow_succ, Nat.mul_add, Nat.add_assoc]
    congr 2
    rw [Nat.mul_comm 256 (c * _), Nat.mul_assoc]
theorem leB_lt : ∀ (l : List Nat), Byts l → leB l < 256 ^ l.length
  | [], _ => by simp [leB]
  | x :: l, h => by
    have h1 := leB_lt l (fun c hc => h c (List.mem_cons_of_mem _ hc))
    have h2 := h x (List.mem_cons_self ..)
    rw [leB, List.length_cons, Nat.pow_succ]
    omega
/-- One digit more. -/
theorem leB_or {l : List Nat} {c : Nat} (h : Byts l) (hc : c < 256) (hl : l.length ≤ 4) : bits .or .i64 ((leB l : Nat) : Int) ((c : Int) * ((256 ^ l.length : Nat) : Int)) = ((leB (l ++ [c]) : Nat) : Int) := by
  have h1 := leB_lt l h
  have h2 : 256 ^ l.length = 2 ^ (8 * l.length) := by rw [Nat.pow_mul]
  have h3 : 256 ^ l.length ≤ 256 ^ 4 := Nat.pow_le_pow_right (by decide) hl
  have h4 : c * 256 ^ l.length ≤ 255 * 256 ^ 4 := Nat.mul_le_mul (by omega) h3
  have h5 : (256 : Nat) ^ 4 = 4294967296 := by decide
  rw [show (c : Int) * ((256 ^ l.length : Nat) : Int) = ((c * 256 ^ l.length : Nat) : Int) from (Int.natCast_mul _ _).symm, i64_or (by omega) (by omega), leB_snoc, h2, or_add (by rw [← h2]; exact h1)]

theorem wrap_digit {d j : Nat} (hd : d < 256) (hj : j ≤ 3) : wrap64 ((d : Int) * 2 ^ (8 * j)) = (d : Int) * ((256 ^ j : Nat) : Int) := by
  have h3 : 256 ^ j ≤ 256 ^ 3 := Nat.pow_le_pow_right (by decide) hj
  have h4 : d * 256 ^ j ≤ 255 * 256 ^ 3 := Nat.mul_le_mul (by omega) h3
  have h5 : (256 : Nat) ^ 3 = 16777216 := by decide
  have e : (d : Int) * 2 ^ (8 * j) = ((d * 256 ^ j : Nat) : Int) := by
    rw [Int.natCast_mul, Int.pow_mul, Int.natCast_pow]
    rfl
  rw [e, ← Int.natCast_mul]
  obtain ⟨z, hz⟩ : ∃ z, d * 256 ^ j = z := ⟨_, rfl⟩
  rw [hz] at h4 ⊢
  unfold wrap64
  omega

/-- The numbers of the chunks at these places. -/
def valsC (D : List Nat) (len : Nat) (pre : List (Plc len)) : List Int := pre.map (fun x : Plc len => ((leB ((D.drop x.1).take 4) : Nat) : Int))
theorem valsC_snoc (D : List Nat) (len : Nat) (pre : List (Plc len)) (x : Plc len) : valsC D len (pre ++ [x]) = valsC D len pre ++ [((leB ((D.drop x.1).take 4) : Nat) : Int)] := by simp [valsC]
theorem nums_plcs : ∀ (k : Nat) (D : List Nat), D.length ≤ 4 * k → 4 * k < D.length + 4 → (plcs k).map (fun p => ((leB ((D.drop p).take 4) : Nat) : Int)) = numsB D := by
  intro k
  induction k with
  | zero =>
    intro D h _
    obtain rfl : D = [] := List.length_eq_zero_iff.1 (by omega)
    rfl
  | succ k ih =>
    intro D h h1
    have hne : D ≠ [] := fun e => by rw [e] at h1; simp at h1; omega
    rw [numsB_step hne, ← ih (D.drop 4) (by rw [List.length_drop]; omega) (by rw [List.length_drop]; omega)]
    unfold plcs
    rw [List.range_succ_eq_map, List.map_cons, List.map_cons, List.map_map, List.map_map, List.map_map]
    refine congr (congrArg List.cons rfl) (List.map_congr_left (fun i _ => ?_))
    show ((leB ((D.drop (4 * (i + 1))).take 4) : Nat) : Int) = ((leB (((D.drop 4).drop (4 * i)).take 4) : Nat) : Int)
    rw [List.drop_drop, show 4 + 4 * i = 4 * (i + 1) by omega]

theorem kp2_of {n₀ : Nat} {A B : World} (h : Below (n₀ + 1 + 1 + 1) A B) : Kp2 n₀ A B := ⟨h.mono (by omega), fun k hk => h.block k (by omega)⟩
theorem kp2_put {n₀ : Nat} {w : World} (h : n₀ + 1 + 1 + 1 ≤ w.heap.size) : ∀ (W : World) (l : Nat) (o o' : Obj), w.heap.size ≤ l → W.heap[l]? = some o → o.isCells = false → o.isWalk = false → Kp2 n₀ W (W.putObj l o') :=
  fun W l o o' h1 h2 h3 h4 => kp2_of (belowK_b h W l o o' h1 h2 h3 h4)
theorem ownsRow_up {w : World} {base base' e size n : Nat} {v : Value} {xs : List Value} (h : w.ownsRow base e size v n xs) (hb : ∀ k, v.ownBlock = some k → base' ≤ k) : w.ownsRow base' e size v n xs := by
  refine ⟨h.1, ?_⟩
  rcases h.2 with h1 | ⟨g, cap, cur, hv, _, hr⟩
  · exact .inl h1
  · exact .inr ⟨g, cap, cur, hv, hb g (by rw [hv]; rfl), hr⟩

/-- A call that returns numbers of its own. -/
def GivesI (l : List Int) (w : World) (e : Ending) (w' : World) : Prop := ∃ v, e = .returned v ∧ OwnI w w' v l

set_option maxRecDepth 100000 in
set_option maxHeartbeats 8000000 in
theorem numbers_calls {S : Nat → Prop} (a : Option Addr) (l : List Nat) (n c : Nat) (w : World) (hr : Row w S a l) (hn : l.length = n) (hm : n ≤ 1073741824) (hc : n ≤ c) (hc2 : c ≤ maxLen) :
    Calls Tryz.prog 77 #[.slice a n c] w (GivesI (listB l) w) := by
  have HCV : Hid (∀ W : World, (convert 61 61 (.slice (some ⟨W.heap.size, 0, none⟩) 4 4)).run Tryz.prog (W.alloc (.cells #[.int .u8 82, .int .u8 67, .int .u8 77, .int .u8 49] 5)) = .ok (.slice (some ⟨W.heap.size, 0, none⟩) 4 4) (W.alloc (.cells #[.int .u8 82, .int .u8 67, .int .u8 77, .int .u8 49] 5 (4, 5)))) := Lib.hid (fun W =>
    Lib.run_convert_bytes_const W 61 5 #[.int .u8 82, .int .u8 67, .int .u8 77, .int .u8 49] 4 4 Tryz.underlying61 Tryz.underlying5)
  have hrow0 := row_new w magicM (by decide) (4, 5)
  have hb1 : Below w.heap.size w (w.alloc (.cells #[.int .u8 82, .int .u8 67, .int .u8 77, .int .u8 49] 5 (4, 5))) := (Below.refl _ _).alloc (Nat.le_refl _) _
  have hrow1 : Row (w.alloc (.cells #[.int .u8 82, .int .u8 67, .int .u8 77, .int .u8 49] 5 (4, 5))) (One w.heap.size) (some ⟨w.heap.size, 0, none⟩) magicM := hrow0
  have hcv := HCV.out w
  obtain ⟨W1, hW1⟩ : ∃ W1, w.alloc (.cells #[.int .u8 82, .int .u8 67, .int .u8 77, .int .u8 49] 5 (4, 5)) = W1 := ⟨_, rfl⟩
  rw [hW1] at hb1 hrow1 hcv
  have HCUT := Lib.hid (cutp_calls a l n c ⟨w.heap.size, 0, none⟩ W1 (hr.below hb1) hn hc hc2 hrow1)
  have HB1 := Lib.hid hb1
  have HLD : Hid ((l.drop 4).length ≤ 1073741824) := Lib.hid (by rw [List.length_drop]; omega)
  obtain ⟨i0, hi, hz0, hz1, hz2⟩ := info_parts infoInt
  clear hr hn hrow0 hb1 hrow1 hW1 HCV
  refine (callsIn_wide (n := 8)).1 ?_
  refine callsIn_of_wp_marks Tryz.func77 rfl trivial ?_ rfl
  simp only [Tryz.ntmps77, List.size_toArray, List.length_cons, List.length_nil, Nat.reduceAdd, Nat.reduceSub, Array.replicate_succ, Array.replicate_zero, List.push_toArray, List.append_toArray, List.nil_append, List.cons_append]
  gi_wp2_with (refine ⟨trivial, ?_⟩; gi_at_call 118; refine (callsIn_wide.2 HCUT.out).mono ?_; rintro e W2 ⟨⟨k2, hW2⟩, (⟨hno, a2, n2, c2, rfl⟩ | ⟨hyes, a2, len, c2, rfl, hlen, hrow2, hlc2, hcm2⟩)⟩ <;> have HW2 := Lib.hid hW2 <;> clear hW2)
  · have HL : Hid (listB l = []) := Lib.hid (if_neg hno)
    have HB2 : Hid (Below w.heap.size w W2) := Lib.hid (by rw [HW2.out]; exact below_then HB1.out (below_drewN _ _))
    refine ⟨_, results_tmp rfl _ _ _, ?_⟩
    rw [HL.out]
    exact ⟨_, rfl, (OwnI.nil _).from HB2.out⟩
  · have hB2 : Below w.heap.size w W2 := by rw [HW2.out]; exact below_then HB1.out (below_drewN _ _)
    have hrowW : Row W2 S a2 (l.drop 4) := by rw [HW2.out]; exact hrow2.below (below_drewN _ _)
    have HLIST : Hid (listB l = numsB (l.drop 4)) := Lib.hid (if_pos hyes)
    have hl30 : len ≤ 1073741824 := by rw [← hlen]; exact HLD.out
    obtain ⟨D, hD⟩ : ∃ D, l.drop 4 = D := ⟨_, rfl⟩
    rw [hD] at hrowW hlen HLIST
    have HROW := Lib.hid hrowW
    have HLEN := Lib.hid hlen
    have HB2 := Lib.hid hB2
    obtain ⟨b, off, hba⟩ : ∃ b off, 0 < len → a2 = some ⟨b, off, none⟩ := by
      by_cases h0 : 0 < len
      · obtain ⟨b, o, h⟩ := row_form hrowW (by omega)
        exact ⟨b, o, fun _ => h⟩
      · exact ⟨0, 0, fun h => absurd h h0⟩
    have HBA := Lib.hid hba
    clear hrow2 hrowW hlen hB2 hD hba hyes HLD HW2 HCUT hcv HB1
    gi_wp2_with (refine ⟨trivial, ?_⟩; gi_at_call 119; refine (chunk_in _ _ _ _ _).mono ?_; rintro e w' ⟨rfl, rfl⟩)
    have bO := Boxed.new W2 23 (.slice none 0 0)
    have bN1 := Boxed.new (W2.alloc (.cells #[.slice none 0 0] 23)) 61 (.slice a2 len c2)
    have bN2 := Boxed.new ((W2.alloc (.cells #[.slice none 0 0] 23)).alloc (.cells #[.slice a2 len c2] 61)) 3 (.int .i64 4)
    rw [World.size_alloc] at bN1
    rw [World.size_alloc, World.size_alloc] at bN2
    have hB0 : Below W2.heap.size W2 (((W2.alloc (.cells #[.slice none 0 0] 23)).alloc (.cells #[.slice a2 len c2] 61)).alloc (.cells #[.int .i64 4] 3)) := (((Below.refl _ W2).alloc (Nat.le_refl _) _).alloc (by simp) _).alloc (by simp; omega) _
    have hs0 : (((W2.alloc (.cells #[.slice none 0 0] 23)).alloc (.cells #[.slice a2 len c2] 61)).alloc (.cells #[.int .i64 4] 3)).heap.size = W2.heap.size + 1 + 1 + 1 := by simp
    have bO2 := (bO.alloc (.cells #[.slice a2 len c2] 61)).alloc (.cells #[.int .i64 4] 3)
    have cN1 := (bN1.alloc (.cells #[.int .i64 4] 3)).cell
    have cN2 := bN2.cell
    obtain ⟨W0, hW0⟩ : ∃ W0, ((W2.alloc (.cells #[.slice none 0 0] 23)).alloc (.cells #[.slice a2 len c2] 61)).alloc (.cells #[.int .i64 4] 3) = W0 := ⟨_, rfl⟩
    rw [hW0] at hB0 hs0 bO2 cN1 cN2 ⊢
    clear hW0 bO bN1 bN2
    have HS0 := Lib.hid hs0
    have HB0 := Lib.hid hB0
    have hcm3 : c2 ≤ 9223372036854775807 := by unfold maxLen at hcm2; omega
    refine wpIn_rangeFunc_ownG rfl (by decide) (gf := 142) (lb := #[.pointer (some ⟨W2.heap.size + 1, 0, none⟩), .pointer (some ⟨W2.heap.size + 1 + 1, 0, none⟩)]) rfl trivial (enters_of Tryz.func142 (by kernel_rfl) rfl)
      (chunk_stops _ (by decide) (W2.heap.size + 1) (W2.heap.size + 1 + 1) W2.heap.size a2 len c2 hl30 hlc2 hcm3 W0 rfl rfl b off HBA.out cN1 cN2) Kp2.trans (kp2_put (by omega)) (Below.refl _ _) (fun _ => rfl)
      (fun pre W => (∃ v, Boxed W W2.heap.size 23 v ∧ W.ownsRow (W2.heap.size + 1 + 1 + 1) 3 1 v (valsC D len pre).length (cellsI (valsC D len pre)) ∧ True) ∧ Below W2.heap.size W0 W)
      (fun _ _ _ => False)
      (OwnFrom.and (Go.Own.from (holdsRow_own (W2.heap.size + 1 + 1 + 1) W2.heap.size 23 3 1 (fun pre => (valsC D len pre).length) (fun pre => cellsI (valsC D len pre)) (fun _ _ => True)) _) (ownFrom_below (by omega) (by omega)))
      (fun _ _ _ _ _ hs _ _ => hs)
      ⟨⟨_, bO2, World.ownsRow_nil _ _ _ _, trivial⟩, Below.refl _ _⟩
      (fun x => { tmps := #[.slice a n c, undef, .slice none 0 0, .slice a2 len c2, .bool true, .pointer (some ⟨W2.heap.size, 0, none⟩), chV b off len x.1, undef, undef, undef, .tuple #[.slice a2 len c2, .bool true], .slice a n c, .slice (some ⟨w.heap.size, 0, none⟩) 4 4, .slice (some ⟨w.heap.size, 0, none⟩) 4 4, .tuple #[.slice a2 len c2, .bool true], .slice a2 len c2, .bool true, .bool true, .bool false, .slice a2 len c2, .func (.func 142) #[] #[.pointer (some ⟨W2.heap.size + 1, 0, none⟩), .pointer (some ⟨W2.heap.size + 1 + 1, 0, none⟩)], chV b off len x.1, undef, undef, undef, undef, undef, undef, undef, undef, undef, undef, undef, undef, undef, undef, undef, undef, undef, undef, undef, undef], defers := [] }) ?assign ?body ?done ?stop
    case assign =>
      intro l x W K hK
      gi_wp2
      exact hK
    case body =>
      rintro lb pre ⟨p, hp⟩ W ⟨⟨v, hv, hrow, -⟩, hB⟩ hpre
      have hvc := hv.cell
      obtain rfl := HBA.out (by omega)
      have hmn := chN_is len p
      unfold chV
      dsimp only
      obtain ⟨m, hm'⟩ : ∃ m, chN len p = m := ⟨_, rfl⟩
      rw [hm'] at hmn ⊢
      have hm1 : 1 ≤ m ∧ m ≤ 4 := by omega
      obtain ⟨ch, hch⟩ : ∃ ch, (D.drop p).take 4 = ch := ⟨_, rfl⟩
      have hchl : ch.length = m := by rw [← hch, List.length_take, List.length_drop, HLEN.out, hmn]
      have hchb : Byts ch := by rw [← hch]; exact Byts.take (Byts.drop HROW.out.1 p) 4
      have hcells : ∀ (j d : Nat), ch[j]? = some d → W.cell? ⟨b, off + p + j, none⟩ = some (.int .u8 (d : Int)) := by
        intro j d hd
        have h1 := ((HROW.out.drop p).take 4)
        rw [hch] at h1
        obtain ⟨b', o', ha, hc'⟩ := row_at h1 hd
        obtain ⟨rfl, rfl⟩ : b = b' ∧ off + p = o' := by simpa using ha
        exact ((HB0.out.trans hB).cell (p := ⟨b, off + p + j, none⟩) (lt_of_cell hc')).trans hc'
      have HCELLS := Lib.hid hcells
      have HCHL := Lib.hid hchl
      have HCHB := Lib.hid hchb
      have HVAL : Hid (valsC D len (pre ++ [⟨p, hp⟩]) = valsC D len pre ++ [((leB ch : Nat) : Int)]) := Lib.hid (by rw [valsC_snoc, hch])
      have HV := Lib.hid hv
      have HROWV := Lib.hid hrow
      have HBW := Lib.hid hB
      clear hm' hmn hch hchl hchb hcells hv hrow hB
      gi_wp2
      gi_loopg [7, 24] m (fun gj nv idx wr => ∃ (j : Nat), idx = .int .i64 (j : Int) ∧ gj + j = m ∧ nv = .int .i64 ((leB (ch.take j) : Nat) : Int) ∧ wr = W)
      case atStart => exact ⟨0, rfl, rfl, rfl, rfl⟩
      case round =>
        obtain ⟨j, rfl, hg, rfl, rfl⟩ := hrel
        have HG := Lib.hid hg
        clear hg
        by_cases hlt : j < m
        · obtain ⟨g', rfl⟩ : ∃ g', gk = g' + 1 := ⟨gk - 1, by have := HG.out; omega⟩
          have hd1 : decide ((j : Int) < (m : Int)) = true := by simp; omega
          obtain ⟨d, hd⟩ : ∃ d, ch[j]? = some d := ⟨ch[j]'(by rw [HCHL.out]; exact hlt), List.getElem?_eq_getElem _⟩
          have hcx := HCELLS.out j d hd
          have hd256 := HCHB.out d (List.mem_of_getElem? hd)
          have HOR : Hid (bits .or .i64 ((leB (ch.take j) : Nat) : Int) (wrap64 ((d : Int) * 2 ^ (8 * j))) = ((leB (ch.take (j + 1)) : Nat) : Int)) := Lib.hid (by
            rw [wrap_digit hd256 (by omega)]
            have h1 := leB_or (l := ch.take j) (c := d) (Byts.take HCHB.out j) hd256 (by rw [List.length_take]; omega)
            rw [List.length_take, HCHL.out, Nat.min_eq_left (by omega)] at h1
            rw [h1, List.take_add_one, hd]
            rfl)
          obtain ⟨X, hX⟩ : ∃ X : Int, (d : Int) = X := ⟨_, rfl⟩
          obtain ⟨V, hV⟩ : ∃ V : Int, ((leB (ch.take j) : Nat) : Int) = V := ⟨_, rfl⟩
          have hx0 : 0 ≤ X := by omega
          have hx1 : X < 256 := by omega
          rw [hX] at hcx HOR
          rw [hV] at HOR ⊢
          clear hd hd256 hX hV
          gi_wp2
          gi_roundg g'
          case measure => omega
          case rel => exact ⟨j + 1, by go_num, by have := HG.out; omega, by rw [HOR.out], rfl⟩
        · have hd1 : decide ((j : Int) < (m : Int)) = false := by simp; omega
          have hfull : ch.take j = ch := List.take_of_length_le (by rw [HCHL.out]; omega)
          rw [hfull]
          obtain ⟨V, hV⟩ : ∃ V : Int, ((leB ch : Nat) : Int) = V := ⟨_, rfl⟩
          rw [hV] at HVAL ⊢
          have hvc2 := HV.out.cell
          have HLV : Hid ((valsC D len pre).length = pre.length) := Lib.hid (List.length_map _)
          obtain ⟨nv, hnv⟩ : ∃ nv, (valsC D len pre).length = nv := ⟨_, rfl⟩
          have HROWN := HROWV
          rw [hnv] at HROWN HLV
          have hnl : nv ≤ 1073741824 := by have := HLV.out; omega
          have hsw : W2.heap.size + 1 + 1 + 1 ≤ wr.heap.size := by have := HBW.out.size; have := HS0.out; omega
          clear hfull hV
          gi_wp2_with (gi_at_builtin; refine wpListIn_append_own _ rfl _ _ 23 rfl (W2.heap.size + 1 + 1 + 1) 3 i0 (.int .i64 0) 1 8 Tryz.underlying23 hi hz0 hz1 hz2 rfl (by decide) _ _ _ rfl (HROWN.out.alloc _) ⟨wr.heap.size, 0, none⟩ 1 1 [.int .i64 V] rfl rfl (cell_one_new _ _ _) (by simp [Value.oneCell']) (by unfold maxLen; omega) (by omega) (by simp; omega) ?_; intro v' w1 hown' hgrow _; obtain ⟨g', cap', rfl⟩ := ownsRow_succ hown'; obtain ⟨hv1, hv2, hr2, hk2, hb2⟩ := HV.out.appended (by decide) (ownsRow_le HROWN.out (by omega)) (by omega) (Nat.le_refl _) (ownsRow_le hown' (by omega)) hgrow; have hc1 := hv1.cell; have hf1 := hv1.frozen)
          have hlow : ∀ k, (Value.slice (some ⟨g', 0, none⟩) (nv + 1) cap').ownBlock = some k → W2.heap.size + 1 + 1 + 1 ≤ k := fun k e => (hown'.lt k e).1
          have hgrow2 : (wr.alloc (.cells #[.int .i64 V] 3)).grownBy w1 v.ownBlock := hgrow
          have hlenv : (valsC D len pre ++ [V]).length = nv + 1 := by rw [List.length_append, hnv]; rfl
          have hkeep : Keeps (fun k => k = W2.heap.size ∨ v.ownBlock = some k) wr (w1.setCell ⟨W2.heap.size, 0, none⟩ (.slice (some ⟨g', 0, none⟩) (nv + 1) cap')) := (((Keeps.refl _ wr).alloc _).grown hgrow2 (fun k e => .inl (.inr e))).setCell (p := ⟨W2.heap.size, 0, none⟩) (.inl (.inl rfl)) _
          refine ⟨hk2.from _, ⟨hb2, fun k hk => hkeep.block k (by omega) (fun e => ?_)⟩, ⟨_, hv2, ?_, trivial⟩, HBW.out.trans hb2⟩
          · rcases e with e | e
            · omega
            · have := (HROWN.out.lt k e).1; omega
          · rw [HVAL.out, hlenv, cellsI_app]
            exact ownsRow_up hr2 hlow
    case done =>
      rintro E ys W hE ⟨k, hk1, hk2, hk3⟩ ⟨⟨v, hv, hrow, -⟩, hB⟩ hK
      have hvc := hv.cell
      have HFIN : Hid (valsC D len ys = listB l) := Lib.hid (by
        rw [HLIST.out, ← nums_plcs k D (by rw [HLEN.out]; exact hk2) (by rw [HLEN.out]; exact hk3), ← hk1, List.map_map]
        rfl)
      have HB := Lib.hid (below_then HB2.out ((HB0.out.trans hB).trans (belowK_b (w := W0) (by omega) W E _ (.deferred none) hE hK rfl rfl)))
      have HROW2 := Lib.hid (ownsRow_putObj hrow (.deferred none) hK rfl)
      have hK2 := hK
      clear hk1 hk2 hk3 hv hrow hB
      gi_wp2
      refine ⟨by simp, .inl ⟨_, _, rfl, run_takeDeferred hK2, ?_⟩⟩
      refine ⟨_, results_tmp rfl _ _ _, v, rfl, ?_⟩
      rw [← HFIN.out]
      exact ⟨ownsRow_le HROW2.out (Nat.zero_le _), fun k e => by have := HB2.out.size; have := (HROW2.out.lt k e).1; omega, HB.out⟩
    case stop =>
      rintro D c pre W _ _ h _
      exact h.elim

end Go.Proofs.YtacfcfbleogioaaGreatDoor
