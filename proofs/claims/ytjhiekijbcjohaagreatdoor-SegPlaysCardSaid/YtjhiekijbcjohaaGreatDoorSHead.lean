/-
  A segment's head, told by the program and by the reference; bytes.Equal of two rows. No condition but that the rows are rows.
-/
import Derived.Test.YtjhiekijbcjohaaGreatDoorSName
import Derived.Test.YtjhiekijbcjohaaGreatDoorFAll
namespace Go.Proofs.YtjhiekijbcjohaaGreatDoor
open Go.RowKit Go.Lib Go.Joins

theorem bytesOf_inj : ∀ {l m : List Nat}, (∀ c ∈ l, c < 256) → (∀ c ∈ m, c < 256) → Lib.bytesOf (l.map (fun c : Nat => (c : Int))) = Lib.bytesOf (m.map (fun c : Nat => (c : Int))) → l = m
  | [], [], _, _, _ => rfl
  | [], _ :: _, _, _, h => by simp [Lib.bytesOf] at h
  | _ :: _, [], _, _, h => by simp [Lib.bytesOf] at h
  | x :: l, y :: m, hl, hm, h => by
    simp only [Lib.bytesOf, List.map_cons, List.cons.injEq] at h
    have hx := hl x (List.mem_cons_self ..)
    have hy := hm y (List.mem_cons_self ..)
    have h1 := congrArg UInt8.toNat h.1
    simp only [Int.toNat_natCast, UInt8.toNat_ofNat'] at h1
    have hxy : x = y := by omega
    rw [hxy, bytesOf_inj (l := l) (m := m) (fun c hc => hl c (List.mem_cons_of_mem _ hc)) (fun c hc => hm c (List.mem_cons_of_mem _ hc)) (by simpa [Lib.bytesOf] using h.2)]
theorem bytesIn_row {w : World} {S : Nat → Prop} {a : Option Addr} {l : List Nat} (h : Row w S a l) : Lib.BytesIn w a l.length (l.map (fun c : Nat => (c : Int))) := by
  rcases h.2 with h0 | ⟨b, o, ha, _, hc⟩
  · subst h0
    exact Lib.BytesIn.nil _ _ _
  · subst ha
    refine Lib.BytesIn.of_cells (fun i hi => ?_)
    rw [Addr.add_mid, hc i l[i] (List.getElem?_eq_getElem hi), List.getD_eq_getElem?_getD, List.getElem?_map, List.getElem?_eq_getElem hi]
    rfl
theorem equal_calls {w : World} {S S' : Nat → Prop} {a a' : Option Addr} {l m : List Nat} (n n' c c' : Nat) (h : Row w S a l) (h' : Row w S' a' m) (hn : l.length = n) (hn' : m.length = n') :
    Calls Tryz.prog 93 #[.slice a n c, .slice a' n' c'] w (Tells (.bool (decide (l = m))) w) := by
  subst hn hn'
  refine (Tryz.bytes_Equal_all a a' l.length c m.length c' _ _ w (List.length_map _) (List.length_map _) (bytesIn_row h) (bytesIn_row h')).mono ?_
  rintro e w' ⟨rfl, rfl⟩
  refine ⟨?_, 0, rfl⟩
  congr 2
  rw [Bool.eq_iff_iff]
  simp only [beq_iff_eq, decide_eq_true_eq]
  exact ⟨bytesOf_inj h.1 h'.1, fun e => by rw [e]⟩

theorem head_at {m : Nat} (hm : m < 4294967296) : ∀ {i : Nat}, i < 8 → (w32 m ++ [0, 0, 0, 0])[i]? = some (m / 2 ^ (8 * i) % 256)
  | 0, _ => by show some (m % 256) = _; simp
  | 1, _ => by show some (m / 256 % 256) = _; simp
  | 2, _ => by show some (m / 65536 % 256) = _; simp
  | 3, _ => by show some (m / 16777216 % 256) = _; simp
  | 4, _ => by show some 0 = _; rw [Nat.div_eq_of_lt (by simpa using hm)]
  | 5, _ => by show some 0 = _; rw [Nat.div_eq_of_lt (Nat.lt_of_lt_of_le hm (by decide))]
  | 6, _ => by show some 0 = _; rw [Nat.div_eq_of_lt (Nat.lt_of_lt_of_le hm (by decide))]
  | 7, _ => by show some 0 = _; rw [Nat.div_eq_of_lt (Nat.lt_of_lt_of_le hm (by decide))]

/-- Bytes appended to a slice that is full are of the call's own. -/
theorem append_full {w : World} {b ad : Addr} {l x : List Nat} {S S' : Nat → Prop} {n m c : Nat} (hr : Row w S (some b) l) (hn : l.length = n) (hx : Row w S' (some ad) x) (hm : x.length = m) (h0 : 0 < m) (hs : n + m ≤ 2147483648) :
    ∃ v' w', (∀ ty, (Builtin.append_ #[27, 27] ty #[.slice (some b) n n, .slice (some ad) m c]).run Tryz.prog w = .ok v' w') ∧ Own w w' v' (l ++ x) := by
  obtain ⟨i5, hi5, hj50, hj51, hj52⟩ := info_parts info5
  have hlen : (l ++ x).length = n + m := by rw [List.length_append, hn, hm]
  have hcap := grownCap_ge w (n + m) n 5
  have hcm := grownCap_le_maxLen w (n + m) n 5 (by unfold maxLen; omega)
  refine ⟨_, _, fun ty => run_append_grow (P := Tryz.prog) w 27 ty 5 i5 (.int .u8 0) Tryz.underlying27 hi5 hj50 b n n (cellsN l) (by rw [cellsN_len, hj51, hn, Nat.mul_one]) (row_cells hr) ad m c (cellsN x) (by rw [cellsN_len, hj51, hm, Nat.mul_one]) (row_cells hx) (by omega) (by omega) (growslice_fits (by omega) (by rw [hj52]; omega)), ?_⟩
  obtain ⟨C, hC⟩ : ∃ C, grownCap w (n + m) n 5 = C := ⟨_, rfl⟩
  rw [hC] at hcap hcm ⊢
  refine ⟨⟨by rw [cellsN_len, Nat.mul_one], .inr ⟨w.heap.size, C, _, by rw [hlen], Nat.zero_le _, heap_alloc_new w.drew _, by rw [hlen]; exact hcap, hcm, ?_, ?_⟩⟩, Byts.app hr.1 hx.1, fun k e => Nat.le_of_eq (Option.some.inj e), (Below.refl _ _).drew.alloc (Nat.le_refl _) _⟩
  · simp [Builtin.zeroCells, Value.cells, cellsN_len, hn, hm]; omega
  · rw [hlen, cellsN_app]
    simp [cellsN_len, hn, hm, List.take_append, List.take_of_length_le]

/-- What the loop of Head has made. -/
def HeadSt (w W1 : World) (L8 : List Nat) (i : Nat) (acc : Value) (wr : World) : Prop :=
  (i = 0 ∧ acc = .slice (some ⟨w.heap.size, 0, none⟩) 4 4 ∧ wr = W1) ∨ (0 < i ∧ Own w wr acc ([82, 67, 83, 49] ++ L8.take i))
def magC : Array Value := #[.int .u8 82, .int .u8 67, .int .u8 83, .int .u8 49]

set_option maxRecDepth 100000 in
set_option maxHeartbeats 4000000 in
theorem head_calls (n : Int) (w : World) : Calls Tryz.prog 12 #[.int .i64 n] w (Gives (headB n) w) := by
  cases hm : mayN n with
  | false =>
    rw [headB_not hm]
    have HM := Lib.hid (smay_calls n w)
    rw [hm] at HM
    clear hm
    go_enter Tryz.func12, Tryz.ntmps12
    go_wp2_with fail
    refine HM.out.mono ?_
    rintro e w' ⟨rfl, rfl⟩
    go_wp2_with fail
    go_ret
    exact ⟨_, rfl, Own.nil _⟩
  | true =>
    obtain ⟨h1, h2⟩ := mayN_is.1 hm
    rw [headB_may hm]
    have HM := Lib.hid (smay_calls n w)
    rw [hm] at HM
    obtain ⟨m, rfl⟩ : ∃ m : Nat, n = (m : Int) := ⟨n.toNat, by omega⟩
    rw [Int.toNat_natCast, List.append_assoc]
    have hm32 : m < 4294967296 := by omega
    obtain ⟨L8, hL8⟩ : ∃ L8, w32 m ++ [0, 0, 0, 0] = L8 := ⟨_, rfl⟩
    have HAT : Hid (∀ i, i < 8 → L8[i]? = some (m / 2 ^ (8 * i) % 256)) := Lib.hid (fun i hi => by rw [← hL8]; exact head_at hm32 hi)
    have HL8 : Hid (L8.length = 8) := Lib.hid (by rw [← hL8]; rfl)
    rw [hL8]
    have hcv : (convert 27 27 (.slice (some ⟨w.heap.size, 0, none⟩) 4 4)).run Tryz.prog (w.alloc (.cells magC 5)) = .ok (.slice (some ⟨w.heap.size, 0, none⟩) 4 4) (w.alloc (.cells magC 5 (4, 5))) :=
      Lib.run_convert_bytes_const w 27 5 magC 4 4 Tryz.underlying27 Tryz.underlying5
    have HROW := Lib.hid (row_new w [82, 67, 83, 49] (by decide) (4, 5))
    have hb1 : Below w.heap.size w (w.alloc (.cells magC 5 (4, 5))) := (Below.refl _ _).alloc (Nat.le_refl _) _
    have HROW2 : Hid (Row (w.alloc (.cells magC 5 (4, 5))) (One w.heap.size) (some ⟨w.heap.size, 0, none⟩) [82, 67, 83, 49]) := HROW
    obtain ⟨W1, hW1⟩ : ∃ W1, w.alloc (.cells magC 5 (4, 5)) = W1 := ⟨_, rfl⟩
    rw [hW1] at hcv hb1 HROW2
    have HB1 := Lib.hid hb1
    unfold magC at hcv
    clear hm h1 hL8 HROW hW1 hb1
    go_enter Tryz.func12, Tryz.ntmps12
    go_wp2_with fail
    refine HM.out.mono ?_
    rintro e w' ⟨rfl, rfl⟩
    go_wp2
    go_loopg [3, 10] 8 (fun g acc idx wr => ∃ (i : Nat), idx = .int .i64 (i : Int) ∧ g + i = 8 ∧ HeadSt w W1 L8 i acc wr)
    case atStart => exact ⟨0, rfl, rfl, .inl ⟨rfl, rfl, rfl⟩⟩
    case round =>
      obtain ⟨i, rfl, hg, hown⟩ := hrel
      have HG := Lib.hid hg
      have HO := Lib.hid hown
      clear hg hown
      by_cases hlt : i < 8
      · obtain ⟨g', rfl⟩ : ∃ g', gk = g' + 1 := ⟨gk - 1, by have := HG.out; omega⟩
        have hd : decide ((i : Int) < 8) = true := by simp; omega
        have HAPP : Hid (∀ X : Int, X = ((m / 2 ^ (8 * i) % 256 : Nat) : Int) → ∃ v' w', (∀ ty, (Builtin.append_ #[27, 27] ty #[u3, .slice (some ⟨wr.heap.size, 0, none⟩) 1 1]).run Tryz.prog (wr.alloc (.cells #[.int .u8 X] 5)) = .ok v' w') ∧ Own w w' v' ([82, 67, 83, 49] ++ L8.take (i + 1))) := Lib.hid (fun X hX => by
          subst hX
          have hx := row_new wr [m / 2 ^ (8 * i) % 256] (fun c hc => by obtain rfl := List.mem_singleton.1 hc; exact Nat.mod_lt _ (by decide)) (0, 0)
          have htk : L8.take (i + 1) = L8.take i ++ [m / 2 ^ (8 * i) % 256] := by rw [List.take_add_one, HAT.out i hlt]; rfl
          rw [htk, ← List.append_assoc]
          have hbw : Below wr.heap.size wr (wr.alloc (.cells #[.int .u8 ((m / 2 ^ (8 * i) % 256 : Nat) : Int)] 5)) := (Below.refl _ _).alloc (Nat.le_refl _) _
          rcases HO.out with ⟨rfl, rfl, rfl⟩ | ⟨_, hown⟩
          · obtain ⟨v', w', h1, h2⟩ := append_full (n := 4) (m := 1) (c := 1) (HROW2.out.below hbw) rfl hx rfl (by decide) (by decide)
            exact ⟨v', w', h1, by rw [List.take_zero, List.append_nil]; exact h2.from (below_then HB1.out hbw)⟩
          · obtain ⟨v', w', h1, h2, -⟩ := (hown.below hbw).append (m := 1) (c := 1) hx rfl (fun e => by cases e) (by rw [List.length_append, List.length_take, HL8.out]; simp only [List.length_cons, List.length_nil]; omega)
            exact ⟨v', w', h1, h2⟩)
        have HSL : Hid (∃ sa sn sc, u3 = .slice sa sn sc) := Lib.hid (by
          rcases HO.out with ⟨_, rfl, _⟩ | ⟨_, hown⟩
          · exact ⟨_, _, _, rfl⟩
          · obtain ⟨sa, sc, h, -⟩ := hown.form
            exact ⟨sa, _, sc, h⟩)
        obtain ⟨sa, sn, sc, rfl⟩ := HSL.out
        clear HSL HO HAT HROW2
        have h8 : i = 0 ∨ i = 1 ∨ i = 2 ∨ i = 3 ∨ i = 4 ∨ i = 5 ∨ i = 6 ∨ i = 7 := by omega
        rcases h8 with rfl | rfl | rfl | rfl | rfl | rfl | rfl | rfl
        · obtain ⟨v3, w3, hrun3, hown3⟩ := HAPP.out ((m : Int) % 256) (by simp)
          have HRUN := Lib.hid hrun3
          have HO3 := Lib.hid hown3
          clear hrun3 hown3 HAPP
          go_wp2_with (at_builtin; refine wpList_step (fun K hK => step_app HRUN.out (.tmp 13) (.tmp 19) rfl rfl rfl rfl (hK _ _ ?_)))
          go_wp2
          go_roundg g'
          case measure => omega
          case rel => exact ⟨0 + 1, by go_num, by have := HG.out; omega, .inr ⟨by decide, HO3.out⟩⟩
        · obtain ⟨v3, w3, hrun3, hown3⟩ := HAPP.out ((m : Int) / 256 % 256) (by simp)
          have HRUN := Lib.hid hrun3
          have HO3 := Lib.hid hown3
          clear hrun3 hown3 HAPP
          go_wp2_with (at_builtin; refine wpList_step (fun K hK => step_app HRUN.out (.tmp 13) (.tmp 19) rfl rfl rfl rfl (hK _ _ ?_)))
          go_wp2
          go_roundg g'
          case measure => omega
          case rel => exact ⟨1 + 1, by go_num, by have := HG.out; omega, .inr ⟨by decide, HO3.out⟩⟩
        · obtain ⟨v3, w3, hrun3, hown3⟩ := HAPP.out ((m : Int) / 65536 % 256) (by simp)
          have HRUN := Lib.hid hrun3
          have HO3 := Lib.hid hown3
          clear hrun3 hown3 HAPP
          go_wp2_with (at_builtin; refine wpList_step (fun K hK => step_app HRUN.out (.tmp 13) (.tmp 19) rfl rfl rfl rfl (hK _ _ ?_)))
          go_wp2
          go_roundg g'
          case measure => omega
          case rel => exact ⟨2 + 1, by go_num, by have := HG.out; omega, .inr ⟨by decide, HO3.out⟩⟩
        · obtain ⟨v3, w3, hrun3, hown3⟩ := HAPP.out ((m : Int) / 16777216) (by simp; omega)
          have HRUN := Lib.hid hrun3
          have HO3 := Lib.hid hown3
          clear hrun3 hown3 HAPP
          go_wp2_with (at_builtin; refine wpList_step (fun K hK => step_app HRUN.out (.tmp 13) (.tmp 19) rfl rfl rfl rfl (hK _ _ ?_)))
          go_wp2
          go_roundg g'
          case measure => omega
          case rel => exact ⟨3 + 1, by go_num, by have := HG.out; omega, .inr ⟨by decide, HO3.out⟩⟩
        · obtain ⟨v3, w3, hrun3, hown3⟩ := HAPP.out ((m : Int) / 4294967296) (by simp; omega)
          have HRUN := Lib.hid hrun3
          have HO3 := Lib.hid hown3
          clear hrun3 hown3 HAPP
          go_wp2_with (at_builtin; refine wpList_step (fun K hK => step_app HRUN.out (.tmp 13) (.tmp 19) rfl rfl rfl rfl (hK _ _ ?_)))
          go_wp2
          go_roundg g'
          case measure => omega
          case rel => exact ⟨4 + 1, by go_num, by have := HG.out; omega, .inr ⟨by decide, HO3.out⟩⟩
        · obtain ⟨v3, w3, hrun3, hown3⟩ := HAPP.out ((m : Int) / 1099511627776) (by simp; omega)
          have HRUN := Lib.hid hrun3
          have HO3 := Lib.hid hown3
          clear hrun3 hown3 HAPP
          go_wp2_with (at_builtin; refine wpList_step (fun K hK => step_app HRUN.out (.tmp 13) (.tmp 19) rfl rfl rfl rfl (hK _ _ ?_)))
          go_wp2
          go_roundg g'
          case measure => omega
          case rel => exact ⟨5 + 1, by go_num, by have := HG.out; omega, .inr ⟨by decide, HO3.out⟩⟩
        · obtain ⟨v3, w3, hrun3, hown3⟩ := HAPP.out ((m : Int) / 281474976710656) (by simp; omega)
          have HRUN := Lib.hid hrun3
          have HO3 := Lib.hid hown3
          clear hrun3 hown3 HAPP
          go_wp2_with (at_builtin; refine wpList_step (fun K hK => step_app HRUN.out (.tmp 13) (.tmp 19) rfl rfl rfl rfl (hK _ _ ?_)))
          go_wp2
          go_roundg g'
          case measure => omega
          case rel => exact ⟨6 + 1, by go_num, by have := HG.out; omega, .inr ⟨by decide, HO3.out⟩⟩
        · obtain ⟨v3, w3, hrun3, hown3⟩ := HAPP.out ((m : Int) / 72057594037927936) (by simp; omega)
          have HRUN := Lib.hid hrun3
          have HO3 := Lib.hid hown3
          clear hrun3 hown3 HAPP
          go_wp2_with (at_builtin; refine wpList_step (fun K hK => step_app HRUN.out (.tmp 13) (.tmp 19) rfl rfl rfl rfl (hK _ _ ?_)))
          go_wp2
          go_roundg g'
          case measure => omega
          case rel => exact ⟨7 + 1, by go_num, by have := HG.out; omega, .inr ⟨by decide, HO3.out⟩⟩
      · have hd : decide ((i : Int) < 8) = false := by simp; omega
        have HT : Hid (L8.take i = L8) := Lib.hid (List.take_of_length_le (by rw [HL8.out]; omega))
        go_wp2
        go_ret
        exact ⟨_, rfl, by
          rw [← HT.out]
          rcases HO.out with ⟨h0, _⟩ | ⟨_, h⟩
          · omega
          · exact h⟩

end Go.Proofs.YtjhiekijbcjohaaGreatDoor
