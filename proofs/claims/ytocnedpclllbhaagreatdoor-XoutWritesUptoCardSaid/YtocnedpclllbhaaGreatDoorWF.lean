/-
 Characters written, some of them told by references. Conditions: the printer lies in a block of the call's own; what is told are the characters of texts, or of values; all is short.
-/
import Derived.Test.YtocnedpclllbhaaGreatDoorWD
namespace Go.Proofs.YtocnedpclllbhaaGreatDoor
open Go.RowKit Go.Lib Go.Joins

theorem decodeN_top (n b0 b1 b2 b3 : Nat) (h : b0 < 256) : (decodeN n b0 b1 b2 b3).1 < 1114112 := by
  unfold decodeN
  repeat' split
  all_goals simp only
  all_goals omega
/-- A rune sought among the characters that are told. -/
theorem irune_calls (v : Bool) (ms : ByteArray) (hms : ms.data.toList = toldL v) (r : Nat) (hr : r < 1114112) (w : World) : Calls Tryz.prog 84 #[.string ms, .int .i32 (r : Int)] w (fun e w' => (∃ I : Int, e = .returned (.int .i64 I) ∧ (0 ≤ I ↔ r < 128 ∧ toldB v (UInt8.ofNat r) = true)) ∧ Below w.heap.size w w') := by
  have hsz : ms.size = (toldL v).length := by rw [Lib.size_eq, hms]
  obtain ⟨h4, h6⟩ := toldL_len v
  have ha : ∀ b ∈ ms.data.toList, b.toNat < 128 := by rw [hms]; exact toldL_small v
  by_cases h1 : r < 128
  · refine (Tryz.strings_IndexRune_ascii ms (r : Int) w (by omega) (by omega)).mono ?_
    rintro e w' ⟨rfl, rfl⟩
    refine ⟨⟨_, rfl, ?_⟩, Below.refl _ _⟩
    have h2 := Lib.contains_iff_indexByte ms.data.toList ((r : Int)).toNat.toUInt8
    rw [hms, toldL_has] at h2
    rw [hms]
    have h3 : ((r : Int)).toNat.toUInt8 = UInt8.ofNat r := rfl
    rw [h3] at h2 ⊢
    rw [h2, decide_eq_true_eq]
    exact ⟨fun h => ⟨h1, h⟩, fun h => h.2⟩
  · by_cases h2 : r = 65533
    · subst h2
      refine (irune_bad ms (fun j hj => ha _ (by
        have := Lib.data_getElem? ms j hj
        exact List.mem_of_getElem? this)) w).mono ?_
      rintro e w' ⟨rfl, hb⟩
      exact ⟨⟨_, rfl, ⟨fun h => absurd h (by decide), fun h => absurd h.1 h1⟩⟩, hb⟩
    · refine (irune_high ms ha (by omega) (by omega) r (by omega) hr h2 w).mono ?_
      rintro e w' ⟨rfl, hb⟩
      exact ⟨⟨_, rfl, ⟨fun h => absurd h (by decide), fun h => absurd h.1 h1⟩⟩, hb⟩
set_option maxRecDepth 100000 in
set_option maxHeartbeats 4000000 in
theorem sany_short (v : Bool) (ms s : ByteArray) (hms : ms.data.toList = toldL v) (h8 : s.size ≤ 8) (w : World) : Calls Tryz.prog 70 #[.string s, .string ms] w (Leaves (.int .i64 (Lib.indexAny s.data.toList (toldL v))) w) := by
  obtain ⟨h4, h6⟩ := toldL_len v
  have hsz : ms.size = (toldL v).length := by rw [Lib.size_eq, hms]
  have hemp : ms.toList.isEmpty = false := by
    rw [Lib.toList_data, hms]
    cases v <;> rfl
  have hn1 : ((ms.size : Int) == 1) = false := beq_eq_false_iff_ne.2 (by omega)
  have h8z : decide ((8 : Int) < (s.size : Int)) = false := decide_eq_false (by omega)
  have HSH := Lib.hid (Tryz.strings_shouldUseASCIISet (s.size : Int) w)
  rw [h8z] at HSH
  have HMS := Lib.hid hms
  have hlen : s.data.toList.length = s.size := Array.length_toList
  have HLEN := Lib.hid hlen
  clear hms hsz h4 h6 hlen
  go_enter Tryz.func70, Tryz.ntmps70
  go_wp2_with fail
  with_reducible refine HSH.out.mono ?_
  rintro e w' ⟨rfl, rfl⟩
  go_wp2_with fail
  go_loopg [9, 10] s.size (fun g _ _ wr => ∃ pos : Nat, wr.heap[w'.heap.size]? = some (.stringIter s pos) ∧ s.size ≤ g + pos ∧ Below w'.heap.size w' wr ∧ Lib.NoAny s.data.toList (toldL v) pos)
  case atStart => exact ⟨0, World.iter_heap w' s 0, by omega, (Below.refl _ _).alloc (Nat.le_refl _) _, Lib.NoAny.zero _ _⟩
  case round =>
    obtain ⟨pos, hit, hg, hb, hno⟩ := hrel
    have HB := Lib.hid hb
    have HNA := Lib.hid hno
    clear hb hno
    by_cases hp : pos < s.size
    · have hnx : ∀ ty, (Instr.next (.pointer (some ⟨w'.heap.size, 0, none⟩)) true ty).run Tryz.prog wr = _ := fun ty => Lib.run_next_any_at wr w'.heap.size s pos ty hit hp
      have hbw2 := Lib.hid (Lib.below_iterAt HB.out (k := w'.heap.size) (Nat.le_refl _) s (pos + (Utf8.decode s pos).2))
      have hit2 := Lib.hid (Lib.iterAt_heap wr w'.heap.size s pos (pos + (Utf8.decode s pos).2) hit)
      have hdd : Utf8.decode s pos = dN (fs s.data.toList) s.size pos := by rw [Lib.decode_N, HLEN.out]; rfl
      have hwd : 1 ≤ (Utf8.decode s pos).2 := by rw [hdd]; exact (decodeN_pos _ _ _ _ _)
      have htop : (Utf8.decode s pos).1 < 1114112 := by rw [hdd]; exact decodeN_top _ _ _ _ _ (fs_lt _ _)
      obtain ⟨x, hx⟩ : ∃ x : UInt8, s.data.toList[pos]? = some x := ⟨_, List.getElem?_eq_getElem (by rw [HLEN.out]; exact hp)⟩
      have hfx : fs s.data.toList pos = x.toNat := by show (s.data.toList.getD pos 0).toNat = _; rw [List.getD_eq_getElem?_getD, hx]; rfl
      have hlow : x.toNat < 128 → Utf8.decode s pos = (x.toNat, 1) := fun h => by
        rw [hdd]
        unfold dN decodeN
        rw [hfx, if_pos h]
      have hhigh : 128 ≤ x.toNat → 128 ≤ (Utf8.decode s pos).1 ∧ ∀ j b, pos ≤ j → j < pos + (Utf8.decode s pos).2 → s.data.toList[j]? = some b → 128 ≤ b.toNat := fun h => by
        rw [hdd]
        have h0 : 128 ≤ fs s.data.toList pos := by omega
        refine ⟨decodeN_high _ _ _ _ _ h0, fun j b hj1 hj2 hb => ?_⟩
        obtain ⟨e1, e2, e3, e4⟩ := decodeN_cont (s.size - pos) (fs s.data.toList pos) (fs s.data.toList (pos + 1)) (fs s.data.toList (pos + 2)) (fs s.data.toList (pos + 3)) (by omega) h0
        have hfb : fs s.data.toList j = b.toNat := by show (s.data.toList.getD j 0).toNat = _; rw [List.getD_eq_getElem?_getD, hb]; rfl
        have h4 : (decodeN (s.size - pos) (fs s.data.toList pos) (fs s.data.toList (pos + 1)) (fs s.data.toList (pos + 2)) (fs s.data.toList (pos + 3))).2 ≤ 4 := (decodeN_width _ _ _ _ _).2
        have hj3 : j < pos + (decodeN (s.size - pos) (fs s.data.toList pos) (fs s.data.toList (pos + 1)) (fs s.data.toList (pos + 2)) (fs s.data.toList (pos + 3))).2 := hj2
        rw [← hfb]
        obtain ⟨k, rfl⟩ : ∃ k, j = pos + k := ⟨j - pos, by omega⟩
        match k, hj3 with
        | 0, _ => exact h0
        | 1, h => exact e2 (by omega)
        | 2, h => exact e3 (by omega)
        | 3, h => exact e4 (by omega)
        | k + 4, h => omega
      obtain ⟨⟨r, z⟩, hrz⟩ : ∃ d, Utf8.decode s pos = d := ⟨_, rfl⟩
      simp only [hrz] at hnx hbw2 hit2 hwd htop hlow hhigh
      have HIR := Lib.hid (fun W => irune_calls v ms HMS.out r htop W)
      have HLOW := Lib.hid hlow
      have HHIGH := Lib.hid hhigh
      have HX := Lib.hid hx
      clear hdd hrz hlow hhigh hx hfx htop
      obtain ⟨g, rfl⟩ : ∃ g, gk = g + 1 := ⟨gk - 1, by omega⟩
      go_wp2_with fail
      with_reducible refine (HIR.out _).mono ?_
      rintro e w2 ⟨⟨I, rfl, hI⟩, hb2⟩
      have HB2 := Lib.hid (below_then hbw2.out hb2)
      have hit3 := iter_below hb2 hit2.out
      have HIT3 := Lib.hid hit3
      clear hb2 hit3
      by_cases hI0 : (0 : Int) ≤ I
      · obtain ⟨h1, h2⟩ := hI.1 hI0
        have hxr : x.toNat = r ∧ z = 1 := by
          by_cases hx7 : x.toNat < 128
          · have h3 := HLOW.out hx7
            injection h3 with h3 h4
            exact ⟨h3.symm, h4⟩
          · have := (HHIGH.out (by omega)).1
            omega
        have hxt : (toldL v).contains x = true := by
          rw [toldL_has, ← h2, ← hxr.1]
          simp
        have HF : Hid (Lib.indexAny s.data.toList (toldL v) = pos) := Lib.hid (Lib.indexAny_hit HNA.out HX.out hxt)
        go_wp2_with fail
        go_ret
        exact ⟨by rw [HF.out]; rfl, HB2.out⟩
      · have hI1 : decide (I ≥ 0) = false := decide_eq_false hI0
        have hI2 : I < 0 := by omega
        have HNO : Hid (Lib.NoAny s.data.toList (toldL v) (pos + z)) := Lib.hid (fun j b hj hb => by
          by_cases hjp : j < pos
          · exact HNA.out j b hjp hb
          · by_cases hx7 : x.toNat < 128
            · have h3 := HLOW.out hx7
              injection h3 with h3 h4
              obtain rfl : j = pos := by omega
              have hbx : b = x := Option.some.inj (hb.symm.trans HX.out)
              rw [hbx, toldL_has]
              cases hc : toldB v x with
              | false => rfl
              | true => exact absurd (hI.2 ⟨by omega, by rw [h3]; simpa using hc⟩) hI0
            · have h5 := (HHIGH.out (by omega)).2 j b (by omega) hj hb
              cases hc : (toldL v).contains b with
              | false => rfl
              | true =>
                have := toldL_small v b (List.contains_iff_mem.1 hc)
                omega)
        clear hI
        go_wp2_with fail
        go_roundg g
        case measure => omega
        case rel => exact ⟨pos + z, HIT3.out, by omega, HB2.out, HNO.out⟩
    · have hnx : ∀ ty, (Instr.next (.pointer (some ⟨w'.heap.size, 0, none⟩)) true ty).run Tryz.prog wr = _ := fun ty => Lib.run_next_end_at wr w'.heap.size s pos ty hit hp
      have HF : Hid (Lib.indexAny s.data.toList (toldL v) = -1) := Lib.hid (Lib.indexAny_none (fun j b hj hb => HNA.out j b (by have := HLEN.out; omega) hb))
      go_wp2_with fail
      go_ret
      exact ⟨by rw [HF.out]; rfl, HB.out⟩
theorem zeroSet (w : World) : (zeroValue 132).run Tryz.prog w = .ok (.agg (Array.replicate 256 (.bool false))) w := by kernel_rfl
theorem sany_calls (v : Bool) (ms : ByteArray) (s : List UInt8) (hms : ms.data.toList = toldL v) (hs : s.length ≤ 1073741824) (w : World) : Calls Tryz.prog 70 #[.string (strB s), .string ms] w (Leaves (.int .i64 (Lib.indexAny s (toldL v))) w) := by
  by_cases h8 : (strB s).size ≤ 8
  · exact sany_short v ms (strB s) hms h8 w
  · have hsz : ms.size = (toldL v).length := by rw [Lib.size_eq, hms]
    have h46 := toldL_len v
    refine (Tryz.strings_IndexAny_long zeroSet (strB s) ms w (by omega) (by omega) (by rw [strB_size]; omega) (by omega) (fun j b hb => toldL_small v b (by rw [← hms]; exact List.mem_of_getElem? hb))).mono ?_
    rintro e w' ⟨rfl, rfl⟩
    rw [hms]
    exact ⟨rfl, ((Below.refl _ _).alloc (Nat.le_refl _) _).alloc (by simp) _⟩


theorem strB_front (a r : List UInt8) : (strB (a ++ r)).extract 0 a.length = strB a := by
  have h : ((strB (a ++ r)).extract 0 a.length).data.toList = a := by
    rw [ByteArray.data_extract, Array.toList_extract]
    show ((a ++ r).drop 0).take (a.length - 0) = a
    simp
  exact string_of h
theorem strB_back (a : List UInt8) (c : UInt8) (u : List UInt8) : (strB (a ++ c :: u)).extract (a.length + 1) (strB (a ++ c :: u)).size = strB u := by
  have h : ((strB (a ++ c :: u)).extract (a.length + 1) (strB (a ++ c :: u)).size).data.toList = u := by
    rw [ByteArray.data_extract, Array.toList_extract]
    show ((a ++ c :: u).drop (a.length + 1)).take ((strB (a ++ c :: u)).size - (a.length + 1)) = u
    rw [strB_size, List.length_append, List.length_cons]
    have h1 : (a ++ c :: u).drop (a.length + 1) = u := by
      rw [show a ++ c :: u = (a ++ [c]) ++ u by simp]
      exact List.drop_left' (by simp)
    rw [h1]
    exact List.take_of_length_le (by omega)
  exact string_of h
theorem any_split (v : Bool) (t : List UInt8) : ((∀ x ∈ t, toldB v x = false) ∧ Lib.indexAny t (toldL v) = -1) ∨ ∃ a c u, t = a ++ c :: u ∧ (∀ x ∈ a, toldB v x = false) ∧ toldB v c = true ∧ Lib.indexAny t (toldL v) = (a.length : Int) := by
  rcases first_told v t with h | ⟨a, c, u, rfl, h1, h2⟩
  · refine .inl ⟨h, Lib.indexAny_none (fun j b _ hb => ?_)⟩
    rw [toldL_has]
    exact h b (List.mem_of_getElem? hb)
  · refine .inr ⟨a, c, u, rfl, h1, h2, Lib.indexAny_hit (x := c) (fun j b hj hb => ?_) ?_ ?_⟩
    · rw [toldL_has]
      rw [List.getElem?_append_left hj] at hb
      exact h1 b (List.mem_of_getElem? hb)
    · rw [List.getElem?_append_right (Nat.le_refl _), Nat.sub_self]; rfl
    · rw [toldL_has]; exact h2
theorem TxRow.new (w : World) (l : List (List UInt8)) : TxRow (w.alloc (.cells (l.map fun x => Value.string (strB x)).toArray 9)) w.heap.size l := ⟨_, heap_alloc_new w _⟩
set_option maxRecDepth 100000 in
set_option maxHeartbeats 4000000 in
theorem pchars_calls {w : World} {B b : Nat} {out : List UInt8} {o : Value} (h : PrAt w B b out o) (v : Bool) (s : List UInt8) (ms : ByteArray) (hms : ms.data.toList = toldL v) (hs : s.length ≤ 1073741824) (hn : out.length + (escS v s).length ≤ 70368744177664) (hBw : B ≤ w.heap.size) : Calls Tryz.prog 52 #[.pointer (some ⟨b, 0, none⟩), .string (strB s), .string ms] w (POut w B b (out ++ escS v s) o) := by
  have HP := Lib.hid h
  have HN := Lib.hid hn
  have HS := Lib.hid hs
  have HBW := Lib.hid hBw
  have HIA : Hid (∀ W (t : List UInt8), t.length ≤ 1073741824 → Calls Tryz.prog 70 #[.string (strB t), .string ms] W (Leaves (.int .i64 (Lib.indexAny t (toldL v))) W)) := Lib.hid (fun W t ht => sany_calls v ms t hms ht W)
  obtain ⟨FIN, hFIN⟩ : ∃ F, out ++ escS v s = F := ⟨_, rfl⟩
  rw [hFIN]
  have HF := Lib.hid hFIN
  have HFL : Hid (FIN.length ≤ 70368744177664) := Lib.hid (by rw [← hFIN, List.length_append]; exact hn)
  obtain ⟨ss, hss⟩ : ∃ x, strB s = x := ⟨_, rfl⟩
  rw [hss]
  have HSS := Lib.hid hss
  clear h hms hs hn hBw hFIN hss
  go_enter Tryz.func52, Tryz.ntmps52
  go_wp2_with fail
  go_loopg [1] (s.length + 1) (fun gk s1 wr => ∃ (ac : List UInt8) (t : List UInt8), s1 = .string (strB t) ∧ t.length + 1 ≤ gk ∧ t.length ≤ 1073741824 ∧ ac ++ escS v t = FIN ∧ PrAt wr B b ac o ∧ Wr B b w wr)
  case atStart => exact ⟨out, s, by rw [HSS.out], Nat.le_refl _, HS.out, HF.out, HP.out, Wr.refl _ _ _⟩
  case round =>
    obtain ⟨ac, t, rfl, hgt, htl, hfin, hp, hw⟩ := hrel
    have HPR := Lib.hid hp
    have HW := Lib.hid hw
    have HFI := Lib.hid hfin
    have HTL := Lib.hid htl
    obtain ⟨g, rfl⟩ : ∃ g, gk = g + 1 := ⟨gk - 1, by omega⟩
    have HI := Lib.hid (HIA.out wr t htl)
    have hsplit := any_split v t
    obtain ⟨st, hst⟩ : ∃ x, strB t = x := ⟨_, rfl⟩
    have HST := Lib.hid hst
    rw [hst] at HI ⊢
    clear hp hw hfin hst htl
    go_wp2_with fail
    with_reducible refine HI.out.mono ?_
    rintro e w2 ⟨rfl, hb2⟩
    have HP2 := Lib.hid (HPR.out.below hb2)
    have HW2 := Lib.hid (HW.out.below (Nat.le_trans HBW.out HW.out.low.size) hb2)
    clear hb2 HI
    rcases hsplit with ⟨hno, hI⟩ | ⟨a, c, u, hau, hno, hc, hI⟩
    · rw [hI]
      have hes : escS v t = t := esc_plain hno
      have HFI2 : Hid (ac ++ t = FIN) := Lib.hid (by rw [← HFI.out, hes])
      have hba : Below w2.heap.size w2 (w2.alloc (.cells #[.string st] 9)) := (Below.refl _ _).alloc (Nat.le_refl _) _
      have HPUT : Hid (Calls Tryz.prog 30 #[.pointer (some ⟨b, 0, none⟩), .slice (some ⟨w2.heap.size, 0, none⟩) 1 1] (w2.alloc (.cells #[.string st] 9)) (POut (w2.alloc (.cells #[.string st] 9)) B b FIN o)) := Lib.hid (by
        have h1 := pput_calls (HP2.out.below hba) (l := [t]) (g := w2.heap.size) (by rw [← HST.out]; exact TxRow.new w2 [t]) (by have := HP2.out.lt; omega) (by simp) (by
          have h2 := HFL.out
          rw [← HFI2.out, List.length_append] at h2
          simpa using h2) (Nat.le_trans HBW.out (Nat.le_trans HW2.out.low.size hba.size))
        simp only [List.flatten_cons, List.flatten_nil, List.append_nil] at h1
        rw [HFI2.out] at h1
        exact h1)
      have HBA := Lib.hid hba
      clear hba hno hI hes
      go_wp2_with fail
      with_reducible refine HPUT.out.mono ?_
      rintro e w3 ⟨rfl, hp3, hw3⟩
      have HP3 := Lib.hid hp3
      have HW3 := Lib.hid ((HW2.out.below (Nat.le_trans HBW.out HW2.out.low.size) HBA.out).trans hw3)
      clear hp3 hw3
      go_wp2_with fail
      go_end0
      exact ⟨rfl, HP3.out, HW3.out⟩
    · rw [hI]
      obtain ⟨A, hA⟩ : ∃ A, a.length = A := ⟨_, rfl⟩
      have hes : escS v t = a ++ (escC v c ++ escS v u) := by rw [hau]; exact esc_first hno c u
      have hsz : st.size = t.length := by rw [← HST.out]; exact strB_size t
      have htl2 : t.length = A + 1 + u.length := by rw [hau, List.length_append, List.length_cons, hA]; omega
      have HFI2 : Hid ((ac ++ (a ++ refC c)) ++ escS v u = FIN) := Lib.hid (by
        rw [← HFI.out, hes, escC_told hc]
        simp only [List.append_assoc])
      have hx1 : st.extract 0 A = strB a := by rw [← HST.out, hau, ← hA]; exact strB_front a (c :: u)
      have hx2 : st.extract (A + 1) st.size = strB u := by rw [← HST.out, hau, ← hA]; exact strB_back a c u
      have hAs : A < st.size := by omega
      have hxc : st[A]'hAs = c := by
        have h1 := Lib.data_getElem? st A hAs
        have h2 : st.data.toList = t := by rw [← HST.out]; rfl
        have h3 : st.data.toList[A]? = some c := by
          rw [h2, hau, ← hA, List.getElem?_append_right (Nat.le_refl _), Nat.sub_self]
          rfl
        exact Option.some.inj (h1.symm.trans h3)
      have HREF := Lib.hid (fun W => reference_calls hc W)
      rw [hA]
      obtain ⟨sa, hsa⟩ : ∃ x, strB a = x := ⟨_, rfl⟩
      obtain ⟨su, hsu⟩ : ∃ x, strB u = x := ⟨_, rfl⟩
      obtain ⟨sr, hsr⟩ : ∃ x, strB (refC c) = x := ⟨_, rfl⟩
      rw [hsa] at hx1
      rw [hsu] at hx2
      rw [hsr] at HREF
      have HSU := Lib.hid hsu
      have h0A : (0 : Int) ≤ (A : Int) := by omega
      have hAz : (A : Int) < (st.size : Int) := by omega
      have hAz2 : (A : Int) ≤ (st.size : Int) := by omega
      have hA1 : IntKind.i64.wrap ((A : Int) + 1) = (A : Int) + 1 := IntWalk.i64_in _ (by have := HTL.out; omega)
      have hA2 : (0 : Int) ≤ (A : Int) + 1 := by omega
      have hA3 : (A : Int) + 1 ≤ (st.size : Int) := by omega
      have hAn : ¬ ((A : Int) < 0) := by omega
      obtain ⟨y0, hy0⟩ : ∃ W, w2.drew = W := ⟨_, rfl⟩
      have hb20 : Below w2.heap.size w2 y0 := by rw [← hy0]; exact ⟨rfl, rfl, rfl, Nat.le_refl _, fun _ _ => rfl⟩
      have hba : Below y0.heap.size y0 (y0.alloc (.cells #[.string sa, .string sr] 9)) := (Below.refl _ _).alloc (Nat.le_refl _) _
      have HP0 := Lib.hid (HP2.out.below hb20)
      have HW0 := Lib.hid (HW2.out.below (Nat.le_trans HBW.out HW2.out.low.size) hb20)
      have HPUT : Hid (Calls Tryz.prog 30 #[.pointer (some ⟨b, 0, none⟩), .slice (some ⟨y0.heap.size, 0, none⟩) 2 2] (y0.alloc (.cells #[.string sa, .string sr] 9)) (POut (y0.alloc (.cells #[.string sa, .string sr] 9)) B b (ac ++ (a ++ refC c)) o)) := Lib.hid (by
        have h1 := pput_calls (HP0.out.below hba) (l := [a, refC c]) (g := y0.heap.size) (by rw [← hsa, ← hsr]; exact TxRow.new y0 [a, refC c]) (by have := HP0.out.lt; omega) (by simp) (by
          have h2 := HFL.out
          rw [← HFI2.out, List.length_append, List.length_append] at h2
          simp only [List.flatten_cons, List.flatten_nil, List.append_nil]
          omega) (Nat.le_trans HBW.out (Nat.le_trans HW0.out.low.size hba.size))
        simp only [List.flatten_cons, List.flatten_nil, List.append_nil] at h1
        exact h1)
      have HBA := Lib.hid hba
      have HTL2 := Lib.hid htl2
      clear hba hno hI hes hau hA hsz hc hsa hsr hsu hb20 htl2
      go_upto_region 3 with (fail)
      refine wp_region_z (S := fun _ => True) 9 (by kernel_rfl) trivial (fun hHeld => ?_)
      rw [hy0]
      refine wpAnyZ_take (i := 0) (f := 11) (v := ?_) rfl (by kernel_rfl) (by kernel_rfl) (by kernel_rfl) (by kernel_rfl) (by kernel_rfl) (fun _ _ _ h => h) (Or.inl ⟨by rfl, ?_⟩) (by assumption) ?_
      rotate_left
      · intro W hS
        try dsimp only at hS
        go_simp
        try with_reducible rfl
      try simp only [List.getElem_toArray, List.getElem_cons_zero, Act.put, List.setIfInBounds_toArray, List.set_cons_zero, List.set_cons_succ]
      refine wpAnyZ_take (i := 1) (f := 11) (v := ?_) rfl (by kernel_rfl) (by kernel_rfl) (by kernel_rfl) (by kernel_rfl) (by kernel_rfl) (fun _ _ _ h => h) (Or.inl ⟨by rfl, ?_⟩) (by assumption) ?_
      rotate_left
      · intro W hS
        try dsimp only at hS
        go_simp
        try with_reducible rfl
      try simp only [List.getElem_toArray, List.getElem_cons_succ, List.getElem_cons_zero, Act.put, List.setIfInBounds_toArray, List.set_cons_zero, List.set_cons_succ]
      refine wpAnyZ_take (i := 2) (f := 11) (v := ?_) rfl (by kernel_rfl) (by kernel_rfl) (by kernel_rfl) (by kernel_rfl) (by kernel_rfl) (fun _ _ _ h => h) (Or.inl ⟨by rfl, ?_⟩) (by assumption) ?_
      rotate_left
      · intro W hS
        try dsimp only at hS
        go_simp
        try with_reducible rfl
      try simp only [List.getElem_toArray, List.getElem_cons_succ, List.getElem_cons_zero, Act.put, List.setIfInBounds_toArray, List.set_cons_zero, List.set_cons_succ]
      refine wpAnyZ_take (i := 3) (f := 11) (v := ?_) rfl (by kernel_rfl) (by kernel_rfl) (by kernel_rfl) (by kernel_rfl) (by kernel_rfl) (fun _ _ _ h => h) (Or.inl ⟨by rfl, ?_⟩) (by assumption) ?_
      rotate_left
      · intro W hS
        try dsimp only at hS
        go_simp
        try with_reducible rfl
      try simp only [List.getElem_toArray, List.getElem_cons_succ, List.getElem_cons_zero, Act.put, List.setIfInBounds_toArray, List.set_cons_zero, List.set_cons_succ]
      refine wpAnyZ_take (i := 4) (f := 11) (v := ?_) rfl (by kernel_rfl) (by kernel_rfl) (by kernel_rfl) (by kernel_rfl) (by kernel_rfl) (fun _ _ _ h => h) (Or.inl ⟨by rfl, ?_⟩) (by assumption) ?_
      rotate_left
      · intro W hS
        try dsimp only at hS
        go_simp
        try with_reducible rfl
      try simp only [List.getElem_toArray, List.getElem_cons_succ, List.getElem_cons_zero, Act.put, List.setIfInBounds_toArray, List.set_cons_zero, List.set_cons_succ]
      refine wpAnyZ_take (i := 5) (f := 11) (v := ?_) rfl (by kernel_rfl) (by kernel_rfl) (by kernel_rfl) (by kernel_rfl) (by kernel_rfl) (fun _ _ _ h => h) (Or.inl ⟨by rfl, ?_⟩) (by assumption) ?_
      rotate_left
      · intro W hS
        try dsimp only at hS
        go_simp
        try with_reducible rfl
      try simp only [List.getElem_toArray, List.getElem_cons_succ, List.getElem_cons_zero, Act.put, List.setIfInBounds_toArray, List.set_cons_zero, List.set_cons_succ]
      refine wpAnyZ_take (i := 6) (f := 11) (v := ?_) rfl (by kernel_rfl) (by kernel_rfl) (by kernel_rfl) (by kernel_rfl) (by kernel_rfl) (fun _ _ _ h => h) (Or.inl ⟨by rfl, ?_⟩) (by assumption) ?_
      rotate_left
      · intro W hS
        try dsimp only at hS
        go_simp
        try with_reducible rfl
      try simp only [List.getElem_toArray, List.getElem_cons_succ, List.getElem_cons_zero, Act.put, List.setIfInBounds_toArray, List.set_cons_zero, List.set_cons_succ]
      refine wpAnyZ_one (i := 7) (by kernel_rfl) rfl (fun K hK => ?_)
      go_simp
      with_reducible refine (HREF.out _).mono ?_
      rintro e x1 ⟨rfl, rfl⟩
      refine hK.out _ _ trivial (fun hHeld => ?_)
      clear hK K
      try simp only [List.getElem_toArray, List.getElem_cons_succ, List.getElem_cons_zero, Act.put, List.setIfInBounds_toArray, List.set_cons_zero, List.set_cons_succ]
      refine wpAnyZ_one (i := 8) (by kernel_rfl) rfl (fun K hK => ?_)
      go_simp
      refine hK.out _ _ trivial (fun hHeld => ?_)
      clear hK K
      try simp only [List.getElem_toArray, List.getElem_cons_succ, List.getElem_cons_zero, Act.put, List.setIfInBounds_toArray, List.set_cons_zero, List.set_cons_succ]
      refine wpAnyZ_last (by kernel_rfl) rfl (by kernel_rfl) (fun K hK => ?_)
      go_simp
      with_reducible refine HPUT.out.mono ?_
      rintro e w3 ⟨rfl, hp3, hw3⟩
      have HP3 := Lib.hid hp3
      have HW3 := Lib.hid ((HW0.out.below (Nat.le_trans HBW.out HW0.out.low.size) HBA.out).trans hw3)
      clear hp3 hw3
      refine hK.out _ _ ?_
      clear hK K
      go_wp2_with fail
      go_roundg g
      case measure => omega
      case rel => exact ⟨_, u, by rw [HSU.out], by have := HTL2.out; omega, by have := HTL2.out; have := HTL.out; omega, HFI2.out, HP3.out, HW3.out⟩

end Go.Proofs.YtocnedpclllbhaaGreatDoor
