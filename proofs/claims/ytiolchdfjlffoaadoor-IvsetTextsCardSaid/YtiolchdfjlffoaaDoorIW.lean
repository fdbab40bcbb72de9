/-
  strings.Cut at a dash, strconv.Itoa and Atoi, and a span of a piece, told by the program. Conditions: the texts are no longer than 2 to the 30; the library's table of powers of ten and its two errors are laid.
-/
import Derived.Test.YtiolchdfjlffoaaDoorIM
import Derived.Test.YtiolchdfjlffoaaDoorIU
import Derived.Test.YtiolchdfjlffoaaDoorISh
import Derived.Lib.ItoaLen
import Derived.Lib.ConvBytes
import Derived.Lib.AppendIntMem
namespace Go.Proofs.YtiolchdfjlffoaaDoor
open Go.RowKit Go.Lib Go.Joins

theorem strB_size (x : List UInt8) : (strB x).size = x.length := by
  unfold strB ByteArray.size
  simp
theorem strB_list (x : List UInt8) : (strB x).data.toList = x := rfl
theorem strB_back (s : ByteArray) : strB s.data.toList = s := by
  apply ByteArray.ext
  rfl
theorem strB_app (a b : List UInt8) : strB a ++ strB b = strB (a ++ b) := by
  apply ByteArray.ext
  rw [ByteArray.data_append]
  simp [strB]
theorem extract_strB (s : ByteArray) (f i : Nat) : s.extract f i = strB ((s.data.toList.drop f).take (i - f)) := by
  apply ByteArray.ext
  apply Array.toList_inj.1
  rw [extract_data]
  rfl
/-- The library's table of powers of ten is laid, and its two errors. -/
def Tab (w : World) : Prop := Lib.TabIs Tryd.prog w "internal/strconv.uint64pow10" .u64 Lib.pow10Tab
theorem Tab.below {w w' : World} (h : Tab w) (hb : Below w.heap.size w w') : Tab w' := Lib.tabBelow_of_tabIs h w' hb
def Errs (w : World) : Prop :=
  (∃ ev, w.cell? ⟨3, 0, none⟩ = some ev ∧ (ev = .nilIface ∨ ∃ te pe, ev = .iface te pe)) ∧ (∃ ev, w.cell? ⟨4, 0, none⟩ = some ev ∧ (ev = .nilIface ∨ ∃ te pe, ev = .iface te pe))
theorem Errs.below {w w' : World} (h : Errs w) (hb : Below w.heap.size w w') : Errs w' := by
  obtain ⟨⟨a, h1, h2⟩, ⟨b, h3, h4⟩⟩ := h
  exact ⟨⟨a, cell_below hb h1, h2⟩, ⟨b, cell_below hb h3, h4⟩⟩
structure IEnv (w : World) : Prop where
  tab : Tab w
  errs : Errs w
theorem IEnv.below {w w' : World} (h : IEnv w) (hb : Below w.heap.size w w') : IEnv w' := ⟨h.tab.below hb, h.errs.below hb⟩
/-- What Atoi leaves of a text. -/
def AtoiOut (l : List UInt8) (w : World) (e : Ending) (w' : World) : Prop :=
  Below w.heap.size w w' ∧ ((∃ v, Lib.atoiAll l = .ok v ∧ e = .returned (.tuple #[.int .i64 v, .nilIface])) ∨ ((∀ v, Lib.atoiAll l ≠ .ok v) ∧ ∃ v T x, e = .returned (.tuple #[.int .i64 v, .iface T x])))
theorem atoi_any (s : ByteArray) (w : World) (hs : s.size ≤ 281474976710656) (he : Errs w) : Calls Tryd.prog 53 #[.string s] w (AtoiOut s.data.toList w) := by
  obtain ⟨⟨a, h1, h2⟩, ⟨b, h3, h4⟩⟩ := he
  cases hr : Lib.atoiAll s.data.toList with
  | ok v =>
    refine (Tryd.strconv_Atoi_ok s (by omega) v hr w).mono ?_
    rintro e w' ⟨rfl, hw⟩
    refine ⟨?_, .inl ⟨v, hr, rfl⟩⟩
    rcases hw with rfl | ⟨t, rfl⟩
    · exact Below.refl _ _
    · exact Lib.bytesWorld_below _ _ _
  | range =>
    refine (Tryd.strconv_Atoi_range s hs hr b w h3 h4).mono ?_
    rintro e w' ⟨N, rfl, _, _, hb⟩
    exact ⟨hb, .inr ⟨(by rw [hr]; intro v h; cases h), _, _, _, rfl⟩⟩
  | _ =>
    refine (Tryd.strconv_Atoi_syntax s hs hr a w h1 h2).mono ?_
    rintro e w' ⟨N, rfl, _, _, hb⟩
    exact ⟨hb, .inr ⟨(by rw [hr]; intro v h; cases h), _, _, _, rfl⟩⟩
theorem itoa_any (n : Int) (h0 : -9223372036854775808 ≤ n) (h1 : n ≤ 9223372036854775807) (w : World) (ht : Tab w) :
    Calls Tryd.prog 46 #[.int .i64 n] w (Leaves (.string (strB (Lib.itoa n))) w) := by
  refine (Tryd.strconv_Itoa n h0 h1 w ht).mono ?_
  rintro e w' ⟨rfl, k, os, rfl⟩
  exact ⟨rfl, ⟨rfl, rfl, rfl, by simp [Go.Sort.grow], fun k hk => by simp [Go.Sort.grow, Array.getElem?_append, hk]⟩⟩

/-- strings.Cut at a dash. -/
def CutOut (p : List UInt8) (w : World) (e : Ending) (w' : World) : Prop := e = .returned (.tuple #[.string (strB (Lib.cut p [45]).1), .string (strB (Lib.cut p [45]).2.1), .bool (Lib.cut p [45]).2.2]) ∧ Below w.heap.size w w'
set_option maxRecDepth 100000 in
set_option maxHeartbeats 2000000 in
theorem scut_calls (p : List UInt8) (w : World) (hp : p.length ≤ 1073741824) : Calls Tryd.prog 61 #[.string (strB p), .string ⟨#[45]⟩] w (CutOut p w) := by
  have HI := Lib.hid (Tryd.stringslite_Index_one (strB p) 45 w)
  rw [strB_list] at HI
  unfold CutOut
  rcases first_of 45 p with h | ⟨a, b, h, rfl⟩
  · rw [cut_no h]
    rw [byte_no h] at HI
    obtain ⟨z, hz⟩ : ∃ z, strB p = z := ⟨_, rfl⟩
    rw [hz] at HI ⊢
    clear h hz
    go_enter Tryd.func61, Tryd.ntmps61
    go_wp2_with fail
    with_reducible refine HI.out.mono ?_
    rintro e w1 ⟨rfl, rfl⟩
    go_wp2_with fail
    refine bodyPost_ret (v := .tuple #[.string z, .string ⟨#[]⟩, .bool false]) (by simp [results, Tryd.results61, go_sem]) rfl ⟨rfl, Below.refl _ _⟩
  · rw [cut_at h]
    rw [byte_at h] at HI
    have hsz : (strB (a ++ 45 :: b)).size = a.length + (b.length + 1) := by rw [strB_size, List.length_append, List.length_cons]
    have hlen : a.length + (b.length + 1) ≤ 1073741824 := by rw [List.length_append, List.length_cons] at hp; exact hp
    have hex1 : (strB (a ++ 45 :: b)).extract 0 a.length = strB a := by
      rw [extract_strB, strB_list, List.drop_zero, Nat.sub_zero, List.take_append_of_le_length (Nat.le_refl _), List.take_length]
    have hex2 : (strB (a ++ 45 :: b)).extract (a.length + 1) (strB (a ++ 45 :: b)).size = strB b := by
      rw [extract_strB, strB_list, drop_byte, List.take_of_length_le]
      rw [strB_size, List.length_append, List.length_cons]
      omega
    obtain ⟨z, hz⟩ : ∃ z, strB (a ++ 45 :: b) = z := ⟨_, rfl⟩
    obtain ⟨n, hn⟩ : ∃ n, a.length = n := ⟨_, rfl⟩
    rw [hz, hn] at HI hsz hex1 hex2
    rw [hn] at hlen
    rw [hz]
    have H1 := Lib.hid hex1
    have H2 := Lib.hid hex2
    have hnz : (n : Int) ≤ (z.size : Int) := by omega
    have hnz1 : (n : Int) + 1 ≤ (z.size : Int) := by omega
    have hnb : (n : Int) ≤ 1073741824 := by omega
    have hn0 : (0 : Int) ≤ (n : Int) := by omega
    have hwn : IntKind.i64.wrap ((n : Int) + 1) = (n : Int) + 1 := IntWalk.i64_in _ (by omega)
    have hn1 : (0 : Int) ≤ (n : Int) + 1 := by omega
    have htn : ((n : Int) + 1).toNat = n + 1 := by omega
    have hnz2 : n ≤ z.size := by omega
    have hnz3 : n + 1 ≤ z.size := by omega
    clear h hz hn hsz hex1 hex2 hlen hp
    go_enter Tryd.func61, Tryd.ntmps61
    go_wp2_with fail
    with_reducible refine HI.out.mono ?_
    rintro e w1 ⟨rfl, rfl⟩
    go_wp2_with fail
    go_quiet (fail)
    go_wp2_with fail
    refine bodyPost_ret (v := .tuple #[.string (z.extract 0 n), .string (z.extract (n + 1) z.size), .bool true]) (by simp [results, Tryd.results61, go_sem]) rfl ⟨by rw [H1.out, H2.out], below_drewN (Below.refl _ _) _⟩
set_option maxRecDepth 100000 in
set_option maxHeartbeats 2000000 in
theorem cut_calls (p : List UInt8) (w : World) (hp : p.length ≤ 1073741824) : Calls Tryd.prog 52 #[.string (strB p), .string ⟨#[45]⟩] w (CutOut p w) := by
  have HC := Lib.hid (scut_calls p w hp)
  obtain ⟨z, hz⟩ : ∃ z, strB p = z := ⟨_, rfl⟩
  unfold CutOut at HC ⊢
  obtain ⟨a, ha⟩ : ∃ a, strB (Lib.cut p [45]).1 = a := ⟨_, rfl⟩
  obtain ⟨b, hb⟩ : ∃ b, strB (Lib.cut p [45]).2.1 = b := ⟨_, rfl⟩
  obtain ⟨c, hc⟩ : ∃ c, (Lib.cut p [45]).2.2 = c := ⟨_, rfl⟩
  rw [hz, ha, hb, hc] at HC
  rw [hz, ha, hb, hc]
  clear hz ha hb hc hp
  go_enter Tryd.func52, Tryd.ntmps52
  go_wp2_with fail
  with_reducible refine HC.out.mono ?_
  rintro e w1 ⟨rfl, hb1⟩
  have HB := Lib.hid hb1
  clear hb1
  go_wp2_with fail
  refine bodyPost_ret (v := .tuple #[.string a, .string b, .bool c]) (by simp [results, Tryd.results52, go_sem]) rfl ⟨rfl, HB.out⟩

/-- What parseSpan leaves. -/
def SpanOut (p : List UInt8) (w : World) (e : Ending) (w' : World) : Prop := Below w.heap.size w w' ∧ ((∃ f t : Int, progSp p = some (f, t) ∧ e = .returned (.tuple #[.agg #[.int .i64 f, .int .i64 t], .bool true])) ∨ (progSp p = none ∧ e = .returned (.tuple #[.agg #[.int .i64 0, .int .i64 0], .bool false])))
theorem cut_short (p : List UInt8) : (Lib.cut p [45]).1.length ≤ p.length ∧ (Lib.cut p [45]).2.1.length ≤ p.length := by
  rcases first_of 45 p with h | ⟨a, b, h, rfl⟩
  · rw [cut_no h]
    exact ⟨Nat.le_refl _, Nat.zero_le _⟩
  · rw [cut_at h, List.length_append, List.length_cons]
    exact ⟨by show a.length ≤ _; omega, by show b.length ≤ _; omega⟩
set_option maxRecDepth 100000 in
set_option maxHeartbeats 4000000 in
theorem span_calls (p : List UInt8) (w : World) (hp : p.length ≤ 1073741824) (hE : IEnv w) : Calls Tryd.prog 44 #[.string (strB p)] w (SpanOut p w) := by
  obtain ⟨W1, hW1⟩ : ∃ W1, w.alloc (.cells #[.int .i64 0, .int .i64 0] 44) = W1 := ⟨_, rfl⟩
  have hB1 : Below w.heap.size w W1 := by rw [← hW1]; exact (Below.refl _ _).alloc (Nat.le_refl _) _
  have hk1 : W1.heap[w.heap.size]? = some (.cells #[.int .i64 0, .int .i64 0] 44 (0, 0)) := by rw [← hW1]; exact heap_alloc_new _ _
  obtain ⟨b0, hb0⟩ : ∃ b, w.heap.size = b := ⟨_, rfl⟩
  rw [hb0] at hk1
  have HB1 := Lib.hid hB1
  have HK1 := Lib.hid hk1
  have HW1 := Lib.hid hW1
  have HB0 := Lib.hid hb0
  have HC := Lib.hid (cut_calls p W1 hp)
  have hsh := cut_short p
  have hsp : progSp p = progSp p := rfl
  conv at hsp => rhs; unfold progSp
  unfold CutOut at HC
  obtain ⟨a, ha⟩ : ∃ a, (Lib.cut p [45]).1 = a := ⟨_, rfl⟩
  obtain ⟨b, hb⟩ : ∃ b, (Lib.cut p [45]).2.1 = b := ⟨_, rfl⟩
  obtain ⟨c, hc⟩ : ∃ c, (Lib.cut p [45]).2.2 = c := ⟨_, rfl⟩
  rw [ha, hb, hc] at HC
  rw [ha, hb, hc] at hsp
  rw [ha, hb] at hsh
  have HA := Lib.hid (fun (W : World) (h : Below W1.heap.size W1 W) => atoi_any (strB a) W (by rw [strB_size]; omega) (hE.errs.below (hB1.trans (h.mono hB1.size))))
  have HBt := Lib.hid (fun (W : World) (h : Below W1.heap.size W1 W) => atoi_any (strB b) W (by rw [strB_size]; omega) (hE.errs.below (hB1.trans (h.mono hB1.size))))
  have HSP := Lib.hid hsp
  rw [strB_list] at HA
  rw [strB_list] at HBt
  unfold AtoiOut at HA HBt
  obtain ⟨z, hz⟩ : ∃ z, strB p = z := ⟨_, rfl⟩
  obtain ⟨za, hza⟩ : ∃ z, strB a = z := ⟨_, rfl⟩
  obtain ⟨zb, hzb⟩ : ∃ z, strB b = z := ⟨_, rfl⟩
  rw [hz, hza, hzb] at HC
  rw [hza] at HA
  rw [hzb] at HBt
  rw [hz]
  have hbd : ∀ W', Below W1.heap.size W1 W' → W'.cell? ⟨b0, 0, none⟩ = some (.int .i64 0) ∧ W'.cell? ⟨b0, 1, none⟩ = some (.int .i64 0) ∧ W'.frozen? ⟨b0, 0, none⟩ = false ∧ W'.frozen? ⟨b0, 1, none⟩ = false := fun W' h => by
    have hk := block_below h hk1
    exact ⟨(cell_of_block hk 0).trans rfl, (cell_of_block hk 1).trans rfl, frozen_of_row _ _ 0 _ _ hk, frozen_of_row _ _ 1 _ _ hk⟩
  have HBD := Lib.hid hbd
  clear ha hb hc hsh hz hza hzb hsp hE hp hB1 hk1 hW1 hb0 hbd
  unfold SpanOut
  rw [HB0.out]
  have fin : ∀ W', Below W1.heap.size W1 W' → Below b0 w W' := fun W' h => by rw [← HB0.out]; exact HB1.out.trans (h.mono HB1.out.size)
  have FIN := Lib.hid fin
  have hb1s : Hid (b0 < W1.heap.size) := Lib.hid (lt_of_block HK1.out)
  clear fin
  go_enter Tryd.func44, Tryd.ntmps44
  go_upto_region 1 with (fail)
  rw [HW1.out, HB0.out]
  go_wp2_with fail
  with_reducible refine HC.out.mono ?_
  rintro e w2 ⟨rfl, hb2⟩
  have HA2 := Lib.hid (HA.out w2 hb2)
  have HB2 := Lib.hid hb2
  clear hb2 HC HA
  go_wp2_with fail
  with_reducible refine HA2.out.mono ?_
  rintro e w3 ⟨hb3, ⟨f, hf, rfl⟩ | ⟨hf, f, T, x, rfl⟩⟩
  · have HF := Lib.hid hf
    have HB3 := Lib.hid (HB2.out.trans (hb3.mono HB2.out.size))
    obtain ⟨c0, c1, z0, z1⟩ := HBD.out w3 HB3.out
    clear hb3 hf HA2
    cases c with
    | false =>
      have HR : Hid (progSp p = some (f, f)) := Lib.hid (by rw [HSP.out, HF.out]; rfl)
      go_wp2_with fail
      exact bodyPost_ret (v := .tuple #[.agg #[.int .i64 f, .int .i64 f], .bool true]) (by simp [results, Tryd.results44, go_sem, c0, c1]) rfl ⟨((FIN.out _ HB3.out).setCell (Nat.le_refl _) _).setCell (Nat.le_refl _) _, .inl ⟨f, f, HR.out, rfl⟩⟩
    | true =>
      have HB4 := Lib.hid (HBt.out w3 HB3.out)
      clear c0 c1 z0 z1
      go_wp2_with fail
      with_reducible refine HB4.out.mono ?_
      rintro e w4 ⟨hb4, ⟨t, ht, rfl⟩ | ⟨ht, t, T, x, rfl⟩⟩
      · have HR : Hid (progSp p = some (f, t)) := Lib.hid (by rw [HSP.out, HF.out]; dsimp only; rw [if_pos trivial, ht])
        have HB5 := Lib.hid (HB3.out.trans (hb4.mono HB3.out.size))
        obtain ⟨c0, c1, z0, z1⟩ := HBD.out w4 HB5.out
        clear hb4 ht HB4
        go_wp2_with fail
        exact bodyPost_ret (v := .tuple #[.agg #[.int .i64 f, .int .i64 t], .bool true]) (by simp [results, Tryd.results44, go_sem, c0, c1]) rfl ⟨((FIN.out _ HB5.out).setCell (Nat.le_refl _) _).setCell (Nat.le_refl _) _, .inl ⟨f, t, HR.out, rfl⟩⟩
      · have HR : Hid (progSp p = none) := Lib.hid (by
          rw [HSP.out, HF.out]
          dsimp only
          rw [if_pos trivial]
          cases hr : Lib.atoiAll b with
          | ok v => exact absurd hr (ht v)
          | _ => rfl)
        have HB5 := Lib.hid (HB3.out.trans (hb4.mono HB3.out.size))
        obtain ⟨c0, c1, z0, z1⟩ := HBD.out w4 HB5.out
        clear hb4 ht HB4
        go_wp2_with fail
        exact bodyPost_ret (v := .tuple #[.agg #[.int .i64 0, .int .i64 0], .bool false]) (by simp [results, Tryd.results44, go_sem, c0, c1]) rfl ⟨((FIN.out _ HB5.out).setCell (Nat.le_refl _) _).setCell (Nat.le_refl _) _, .inr ⟨HR.out, rfl⟩⟩
  · have HR : Hid (progSp p = none) := Lib.hid (by
      rw [HSP.out]
      cases hr : Lib.atoiAll a with
      | ok v => exact absurd hr (hf v)
      | _ => rfl)
    have HB3 := Lib.hid (HB2.out.trans (hb3.mono HB2.out.size))
    obtain ⟨c0, c1, z0, z1⟩ := HBD.out w3 HB3.out
    clear hb3 hf HA2
    go_wp2_with fail
    exact bodyPost_ret (v := .tuple #[.agg #[.int .i64 0, .int .i64 0], .bool false]) (by simp [results, Tryd.results44, go_sem, c0, c1]) rfl ⟨((FIN.out _ HB3.out).setCell (Nat.le_refl _) _).setCell (Nat.le_refl _) _, .inr ⟨HR.out, rfl⟩⟩
end Go.Proofs.YtiolchdfjlffoaaDoor
