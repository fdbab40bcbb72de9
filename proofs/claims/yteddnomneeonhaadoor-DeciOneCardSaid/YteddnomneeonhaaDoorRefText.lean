/-
  The reference's Text: a number's digits from the right, turned round, without the zeros that stand first. No condition.
-/
import Derived.Test.YteddnomneeonhaaDoorRefNum
import Derived.Test.YteddnomneeonhaaDoorRefTextPure
import Derived.Test.YteddnomneeonhaaDoorText
import Derived.Lib.ConvBytes
import Derived.Laws.IdiomStrings
import Derived.OwnWalk
import Derived.Maps.AppendAt
namespace Go.Proofs.YteddnomneeonhaaDoor
open Go.RowKit Go.Lib

theorem info5 : (Tryd.prog.info? 5).map (fun i => (i.zero, i.size, i.bytes)) = some (some (.int .u8 0), 1, 1) := by kernel_rfl

/-- The cells of a row of bytes. -/
def cellsB (l : List UInt8) : List Value := l.map fun x => Value.int .u8 (x.toNat : Int)
theorem cellsB_snoc (l : List UInt8) (b : UInt8) {r : Int} (h : (b.toNat : Int) = r) : cellsB l ++ [.int .u8 r] = cellsB (l ++ [b]) := by
  unfold cellsB
  rw [List.map_append, ← h]
  rfl

/-- What the loop that lays the digits keeps. -/
def LayR (F : List UInt8) (g i : Nat) (v : Int) (acc : List UInt8) : Prop := g = (restT i v.toNat).length ∧ acc ++ restT i v.toNat = F ∧ i ≤ acc.length
def SkipR (F : List UInt8) (Z g n : Nat) : Prop := g + n = 6 ∧ n + lz (6 - n) (F.drop n) = Z

/-- What the loop that turns the digits round keeps. -/
def OutR (F : List UInt8) (nn g m : Nat) (z : Int) (o : ByteArray) : Prop := g + nn = m ∧ z = (m : Int) - 1 ∧ o.data.toList = (F.drop m).reverse
theorem text_ext {a : ByteArray} {l : List UInt8} (h : a.data.toList = l) : a = ⟨l.toArray⟩ := by rw [← h, Lib.mk_data]
theorem lay_dig {v : Int} (h : 0 ≤ v) : (((dgB v.toNat).toNat : Nat) : Int) = 48 + v % 10 := by
  rw [dgB_toNat]
  omega
theorem lay_div {v : Int} (h : 0 ≤ v) : (v / 10).toNat = v.toNat / 10 := by omega
theorem lay_len {F : List UInt8} {g i : Nat} {v : Int} {acc : List UInt8} (h : LayR F g i v acc) : acc.length ≤ F.length ∧ i ≤ F.length := by
  have := congrArg List.length h.2.1
  rw [List.length_append] at this
  have := h.2.2
  omega
theorem lay_one {F : List UInt8} {g i : Nat} {v : Int} {acc : List UInt8} (h : LayR F g i v acc) (hv : 0 ≤ v) (hr : restT i v.toNat = dgB v.toNat :: restT (i + 1) (v.toNat / 10)) : LayR F (g - 1) (i + 1) (v / 10) (acc ++ [dgB v.toNat]) ∧ g - 1 < g := by
  obtain ⟨h1, h2, h3⟩ := h
  rw [hr] at h1 h2
  rw [List.length_cons] at h1
  refine ⟨⟨?_, ?_, ?_⟩, by omega⟩
  · rw [lay_div hv]; omega
  · rw [lay_div hv, List.append_assoc]; exact h2
  · rw [List.length_append, List.length_cons]; omega
theorem lay_low {F : List UInt8} {g i : Nat} {v : Int} {acc : List UInt8} (h : LayR F g i v acc) (hv : 0 ≤ v) (hi : i < 6) : LayR F (g - 1) (i + 1) (v / 10) (acc ++ [dgB v.toNat]) ∧ g - 1 < g := lay_one h hv (restT_low hi)
theorem lay_high {F : List UInt8} {g i : Nat} {v : Int} {acc : List UInt8} (h : LayR F g i v acc) (hv : 0 < v) (hi : 7 ≤ i) : LayR F (g - 1) (i + 1) (v / 10) (acc ++ [dgB v.toNat]) ∧ g - 1 < g := lay_one h (by omega) (restT_high hi (by omega))
theorem lay_six {F : List UInt8} {g : Nat} {v : Int} {acc : List UInt8} (h : LayR F g 6 v acc) (hv : 0 ≤ v) : LayR F (g - 2) 7 (v / 10) (acc ++ [46] ++ [dgB v.toNat]) ∧ g - 2 < g := by
  obtain ⟨h1, h2, h3⟩ := h
  rw [restT_six] at h1 h2
  rw [List.length_cons, List.length_cons] at h1
  refine ⟨⟨?_, ?_, ?_⟩, by omega⟩
  · rw [lay_div hv]; omega
  · rw [lay_div hv, List.append_assoc, List.append_assoc]; exact h2
  · rw [List.length_append, List.length_append, List.length_cons, List.length_cons]; omega
theorem lay_end {F : List UInt8} {g i : Nat} {acc : List UInt8} (h : LayR F g i 0 acc) (hi : 7 ≤ i) : acc = F := by
  have := h.2.1
  rw [show (0 : Int).toNat = 0 from rfl, restT_end hi, List.append_nil] at this
  exact this

theorem skip_on {F : List UInt8} {Z g n : Nat} {b : UInt8} (h : SkipR F Z g n) (hn : n < 6) (hb : F[n]? = some b) : (b = 48 → SkipR F Z (g - 1) (n + 1)) ∧ (b ≠ 48 → Z = n) := by
  obtain ⟨h1, h2⟩ := h
  obtain ⟨hl, rfl⟩ := List.getElem?_eq_some_iff.1 hb
  have e : lz (6 - n) (F.drop n) = if F[n] = 48 then lz (6 - (n + 1)) (F.drop (n + 1)) + 1 else 0 := by
    rw [List.drop_eq_getElem_cons hl, show 6 - n = 6 - (n + 1) + 1 by omega]
    rfl
  constructor
  · intro h
    rw [e, if_pos h] at h2
    exact ⟨by omega, by omega⟩
  · intro h
    rw [e, if_neg h] at h2
    omega
theorem skip_end {F : List UInt8} {Z g : Nat} (h : SkipR F Z g 6) : Z = 6 := by
  have := h.2
  simp [lz] at this
  omega

set_option maxRecDepth 100000 in
set_option maxHeartbeats 4000000 in
theorem refText_calls (a : Num) (w : World) : Calls Tryd.prog 35 #[numV a] w (Leaves (.string ⟨(textP a).toArray⟩) w) := by
  obtain ⟨i0, hi, hz0, hz1, hz2⟩ := info_parts info5
  obtain ⟨q, hq⟩ : ∃ q, oddN a = q := ⟨_, rfl⟩
  have HQ := Lib.hid hq
  obtain ⟨na, va⟩ := a
  unfold numV
  clear hq
  go_enter Tryd.func35, Tryd.ntmps35
  go_wp2_with fail
  refine (refOdd_calls ⟨na, va⟩ _).mono ?_
  rintro e w1 ⟨rfl, hb⟩
  rw [HQ.out]
  have HB1 : Hid (RowKit.Below w.heap.size w w1) := Lib.hid ((Below.refl _ w).alloc (Nat.le_refl _) _ |>.trans (hb.mono (by simp)))
  have HX1 : Hid (Own2 w.heap.size (.bool na) (.int .i64 va) w1) := Lib.hid (Own2.below ⟨by go_simp, by go_simp, by go_simp, by go_simp⟩ hb)
  clear hb
  cases q with
  | true =>
    have hres : Hid (textP ⟨na, va⟩ = [78, 97, 78]) := Lib.hid (by unfold textP; rw [HQ.out]; rfl)
    go_wp2
    go_ret
    exact ⟨by rw [hres.out]; rfl, HB1.out⟩
  | false =>
    have g1 := (oddN_false.1 HQ.out).2
    obtain ⟨g1, g1'⟩ := g1
    simp only at g1 g1'
    have HRES : Hid (textP ⟨na, va⟩ = signT va ++ wholeT va) := Lib.hid (by unfold textP; rw [HQ.out]; rfl)
    have hback := back_text va
    obtain ⟨V, hV⟩ : ∃ V, va.natAbs = V := ⟨_, rfl⟩
    rw [hV] at hback
    have hVb : V ≤ 1000000000000000 := by omega
    obtain ⟨F, hF⟩ : ∃ F, allT V = F := ⟨_, rfl⟩
    obtain ⟨Z, hZ⟩ : ∃ Z, lz 6 F = Z := ⟨_, rfl⟩
    rw [hF, hZ] at hback
    have hFl : 8 ≤ F.length ∧ F.length ≤ 28 := by
      have l1 := dec_len (u := V / 1000000) (by omega)
      rw [decDigits_length] at l1
      have l2 := nDigits_pos (V / 1000000)
      rw [← hF, allT_len]
      omega
    obtain ⟨hFl0, hFl1⟩ := hFl
    obtain ⟨x, hx⟩ : ∃ x : Int, (va.natAbs : Int) = x := ⟨_, rfl⟩
    have cX : Hid (∀ W, Calls Tryd.prog 45 #[.int .i64 va] W (Leaves (.int .i64 x) W)) := Lib.hid fun W => by rw [← hx]; exact refAbs_calls va W (by omega) (by omega)
    have hxV : x.toNat = V := by omega
    have hst : LayR F (restT 0 V).length 0 x [] := ⟨by rw [hxV], by rw [hxV, List.nil_append, restT_start, hF], by simp⟩
    have HST := Lib.hid hst
    have HBACK := Lib.hid hback
    have HZ := Lib.hid hZ
    have HFL0 := Lib.hid hFl0
    have HFL1 := Lib.hid hFl1
    have x0' : 0 ≤ x := by omega
    have x1' : x ≤ 1000000000000000 := by omega
    clear hst hback hZ hF hx hV hFl0 hFl1 hVb hxV
    obtain ⟨x0, x1, _, _⟩ := HX1.out
    go_wp2_with fail
    refine (cX.out _).mono ?_
    rintro e w2 ⟨rfl, hb2⟩
    have HB2 := Lib.hid (below_then HB1.out hb2)
    have HX2 := Lib.hid (HX1.out.below hb2)
    clear hb2 x0 x1 cX
    have hww : w.heap.size ≤ w2.heap.size := HB2.out.size
    go_wp2
    go_loopg [3, 4, 5] (restT 0 V).length (fun g v3 v4 v5 wr => ∃ (i : Nat) (v : Int) (acc : List UInt8), v3 = .int .i64 v ∧ v5 = .int .i64 i ∧ LayR F g i v acc ∧ 0 ≤ v ∧ v ≤ 1000000000000000 ∧ i ≤ 40 ∧ acc.length ≤ 40 ∧ wr.ownsRow w2.heap.size 5 1 v4 acc.length (cellsB acc) ∧ RowKit.Below w2.heap.size w2 wr)
    case atStart => exact ⟨0, x, [], rfl, rfl, HST.out, x0', x1', by omega, by simp, World.ownsRow_nil _ _ _ _, Below.refl _ _⟩
    case round =>
      obtain ⟨i, v, acc, rfl, rfl, hlay, hv0, hv1, hi40, hal, hown, hbw⟩ := hrel
      have HLAY := Lib.hid hlay
      have HBW := Lib.hid hbw
      have hBw : w2.heap.size ≤ wr.heap.size := HBW.out.size
      clear hlay hbw HST
      have HDIG := Lib.hid (lay_dig hv0)
      have hd10 : 0 ≤ v / 10 ∧ v / 10 ≤ 1000000000000000 := by omega
      obtain ⟨hd10, hd10'⟩ := hd10
      by_cases h6 : i < 6
      · have hd6 : decide ((i : Int) < 6) = true := decide_eq_true (by omega)
        have h6b : ((i : Int) == 6) = false := by simp only [beq_eq_false_iff_ne]; omega
        have HN := Lib.hid (lay_low HLAY.out hv0 h6)
        go_wp2_with (at_builtin; refine wpList_append_own _ rfl (.tmp 31) (.tmp 36) 45 rfl w2.heap.size 5 i0 (.int .u8 0) 1 1 Tryd.underlying45 hi hz0 hz1 hz2 rfl (by decide) _ _ _ rfl (hown.alloc _) ⟨wr.heap.size, 0, none⟩ 1 1 [.int .u8 (48 + v % 10)] rfl rfl ?c1 ?c2 ?c3 ?c4 ?c5 ?_)
        case c1 => exact cell_one_new _ _ _
        case c2 => intro u hu; obtain rfl := List.mem_singleton.1 hu; rfl
        case c3 => unfold maxLen; omega
        case c4 => omega
        case c5 => simp; omega
        intro t1 u1 hown1 hgrow _
        have hb1 : RowKit.Below w2.heap.size w2 u1 := (HBW.out.alloc hBw _).grown hgrow (by simp; omega) (fun k hk => (hown.lt k hk).1)
        have ho1 : u1.ownsRow w2.heap.size 5 1 t1 (acc ++ [dgB v.toNat]).length (cellsB (acc ++ [dgB v.toNat])) := by
          rw [cellsB_snoc _ _ HDIG.out] at hown1
          rw [List.length_append]
          exact hown1
        have HBN1 := Lib.hid hb1
        have hBN1 : w2.heap.size ≤ u1.heap.size := hb1.size
        clear hown1 hgrow hb1 hown
        go_wp2
        go_roundg (gk - 1)
        case measure => exact HN.out.2
        case rel => exact ⟨i + 1, v / 10, acc ++ [dgB v.toNat], rfl, by go_num, HN.out.1, hd10, hd10', by have := lay_len HN.out.1; have := HFL1.out; omega, by have := lay_len HN.out.1; have := HFL1.out; omega, ho1, HBN1.out⟩
      · have hd6 : decide ((i : Int) < 6) = false := decide_eq_false (by omega)
        by_cases h7 : i = 6
        · subst h7
          have HN := Lib.hid (lay_six HLAY.out hv0)
          obtain ⟨pz, hpz⟩ : ∃ z, decide (0 < v) = z := ⟨_, rfl⟩
          cases pz
          all_goals
            go_wp2_with (at_builtin; refine wpList_append_own _ rfl (.tmp 28) (.tmp 29) 45 rfl w2.heap.size 5 i0 (.int .u8 0) 1 1 Tryd.underlying45 hi hz0 hz1 hz2 rfl (by decide) _ _ _ rfl (hown.alloc _) ⟨wr.heap.size, 0, none⟩ 1 1 [.int .u8 46] rfl rfl ?c1 ?c2 ?c3 ?c4 ?c5 ?_)
            case c1 => exact cell_one_new _ _ _
            case c2 => intro u hu; obtain rfl := List.mem_singleton.1 hu; rfl
            case c3 => unfold maxLen; omega
            case c4 => omega
            case c5 => simp; omega
            intro t1 u1 hown1 hgrow _
            have hb1 : RowKit.Below w2.heap.size w2 u1 := (HBW.out.alloc hBw _).grown hgrow (by simp; omega) (fun k hk => (hown.lt k hk).1)
            have ho1 : u1.ownsRow w2.heap.size 5 1 t1 (acc.length + 1) (cellsB (acc ++ [46])) := by
              rw [cellsB_snoc acc 46 (show (((46 : UInt8).toNat : Nat) : Int) = 46 from rfl)] at hown1
              exact hown1
            have HBN1 := Lib.hid hb1
            have hBN1 : w2.heap.size ≤ u1.heap.size := hb1.size
            clear hown1 hgrow hb1 hown
            go_wp2_with (at_builtin; refine wpList_append_own _ rfl (.tmp 31) (.tmp 36) 45 rfl w2.heap.size 5 i0 (.int .u8 0) 1 1 Tryd.underlying45 hi hz0 hz1 hz2 rfl (by decide) _ _ _ rfl (ho1.alloc _) ⟨u1.heap.size, 0, none⟩ 1 1 [.int .u8 (48 + v % 10)] rfl rfl ?c1 ?c2 ?c3 ?c4 ?c5 ?_)
            case c1 => exact cell_one_new _ _ _
            case c2 => intro u hu; obtain rfl := List.mem_singleton.1 hu; rfl
            case c3 => unfold maxLen; omega
            case c4 => omega
            case c5 => simp; omega
            intro t2 u2 hown2 hgrow _
            have hb2 : RowKit.Below w2.heap.size w2 u2 := (HBN1.out.alloc hBN1 _).grown hgrow (by simp; omega) (fun k hk => (ho1.lt k hk).1)
            have ho2 : u2.ownsRow w2.heap.size 5 1 t2 ((acc ++ [46]) ++ [dgB v.toNat]).length (cellsB ((acc ++ [46]) ++ [dgB v.toNat])) := by
              rw [cellsB_snoc _ _ HDIG.out] at hown2
              rw [List.length_append, List.length_append]
              exact hown2
            have HBN2 := Lib.hid hb2
            have hBN2 : w2.heap.size ≤ u2.heap.size := hb2.size
            clear hown2 hgrow hb2 ho1
            go_wp2
            go_roundg (gk - 2)
            case measure => exact HN.out.2
            case rel => exact ⟨7, v / 10, acc ++ [46] ++ [dgB v.toNat], rfl, rfl, HN.out.1, hd10, hd10', by omega, by have := lay_len HN.out.1; have := HFL1.out; omega, ho2, HBN2.out⟩
        · have hd7 : decide ((i : Int) < 7) = false := decide_eq_false (by omega)
          have h6b : ((i : Int) == 6) = false := by simp only [beq_eq_false_iff_ne]; omega
          by_cases hpos : 0 < v
          · have hdp : decide (0 < v) = true := decide_eq_true hpos
            have HN := Lib.hid (lay_high HLAY.out hpos (by omega))
            go_wp2_with (at_builtin; refine wpList_append_own _ rfl (.tmp 31) (.tmp 36) 45 rfl w2.heap.size 5 i0 (.int .u8 0) 1 1 Tryd.underlying45 hi hz0 hz1 hz2 rfl (by decide) _ _ _ rfl (hown.alloc _) ⟨wr.heap.size, 0, none⟩ 1 1 [.int .u8 (48 + v % 10)] rfl rfl ?c1 ?c2 ?c3 ?c4 ?c5 ?_)
            case c1 => exact cell_one_new _ _ _
            case c2 => intro u hu; obtain rfl := List.mem_singleton.1 hu; rfl
            case c3 => unfold maxLen; omega
            case c4 => omega
            case c5 => simp; omega
            intro t1 u1 hown1 hgrow _
            have hb1 : RowKit.Below w2.heap.size w2 u1 := (HBW.out.alloc hBw _).grown hgrow (by simp; omega) (fun k hk => (hown.lt k hk).1)
            have ho1 : u1.ownsRow w2.heap.size 5 1 t1 (acc ++ [dgB v.toNat]).length (cellsB (acc ++ [dgB v.toNat])) := by
              rw [cellsB_snoc _ _ HDIG.out] at hown1
              rw [List.length_append]
              exact hown1
            have HBN1 := Lib.hid hb1
            have hBN1 : w2.heap.size ≤ u1.heap.size := hb1.size
            clear hown1 hgrow hb1 hown
            go_wp2
            go_roundg (gk - 1)
            case measure => exact HN.out.2
            case rel => exact ⟨i + 1, v / 10, acc ++ [dgB v.toNat], rfl, by go_num, HN.out.1, hd10, hd10', by have := lay_len HN.out.1; have := HFL1.out; omega, by have := lay_len HN.out.1; have := HFL1.out; omega, ho1, HBN1.out⟩
          · have hv00 : v = 0 := by omega
            subst hv00
            have hacc : acc = F := lay_end HLAY.out (by omega)
            subst hacc
            clear HLAY HDIG hpos
            have hFl8 := HFL0.out
            have hFl28 := HFL1.out
            have HX3 := Lib.hid (HX2.out.below HBW.out)
            have HB3 := Lib.hid (below_then HB2.out HBW.out)
            rcases hown.2 with ⟨h1, h0⟩ | ⟨gb, cap, cur, rfl, hgb0, hgb1, hcap, hcm, hcur, htk⟩
            · exfalso; omega
            · have hcell : ∀ j b, acc[j]? = some b → wr.cell? ⟨gb, j, none⟩ = some (.int .u8 (b.toNat : Int)) := fun j b hj => by
                have := hown.cells (g := gb) rfl j (.int .u8 (b.toNat : Int)) (by unfold cellsB; rw [List.getElem?_map, hj]; rfl)
                rw [Addr.add_mid, Nat.zero_add] at this
                exact this
              have HCELL := Lib.hid hcell
              have hcap2 : (acc.length : Int) ≤ (cap : Int) := by omega
              obtain ⟨len, hlen⟩ : ∃ len, acc.length = len := ⟨_, rfl⟩
              rw [hlen] at hFl8 hFl28 hcap hcap2
              have HLEN := Lib.hid hlen
              have HSK : Hid (SkipR acc Z 6 0) := Lib.hid ⟨rfl, by rw [Nat.zero_add]; exact HZ.out⟩
              clear hcell hown hgb0 hgb1 hcm hcur htk HFL0 HFL1 HBW HZ hal
              rw [hlen]
              clear hlen
              go_wp2
              go_loopg [6] 6 (fun g v6 wr2 => ∃ n : Nat, v6 = .int .i64 n ∧ SkipR acc Z g n ∧ n ≤ 6 ∧ wr2 = wr)
              case atStart => exact ⟨0, rfl, HSK.out, by omega, rfl⟩
              case round =>
                obtain ⟨n, rfl, hsk, hn6, rfl⟩ := hrel
                have HS := Lib.hid hsk
                have hgn : gk + n = 6 := hsk.1
                have HGN := Lib.hid hgn
                clear hsk hgn HSK
                by_cases hlt : n < 6
                · obtain ⟨b, hb⟩ : ∃ b, acc[n]? = some b := ⟨_, List.getElem?_eq_getElem (by have := HLEN.out; omega)⟩
                  have hc0 := HCELL.out n b hb
                  obtain ⟨s1, s2⟩ := skip_on HS.out hlt hb
                  obtain ⟨r, hr⟩ : ∃ r : Int, (b.toNat : Int) = r := ⟨_, rfl⟩
                  rw [hr] at hc0
                  have hd6 : decide ((n : Int) < 6) = true := decide_eq_true (by omega)
                  have hnl : (n : Int) < (len : Int) := by omega
                  by_cases h48 : b = 48
                  · have HN := Lib.hid (s1 h48)
                    have hr48 : r = 48 := by rw [← hr, h48]; rfl
                    subst hr48
                    clear s1 s2 hr hb h48
                    go_wp2
                    go_roundg (gk - 1)
                    case measure => have := HGN.out; omega
                    case rel => exact ⟨n + 1, by go_num, HN.out, by omega, rfl⟩
                  · have hZn := s2 h48
                    have hr48 : (r == 48) = false := beq_eq_false_iff_ne.2 fun h => h48 (UInt8.toNat_inj.1 (show b.toNat = 48 by omega))
                    have hn6b : ((n : Int) == 6) = false := by simp only [beq_eq_false_iff_ne]; omega
                    have HSKIP : Hid (skipT Z = n) := Lib.hid (by unfold skipT; rw [if_neg (by omega), hZn])
                    clear s1 s2 hr hb h48 hZn
                    go_wp2
                    have HX0 := HX3.out
                    obtain ⟨a0, a1, _, _⟩ := HX0
                    go_loopg [7, 8] (len - n) (fun g v7 v8 wr3 => ∃ (m : Nat) (z : Int) (o : ByteArray), v7 = .string o ∧ v8 = .int .i64 z ∧ OutR acc n g m z o ∧ m ≤ len ∧ o.size ≤ 40 ∧ wr3 = wr)
                    case atStart => exact ⟨len, (len : Int) - 1, ⟨#[]⟩, rfl, rfl, ⟨by omega, rfl, by rw [List.drop_eq_nil_of_le (by have := HLEN.out; omega)]; rfl⟩, Nat.le_refl _, by decide, rfl⟩
                    case round =>
                      obtain ⟨m, z, o, rfl, rfl, ⟨hgm, hz, ho⟩, hml, hos, rfl⟩ := hrel
                      have HGM := Lib.hid hgm
                      have HO := Lib.hid ho
                      have HZ2 := Lib.hid hz
                      clear hgm hz ho
                      by_cases hlt3 : n < m
                      · obtain ⟨j, rfl⟩ : ∃ j, m = j + 1 := ⟨m - 1, by omega⟩
                        obtain rfl : z = (j : Int) := by have := HZ2.out; omega
                        obtain ⟨b, hb⟩ : ∃ b, acc[j]? = some b := ⟨_, List.getElem?_eq_getElem (by have := HLEN.out; omega)⟩
                        have hcj := HCELL.out j b hb
                        have hconv : ∀ c, (convert 45 9 (.slice (some ⟨gb, j, none⟩) 1 c)).run Tryd.prog wr = .ok (.string ⟨([b] : List UInt8).toArray⟩) wr := fun c =>
                          run_convert_bytes_back wr 45 9 5 ⟨gb, j, none⟩ c [b] Tryd.underlying45 Tryd.underlying5 Tryd.underlying9 (fun k hk => by
                            have hk0 : k = 0 := by simp at hk; omega
                            subst hk0
                            simpa [Addr.add] using hcj)
                        have HNO : Hid ((o ++ ⟨([b] : List UInt8).toArray⟩).data.toList = (acc.drop j).reverse ∧ (o ++ ⟨([b] : List UInt8).toArray⟩).size ≤ 40) := Lib.hid (by
                          obtain ⟨hl, hbe⟩ := List.getElem?_eq_some_iff.1 hb
                          have e : (o ++ ⟨([b] : List UInt8).toArray⟩).data.toList = (acc.drop j).reverse := by
                            rw [List.drop_eq_getElem_cons hl, hbe, List.reverse_cons, ← HO.out]
                            simp [ByteArray.data_append]
                          refine ⟨e, ?_⟩
                          have hsz : (o ++ ⟨([b] : List UInt8).toArray⟩).size = ((acc.drop j).reverse).length := by rw [← e]; exact Array.length_toList.symm
                          rw [hsz, List.length_reverse, List.length_drop]
                          have := HLEN.out
                          omega)
                        have hge : decide ((j : Int) ≥ (n : Int)) = true := decide_eq_true (by omega)
                        have hn1 : ¬ 9223372036854775807 < o.size + 1 := by omega
                        have hjl : (j : Int) + 1 ≤ (len : Int) := by omega
                        have hjc : (j : Int) + 1 ≤ (cap : Int) := by omega
                        have hjj : (j : Int) ≤ (j : Int) + 1 := by omega
                        have hone : (j : Int) + 1 - (j : Int) = 1 := by omega
                        clear hb hcj
                        go_wp2
                        go_roundg (gk - 1)
                        case measure => have := HGM.out; omega
                        case rel => exact ⟨j, (j : Int) - 1, o ++ ⟨([b] : List UInt8).toArray⟩, rfl, rfl, ⟨by have := HGM.out; omega, rfl, HNO.out.1⟩, by omega, HNO.out.2, rfl⟩
                      · have hm : n = m := by have := HGM.out; omega
                        subst hm
                        have hge : decide (z ≥ (n : Int)) = false := decide_eq_false (by have := HZ2.out; omega)
                        have HOW : Hid (o.data.toList = wholeT va) := Lib.hid (by rw [HO.out, ← HSKIP.out]; exact HBACK.out)
                        have hn2 : ¬ 9223372036854775807 < 1 + o.size := by omega
                        by_cases hneg : va < 0
                        · have hsg : Hid (signT va = [45]) := Lib.hid (if_pos hneg)
                          go_wp2
                          go_ret
                          refine ⟨?_, HB3.out⟩
                          rw [HRES.out, hsg.out, ← HOW.out]
                          show Ending.returned (.string (⟨#[45]⟩ ++ o)) = _
                          congr 2
                        · have hsg : Hid (signT va = []) := Lib.hid (if_neg hneg)
                          go_wp2
                          go_ret
                          refine ⟨?_, HB3.out⟩
                          rw [HRES.out, hsg.out, ← HOW.out, List.nil_append]
                          show Ending.returned (.string o) = _
                          congr 2
                · have hn : n = 6 := by omega
                  subst hn
                  have hZ6 := skip_end HS.out
                  have HSKIP : Hid (skipT Z = 7) := Lib.hid (by unfold skipT; rw [if_pos hZ6])
                  clear hZ6 hlt
                  go_wp2
                  have HX0 := HX3.out
                  obtain ⟨a0, a1, _, _⟩ := HX0
                  go_loopg [7, 8] (len - 7) (fun g v7 v8 wr3 => ∃ (m : Nat) (z : Int) (o : ByteArray), v7 = .string o ∧ v8 = .int .i64 z ∧ OutR acc 7 g m z o ∧ m ≤ len ∧ o.size ≤ 40 ∧ wr3 = wr)
                  case atStart => exact ⟨len, (len : Int) - 1, ⟨#[]⟩, rfl, rfl, ⟨by omega, rfl, by rw [List.drop_eq_nil_of_le (by have := HLEN.out; omega)]; rfl⟩, Nat.le_refl _, by decide, rfl⟩
                  case round =>
                    obtain ⟨m, z, o, rfl, rfl, ⟨hgm, hz, ho⟩, hml, hos, rfl⟩ := hrel
                    have HGM := Lib.hid hgm
                    have HO := Lib.hid ho
                    have HZ2 := Lib.hid hz
                    clear hgm hz ho
                    by_cases hlt3 : 7 < m
                    · obtain ⟨j, rfl⟩ : ∃ j, m = j + 1 := ⟨m - 1, by omega⟩
                      obtain rfl : z = (j : Int) := by have := HZ2.out; omega
                      obtain ⟨b, hb⟩ : ∃ b, acc[j]? = some b := ⟨_, List.getElem?_eq_getElem (by have := HLEN.out; omega)⟩
                      have hcj := HCELL.out j b hb
                      have hconv : ∀ c, (convert 45 9 (.slice (some ⟨gb, j, none⟩) 1 c)).run Tryd.prog wr = .ok (.string ⟨([b] : List UInt8).toArray⟩) wr := fun c =>
                        run_convert_bytes_back wr 45 9 5 ⟨gb, j, none⟩ c [b] Tryd.underlying45 Tryd.underlying5 Tryd.underlying9 (fun k hk => by
                          have hk0 : k = 0 := by simp at hk; omega
                          subst hk0
                          simpa [Addr.add] using hcj)
                      have HNO : Hid ((o ++ ⟨([b] : List UInt8).toArray⟩).data.toList = (acc.drop j).reverse ∧ (o ++ ⟨([b] : List UInt8).toArray⟩).size ≤ 40) := Lib.hid (by
                        obtain ⟨hl, hbe⟩ := List.getElem?_eq_some_iff.1 hb
                        have e : (o ++ ⟨([b] : List UInt8).toArray⟩).data.toList = (acc.drop j).reverse := by
                          rw [List.drop_eq_getElem_cons hl, hbe, List.reverse_cons, ← HO.out]
                          simp [ByteArray.data_append]
                        refine ⟨e, ?_⟩
                        have hsz : (o ++ ⟨([b] : List UInt8).toArray⟩).size = ((acc.drop j).reverse).length := by rw [← e]; exact Array.length_toList.symm
                        rw [hsz, List.length_reverse, List.length_drop]
                        have := HLEN.out
                        omega)
                      have hge : decide ((j : Int) ≥ 7) = true := decide_eq_true (by omega)
                      have hn1 : ¬ 9223372036854775807 < o.size + 1 := by omega
                      have hjl : (j : Int) + 1 ≤ (len : Int) := by omega
                      have hjc : (j : Int) + 1 ≤ (cap : Int) := by omega
                      have hjj : (j : Int) ≤ (j : Int) + 1 := by omega
                      have hone : (j : Int) + 1 - (j : Int) = 1 := by omega
                      clear hb hcj
                      go_wp2
                      go_roundg (gk - 1)
                      case measure => have := HGM.out; omega
                      case rel => exact ⟨j, (j : Int) - 1, o ++ ⟨([b] : List UInt8).toArray⟩, rfl, rfl, ⟨by have := HGM.out; omega, rfl, HNO.out.1⟩, by omega, HNO.out.2, rfl⟩
                    · have hm : 7 = m := by have := HGM.out; omega
                      subst hm
                      have hge : decide (z ≥ 7) = false := decide_eq_false (by have := HZ2.out; omega)
                      have HOW : Hid (o.data.toList = wholeT va) := Lib.hid (by rw [HO.out, ← HSKIP.out]; exact HBACK.out)
                      have hn2 : ¬ 9223372036854775807 < 1 + o.size := by omega
                      by_cases hneg : va < 0
                      · have hsg : Hid (signT va = [45]) := Lib.hid (if_pos hneg)
                        go_wp2
                        go_ret
                        refine ⟨?_, HB3.out⟩
                        rw [HRES.out, hsg.out, ← HOW.out]
                        show Ending.returned (.string (⟨#[45]⟩ ++ o)) = _
                        congr 2
                      · have hsg : Hid (signT va = []) := Lib.hid (if_neg hneg)
                        go_wp2
                        go_ret
                        refine ⟨?_, HB3.out⟩
                        rw [HRES.out, hsg.out, ← HOW.out, List.nil_append]
                        show Ending.returned (.string o) = _
                        congr 2

end Go.Proofs.YteddnomneeonhaaDoor
