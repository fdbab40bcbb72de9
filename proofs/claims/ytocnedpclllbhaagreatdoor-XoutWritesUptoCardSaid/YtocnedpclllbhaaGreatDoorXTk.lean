/-
 A law for a region that draws its order and of which the last operation waits for all others; tokens in a slice of the call's own, and append to it; a document in memory; what All leaves, and its deferred call's two ends. Conditions: the slices lead to what they are said to; they are no longer than 2 to the 20.
-/
import Derived.Test.YtocnedpclllbhaaGreatDoorXL
import Derived.ScopeJumps
import Derived.WalkMore
import Derived.Lib.Fold
import Derived.Laws.RangeAny
import Derived.Lib.DecodeN
import Derived.Deep.RegionHeld
import Derived.Test.YtocnedpclllbhaaGreatDoorFCode
import Derived.Defers
import Derived.Recover
import Derived.Laws.ResultCell
namespace Go.Proofs.YtocnedpclllbhaaGreatDoor
open Go.RowKit Go.Lib

theorem blank_nat (m : Nat) : blankB (m : Int) = pBl m := by
  unfold blankB pBl
  rw [Bool.eq_iff_iff]
  simp only [Bool.or_eq_true, beq_iff_eq]
  omega

theorem string_of {s : ByteArray} {l : List UInt8} (h : s.data.toList = l) : s = ⟨l.toArray⟩ := by
  rw [← h, Lib.mk_data]

end Go.Proofs.YtocnedpclllbhaaGreatDoor
namespace Go.Proofs.YtocnedpclllbhaaGreatDoor
open Go.RowKit Go.Lib Go.Joins

theorem wp_scope_once {P : Program} {a : Act} {w : World} {Q : Exit → Act → World → Prop} {c rest : Code} (l : Nat) (hf : findLabel c l = some rest)
    (h : c.wp P (Exit.jump l (fun a w => rest.wp P (Exit.jump l (fun _ _ => False) Q) a w) Q) a w) : (Code.scope c).wp P Q a w := by
  refine wp_scope_jumps l (fun a w => rest.wp P (Exit.jump l (fun _ _ => False) Q) a w) (fun _ _ => 0) hf h (fun a w hJ => Code.wp_mono (fun e a w hq => ?_) hJ)
  cases e with
  | goto l' => exact hq.2.elim
  | normal => exact hq
  | exit id => exact hq
  | ret => exact hq
  | panic ch => exact hq
  | outgrown => exact hq

set_option maxRecDepth 100000 in
set_option maxHeartbeats 1000000 in
theorem fold_ascii (i : Nat) (hi : i < 128) (W : World) (hE : EnvAt W) : Calls Tryz.prog 82 #[.int .i32 (i : Int)] W fun e w' => e = .returned (.int .i32 (foldN i : Int)) ∧ w' = W := by
  have hc := hE.fold i hi
  have hf : foldN i < 16384 := by unfold foldN; repeat' split
                                  all_goals omega
  obtain ⟨z, hz⟩ : ∃ z, foldN i = z := ⟨_, rfl⟩
  rw [hz] at hc hf ⊢
  have h1 : ¬ ((i : Int) < 0) := by omega
  have h2 : ¬ ((1114111 : Int) < (i : Int)) := by omega
  have hd1 : decide ((i : Int) < 0) = false := decide_eq_false h1
  have hd2 : decide ((1114111 : Int) < (i : Int)) = false := decide_eq_false h2
  have hw : IntKind.i64.wrap (i : Int) = (i : Int) := IntWalk.i64_in _ (by omega)
  have hw2 : IntKind.i32.wrap (z : Int) = (z : Int) := IntWalk.i32_in _ (by omega)
  have h3 : (i : Int) < 128 := by omega
  have h0 : (0 : Int) ≤ (i : Int) := by omega
  clear hz hE
  go_enter Tryz.func82, Tryz.ntmps82
  go_wp2_with fail
  go_ret
  exact ⟨rfl, rfl⟩
set_option maxRecDepth 100000 in
set_option maxHeartbeats 1000000 in
theorem decodeS_ascii (s : ByteArray) (x : UInt8) (t : List UInt8) (hs : s.data.toList = x :: t) (hx : x.toNat < 128) (W : World) : Calls Tryz.prog 81 #[.string s] W fun e w' => e = .returned (.tuple #[.int .i32 (x.toNat : Int), .int .i64 1]) ∧ w' = W := by
  have hsz : 0 < s.size := by rw [Lib.size_eq, hs]; exact Nat.succ_pos _
  have hg : s[0]'hsz = x := by
    have h := Lib.data_getElem? s 0 hsz
    rw [hs] at h
    exact (Option.some.inj h).symm
  have hne : s.toList.isEmpty = false := by rw [Go.Lib.toList_data, hs]; rfl
  have hz0 : (0 : Int) < (s.size : Int) := by omega
  have hd : decide ((x.toNat : Int) < 128) = true := decide_eq_true (by omega)
  have hw : IntKind.i32.wrap (x.toNat : Int) = (x.toNat : Int) := IntWalk.i32_in _ (by omega)
  clear hs
  go_enter Tryz.func81, Tryz.ntmps81
  go_wp2_with fail
  go_ret2
  exact ⟨rfl, rfl⟩
theorem foldEq_small (x : UInt8) : ∀ y, y ∈ ([120, 109, 108, 117, 116, 102, 45, 56] : List UInt8) → Lib.foldEq x y = (smallS x == y) := by
  intro y hy
  have h : ((List.range 256).all fun n => ([120, 109, 108, 117, 116, 102, 45, 56] : List UInt8).all fun y => Lib.foldEq (UInt8.ofNat n) y == (smallS (UInt8.ofNat n) == y)) = true := by decide +kernel
  have h1 := List.all_eq_true.1 (List.all_eq_true.1 h x.toNat (List.mem_range.2 x.toNat_lt)) y hy
  rw [UInt8.ofNat_toNat] at h1
  exact beq_iff_eq.1 h1
theorem equal_same : ∀ (s m : List UInt8), (∀ y, y ∈ m → y ∈ ([120, 109, 108, 117, 116, 102, 45, 56] : List UInt8)) → Lib.equalFold s m = sameS s m
  | [], [], _ => rfl
  | [], y :: t, _ => rfl
  | x :: s, [], _ => rfl
  | x :: s, y :: t, h => by
    rw [Lib.equalFold, foldEq_small x y (h y (List.mem_cons_self ..)), equal_same s t (fun z hz => h z (List.mem_cons_of_mem _ hz))]
    rfl

end Go.Proofs.YtocnedpclllbhaaGreatDoor
namespace Go.Proofs.YtocnedpclllbhaaGreatDoor
open Go.RowKit Go.Lib Go.Joins

def goodM : List UInt8 := [120, 109, 108, 117, 116, 102, 45, 56]
set_option maxRecDepth 100000 in
set_option maxHeartbeats 16000000 in
theorem fold_high (ms ts : ByteArray) (m : List UInt8) (hts : ts.data.toList = m) (hm : ∀ y, y ∈ m → y ∈ goodM) (W : World) (hE : EnvAt W) (hs : ms.size ≤ 1073741824) (_ht : ts.size ≤ 10) (hhigh : ∃ (j : Nat) (b : UInt8), ms.data.toList[j]? = some b ∧ 128 ≤ b.toNat) : Calls Tryz.prog 64 #[.string ms, .string ts] W (Leaves (.bool false) W) := by
  have HH := Lib.hid hhigh
  have HT := Lib.hid (show ∀ (j : Nat) b, ts.data.toList[j]? = some b → b ∈ goodM from fun j b hj => hm b (by rw [← hts]; exact List.mem_of_getElem? hj))
  have HE := Lib.hid hE
  obtain ⟨M, hM⟩ : ∃ M : Nat, min (ms.size : Int) (ts.size : Int) = (M : Int) := ⟨min ms.size ts.size, by omega⟩
  have hMs : M ≤ ms.size := by omega
  have hMt : M ≤ ts.size := by omega
  have hMe : M = ms.size ∨ M = ts.size := by omega
  clear hhigh hts hm hE
  go_enter Tryz.func64, Tryz.ntmps64
  go_wp2_with fail
  refine wp_scope_once 0 rfl ?_
  go_wp2_with fail
  go_loopg [5] M (fun g s5 wx => wx = W ∧ ∃ i : Nat, i + g = M ∧ s5 = .int .i64 (i : Int) ∧ ∀ (j : Nat) (b : UInt8), j < i → ms.data.toList[j]? = some b → b.toNat < 128)
  case atStart => exact ⟨rfl, 0, by omega, rfl, fun j b hj => by omega⟩
  case round =>
    obtain ⟨rfl, i, hig, rfl, hinv⟩ := hrel
    have HI := Lib.hid hinv
    clear hinv hM
    cases gk with
    | zero =>
      have hiM : ¬ ((i : Int) < (M : Int)) := by omega
      obtain rfl : i = M := by omega
      have hne : ms.size ≠ ts.size := by
        intro he
        obtain ⟨j, b, hj, hb⟩ := HH.out
        have hjl : j < ms.data.toList.length := (List.getElem?_eq_some_iff.1 hj).1
        have := HI.out j b (by rw [← Lib.size_eq] at hjl; omega) hj
        omega
      have hb : ((ms.size : Int) == (ts.size : Int)) = false := beq_eq_false_iff_ne.2 (by omega)
      go_wp2_with fail
      go_ret
      exact ⟨rfl, Below.refl _ _⟩
    | succ g =>
      have hiM : (i : Int) < (M : Int) := by omega
      have hisz : (i : Int) < (ms.size : Int) := by omega
      have hitz : (i : Int) < (ts.size : Int) := by omega
      obtain ⟨x, hx⟩ : ∃ x : UInt8, ms[i]'(by omega) = x := ⟨_, rfl⟩
      obtain ⟨y, hy⟩ : ∃ y : UInt8, ts[i]'(by omega) = y := ⟨_, rfl⟩
      have hxl : ms.data.toList[i]? = some x := by rw [← hx]; exact Lib.data_getElem? ms i (by omega)
      have hyl : ts.data.toList[i]? = some y := by rw [← hy]; exact Lib.data_getElem? ts i (by omega)
      have hyg := HT.out i y hyl
      have hy128 : y.toNat < 128 := by
        have h : ∀ z, z ∈ goodM → z.toNat < 128 := by decide
        exact h y hyg
      have hor : bits .or .u8 (x.toNat : Int) (y.toNat : Int) = ((x.toNat ||| y.toNat : Nat) : Int) := u8_or_nat _ _ x.toNat_lt (by omega)
      have hadd : IntKind.i64.wrap ((i : Int) + 1) = ((i + 1 : Nat) : Int) := IntWalk.i64_in _ (by omega)
      have HX := Lib.hid hxl
      have HY := Lib.hid hyl
      have HYG := Lib.hid hyg
      clear hxl hyl hyg
      by_cases hx128 : x.toNat < 128
      · have hor128 : ¬ ((128 : Int) ≤ ((x.toNat ||| y.toNat : Nat) : Int)) := by have := Nat.or_lt_two_pow (n := 7) hx128 hy128; omega
        go_wp2_with fail
        all_goals (try simp only [beq_iff_eq, beq_eq_false_iff_ne, ne_eq] at *)
        all_goals first
          | (go_roundg g
             case measure => omega
             case rel => exact ⟨rfl, i + 1, by omega, by first | rfl | simp, fun j b hj hb => by
               by_cases hji : j = i
               · subst hji
                 have := HX.out
                 rw [hb] at this
                 cases this
                 exact hx128
               · exact HI.out j b (by omega) hb⟩)
          | (go_ret
             exact ⟨rfl, Below.refl _ _⟩)
      · have hor128 : (128 : Int) ≤ ((x.toNat ||| y.toNat : Nat) : Int) := by have := Nat.left_le_or (n := x.toNat) (m := y.toNat); omega
        obtain ⟨s2, hs2⟩ : ∃ z, ms.extract i ms.size = z := ⟨_, rfl⟩
        obtain ⟨t2, ht2⟩ : ∃ z, ts.extract i ts.size = z := ⟨_, rfl⟩
        have hext : ∀ (b : ByteArray) (j : Nat) (z : UInt8), b.data.toList[j]? = some z → (b.extract j b.size).data.toList = z :: b.data.toList.drop (j + 1) := by
          intro b j z hz
          have hlt := (List.getElem?_eq_some_iff.1 hz).1
          have h1 : (b.extract j b.size).data.toList = b.data.toList.drop j := by
            rw [ByteArray.data_extract, Array.toList_extract, List.extract_eq_take_drop]
            exact List.take_of_length_le (by rw [List.length_drop, Lib.size_eq]; omega)
          rw [h1, List.drop_eq_getElem_cons hlt]
          rw [List.getElem?_eq_getElem hlt] at hz
          rw [Option.some.inj hz]
        have hs2l := hext ms i x HX.out
        have ht2l := hext ts i y HY.out
        rw [hs2] at hs2l
        rw [ht2] at ht2l
        have hs2z : 0 < s2.size := by rw [Lib.size_eq, hs2l]; exact Nat.succ_pos _
        have ht2z : 1 ≤ t2.size := by rw [Lib.size_eq, ht2l]; exact Nat.succ_pos _
        have ht2i : (1 : Int) ≤ (t2.size : Int) := by omega
        have ht2e : ((t2.size : Int) == 0) = false := beq_eq_false_iff_ne.2 (by omega)
        have hD : 128 ≤ (Utf8.decode s2 0).1 := by
          rw [Lib.decode_at]
          refine decodeN_high _ _ _ _ _ ?_
          have : s2.get! 0 = x := by
            have h := Lib.data_getElem? s2 0 hs2z
            rw [hs2l] at h
            have h2 : s2[0]'hs2z = x := (Option.some.inj h).symm
            rw [← h2]
            exact getElem!_pos s2.data 0 hs2z
          rw [this]
          omega
        have HDE := Lib.hid (fun w => decodeS_ascii t2 y _ ht2l hy128 w)
        have hfold : foldN y.toNat = y.toNat ∨ (foldN y.toNat ≠ y.toNat ∧ foldN y.toNat < 128 ∧ foldN (foldN y.toNat) = y.toNat) := by
          have h : ∀ z, z ∈ goodM → (foldN z.toNat = z.toNat ∨ (foldN z.toNat ≠ z.toNat ∧ foldN z.toNat < 128 ∧ foldN (foldN z.toNat) = z.toNat)) := by decide
          exact h y HYG.out
        have hin0 : (0 : Int) ≤ (i : Int) := by omega
        have hin1 : (i : Int) ≤ (ms.size : Int) := by omega
        have hin2 : (i : Int) ≤ (ts.size : Int) := by omega
        have hF0 := fun w (hw : EnvAt w) => fold_ascii y.toNat hy128 w hw
        have hF1 := fun w (hw : EnvAt w) (h : foldN y.toNat < 128) => fold_ascii (foldN y.toNat) h w hw
        obtain ⟨D, hDD⟩ : ∃ D, (Utf8.decode s2 0).1 = D := ⟨_, rfl⟩
        have hnx := fun ty => run_next_any (P := Tryz.prog) wr s2 0 ty hs2z
        rw [hDD] at hnx hD
        have HB1 : Hid (Below wr.heap.size wr (wr.iter s2 (0 + (Utf8.decode s2 0).2))) := Lib.hid ((Below.refl _ _).alloc (Nat.le_refl _) _)
        obtain ⟨w1, hw1⟩ : ∃ z, wr.iter s2 (0 + (Utf8.decode s2 0).2) = z := ⟨_, rfl⟩
        rw [hw1] at hnx HB1
        obtain ⟨yn, hyn⟩ : ∃ z, y.toNat = z := ⟨_, rfl⟩
        rw [hyn] at hfold hF0 hF1 hy128 HDE hor hor128
        have hne1 : ((yn : Int) == (D : Int)) = false := beq_eq_false_iff_ne.2 (by omega)
        have hlt1 : (yn : Int) < (D : Int) := by omega
        have hge1 : ¬ ((D : Int) < 128) := by omega
        obtain ⟨fn, hfn⟩ : ∃ z, foldN yn = z := ⟨_, rfl⟩
        rw [hfn] at hfold hF0 hF1
        have HF0 := Lib.hid hF0
        have HF1 := Lib.hid hF1
        clear hF0 hF1 hfn hw1 hDD hext hs2l ht2l
        go_wp2_with fail
        go_step3
        refine ⟨rfl, ?_⟩
        go_wp2_with fail
        refine wp_loop_rounds 1 ?_
        rw [rounds_succ]
        go_wp2_with fail
        with_reducible refine (HDE.out _).mono ?_
        rintro e wy ⟨rfl, hw⟩
        have hw' := hw.symm
        subst hw'
        clear hw
        go_wp2_with fail
        have HEW : Hid (EnvAt w1) := Lib.hid (HE.out.below HB1.out)
        with_reducible refine (HF0.out _ HEW.out).mono ?_
        rintro e wz ⟨rfl, hw⟩
        have hw' := hw.symm
        subst hw'
        clear hw
        rcases hfold with he | ⟨he1, he2, he3⟩
        · have hq1 : ((fn : Int) != (yn : Int)) = false := by rw [he]; exact bne_self_eq_false _
          have hq2 : ((fn : Int) == (D : Int)) = false := by rw [he]; exact hne1
          clear he
          go_wp2_with fail
          refine wp_loop_rounds 1 ?_
          rw [rounds_succ]
          go_wp2_with fail
          go_ret
          exact ⟨rfl, HB1.out⟩
        · have hq1 : ((fn : Int) != (yn : Int)) = true := by rw [bne_iff_ne]; omega
          have hq2 : (fn : Int) < (D : Int) := by omega
          have hq4 : ((yn : Int) != (yn : Int)) = false := bne_self_eq_false _
          have HF2 := Lib.hid (HF1.out _ HEW.out he2)
          rw [he3] at HF2
          clear he1 he2 he3
          go_wp2_with fail
          refine wp_loop_rounds 2 ?_
          rw [rounds_succ]
          go_wp2_with fail
          with_reducible refine HF2.out.mono ?_
          rintro e wz ⟨rfl, hw⟩
          have hw' := hw.symm
          subst hw'
          clear hw
          go_wp2_with fail
          rw [rounds_succ]
          go_wp2_with fail
          go_ret
          exact ⟨rfl, HB1.out⟩

theorem sameS_low {s m : List UInt8} (hm : ∀ y, y ∈ m → y ∈ goodM) (h : sameS s m = true) : ∀ b, b ∈ s → b.toNat < 128 := by
  intro b hb
  have h2 : s.map smallS = m := beq_iff_eq.1 h
  have h3 : smallS b ∈ m := by rw [← h2]; exact List.mem_map_of_mem hb
  have h4 : ∀ z, z ∈ goodM → z.toNat < 128 := by decide
  have h5 := h4 _ (hm _ h3)
  unfold smallS at h5
  split at h5
  · rename_i hr
    have := UInt8.le_iff_toNat_le.1 hr.2
    have h90 : (90 : UInt8).toNat = 90 := rfl
    omega
  · exact h5
theorem fold_calls (ms : ByteArray) (m : List UInt8) (hm : m = [120, 109, 108] ∨ m = [117, 116, 102, 45, 56]) (W : World) (hE : EnvAt W) (hs : ms.size ≤ 1073741824) : Calls Tryz.prog 64 #[.string ms, .string (strB m)] W (Leaves (.bool (sameS ms.data.toList m)) W) := by
  have hg : ∀ y, y ∈ m → y ∈ goodM := by
    rcases hm with rfl | rfl <;> decide
  by_cases hh : ∃ (j : Nat) (b : UInt8), ms.data.toList[j]? = some b ∧ 128 ≤ b.toNat
  · have hf : sameS ms.data.toList m = false := by
      cases hc : sameS ms.data.toList m with
      | false => rfl
      | true =>
        obtain ⟨j, b, hj, hb⟩ := hh
        have := sameS_low hg hc b (List.mem_of_getElem? hj)
        omega
    rw [hf]
    exact fold_high ms (strB m) m (strB_list m) hg W hE hs (by rw [strB_size]; rcases hm with rfl | rfl <;> decide) hh
  · have hlow : ∀ (j : Nat) b, ms.data.toList[j]? = some b → b.toNat < 128 := fun j b hj => by
      rcases Nat.lt_or_ge b.toNat 128 with h | h
      · exact h
      · exact absurd ⟨j, b, hj, h⟩ hh
    have h := Tryz.strings_EqualFold ms (strB m) W (by omega) hlow (fun j b hj => by
      rw [strB_list] at hj
      have h4 : ∀ z, z ∈ goodM → z.toNat < 128 := by decide
      exact h4 _ (hg _ (List.mem_of_getElem? hj)))
    rw [strB_list, equal_same _ _ (fun y hy => hg y hy)] at h
    refine h.mono ?_
    rintro e w' ⟨rfl, rfl⟩
    exact ⟨rfl, Below.refl _ _⟩

end Go.Proofs.YtocnedpclllbhaaGreatDoor
namespace Go.Proofs.YtocnedpclllbhaaGreatDoor
open Go.RowKit Go.Lib Go.Joins

end Go.Proofs.YtocnedpclllbhaaGreatDoor
namespace Go.Proofs.YtocnedpclllbhaaGreatDoor
open Go.RowKit Go.Lib Go.Joins

def enc : List UInt8 := [101, 110, 99, 111, 100, 105, 110, 103]
theorem str_eq (l m : List UInt8) : ((strB l).toList == m) = (l == m) := by
  rw [Go.Lib.toList_data, strB_list]
end Go.Proofs.YtocnedpclllbhaaGreatDoor
namespace Go.Proofs.YtocnedpclllbhaaGreatDoor
open Go

section
variable {P : Program} {ops : Array Oper} {Q : Exit → Act → World → Prop} {md : Region.Mode} {S : World → Prop} {z : Nat}

/-- Whatever order is picked from here on, and S holds behind every operation but number z. -/
def wpAnyZ (P : Program) (md : Region.Mode) (ops : Array Oper) (Q : Exit → Act → World → Prop) (S : World → Prop) (z : Nat) : Nat → Array Bool → Act → World → Prop
  | 0, listed, a, w => Region.ready md ops listed = [] ∧ Q .normal a w
  | fuel + 1, listed, a, w =>
    (Region.ready md ops listed = [] → Q .normal a w) ∧
    ∀ i ∈ Region.ready md ops listed, wpOp P ops Q i (fun a' w' => (i = z ∨ S w') ∧ wpAnyZ P md ops Q S z fuel (listed.setIfInBounds i true) a' w') a w

theorem wpAny_of_z : ∀ (fuel : Nat) (listed : Array Bool) (a : Act) (w : World), wpAnyZ P md ops Q S z fuel listed a w → wpAny P md ops Q fuel listed a w
  | 0, _, _, _, h => h
  | fuel + 1, _, _, _, h => ⟨h.1, fun i hi => wpOp_mono (fun a' w' h' => wpAny_of_z fuel _ a' w' h'.2) (h.2 i hi)⟩

/-- Whatever is listed has all listed that it waits for. -/
def Closed (md : Region.Mode) (ops : Array Oper) (listed : Array Bool) : Prop :=
  ∀ j o, ops[j]? = some o → listed.getD j false = true → ∀ e ∈ o.after, Region.binds md e = true → listed.getD e.on false = true
def closedB (md : Region.Mode) (ops : Array Oper) (listed : Array Bool) : Bool :=
  (List.range ops.size).all fun j => !listed.getD j false || ((ops[j]?).map (·.after.toList.all fun e => !Region.binds md e || listed.getD e.on false)).getD true
theorem closedB_spec {listed : Array Bool} (h : closedB md ops listed = true) : Closed md ops listed := by
  intro j o ho hj e he hb
  unfold closedB at h
  have hlt : j < ops.size := (Array.getElem?_eq_some_iff.1 ho).1
  have h1 := List.all_eq_true.1 h j (List.mem_range.2 hlt)
  rw [hj, ho] at h1
  simp only [Bool.not_true, Bool.false_or, Option.map_some, Option.getD_some] at h1
  have h2 := List.all_eq_true.1 h1 e (Array.mem_toList_iff.2 he)
  rw [hb] at h2
  simpa using h2
theorem getD_set {listed : Array Bool} {i j : Nat} (h : listed.getD j false = true) : (listed.setIfInBounds i true).getD j false = true := by
  by_cases hij : i = j
  · subst hij
    rcases Nat.lt_or_ge i listed.size with h' | h'
    · simp [h']
    · simp [Array.getElem?_eq_none h'] at h
  · rw [getD_set_ne false hij]; exact h
theorem Closed.step {listed : Array Bool} (h : Closed md ops listed) {i : Nat} (hi : i ∈ Region.ready md ops listed) : Closed md ops (listed.setIfInBounds i true) := by
  intro j o ho hj e he hb
  by_cases hij : i = j
  · subst hij
    obtain ⟨_, o', ho', hall⟩ := mem_ready.1 hi
    rw [ho] at ho'
    obtain rfl := Option.some.inj ho'
    exact getD_set (hall e he hb)
  · rw [getD_set_ne false hij] at hj
    exact getD_set (h j o ho hj e he hb)

/-- Number n waits for number i, through others. -/
def waits (md : Region.Mode) (ops : Array Oper) : Nat → Nat → Nat → Bool
  | 0, _, _ => false
  | fuel + 1, n, i => match ops[n]? with
    | none => false
    | some o => o.after.toList.any fun e => Region.binds md e && (e.on == i || waits md ops fuel e.on i)
theorem waits_spec {listed : Array Bool} (hc : Closed md ops listed) {i : Nat} : ∀ (fuel n : Nat) (o : Oper), ops[n]? = some o → waits md ops fuel n i = true →
    (∀ e ∈ o.after, Region.binds md e = true → listed.getD e.on false = true) → listed.getD i false = true
  | 0, n, o, _, h, _ => by cases h
  | fuel + 1, n, o, ho, h, hall => by
    unfold waits at h
    rw [ho] at h
    obtain ⟨e, he, h2⟩ := List.any_eq_true.1 h
    rw [Bool.and_eq_true, Bool.or_eq_true] at h2
    obtain ⟨hb, h3⟩ := h2
    have hl := hall e (Array.mem_toList_iff.1 he) hb
    rcases h3 with h3 | h3
    · rw [← beq_iff_eq.1 h3]; exact hl
    · cases fuel with
      | zero => cases h3
      | succ fuel =>
        cases hoe : ops[e.on]? with
        | none => unfold waits at h3; rw [hoe] at h3; cases h3
        | some oe => exact waits_spec hc (fuel + 1) e.on oe hoe h3 (hc e.on oe hoe hl)

theorem wpAnyZ_first {i f : Nat} {oi : Oper} {v : Value} (hi : ops[i]? = some oi) (hsel : ∀ (j : Nat) (o : Oper) cs b, ops[j]? = some o → o.op ≠ .select cs b)
    (hQ : ∀ c a w, Q (.panic c) (a.put oi.dst v) w → Q (.panic c) a w) (hz : waits md ops f z i = true) :
    ∀ (fuel : Nat) (listed : Array Bool) (a : Act) (w : World), Closed md ops listed →
      (∀ j oj, ops[j]? = some oj → j ≠ i → listed.getD j true = false → (∀ e ∈ oj.after, Region.binds md e = true → e.on ≠ i) → oi.apart ops oj = true) →
      i ∈ Region.ready md ops listed → YieldsIf P ops S oi v a → S w →
      wpAnyZ P md ops Q S z fuel (listed.setIfInBounds i true) (a.put oi.dst v) w → wpAnyZ P md ops Q S z (fuel + 1) listed a w := by
  intro fuel
  induction fuel with
  | zero =>
    intro listed a w _ _ hr hy hS H
    refine ⟨fun h => (by rw [h] at hr; cases hr), fun j hj => ?_⟩
    by_cases hji : j = i
    · subst hji; exact hy.wpOp hi hS ⟨.inr hS, H⟩
    · have := ready_mono hj hji
      rw [H.1] at this
      cases this
  | succ fuel ih =>
    intro listed a w hcl hfree hr hy hS H
    refine ⟨fun h => (by rw [h] at hr; cases hr), fun j hj => ?_⟩
    by_cases hji : j = i
    · subst hji; exact hy.wpOp hi hS ⟨.inr hS, H⟩
    · have h1 := H.2 j (ready_mono hj hji)
      obtain ⟨hjun, oj, hoj, hall⟩ := mem_ready.1 hj
      have hiun : listed.getD i false = false := by
        have h0 := (mem_ready.1 hr).1
        rcases Nat.lt_or_ge i listed.size with h' | h'
        · simp [h'] at h0 ⊢; exact h0
        · simp [Array.getElem?_eq_none h'] at h0
      have hjz : j ≠ z := by
        rintro rfl
        have := waits_spec hcl f j oj hoj hz hall
        rw [hiun] at this
        cases this
      have hnot : ∀ e ∈ oj.after, Region.binds md e = true → e.on ≠ i := fun e he hb heq => by
        have h1 := hall e he hb
        rw [heq, hiun] at h1
        cases h1
      have h2 := wpOp_putIf hoj (hfree j oj hoj hji hjun hnot) (fun cs b => hsel i oi cs b hi) (fun cs b => hsel j oj cs b hoj) hQ hy h1
      have hfree' : ∀ k ok, ops[k]? = some ok → k ≠ i → (listed.setIfInBounds j true).getD k true = false →
          (∀ e ∈ ok.after, Region.binds md e = true → e.on ≠ i) → oi.apart ops ok = true := fun k ok hk hki hun hno => by
        refine hfree k ok hk hki ?_ hno
        by_cases hjk : j = k
        · subst hjk; exact hjun
        · rw [getD_set_ne true hjk] at hun; exact hun
      refine wpOp_mono (fun a' w' h3 => ?_) h2
      have hS' : S w' := h3.2.1.resolve_left hjz
      refine ⟨.inr hS', ih (listed.setIfInBounds j true) a' w' (hcl.step hj) hfree' (ready_mono hr (Ne.symm hji)) h3.1 hS' ?_⟩
      rw [Array.setIfInBounds_comm _ _ hji]
      exact h3.2.2

/-- Take number i first. -/
theorem wpAnyZ_take {i f : Nat} {oi : Oper} {v : Value} {fuel : Nat} {listed : Array Bool} {a : Act} {w : World} (hi : ops[i]? = some oi)
    (hs : Region.noSelect ops = true) (hf : Region.free md ops listed i = true) (hr : (Region.ready md ops listed).contains i = true) (hz : waits md ops f z i = true) (hc : closedB md ops listed = true)
    (hQ : ∀ c a w, Q (.panic c) (a.put oi.dst v) w → Q (.panic c) a w) (hy : YieldsIf P ops S oi v a) (hS : S w)
    (h : wpAnyZ P md ops Q S z fuel (listed.setIfInBounds i true) (a.put oi.dst v) w) : wpAnyZ P md ops Q S z (fuel + 1) listed a w :=
  wpAnyZ_first hi (Region.noSelect_spec hs) hQ hz fuel listed a w (closedB_spec hc) (Region.free_spec hi hf) (by simpa using hr) hy hS h

/-- One operation alone may come up. -/
theorem wpAnyZ_one {i : Nat} {o : Oper} {fuel : Nat} {listed : Array Bool} {a : Act} {w : World} (hr : Region.ready md ops listed = [i]) (ho : ops[i]? = some o)
    (h : ∀ K' : Act → World → Prop, Shut (∀ a w, S w → (S w → wpAnyZ P md ops Q S z fuel (listed.setIfInBounds i true) a w) → K' a w) → if Region.wanted o (yielded ops a.tmps) = true then Oper.wp P o a w K' Q else K' (a.put o.dst undef) w) :
    wpAnyZ P md ops Q S z (fuel + 1) listed a w := by
  refine ⟨fun h0 => (by rw [hr] at h0; cases h0), fun j hj => ?_⟩
  rw [hr] at hj
  obtain rfl := List.mem_singleton.1 hj
  exact wpOp_step ho (fun K' hK => h K' (fun a w hS hW => hK a w ⟨.inr hS, hW hS⟩))
/-- The last one. -/
theorem wpAnyZ_last {o : Oper} {fuel : Nat} {listed : Array Bool} {a : Act} {w : World} (hr : Region.ready md ops listed = [z]) (ho : ops[z]? = some o) (hd : Region.ready md ops (listed.setIfInBounds z true) = [])
    (h : ∀ K' : Act → World → Prop, Shut (∀ a w, Q .normal a w → K' a w) → if Region.wanted o (yielded ops a.tmps) = true then Oper.wp P o a w K' Q else K' (a.put o.dst undef) w) :
    wpAnyZ P md ops Q S z (fuel + 1) listed a w := by
  refine ⟨fun h0 => (by rw [hr] at h0; cases h0), fun j hj => ?_⟩
  rw [hr] at hj
  obtain rfl := List.mem_singleton.1 hj
  refine wpOp_step ho (fun K' hK => h K' (fun a w hq => hK a w ⟨.inl rfl, ?_⟩))
  cases fuel with
  | zero => exact ⟨hd, hq⟩
  | succ fuel => exact ⟨fun _ => hq, fun i hi => by rw [hd] at hi; cases hi⟩
/-- The beginning. -/
theorem wp_region_z {id : Nat} {a : Act} {w : World} (z : Nat) (hm : P.follows .mixedOrders = true) (hS : S w.drew)
    (h : S w.drew → wpAnyZ P .any ops Q S z ops.size (Array.replicate ops.size false) a w.drew) : (Code.region id ops true).wp P Q a w :=
  wp_region_any hm (wpAny_of_z _ _ _ _ (h hS))

end
end Go.Proofs.YtocnedpclllbhaaGreatDoor
namespace Go.Proofs.YtocnedpclllbhaaGreatDoor
open Go.RowKit Go.Lib Go.Joins

/-- A document's bytes in memory. -/
structure DocAt (w : World) (a : Option Addr) (c : Nat) (l : List UInt8) : Prop where
  row : l.length = 0 ∨ ∃ b o, a = some ⟨b, o, none⟩ ∧ ∀ k, k < l.length → w.cell? ⟨b, o + k, none⟩ = some (.int .u8 (fs l k : Int))
  nul : a = none → c = 0
  cap : l.length ≤ c
  most : c ≤ maxLen
theorem DocAt.row8 {w : World} {a : Option Addr} {c : Nat} {l : List UInt8} (h : DocAt w a c l) : Row8 w a l.length (fs l) :=
  ⟨fs_lt l, by have := h.cap; have := h.most; unfold maxLen at this; omega, h.row⟩
theorem DocAt.keep {w w' : World} {a : Option Addr} {c : Nat} {l : List UInt8} (h : DocAt w a c l) (hb : Below w.heap.size w w') : DocAt w' a c l where
  row := by
    rcases h.row with h0 | ⟨b, o, h1, h2⟩
    · exact .inl h0
    · exact .inr ⟨b, o, h1, fun k hk => (hb.cell (lt_of_cell (h2 k hk))).trans (h2 k hk)⟩
  nul := h.nul
  cap := h.cap
  most := h.most
end Go.Proofs.YtocnedpclllbhaaGreatDoor
namespace Go.Proofs.YtocnedpclllbhaaGreatDoor
open Go.RowKit Go.Lib Go.Joins

end Go.Proofs.YtocnedpclllbhaaGreatDoor
