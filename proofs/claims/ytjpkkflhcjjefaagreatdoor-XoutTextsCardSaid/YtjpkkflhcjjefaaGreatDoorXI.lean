/-
 bytes.IndexAny at whatever bytes, by its four roads, and what it calls.
-/
import Derived.Test.YtjpkkflhcjjefaaGreatDoorXC
import Derived.Shelf.Bytes.SlTrimWalks
import Derived.Lib.Bytealg
import Derived.Lib.IndexAny
import Derived.Deep.WholeRow
import Derived.Laws.RangeString
import Derived.Laws.Strings3
namespace Go.Proofs.YtjpkkflhcjjefaaGreatDoor
open Go.RowKit Go.Lib Go.Joins
set_option maxHeartbeats 32000000
def setRen : Go.Shelf.Ren := ⟨fun | 11 => 178 | 16 => 179 | n => n, fun | 27 => 230 | 31 => 244 | n => n, fun n => n⟩
theorem lays11 : Go.Proofs.SlLaysV.n11 Tryz.prog setRen := {
 mixed := by kernel_rfl
 f11 := Tryz.func178.trans (congrArg some (by kernel_rfl))
 t0 := Tryz.underlying0
 a0 := Tryz.isAgg0
 z0 := Tryz.sizeOf0
 v0 := Tryz.zeroValue0
 t3 := Tryz.underlying3
 a3 := Tryz.isAgg3
 z3 := Tryz.sizeOf3
 v3 := Tryz.zeroValue3
 t4 := Tryz.underlying4
 a4 := Tryz.isAgg4
 z4 := Tryz.sizeOf4
 v4 := Tryz.zeroValue4
 t5 := Tryz.underlying5
 a5 := Tryz.isAgg5
 z5 := Tryz.sizeOf5
 v5 := Tryz.zeroValue5
 t9 := Tryz.underlying9
 a9 := Tryz.isAgg9
 z9 := Tryz.sizeOf9
 v9 := Tryz.zeroValue9
 t27 := Tryz.underlying230
 a27 := Tryz.isAgg230
 z27 := Tryz.sizeOf230
}
theorem lays16 : Go.Proofs.SlLaysV.n16 Tryz.prog setRen := {
 mixed := by kernel_rfl
 f16 := Tryz.func179.trans (congrArg some (by kernel_rfl))
 t0 := Tryz.underlying0
 a0 := Tryz.isAgg0
 z0 := Tryz.sizeOf0
 v0 := Tryz.zeroValue0
 t4 := Tryz.underlying4
 a4 := Tryz.isAgg4
 z4 := Tryz.sizeOf4
 v4 := Tryz.zeroValue4
 t5 := Tryz.underlying5
 a5 := Tryz.isAgg5
 z5 := Tryz.sizeOf5
 v5 := Tryz.zeroValue5
 t27 := Tryz.underlying230
 a27 := Tryz.isAgg230
 z27 := Tryz.sizeOf230
 t31 := Tryz.underlying244
 a31 := Tryz.isAgg244
 z31 := Tryz.sizeOf244
 v31 := Tryz.zeroValue244
}
theorem info167 : (Tryz.prog.info? 230).map (fun i => (i.zero, i.size)) = some (some (.agg (Array.replicate 256 (.bool false))), 256) := by kernel_rfl
theorem set_calls (chars : ByteArray) (w : World) (hs : chars.size < 4294967281) (ha : ∀ (j : Nat) b, chars.data.toList[j]? = some b → b.toNat < 128) : Calls Tryz.prog 178 #[.string chars] w fun e w' => e = .returned (.tuple #[.agg (Lib.setCells chars.data.toList), .bool true]) ∧ w' = w.alloc (.cells (Lib.setCells chars.data.toList) 230) :=
 Any.bytes_makeASCIISet lays11 (zero_of_info info167).1 (zero_of_info info167).2 chars w hs ha
theorem contains_calls (b : Nat) (x : UInt8) (v : Bool) (w : World) (hc : w.cell? ⟨b, x.toNat, none⟩ = some (.bool v)) : Calls Tryz.prog 179 #[.pointer (some ⟨b, 0, none⟩), .int .u8 x.toNat] w fun e w' => e = .returned (.bool v) ∧ w' = w :=
 Any.bytes_asciiSet_contains lays16 b x v w hc
theorem should_calls (n : Int) (w : World) : Calls Tryz.prog 177 #[.int .i64 n] w fun e w' => e = .returned (.bool (decide (8 < n))) ∧ w' = w := by
 go_enter Tryz.func177, Tryz.ntmps177
 go_wp2
 go_ret
 exact ⟨rfl, rfl⟩
theorem byteIn (ms : ByteArray) (x : UInt8) (w : World) : (callFunc 167 #[.string ms, .int .u8 (x.toNat : Int)]).run Tryz.prog w = .ok (.value (.int .i64 (Lib.indexByte ms.data.toList x))) w := by
 rw [run_callFunc_extern (e := Extern.BytealgIndexByte.indexByte) Tryz.func167 rfl rfl (by kernel_rfl) (by kernel_rfl), run_indexByteString]
 simp [Result.andThen]
end Go.Proofs.YtjpkkflhcjjefaaGreatDoor
namespace Go.Proofs.YtjpkkflhcjjefaaGreatDoor
open Go.RowKit Go.Lib Go.Joins
def charsL (q : Option UInt8) : List UInt8 := 60 :: (q.toList ++ [38])
def idxZ (q : Option UInt8) (r : List UInt8) : Int := if restS q r = [] then -1 else ((runS q r).length : Int)
theorem chars_end (q : Option UInt8) (x : UInt8) : (charsL q).contains x = endS q x := by
 cases q with
 | none => simp only [charsL, endS, Option.toList, List.nil_append, List.contains_cons, List.contains_nil, Bool.or_false]
 | some c =>
  simp only [charsL, endS, Option.toList, List.cons_append, List.nil_append, List.contains_cons, List.contains_nil, Bool.or_false]
  cases (x == 60) <;> cases (x == 38) <;> cases (x == c) <;> rfl
theorem idxZ_any (q : Option UInt8) : ∀ r : List UInt8, idxZ q r = Lib.indexAny r (charsL q)
 | [] => rfl
 | x :: t => by
  have ih := idxZ_any q t
  rw [Lib.indexAny, chars_end]
  unfold idxZ at ih ⊢
  unfold restS runS at ih ⊢
  rw [List.dropWhile_cons, List.takeWhile_cons]
  cases h : endS q x with
  | true => simp
  | false =>
   simp only [Bool.not_false, if_true, Bool.false_eq_true, if_false]
   rw [← ih]
   split
   ·rfl
   ·rw [if_neg]
    ·rw [List.length_cons]; omega
    ·simp only [beq_iff_eq]; omega
theorem chars_small (q : Option UInt8) (hq : ∀ x, q = some x → x = 34 ∨ x = 39) (b : UInt8) (h : b ∈ charsL q) : b.toNat < 128 := by
 have h2 : (charsL q).contains b = true := List.contains_iff_mem.2 h
 rw [chars_end] at h2
 unfold endS at h2
 simp only [Bool.or_eq_true, beq_iff_eq] at h2
 rcases h2 with (rfl | rfl) | h2
 ·decide
 ·decide
 ·cases q with
  | none => cases h2
  | some c =>
   have : b = c := by simpa using h2
   rcases hq c rfl with h3 | h3 <;> (rw [this, h3]; decide)
theorem not_chars (q : Option UInt8) (hq : ∀ x, q = some x → x = 34 ∨ x = 39) (b : UInt8) (h : 128 ≤ b.toNat) : (charsL q).contains b = false := by
 cases hc : (charsL q).contains b with
 | false => rfl
 | true =>
  have := chars_small q hq b (List.contains_iff_mem.1 hc)
  omega
theorem decodeN_cont (n b0 b1 b2 b3 : Nat) (hn : 1 ≤ n) (hb : 128 ≤ b0) : (decodeN n b0 b1 b2 b3).2 ≤ n ∧ (1 < (decodeN n b0 b1 b2 b3).2 → 128 ≤ b1) ∧ (2 < (decodeN n b0 b1 b2 b3).2 → 128 ≤ b2) ∧ (3 < (decodeN n b0 b1 b2 b3).2 → 128 ≤ b3) := by
 unfold decodeN
 repeat' split
 all_goals first | omega | (refine ⟨?_, ?_, ?_, ?_⟩ <;> dsimp only <;> omega)
set_option maxRecDepth 100000 in
theorem encode_key (m w : Nat) (hv : Utf8.valid (m : Int) = true) (hw : 128 ≤ m ∧ m < 2048 ∧ w = 2 ∨ 2048 ≤ m ∧ m < 65536 ∧ w = 3 ∨ 65536 ≤ m ∧ m < 1114112 ∧ w = 4) : (Utf8.encode (m : Int)).size = w ∧ 2 ≤ w ∧ ∃ y t, (Utf8.encode (m : Int)).data.toList = y :: t ∧ 128 ≤ y.toNat := by
 unfold Utf8.encode
 rw [if_pos hv, Int.toNat_natCast]
 dsimp only
 have hu : ∀ k, k < 256 → 128 ≤ k → 128 ≤ (UInt8.ofNat k).toNat := fun k h1 h2 => by rw [UInt8.toNat_ofNat']; omega
 rcases hw with ⟨h1, h2, rfl⟩ | ⟨h1, h2, rfl⟩ | ⟨h1, h2, rfl⟩
 ·rw [if_neg (by omega), if_pos (by omega)]
  exact ⟨rfl, by omega, _, _, rfl, hu _ (by omega) (by omega)⟩
 ·rw [if_neg (by omega), if_neg (by omega), if_pos (by omega)]
  exact ⟨rfl, by omega, _, _, rfl, hu _ (by omega) (by omega)⟩
 ·rw [if_neg (by omega), if_neg (by omega), if_neg (by omega)]
  exact ⟨rfl, by omega, _, _, rfl, hu _ (by omega) (by omega)⟩
set_option maxRecDepth 100000 in
theorem encode_long (n b0 b1 b2 b3 : Nat) (hb : 128 ≤ b0) (h256 : b0 < 256) (he : (decodeN n b0 b1 b2 b3).1 ≠ 65533) : (Utf8.encode ((decodeN n b0 b1 b2 b3).1 : Int)).size = (decodeN n b0 b1 b2 b3).2 ∧ 2 ≤ (decodeN n b0 b1 b2 b3).2 ∧ ∃ y t, (Utf8.encode ((decodeN n b0 b1 b2 b3).1 : Int)).data.toList = y :: t ∧ 128 ≤ y.toNat := by
 refine encode_key _ _ ?_ ?_
 ·unfold decodeN at he ⊢
  unfold Utf8.valid
  simp only [Bool.and_eq_true, Bool.or_eq_true, decide_eq_true_eq]
  repeat' split
  all_goals first | omega | (rename_i h; dsimp only; omega) | (exfalso; simp_all)
 ·unfold decodeN at he ⊢
  repeat' split
  all_goals first | omega | (dsimp only; omega) | (exfalso; simp_all)
theorem index_miss (m : List UInt8) (y : UInt8) (t : List UInt8) (hm : m = y :: t) : ∀ r : List UInt8, (∀ b, b ∈ r → b ≠ y) → Lib.index r m = -1 := by
 intro r hr
 subst hm
 rw [index_cutS _ (List.cons_ne_nil _ _)]
 have : ∀ r : List UInt8, (∀ b, b ∈ r → b ≠ y) → cutS (y :: t) r = none := by
  intro r
  induction r with
  | nil => intro _; rfl
  | cons x u ih =>
   intro h
   rw [cutS, if_neg, ih (fun b hb => h b (List.mem_cons_of_mem _ hb))]
   ·rfl
   ·intro h2
    have : (y == x && t.isPrefixOf u) = true := h2
    rw [Bool.and_eq_true, beq_iff_eq] at this
    exact h x (List.mem_cons_self ..) this.1.symm
 rw [this r hr]
end Go.Proofs.YtjpkkflhcjjefaaGreatDoor
namespace Go.Proofs.YtjpkkflhcjjefaaGreatDoor
open Go.RowKit Go.Lib Go.Joins
theorem ms_nonempty {ms : ByteArray} {q : Option UInt8} (hms : ms.data.toList = charsL q) : ms.toList.isEmpty = false := by
 rw [Go.Lib.toList_data, hms]
 rfl
set_option maxRecDepth 100000 in
theorem idx_one {W : World} (q : Option UInt8) (hq : ∀ x, q = some x → x = 34 ∨ x = 39) (ms : ByteArray) (hms : ms.data.toList = charsL q) (b o c1 : Nat) (x : UInt8) (hcell : W.cell? ⟨b, o, none⟩ = some (.int .u8 (x.toNat : Int))) : Calls Tryz.prog 159 #[.slice (some ⟨b, o, none⟩) 1 c1, .string ms] W (Leaves (.int .i64 (if endS q x = true then 0 else -1)) W) := by
 have hemp := ms_nonempty hms
 by_cases hx : x.toNat < 128
 ·have hz : ¬ ((128 : Int) ≤ (x.toNat : Int)) := by omega
  have hw : IntKind.i32.wrap (x.toNat : Int) = (x.toNat : Int) := IntWalk.i32_in _ (by omega)
  have hbi := fun w => byteIn ms x w
  rw [hms] at hbi
  have hcon := Lib.contains_iff_indexByte (charsL q) x
  rw [chars_end] at hcon
  obtain ⟨I, hI⟩ : ∃ I, Lib.indexByte (charsL q) x = I := ⟨_, rfl⟩
  rw [hI] at hbi hcon
  cases he : endS q x with
  | true =>
   rw [he] at hcon
   have hge : (0 : Int) ≤ I := of_decide_eq_true hcon.symm
   rw [if_pos rfl]
   clear hcon hq hms hI he
   go_enter Tryz.func159, Tryz.ntmps159
   go_wp2_with fail
   go_ret
   exact ⟨rfl, Below.refl _ _⟩
  | false =>
   rw [he] at hcon
   have hge : ¬ (0 : Int) ≤ I := of_decide_eq_false hcon.symm
   rw [if_neg (by decide)]
   clear hcon hq hms hI he
   go_enter Tryz.func159, Tryz.ntmps159
   go_wp2_with fail
   go_ret
   exact ⟨rfl, Below.refl _ _⟩
 ·have hz : (128 : Int) ≤ (x.toNat : Int) := by omega
  have hw : IntKind.i32.wrap (x.toNat : Int) = (x.toNat : Int) := IntWalk.i32_in _ (by have := x.toNat_lt; omega)
  have he := not_chars q hq x (by omega)
  rw [chars_end] at he
  rw [he, if_neg (by decide)]
  have HCH : Hid (∀ (j : Nat) (hj : j < ms.size), (ms[j]'hj).toNat < 128) := hid (fun j hj => chars_small q hq _ (by
   rw [← hms]
   have := Lib.data_getElem? ms j hj
   exact List.mem_of_getElem? this))
  clear hq hms he hx
  go_enter Tryz.func159, Tryz.ntmps159
  go_wp2_with fail
  go_loopg [] ms.size (fun g wx => ∃ i : Nat, i + g = ms.size ∧ wx = W.iter ms i)
  case atStart => exact ⟨0, by omega, rfl⟩
  case round =>
   obtain ⟨i, hig, rfl⟩ := hrel
   cases gk with
   | zero =>
    obtain rfl : i = ms.size := by omega
    have hnx := run_next_end (P := Tryz.prog) W ms ms.size
    go_wp2_with fail
    go_ret
    exact ⟨rfl, (Below.refl _ _).alloc (Nat.le_refl _) _⟩
   | succ g =>
    have hi : i < ms.size := by omega
    have hnx := fun ty => run_next_ascii (P := Tryz.prog) W ms i ty hi (HCH.out i hi)
    have hl := HCH.out i hi
    obtain ⟨y, hy⟩ : ∃ y, (ms[i]'hi).toNat = y := ⟨_, rfl⟩
    rw [hy] at hnx hl
    have hne : ((y : Int) == 65533) = false := by rw [beq_eq_false_iff_ne]; omega
    clear hy hl
    go_wp2_with fail
    go_roundg g
    case measure => omega
    case rel => exact ⟨i + 1, by omega, rfl⟩
end Go.Proofs.YtjpkkflhcjjefaaGreatDoor
namespace Go.Proofs.YtjpkkflhcjjefaaGreatDoor
open Go.RowKit Go.Lib Go.Joins
set_option maxRecDepth 100000 in
theorem idx_long {W : World} (q : Option UInt8) (hq : ∀ x, q = some x → x = 34 ∨ x = 39) (ms : ByteArray) (hms : ms.data.toList = charsL q) (b o c1 : Nat) (r : List UInt8) (h8 : 8 < r.length) (hr : r.length ≤ 65536)
  (h1 : ∀ k, k < r.length → W.cell? ⟨b, o + k, none⟩ = some (.int .u8 (fs r k : Int))) : Calls Tryz.prog 159 #[.slice (some ⟨b, o, none⟩) r.length c1, .string ms] W (Leaves (.int .i64 (Lib.indexAny r (charsL q))) W) := by
 have hemp := ms_nonempty hms
 have hlen : 2 ≤ ms.size ∧ ms.size ≤ 3 := by
  rw [Lib.size_eq, hms]
  cases q with
  | none => decide
  | some c => simp [charsL]
 have hM := set_calls ms W (by omega) (fun j b hj => chars_small q hq b (by rw [← hms]; exact List.mem_of_getElem? hj))
 rw [hms] at hM
 have HM := hid hM
 have hn1 : ((ms.size : Int) == 1) = false := beq_eq_false_iff_ne.2 (by omega)
 obtain ⟨n, hn⟩ : ∃ n, r.length = n := ⟨_, rfl⟩
 have hl1 : ((n : Int) == 1) = false := beq_eq_false_iff_ne.2 (by omega)
 have h8z : decide ((8 : Int) < (n : Int)) = true := decide_eq_true (by omega)
 have hsz := Lib.setCells_size (charsL q)
 have hsc : (storeCells ⟨W.heap.size + 1, 0, none⟩ (Lib.setCells (charsL q)).toList 0).run Tryz.prog ((W.alloc (.cells (Lib.setCells (charsL q)) 230)).alloc (.cells (Array.replicate 256 (.bool false)) 230)) = .ok () ((W.alloc (.cells (Lib.setCells (charsL q)) 230)).alloc (.cells (Lib.setCells (charsL q)) 230)) := by
  have := run_storeCells_new (P := Tryz.prog) (W.alloc (.cells (Lib.setCells (charsL q)) 230)) 230 (Array.replicate 256 (.bool false)) (Lib.setCells (charsL q)) (by rw [Lib.setCells_size]; exact (zero_of_info info167).2) (by rw [Lib.setCells_size, Array.size_replicate]) (Lib.setCells_one _)
  simpa using this
 have hcellAt : ∀ x : UInt8, ((W.alloc (.cells (Lib.setCells (charsL q)) 230)).alloc (.cells (Lib.setCells (charsL q)) 230)).cell? ⟨W.heap.size + 1, x.toNat, none⟩ = some (.bool (endS q x)) := fun x => by
  rw [World.cell?_alloc_at _ _ _ _ (by simp), Lib.setCells_at, chars_end]
 have HC := hid hcellAt
 have hb2 : Below W.heap.size W ((W.alloc (.cells (Lib.setCells (charsL q)) 230)).alloc (.cells (Lib.setCells (charsL q)) 230)) := ((Below.refl _ _).alloc (Nat.le_refl _) _).alloc (by simp) _
 have HB2 := hid hb2
 have HCE : Hid (∀ k, k < n → ((W.alloc (.cells (Lib.setCells (charsL q)) 230)).alloc (.cells (Lib.setCells (charsL q)) 230)).cell? ⟨b, o + k, none⟩ = some (.int .u8 (fs r k : Int))) := hid (fun k hk => by
  rw [hb2.cell (lt_of_cell (h1 k (by omega)))]
  exact h1 k (by omega))
 have HN := hid hn
 have hn65 : n ≤ 65536 := by omega
 rw [hn]
 clear hq hms hM hcellAt hb2 h1 hr h8 hn
 have HSH := hid (fun w => should_calls (n : Int) w)
 rw [h8z] at HSH
 go_enter Tryz.func159, Tryz.ntmps159
 go_wp2_with fail
 with_reducible refine (HSH.out W).mono ?_
 rintro e wx ⟨rfl, hx⟩
 have hx' := hx.symm
 subst hx'
 clear hx
 go_wp2_with fail
 with_reducible refine HM.out.mono ?_
 rintro e wx ⟨rfl, hx⟩
 subst hx
 go_wp2_with fail
 rw [show Tryz.zeroCells230 = Array.replicate 256 (.bool false) from by kernel_rfl]
 simp only [Result.andThen, hsc]
 rw [Oper.upon_skip]
 obtain ⟨w2, hw2⟩ : ∃ x, ((W.alloc (.cells (Lib.setCells (charsL q)) 230)).alloc (.cells (Lib.setCells (charsL q)) 230)) = x := ⟨_, rfl⟩
 rw [hw2] at HC HB2 HCE ⊢
 clear hw2 hsc hsz HM HSH
 obtain ⟨sb, hsb⟩ : ∃ x, W.heap.size + 1 = x := ⟨_, rfl⟩
 rw [hsb] at HC ⊢
 clear hsb
 go_wp2_with fail
 go_loopg [62] n (fun g s62 wx => ∃ i : Nat, i + g = n ∧ s62 = .int .i64 (i : Int) ∧ wx = w2 ∧ Lib.NoAny r (charsL q) i)
 case atStart => exact ⟨0, by omega, rfl, rfl, Lib.NoAny.zero _ _⟩
 case round =>
  obtain ⟨i, hig, rfl, rfl, hno⟩ := hrel
  have HNA := hid hno
  clear hno
  cases gk with
  | zero =>
   obtain rfl : i = n := by omega
   have hge : ¬ ((i : Int) < (i : Int)) := by omega
   go_wp2_with fail
   go_ret
   exact ⟨by rw [Lib.indexAny_none (by rw [HN.out]; exact HNA.out)]; rfl, HB2.out⟩
  | succ g =>
   have hi : i < n := by omega
   have hlt : (i : Int) < (n : Int) := by omega
   have h0 : (0 : Int) ≤ (i : Int) := by omega
   obtain ⟨x, hx⟩ : ∃ x : UInt8, r[i]? = some x := ⟨_, List.getElem?_eq_getElem (by rw [HN.out]; exact hi)⟩
   have hce := HCE.out i hi
   have hfx : fs r i = x.toNat := by show (r.getD i 0).toNat = _; rw [List.getD_eq_getElem?_getD, hx]; rfl
   rw [hfx] at hce
   have hadd : IntKind.i64.wrap ((i : Int) + 1) = ((i + 1 : Nat) : Int) := IntWalk.i64_in _ (by omega)
   have HCO := hid (contains_calls sb x (endS q x) wr (HC.out x))
   have HX := hid hx
   clear hx hfx
   obtain ⟨e, he⟩ : ∃ e, endS q x = e := ⟨_, rfl⟩
   have HEE := hid (show (charsL q).contains x = e by rw [chars_end, he])
   rw [he] at HCO
   obtain ⟨xn, hxn⟩ : ∃ y : Int, (x.toNat : Int) = y := ⟨_, rfl⟩
   rw [hxn] at hce HCO
   clear hxn he
   cases e with
   | true =>
    go_wp2_with fail
    with_reducible refine HCO.out.mono ?_
    rintro e wy ⟨rfl, hx⟩
    have hx' := hx.symm
    subst hx'
    clear hx
    go_wp2_with fail
    go_ret
    exact ⟨by rw [Lib.indexAny_hit HNA.out HX.out HEE.out]; rfl, HB2.out⟩
   | false =>
    go_wp2_with fail
    with_reducible refine HCO.out.mono ?_
    rintro e wy ⟨rfl, hx⟩
    have hx' := hx.symm
    subst hx'
    clear hx
    go_wp2_with fail
    go_roundg g
    case measure => omega
    case rel => exact ⟨i + 1, by omega, rfl, rfl, HNA.out.succ HX.out HEE.out⟩
end Go.Proofs.YtjpkkflhcjjefaaGreatDoor
namespace Go.Proofs.YtjpkkflhcjjefaaGreatDoor
open Go.RowKit Go.Lib Go.Joins
set_option maxRecDepth 100000 in
theorem idx_zero {W : World} (q : Option UInt8) (ms : ByteArray) (hms : ms.data.toList = charsL q) (p : Option Addr) (c1 : Nat) : Calls Tryz.prog 159 #[.slice p 0 c1, .string ms] W (Leaves (.int .i64 (-1)) W) := by
 have hemp := ms_nonempty hms
 have hlen : 2 ≤ ms.size := by
  rw [Lib.size_eq, hms]
  cases q <;> simp [charsL]
 have hn1 : ((ms.size : Int) == 1) = false := beq_eq_false_iff_ne.2 (by omega)
 have HSH := hid (fun w => should_calls (0 : Int) w)
 rw [show decide ((8 : Int) < (0 : Int)) = false from rfl] at HSH
 clear hms hlen
 go_enter Tryz.func159, Tryz.ntmps159
 go_wp2_with fail
 with_reducible refine (HSH.out W).mono ?_
 rintro e wx ⟨rfl, hx⟩
 have hx' := hx.symm
 subst hx'
 clear hx
 go_wp2_with fail
 refine wp_loop_rounds 1 ?_
 rw [rounds_succ]
 go_wp2_with fail
 go_ret
 exact ⟨rfl, Below.refl _ _⟩
theorem indexStr (ms es : ByteArray) (w : World) (m : Int) (hm : w.cell? ⟨5, 0, none⟩ = some (.int .i64 m)) (h2 : 2 ≤ es.size) (hb : (es.size : Int) ≤ m) (ha : ms.size < 4294967281) : (callFunc 144 #[.string ms, .string es]).run Tryz.prog w = .ok (.value (.int .i64 (Lib.index ms.data.toList es.data.toList))) w := by
 rw [run_callFunc_extern (e := Extern.BytealgIndex.index) Tryz.func144 rfl rfl (by kernel_rfl) (by kernel_rfl), run_indexString ms es w 5 m (by kernel_rfl) hm h2 hb ha]
 rfl
set_option maxRecDepth 100000 in
theorem idx_short {W : World} (hE : EnvAt W) (q : Option UInt8) (hq : ∀ x, q = some x → x = 34 ∨ x = 39) (ms : ByteArray) (hms : ms.data.toList = charsL q) (b o c1 : Nat) (r : List UInt8) (h2 : 2 ≤ r.length) (h8 : r.length ≤ 8) (hc : r.length ≤ c1)
  (h1 : ∀ k, k < r.length → W.cell? ⟨b, o + k, none⟩ = some (.int .u8 (fs r k : Int))) : Calls Tryz.prog 159 #[.slice (some ⟨b, o, none⟩) r.length c1, .string ms] W (Leaves (.int .i64 (Lib.indexAny r (charsL q))) W) := by
 have hemp := ms_nonempty hms
 have hlen : 2 ≤ ms.size ∧ ms.size ≤ 3 := by
  rw [Lib.size_eq, hms]
  cases q with
  | none => decide
  | some c => simp [charsL]
 have hn1 : ((ms.size : Int) == 1) = false := beq_eq_false_iff_ne.2 (by omega)
 obtain ⟨n, hn⟩ : ∃ n, r.length = n := ⟨_, rfl⟩
 have hl1 : ((n : Int) == 1) = false := beq_eq_false_iff_ne.2 (by omega)
 have h8z : decide ((8 : Int) < (n : Int)) = false := decide_eq_false (by omega)
 have HCH : Hid (∀ (j : Nat) (hj : j < ms.size), (ms[j]'hj).toNat < 128) := hid (fun j hj => chars_small q hq _ (by
  rw [← hms]
  have := Lib.data_getElem? ms j hj
  exact List.mem_of_getElem? this))
 have HQ := hid hq
 have HMS := hid hms
 have HN := hid hn
 have HE := hid hE
 rw [hn] at h8 hc h1 h2
 have H1 := hid h1
 rw [hn]
 have HSH := hid (fun w => should_calls (n : Int) w)
 rw [h8z] at HSH
 clear hq hms hE hn h1
 go_enter Tryz.func159, Tryz.ntmps159
 go_wp2_with fail
 with_reducible refine (HSH.out W).mono ?_
 rintro e wx ⟨rfl, hx⟩
 have hx' := hx.symm
 subst hx'
 clear hx
 go_wp2_with fail
 go_loopg [12] n (fun g s12 wx => ∃ i : Nat, n ≤ i + g ∧ i ≤ n ∧ s12 = .int .i64 (i : Int) ∧ Below W.heap.size W wx ∧ Lib.NoAny r (charsL q) i)
 case atStart => exact ⟨0, by omega, by omega, rfl, Below.refl _ _, Lib.NoAny.zero _ _⟩
 case round =>
  obtain ⟨i, hig, hin, rfl, hb, hno⟩ := hrel
  have HNA := hid hno
  have HB := hid hb
  clear hno hb
  by_cases hi : i < n
  ·obtain ⟨g, rfl⟩ : ∃ g, gk = g + 1 := ⟨gk - 1, by omega⟩
   have hlt : (i : Int) < (n : Int) := by omega
   have h0 : (0 : Int) ≤ (i : Int) := by omega
   obtain ⟨x, hx⟩ : ∃ x : UInt8, r[i]? = some x := ⟨_, List.getElem?_eq_getElem (by rw [HN.out]; exact hi)⟩
   have hce := (HB.out.cell (lt_of_cell (H1.out i hi))).trans (H1.out i hi)
   have hfx : fs r i = x.toNat := by show (r.getD i 0).toNat = _; rw [List.getD_eq_getElem?_getD, hx]; rfl
   rw [hfx] at hce
   have hw : IntKind.i32.wrap (x.toNat : Int) = (x.toNat : Int) := IntWalk.i32_in _ (by have := x.toNat_lt; omega)
   have HX := hid hx
   have HFX := hid hfx
   clear hx hfx
   by_cases hx128 : x.toNat < 128
   ·have hz : (x.toNat : Int) < 128 := by omega
    have hbi := fun w => byteIn ms x w
    rw [HMS.out] at hbi
    have hcon := Lib.contains_iff_indexByte (charsL q) x
    obtain ⟨I, hI⟩ : ∃ I, Lib.indexByte (charsL q) x = I := ⟨_, rfl⟩
    rw [hI] at hbi hcon
    obtain ⟨e, he⟩ : ∃ e, (charsL q).contains x = e := ⟨_, rfl⟩
    rw [he] at hcon
    have HEE := hid he
    have hadd : IntKind.i64.wrap ((i : Int) + 1) = ((i + 1 : Nat) : Int) := IntWalk.i64_in _ (by omega)
    cases e with
    | true =>
     have hge : (0 : Int) ≤ I := of_decide_eq_true hcon.symm
     clear hcon hI he hx128
     go_wp2_with fail
     go_ret
     exact ⟨by rw [Lib.indexAny_hit HNA.out HX.out HEE.out]; rfl, HB.out⟩
    | false =>
     have hge : ¬ (0 : Int) ≤ I := of_decide_eq_false hcon.symm
     clear hcon hI he hx128
     go_wp2_with fail
     go_roundg g
     case measure => omega
     case rel => exact ⟨i + 1, by omega, by omega, rfl, HB.out, HNA.out.succ HX.out HEE.out⟩
   ·have hz : ¬ ((x.toNat : Int) < 128) := by omega
    have hci : ¬ (c1 = i) := by omega
    have hin2 : (i : Int) ≤ (n : Int) := by omega
    have hdc := decode_calls b (o + i) (c1 - i) (n - i) (fun k => fs r (i + k)) wr (HE.out.below HB.out).laid.1 (fun k => fs_lt r _) (by omega) (by omega) (fun k hk => by
     have h3 := H1.out (i + k) (by omega)
     rw [Nat.add_assoc]
     exact (HB.out.cell (lt_of_cell h3)).trans h3)
    have hb128 : 128 ≤ fs r (i + 0) := by rw [Nat.add_zero, HFX.out]; omega
    have hcont := decodeN_cont (n - i) (fs r (i + 0)) (fs r (i + 1)) (fs r (i + 2)) (fs r (i + 3)) (by omega) hb128
    have hhigh := decodeN_high (n - i) (fs r (i + 0)) (fs r (i + 1)) (fs r (i + 2)) (fs r (i + 3)) hb128
    have hwid := decodeN_width (n - i) (fs r (i + 0)) (fs r (i + 1)) (fs r (i + 2)) (fs r (i + 3))
    have henc := encode_long (n - i) (fs r (i + 0)) (fs r (i + 1)) (fs r (i + 2)) (fs r (i + 3)) hb128 (fs_lt r _)
    try dsimp only at hdc
    obtain ⟨dd, hdd⟩ : ∃ dd, decodeN (n - i) (fs r (i + 0)) (fs r (i + 1)) (fs r (i + 2)) (fs r (i + 3)) = dd := ⟨_, rfl⟩
    rw [hdd] at hdc hcont hhigh hwid henc
    obtain ⟨d1, d2⟩ := dd
    dsimp only [runeOf] at hdc hcont hhigh hwid henc
    have HNA2 : Hid (Lib.NoAny r (charsL q) (i + d2)) := hid (fun j y hj hy => by
     by_cases hji : j < i
     ·exact HNA.out j y hji hy
     ·refine not_chars q HQ.out y ?_
      have hfy : fs r j = y.toNat := by show (r.getD j 0).toNat = _; rw [List.getD_eq_getElem?_getD, hy]; rfl
      rw [← hfy]
      obtain ⟨k, rfl⟩ : ∃ k, j = i + k := ⟨j - i, by omega⟩
      rcases k with _ | _ | _ | _ | k
      ·exact hb128
      ·exact hcont.2.1 (by omega)
      ·exact hcont.2.2.1 (by omega)
      ·exact hcont.2.2.2 (by omega)
      ·omega)
    have hadd : IntKind.i64.wrap ((i : Int) + (d2 : Int)) = ((i + d2 : Nat) : Int) := IntWalk.i64_in _ (by omega)
    have hd2n := hcont.1
    have hd2p := hwid.1
    have HDC := hid hdc
    have HENC := hid henc
    clear hdc hcont hwid hb128 henc hdd
    go_wp2_with fail
    with_reducible refine HDC.out.mono ?_
    rintro e w5 ⟨rfl, hb⟩
    have HB5 : Hid (Below W.heap.size W w5) := hid (HB.out.trans (hb.mono HB.out.size))
    clear hb HDC
    by_cases hd : d1 = 65533
    ·have hne : ((d1 : Int) != 65533) = false := by rw [hd]; rfl
     clear HENC
     go_wp2_with fail
     go_loopg [] ms.size (fun g wx => ∃ k : Nat, k + g = ms.size ∧ wx = w5.iter ms k)
     case atStart => exact ⟨0, by omega, rfl⟩
     case round =>
      obtain ⟨k, hkg, rfl⟩ := hrel
      cases gk with
      | zero =>
       obtain rfl : k = ms.size := by omega
       have hnx := run_next_end (P := Tryz.prog) w5 ms ms.size
       have HB6 : Hid (Below W.heap.size W (w5.iter ms ms.size)) := hid (HB5.out.alloc HB5.out.size _)
       go_wp2_with fail
       go_roundg g
       case measure => omega
       case rel => exact ⟨i + d2, by omega, by omega, rfl, HB6.out, HNA2.out⟩
      | succ g2 =>
       have hk : k < ms.size := by omega
       have hnx := fun ty => run_next_ascii (P := Tryz.prog) w5 ms k ty hk (HCH.out k hk)
       have hl := HCH.out k hk
       obtain ⟨z, hz⟩ : ∃ z, (ms[k]'hk).toNat = z := ⟨_, rfl⟩
       rw [hz] at hnx hl
       have hne2 : ((d1 : Int) == (z : Int)) = false := by rw [beq_eq_false_iff_ne]; omega
       clear hz hl
       go_wp2_with fail
       go_roundg g2
       case measure => omega
       case rel => exact ⟨k + 1, by omega, rfl⟩
    ·have hne : ((d1 : Int) != 65533) = true := by rw [bne_iff_ne]; omega
     obtain ⟨hes, hd22, y, t, hyt, hy128⟩ := HENC.out hd
     obtain ⟨es, hese⟩ : ∃ es, Utf8.encode (d1 : Int) = es := ⟨_, rfl⟩
     rw [hese] at hes hyt
     have hmiss : ∀ z, z ∈ charsL q → z ≠ y := fun z hz h => by
      have := chars_small q HQ.out z hz
      rw [h] at this
      omega
     by_cases hsz : ms.size = d2
     ·have hze : ((ms.size : Int) == (d2 : Int)) = true := by rw [hsz]; exact beq_self_eq_true _
      have hcmp : (ms.toList == es.toList) = false := by
       rw [Go.Lib.toList_data, Go.Lib.toList_data, hyt, HMS.out, beq_eq_false_iff_ne]
       intro h
       unfold charsL at h
       injection h with h _
       exact hmiss 60 (by simp [charsL]) h
      clear HENC hes hyt hmiss hsz
      go_wp2_with fail
      go_roundg g
      case measure => omega
      case rel => exact ⟨i + d2, by omega, by omega, rfl, HB5.out, HNA2.out⟩
     ·have hze : ((ms.size : Int) == (d2 : Int)) = false := by rw [beq_eq_false_iff_ne]; omega
      obtain ⟨m, hm⟩ := (HE.out.below HB5.out).mx
      by_cases hmd : (d2 : Int) ≤ m
      ·have hix := indexStr ms es w5 m hm (by omega) (by rw [hes]; exact hmd) (by omega)
       rw [HMS.out, index_miss _ y t hyt _ hmiss] at hix
       clear HENC hes hyt hmiss hsz
       go_wp2_with fail
       go_roundg g
       case measure => omega
       case rel => exact ⟨i + d2, by omega, by omega, rfl, HB5.out, HNA2.out⟩
      ·clear HENC hes hyt hmiss hsz hd hese
       go_wp2_with fail
       go_loopg [] ms.size (fun g wx => ∃ k : Nat, k + g = ms.size ∧ wx = w5.iter ms k)
       case atStart => exact ⟨0, by omega, rfl⟩
       case round =>
        obtain ⟨k, hkg, rfl⟩ := hrel
        cases gk with
        | zero =>
         obtain rfl : k = ms.size := by omega
         have hnx := run_next_end (P := Tryz.prog) w5 ms ms.size
         have HB6 : Hid (Below W.heap.size W (w5.iter ms ms.size)) := hid (HB5.out.alloc HB5.out.size _)
         go_wp2_with fail
         go_roundg g
         case measure => omega
         case rel => exact ⟨i + d2, by omega, by omega, rfl, HB6.out, HNA2.out⟩
        | succ g2 =>
         have hk : k < ms.size := by omega
         have hnx := fun ty => run_next_ascii (P := Tryz.prog) w5 ms k ty hk (HCH.out k hk)
         have hl := HCH.out k hk
         obtain ⟨z, hz⟩ : ∃ z, (ms[k]'hk).toNat = z := ⟨_, rfl⟩
         rw [hz] at hnx hl
         have hne2 : ((d1 : Int) == (z : Int)) = false := by rw [beq_eq_false_iff_ne]; omega
         clear hz hl
         go_wp2_with fail
         go_roundg g2
         case measure => omega
         case rel => exact ⟨k + 1, by omega, rfl⟩
  ·obtain rfl : i = n := by omega
   have hge : ¬ ((i : Int) < (i : Int)) := by omega
   go_wp2_with fail
   go_ret
   exact ⟨by rw [Lib.indexAny_none (by rw [HN.out]; exact HNA.out)]; rfl, HB.out⟩
end Go.Proofs.YtjpkkflhcjjefaaGreatDoor
namespace Go.Proofs.YtjpkkflhcjjefaaGreatDoor
open Go.RowKit Go.Lib Go.Joins
theorem idx_calls {W : World} (hE : EnvAt W) (q : Option UInt8) (hq : ∀ x, q = some x → x = 34 ∨ x = 39) (ms : ByteArray) (hms : ms.data.toList = charsL q) (p : Option Addr) (c1 : Nat) (r : List UInt8) (hr : r.length ≤ 65536) (h1 : Lib.BytesIn W p r.length (intsB r)) (hc : r.length ≤ c1) : Calls Tryz.prog 159 #[.slice p r.length c1, .string ms] W (Leaves (.int .i64 (idxZ q r)) W) := by
 rw [idxZ_any]
 by_cases h0 : r.length = 0
 ·rw [h0, List.length_eq_zero_iff.1 h0]
  exact idx_zero q ms hms p c1
 obtain ⟨b, o, rfl, hcell⟩ := h1 (by omega)
 have hcell2 : ∀ k, k < r.length → W.cell? ⟨b, o + k, none⟩ = some (.int .u8 (fs r k : Int)) := fun k hk => by
  rw [hcell k hk, intsB_getD _ _ hk]
 by_cases hone : r.length = 1
 ·obtain ⟨x, rfl⟩ := List.length_eq_one_iff.1 hone
  have h := idx_one (W := W) q hq ms hms b o c1 x (by have := hcell2 0 (by show 0 < 1; omega); exact this)
  have he : Lib.indexAny [x] (charsL q) = if endS q x = true then 0 else -1 := by
   rw [Lib.indexAny, chars_end]
   rfl
  rw [he]
  exact h
 by_cases h8 : 8 < r.length
 ·exact idx_long q hq ms hms b o c1 r h8 hr hcell2
 ·exact idx_short hE q hq ms hms b o c1 r (by omega) (by omega) hc hcell2
end Go.Proofs.YtjpkkflhcjjefaaGreatDoor
