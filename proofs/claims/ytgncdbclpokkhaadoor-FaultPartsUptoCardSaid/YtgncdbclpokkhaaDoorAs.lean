/-
  errors.As by its contract, at an error that wraps a plain one however often: the outer function. Conditions: as the inner one's.
-/
import Derived.Test.YtgncdbclpokkhaaDoorChain
namespace Go.Proofs.YtgncdbclpokkhaaDoor
open Go.RowKit Go.Extern.Stop Go.Stop Go.Extern
set_option maxRecDepth 100000 in
set_option maxHeartbeats 1000000 in
theorem as_chain (c a : Int) (ss : List ByteArray) (v : Value) (tb : Nat) (o0 o1 : Value) (w : World) (hch : Chain w (plainV c a) ss v) (hg : w.cell? ⟨0, 0, none⟩ = some (.iface 77 (.agg #[.pointer (some ⟨5, 26, none⟩)])))
    (ht0 : w.cell? ⟨tb, 0, none⟩ = some o0) (ht1 : w.cell? ⟨tb, 1, none⟩ = some o1) (hf0 : w.frozen? ⟨tb, 0, none⟩ = false) (hf1 : w.frozen? ⟨tb, 1, none⟩ = false) :
    Calls Tryd.prog 24 #[v, .iface 51 (.pointer (some ⟨tb, 0, none⟩))] w (AsOut tb c a w) := by
  have h31 := @run_callFunc_extern Tryd.prog 31 _ (fun args => ReflectliteValue.unpack (args.getD 0 (.tuple #[]))) Tryd.func31 (by kernel_rfl) (by kernel_rfl) (by kernel_rfl) (by kernel_rfl)
  have h32 := @run_callFunc_extern Tryd.prog 32 _ (ReflectliteValue.methodAny (ReflectliteValue.valueError "reflectlite.Value.Type" 0) (fun t _ _ _ => ReflectliteType.toType t)) Tryd.func32 (by kernel_rfl) (by kernel_rfl) (by kernel_rfl) (by kernel_rfl)
  have h33 := @run_callFunc_extern Tryd.prog 33 _ (ReflectliteValue.method (ReflectliteValue.valueError "reflectlite.Value.IsNil" 0) ReflectliteValue.isNil) Tryd.func33 (by kernel_rfl) (by kernel_rfl) (by kernel_rfl) (by kernel_rfl)
  have h69 := @run_callFunc_extern Tryd.prog 69 _ (ReflectliteType.abiMethod fun t => do pure (.int .u8 (← Rtype.kind t))) Tryd.func69 (by kernel_rfl) (by kernel_rfl) (by kernel_rfl) (by kernel_rfl)
  have h82 := @run_callFunc_extern Tryd.prog 82 _ (ReflectliteType.method ReflectliteType.elem) Tryd.func82 (by kernel_rfl) (by kernel_rfl) (by kernel_rfl) (by kernel_rfl)
  have h83 := @run_callFunc_extern Tryd.prog 83 _ (ReflectliteType.relation "Implements" ReflectliteType.implements_) Tryd.func83 (by kernel_rfl) (by kernel_rfl) (by kernel_rfl) (by kernel_rfl)
  have v51 := valueOf51
  have y51 := type51
  have mK := methodKind
  have mE := methodElem
  have mI := methodImplements
  have k51 := kind51
  have k40 := kind40
  have e51 := elem51
  have i40 := implements40
  have htl : tb < w.heap.size := lt_of_cell ht0
  have n33 := isNil51 ⟨w.heap.size, 0, none⟩ ⟨tb, 0, none⟩ ((w.alloc (.cells #[.pointer (some ⟨tb, 0, none⟩)] 51)).alloc (.cells #[.pointer (some ⟨5, 51, none⟩), .pointer (some ⟨w.heap.size, 0, none⟩), .int .u64 150] 68)) (by simp)
  have hlt : 0 < w.heap.size := lt_of_cell hg
  have hg2 : ((w.alloc (.cells #[.pointer (some ⟨tb, 0, none⟩)] 51)).alloc (.cells #[.pointer (some ⟨5, 51, none⟩), .pointer (some ⟨w.heap.size, 0, none⟩), .int .u64 150] 68)).cell? ⟨0, 0, none⟩ = some (.iface 77 (.agg #[.pointer (some ⟨5, 26, none⟩)])) := by
    rw [World.cell?_alloc_lt _ _ ⟨0, 0, none⟩ (by simp), World.cell?_alloc_lt _ _ ⟨0, 0, none⟩ hlt]; exact hg
  have hbl : Below w.heap.size w ((w.alloc (.cells #[.pointer (some ⟨tb, 0, none⟩)] 51)).alloc (.cells #[.pointer (some ⟨5, 51, none⟩), .pointer (some ⟨w.heap.size, 0, none⟩), .int .u64 150] 68)) := ((Below.refl _ _).alloc (Nat.le_refl _) _).alloc (by simp) _
  have H := as_inner c a ss v tb ⟨w.heap.size, 0, none⟩ o0 o1 _ (hch.below hbl) ((hbl.cell (p := ⟨tb, 0, none⟩) htl).trans ht0) ((hbl.cell (p := ⟨tb, 1, none⟩) htl).trans ht1) ((hbl.frozen (p := ⟨tb, 0, none⟩) htl).trans hf0) ((hbl.frozen (p := ⟨tb, 1, none⟩) htl).trans hf1) (by simp)
  have HH := Lib.hid H
  have HS := Lib.hid (below_setCell (below_setCell hbl ⟨tb, 0, none⟩ (.int .i64 c)) ⟨tb, 1, none⟩ (.int .i64 a))
  rcases hch.shape with ⟨_, rfl⟩ | ⟨b', rfl, _⟩
  · clear hch H hbl ht0 ht1 hf0 hf1
    go_enter Tryd.func24, Tryd.ntmps24
    go_wp2_with fail
    refine HH.out.mono ?_
    rintro e w' ⟨rfl, hb⟩
    have HB := Lib.hid hb
    clear hb
    go_wp2_with fail
    go_ret
    exact ⟨rfl, (HS.out).trans (HB.out.mono (by simp; omega))⟩
  · clear hch H hbl ht0 ht1 hf0 hf1
    go_enter Tryd.func24, Tryd.ntmps24
    go_wp2_with fail
    refine HH.out.mono ?_
    rintro e w' ⟨rfl, hb⟩
    have HB := Lib.hid hb
    clear hb
    go_wp2_with fail
    go_ret
    exact ⟨rfl, (HS.out).trans (HB.out.mono (by simp; omega))⟩
end Go.Proofs.YtgncdbclpokkhaaDoor
