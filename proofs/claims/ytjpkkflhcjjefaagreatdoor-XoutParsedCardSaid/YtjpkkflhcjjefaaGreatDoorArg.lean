/-
 Arguments of the rows read back: a slice of bytes as a document in memory, a rune as a number; that what a call leaves alone reads as before.
-/
import Derived.Test.YtjpkkflhcjjefaaGreatDoorOpn
import Derived.Carry
import Derived.ChangeSlices
namespace Go.Proofs.YtjpkkflhcjjefaaGreatDoor
open Go.ChangeShapes Go.WideShapes Go.ChangeAt Go.RowKit
set_option maxHeartbeats 32000000
variable {H : Type} {enc : TypeId × Value → H}
theorem arg_below {W : World} {base : Nat} {spare : Nat → Bool} {held : Bool} {t : TypeId} {v : Value} {d : DataW H} {p : List MemPlace} (h : DataW.Trod enc Tryz.prog W base spare held t v d p) : ∀ x ∈ p, x.block < W.heap.size := by
 obtain ⟨m, hm⟩ := h
 exact DataW.trod_lt m _ _ _ hm
theorem u8_wf {z : Int} (h : (Lit.int .u8 z).wf = true) : 0 ≤ z ∧ z < 256 := by
 simp [Lit.wf, IntKind.min, IntKind.max, IntKind.signed, IntKind.bits] at h
 omega
set_option maxRecDepth 100000 in
theorem doc_arg {W : World} {base b0 : Nat} {spare : Nat → Bool} {held : Bool} {v : Value} {d : DataW H} {p : List MemPlace} (hv : Value.okWide Tryz.prog W .any b0 43 v) (h0 : DataW.Trod enc Tryz.prog W base spare held 43 v d p) :
  ∃ a c, ∃ l : List UInt8, v = .slice a l.length c ∧ DocAt W a c l := by
 obtain ⟨a0, len0, cap0, rfl⟩ := okWide_slice Tryz.underlying43 hv
 obtain ⟨fuel, h⟩ := h0
 rcases open_ints Tryz.underlying43 Tryz.underlying5 (by kernel_rfl) h with ⟨hcs, _⟩ | ⟨x, len, cap, zs, hcs, _, hl, hm, hz, _, hcell, hwz⟩
 ·injection hcs with h1 _
  injection h1 with h1 h2 h3
  subst h1 h2 h3
  exact ⟨none, 0, [], rfl, ⟨.inl rfl, fun _ => rfl, Nat.le_refl _, Nat.zero_le _⟩⟩
 ·injection hcs with h1 _
  injection h1 with h1 h2 h3
  subst h1 h2 h3
  have hzl : len0 ≤ zs.length := by rw [hz]; split <;> omega
  have hll : ((zs.take len0).map fun z => UInt8.ofNat z.toNat).length = len0 := by rw [List.length_map, List.length_take]; omega
  refine ⟨some x, cap0, (zs.take len0).map fun z => UInt8.ofNat z.toNat, by rw [hll], ⟨?_, (fun e => by cases e), by rw [hll]; exact hl, hm⟩⟩
  rw [hll]
  by_cases h0 : len0 = 0
  ·exact .inl h0
  right
  obtain ⟨b, off, spot⟩ := x
  have hspot : spot = none := by simpa [Addr.add] using World.cell?_spot (hcell 0 (by omega))
  subst hspot
  refine ⟨b, off, rfl, fun k hk => ?_⟩
  have hc := hcell k (by omega)
  rw [Addr.add_mid] at hc
  rw [hc]
  have hkz : k < zs.length := by omega
  have hg : zs.getD k 0 = zs[k] := by rw [List.getD_eq_getElem?_getD, List.getElem?_eq_getElem hkz]; rfl
  have hw := u8_wf (hwz _ (List.getElem_mem hkz))
  congr 2
  rw [hg]
  unfold fs
  rw [List.getD_eq_getElem?_getD, List.getElem?_map, List.getElem?_take_of_lt hk, List.getElem?_eq_getElem hkz]
  simp only [Option.map_some, Option.getD_some]
  have h8 : zs[k].toNat < 256 := by omega
  rw [UInt8.toNat_ofNat_of_lt' (show zs[k].toNat < UInt8.size from h8)]
  omega
end Go.Proofs.YtjpkkflhcjjefaaGreatDoor
