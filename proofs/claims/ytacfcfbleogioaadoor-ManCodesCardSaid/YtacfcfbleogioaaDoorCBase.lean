/-
  What the walks of this seat share: a world in which nothing but some blocks has turned; a row of bytes; a call that only reads; numbers of 32 bits as integers. No condition.
-/
import Derived.Test.YtacfcfbleogioaaDoorLite
import Derived.Test.YtacfcfbleogioaaDoorFPure
import Derived.WalkKit
import Derived.ProofKit
import Derived.Below
import Derived.Lib.Walk
import Derived.Deep.LoopGhost
import Derived.Deep.MidRow
import Derived.Lib.Hide
import Derived.Lib.SmallJoins
import Derived.Laws.BitsAllLaws
import Derived.Laws.AppendOwnNone
import Derived.Deep.QuietTactic
import Derived.BigQuiet
namespace Go.Proofs.YtacfcfbleogioaaDoor
open Go.RowKit Go.Lib

/-- A call that leaves the world as it was. -/
def Stays (v : Value) (w : World) (e : Ending) (w' : World) : Prop := e = .returned v ∧ w' = w
theorem Stays.tells {v : Value} {w : World} {e : Ending} {w' : World} (h : Stays v w e w') : Tells v w e w' := ⟨h.1, 0, h.2⟩

/-- A number of 32 bits as an integer. -/
def uv (x : BitVec 32) : Int := (x.toNat : Int)

theorem uv_lo (x : BitVec 32) : 0 ≤ uv x := Int.natCast_nonneg _
theorem uv_hi (x : BitVec 32) : uv x < 4294967296 := by
  have := x.isLt
  unfold uv
  omega
theorem uv_xor (x y : BitVec 32) : bits .xor .u32 (uv x) (uv y) = uv (x ^^^ y) := by
  unfold uv
  rw [u32_xor_nat _ _ x.isLt y.isLt, BitVec.toNat_xor]
theorem uv_low (x : BitVec 32) : bits .and .u32 (uv x) 255 = uv (x &&& 255#32) := by
  unfold uv
  rw [show (255 : Int) = ((255 : Nat) : Int) from rfl, u32_and_nat _ _ x.isLt (by decide), BitVec.toNat_and]
  rfl
theorem uv_ones : uv ones = 4294967295 := by decide
theorem uv_half (x : BitVec 32) : uv x / (2 : Int) = uv (x >>> 1) := by
  unfold uv
  rw [BitVec.toNat_ushiftRight, Nat.shiftRight_eq_div_pow]
  omega
theorem uv_quo (x : BitVec 32) : (uv x).tdiv 2 % (4294967296 : Int) = uv (x >>> 1) := by
  have h0 := uv_lo x
  have h1 := uv_hi x
  have h2 := uv_half x
  rw [Int.tdiv_eq_ediv_of_nonneg h0]
  omega
theorem uv_byte (x : BitVec 32) : uv x / (256 : Int) = uv (x >>> 8) := by
  unfold uv
  rw [BitVec.toNat_ushiftRight, Nat.shiftRight_eq_div_pow]
  omega
theorem uv_odd (x : BitVec 32) : uv x % (2 : Int) = if x.getLsbD 0 then (1 : Int) else (0 : Int) := by
  unfold uv
  rw [BitVec.getLsbD, Nat.testBit_zero]
  rcases Nat.mod_two_eq_zero_or_one x.toNat with h | h
  · rw [h, if_neg (by decide)]; omega
  · rw [h, if_pos (by decide)]; omega
theorem uv_nat {c : Nat} (h : c < 256) : (c : Int) = uv (BitVec.ofNat 32 c) := by
  unfold uv
  rw [BitVec.toNat_ofNat, Nat.mod_eq_of_lt (by omega)]
theorem byte_has {d : Nat} (h : d < 256) (k : Nat) : (d : Int) / (2 : Int) ^ k % (2 : Int) = if (BitVec.ofNat 32 d >>> k).getLsbD 0 then (1 : Int) else (0 : Int) := by
  have e : (BitVec.ofNat 32 d >>> k).toNat = d / 2 ^ k := by
    rw [BitVec.toNat_ushiftRight, BitVec.toNat_ofNat, Nat.mod_eq_of_lt (by omega), Nat.shiftRight_eq_div_pow]
  have := uv_odd (BitVec.ofNat 32 d >>> k)
  unfold uv at this
  rw [e, Int.natCast_ediv, Int.natCast_pow] at this
  exact this
theorem uv_inj {x y : BitVec 32} (h : uv x = uv y) : x = y := by
  unfold uv at h
  exact BitVec.eq_of_toNat_eq (by omega)
theorem uv_wf (x : BitVec 32) : (Lit.int .u32 (uv x)).wf = true := by
  have h0 := uv_lo x
  have h1 := uv_hi x
  simp [Lit.wf, IntKind.min, IntKind.max, IntKind.signed, IntKind.bits]
  omega

end Go.Proofs.YtacfcfbleogioaaDoor
