/-
  The program's takes. Conditions: the disk lies in memory; numbers and names are small.
  The program's Load. Conditions: the files lie in memory; all of them together are no more than 2 to the 30 bytes; names are small.
  The reference's Bytes, May, Same, Small. Conditions: slices lead to what they are said to; they are no longer than 2 to the 30.
  The reference's Same and Small. Conditions: slices lead to what they are said to; names and bytes are short.
  The reference's Small. Conditions: slices lead to what they are said to; no file's data is longer than 2 to the 48.
  What the laws know of a disk of their own: it lies in blocks that were not there when the law was called. Small rows of constants. No condition.
-/
import Derived.Test.YtacfcfbleogioaaGreatDoorArm
import Derived.Deep.RegionHeld3
import Derived.Deep.DrawnRows
import Derived.Test.YtacfcfbleogioaaGreatDoorOpsB
import Derived.Test.YtacfcfbleogioaaGreatDoorReads2
import Derived.Test.YtacfcfbleogioaaGreatDoorCrash
namespace Go.Proofs.YtacfcfbleogioaaGreatDoor
open Go.RowKit Go.Lib Go.Joins

/-- Whether a file can be loaded beside those that are there. -/
def takesB (d : Dsk) (f : FilI) : Bool := nmd f.name && !(fnd f.name d.L).isSome && decide (d.L.length < 64) && decide (0 ≤ f.safe) && decide (f.safe ≤ (f.data.length : Int)) && decide ((f.data.length : Int) ≤ d.room - (used d.L : Int))

set_option maxRecDepth 100000 in
set_option maxHeartbeats 4000000 in
theorem takes_calls (s : ByteArray) (a : Option Addr) (l : List Nat) (cap : Nat) (z : Int) (w : World) {S : Nat → Prop} {B : Nat} {d : Dsk} (hd : Disk w S B d) (hu : used d.L ≤ 1073741824) (hz : s.size ≤ 1099511627776) (_hl : l.length ≤ 1073741824) :
    Calls Tryz.prog 33 #[.pointer (some ⟨B, 0, none⟩), .agg #[.string s, .slice a l.length cap, .int .i64 z]] w (Leaves (.bool (takesB d ⟨s, l, z⟩)) w) := by
  obtain ⟨hi, _, F, T, cs, h⟩ := hd
  obtain ⟨len, hln⟩ : ∃ len, l.length = len := ⟨_, rfl⟩
  obtain ⟨W, hW⟩ : ∃ W, w.alloc (.cells #[.string s, .slice a len cap, .int .i64 z] 63) = W := ⟨_, rfl⟩
  have hbel : Below w.heap.size w W := by rw [← hW]; exact (Below.refl _ _).alloc (Nat.le_refl _) _
  have hx : W.heap[w.heap.size]? = some (.cells #[.string s, .slice a len cap, .int .i64 z] 63 (0, 0)) := by rw [← hW]; exact heap_alloc_new w _
  have hal := h.below hbel
  obtain ⟨V, hV⟩ := ptr_is (cfnd s cs)
  have hcf := fnd_cs h s
  have hcl : cs.length = d.L.length := by rw [← h.is, List.length_map]
  have hnm := fun w => named_calls s w hz
  have c0 : W.cell? ⟨w.heap.size, 0, none⟩ = some (.string s) := (cell_of_block hx 0).trans rfl
  have g0 : ∀ W', Below W.heap.size W W' → W'.cell? ⟨w.heap.size, 0, none⟩ = some (.string s) ∧ W'.cell? ⟨w.heap.size, 1, none⟩ = some (.slice a len cap) ∧ W'.cell? ⟨w.heap.size, 2, none⟩ = some (.int .i64 z) ∧ W'.cell? ⟨B, 1, none⟩ = some (.map (some F)) ∧
      W'.ownsMap Tryz.prog 9 Rp F cs.length (dat cs) := fun W' hb =>
    ⟨(cell_of_block (block_below hb hx) 0).trans rfl, (cell_of_block (block_below hb hx) 1).trans rfl, (cell_of_block (block_below hb hx) 2).trans rfl, (cell_of_block (hal.below hb).blk 1).trans rfl, (hal.below hb).map⟩
  have hlk : ∀ W', W'.ownsMap Tryz.prog 9 Rp F cs.length (dat cs) → (Instr.lookup 75 (.map (some F)) (.string s) false).run Tryz.prog W' = .ok (.pointer V) W' := fun W' ho => by
    rw [← hV]
    exact look_run ho (by unfold maxLen; omega)
  have HLF : ∀ W', Below W.heap.size W W' → Calls Tryz.prog 82 #[.pointer (some ⟨B, 0, none⟩)] W' (Leaves (.int .i64 (d.room - (used d.L : Int))) W') := fun W' hb => left_calls W' (hal.below hb) hi hu
  have G0 := Lib.hid g0
  have HLK := Lib.hid hlk
  obtain ⟨Q, hQ⟩ : ∃ Q, d.room - (used d.L : Int) = Q := ⟨_, rfl⟩
  rw [hQ] at HLF
  have HLFF := Lib.hid HLF
  have HBEL := Lib.hid hbel
  have hmost := hi.most
  unfold takesB
  dsimp only
  rw [hln, hQ, ← hcl]
  rw [← hcl] at hmost
  have hsd := size_dat cs
  obtain ⟨N, hN⟩ : ∃ N, cs.length = N := ⟨_, rfl⟩
  rw [hN] at hsd hmost ⊢
  simp only [hN] at G0 HLK
  rw [hcf]
  have HSD := Lib.hid hsd
  cases hn : nmd s with
  | false =>
    rw [hn] at hnm
    have HNM := Lib.hid hnm
    rw [show (false && !(Option.map Cel.f (cfnd s cs)).isSome && decide (N < 64) && decide (0 ≤ z) && decide (z ≤ (len : Int)) && decide ((len : Int) ≤ Q)) = false from rfl]
    clear hV hal hz hi h hx hbel hcf hcl hnm hlk g0 HLF hu hQ hln hsd hN
    go_enter Tryz.func33, Tryz.ntmps33
    go_wp2_with fail
    with_reducible refine (HNM.out _).mono ?_
    rintro e w3 ⟨rfl, hb3⟩
    obtain ⟨k0, k1, k2, kB, k3⟩ := G0.out w3 hb3
    have HB3 := Lib.hid (HBEL.out.trans (hb3.mono HBEL.out.size))
    clear hb3 k3
    go_wp2
    go_ret
    exact ⟨rfl, HB3.out⟩
  | true =>
    rw [hn] at hnm
    have HNM := Lib.hid hnm
    cases hc : cfnd s cs with
    | some c =>
      rw [hc] at hV
      have hVe : V = some ⟨c.fb, 0, none⟩ := (Value.pointer.inj hV).symm
      subst hVe
      rw [show (true && !(Option.map Cel.f (some c)).isSome && decide (N < 64) && decide (0 ≤ z) && decide (z ≤ (len : Int)) && decide ((len : Int) ≤ Q)) = false from rfl]
      clear hc hn hV hal hz hi h hx hbel hcf hcl hnm hlk g0 HLF hu hQ hln hsd hN
      go_enter Tryz.func33, Tryz.ntmps33
      go_wp2_with fail
      with_reducible refine (HNM.out _).mono ?_
      rintro e w3 ⟨rfl, hb3⟩
      obtain ⟨k0, k1, k2, kB, k3⟩ := G0.out w3 hb3
      have HB3 := Lib.hid (HBEL.out.trans (hb3.mono HBEL.out.size))
      have hlook := fun n => HLK.out (w3.drewN n) k3
      clear hb3 k3
      go_wp2
      go_quiet (fail)
      go_wp2
      go_ret
      exact ⟨rfl, HB3.out.trans (below_draws _ _ _)⟩
    | none =>
      rw [hc] at hV
      have hVe : V = none := (Value.pointer.inj hV).symm
      subst hVe
      rw [show (true && !(Option.map Cel.f (none : Option Cel)).isSome && decide (N < 64) && decide (0 ≤ z) && decide (z ≤ (len : Int)) && decide ((len : Int) ≤ Q)) = (decide (N < 64) && decide (0 ≤ z) && decide (z ≤ (len : Int)) && decide ((len : Int) ≤ Q)) by simp]
      clear hc hn hV hal hz hi h hx hbel hcf hcl hnm hlk g0 HLF hu hQ hln hsd hN
      by_cases h64 : 64 ≤ N
      · have hd64 : decide ((64 : Int) ≤ (N : Int)) = true := by simp; omega
        have HE : Hid ((decide (N < 64) && decide (0 ≤ z) && decide (z ≤ (len : Int)) && decide ((len : Int) ≤ Q)) = false) := Lib.hid (by rw [decide_eq_false (by omega : ¬ N < 64)]; simp)
        go_enter Tryz.func33, Tryz.ntmps33
        go_wp2_with fail
        with_reducible refine (HNM.out _).mono ?_
        rintro e w3 ⟨rfl, hb3⟩
        obtain ⟨k0, k1, k2, kB, k3⟩ := G0.out w3 hb3
        have HB3 := Lib.hid (HBEL.out.trans (hb3.mono HBEL.out.size))
        have hlook := fun n => HLK.out (w3.drewN n) k3
        have HK3 := Lib.hid k3
        have HB33 := Lib.hid hb3
        clear hb3 k3
        go_wp2
        go_quiet (fail)
        have k4 : (w3.drewN nq).ownsMap Tryz.prog 9 Rp F N (dat cs) := HK3.out
        go_wp2_with (first | (at_len; refine wpList_len_own _ rfl _ 75 rfl 9 71 Tryz.underlying75 Rp F N (dat cs) rfl k4 ?_; rw [HSD.out]) | fail)
        go_ret
        exact ⟨by rw [HE.out]; rfl, HB3.out.trans (below_draws _ _ _)⟩
      · have hd64 : decide ((64 : Int) ≤ (N : Int)) = false := by simp; omega
        have hN64 : decide (N < 64) = true := by simp; omega
        by_cases hz0 : z < 0
        · have dz : decide (z < 0) = true := by simpa using hz0
          have HE : Hid ((decide (N < 64) && decide (0 ≤ z) && decide (z ≤ (len : Int)) && decide ((len : Int) ≤ Q)) = false) := Lib.hid (by rw [decide_eq_false (by omega : ¬ 0 ≤ z)]; simp)
          go_enter Tryz.func33, Tryz.ntmps33
          go_wp2_with fail
          with_reducible refine (HNM.out _).mono ?_
          rintro e w3 ⟨rfl, hb3⟩
          obtain ⟨k0, k1, k2, kB, k3⟩ := G0.out w3 hb3
          have HB3 := Lib.hid (HBEL.out.trans (hb3.mono HBEL.out.size))
          have hlook := fun n => HLK.out (w3.drewN n) k3
          have HK3 := Lib.hid k3
          have HB33 := Lib.hid hb3
          clear hb3 k3
          go_wp2
          go_quiet (fail)
          have k4 : (w3.drewN nq).ownsMap Tryz.prog 9 Rp F N (dat cs) := HK3.out
          go_wp2_with (first | (at_len; refine wpList_len_own _ rfl _ 75 rfl 9 71 Tryz.underlying75 Rp F N (dat cs) rfl k4 ?_; rw [HSD.out]) | fail)
          go_ret
          exact ⟨by rw [HE.out]; rfl, HB3.out.trans (below_draws _ _ _)⟩
        · have dz : decide (z < 0) = false := by simpa using hz0
          have dz1 : decide (0 ≤ z) = true := by simp; omega
          by_cases hz1 : (len : Int) < z
          · have dl : decide ((len : Int) < z) = true := by simpa using hz1
            have HE : Hid ((decide (N < 64) && decide (0 ≤ z) && decide (z ≤ (len : Int)) && decide ((len : Int) ≤ Q)) = false) := Lib.hid (by rw [decide_eq_false (by omega : ¬ z ≤ (len : Int))]; simp)
            go_enter Tryz.func33, Tryz.ntmps33
            go_wp2_with fail
            with_reducible refine (HNM.out _).mono ?_
            rintro e w3 ⟨rfl, hb3⟩
            obtain ⟨k0, k1, k2, kB, k3⟩ := G0.out w3 hb3
            have HB3 := Lib.hid (HBEL.out.trans (hb3.mono HBEL.out.size))
            have hlook := fun n => HLK.out (w3.drewN n) k3
            have HK3 := Lib.hid k3
            have HB33 := Lib.hid hb3
            clear hb3 k3
            go_wp2
            go_quiet (fail)
            have k4 : (w3.drewN nq).ownsMap Tryz.prog 9 Rp F N (dat cs) := HK3.out
            go_wp2_with (first | (at_len; refine wpList_len_own _ rfl _ 75 rfl 9 71 Tryz.underlying75 Rp F N (dat cs) rfl k4 ?_; rw [HSD.out]) | fail)
            go_ret
            exact ⟨by rw [HE.out]; rfl, HB3.out.trans (below_draws _ _ _)⟩
          · have dl : decide ((len : Int) < z) = false := by simpa using hz1
            have HE : Hid ((decide (N < 64) && decide (0 ≤ z) && decide (z ≤ (len : Int)) && decide ((len : Int) ≤ Q)) = decide ((len : Int) ≤ Q)) := Lib.hid (by rw [hN64, dz1, decide_eq_true (by omega : z ≤ (len : Int))]; simp)
            clear hN64 dz1
            go_enter Tryz.func33, Tryz.ntmps33
            go_wp2_with fail
            with_reducible refine (HNM.out _).mono ?_
            rintro e w3 ⟨rfl, hb3⟩
            obtain ⟨k0, k1, k2, kB, k3⟩ := G0.out w3 hb3
            have HB3 := Lib.hid (HBEL.out.trans (hb3.mono HBEL.out.size))
            have hlook := fun n => HLK.out (w3.drewN n) k3
            have HK3 := Lib.hid k3
            have HB33 := Lib.hid hb3
            clear hb3 k3
            go_wp2
            go_quiet (fail)
            have k4 : (w3.drewN nq).ownsMap Tryz.prog 9 Rp F N (dat cs) := HK3.out
            go_wp2_with (first | (at_len; refine wpList_len_own _ rfl _ 75 rfl 9 71 Tryz.underlying75 Rp F N (dat cs) rfl k4 ?_; rw [HSD.out]) | fail)
            obtain ⟨j0, j1, j2, jB, j3⟩ := G0.out (w3.drewN nq) (HB33.out.trans (below_draws _ _ _))
            have cU := fun dq os => Calls.regrown_of (HLFF.out _ ((HB33.out.trans (below_draws _ _ _)).trans ((below_regrown (w3.drewN nq) dq os).mono HB33.out.size)))
            have c1 := fun dq os => cell_regrown j1 dq os
            clear j0 j1 j2 jB j3
            refine wp_region_quiet_below (by kernel_rfl) (by kernel_rfl) ?_
            repeat (quiet_step (exact cU _ _))
            refine wpQuiet_nil ?_
            intro _ hw'
            obtain ⟨⟨dq, osq⟩, hw''⟩ := hw'
            subst hw''
            go_wp2
            go_ret
            exact ⟨by rw [HE.out]; rfl, (HB3.out.trans (below_draws _ _ _)).trans ((below_regrown (w3.drewN nq) dq osq).mono HB3.out.size)⟩

end Go.Proofs.YtacfcfbleogioaaGreatDoor

namespace Go.Proofs.YtacfcfbleogioaaGreatDoor
open Go.RowKit Go.Lib Go.Joins

def fil (f : FilI) : Fil := ⟨f.name, f.data, f.safe.toNat⟩
def addF (f : FilI) (d : Dsk) : Dsk := { d with L := ins (fil f) d.L }
/-- A disk is loaded, file by file. -/
def loadS : List FilI → Dsk → Option Dsk
  | [], d => some d
  | f :: L, d => if takesB d f then loadS L (addF f d) else none
def total (L : List FilI) : Nat := (L.map (fun f => f.data.length)).sum

theorem takes_inv {d : Dsk} (hi : Inv d) {f : FilI} (ht : takesB d f = true) (hb : ∀ c ∈ f.data, c < 256) : Inv (addF f d) ∧ fnd f.name d.L = none ∧ 0 ≤ f.safe := by
  unfold takesB at ht
  simp only [Bool.and_eq_true, decide_eq_true_eq, Bool.not_eq_true'] at ht
  obtain ⟨⟨⟨⟨⟨h1, h2⟩, h3⟩, h4⟩, h5⟩, h6⟩ := ht
  have hn := fnd_is.1 h2
  exact ⟨inv_ins (f := fil f) hi h1 (by show f.safe.toNat ≤ _; show f.safe.toNat ≤ f.data.length; omega) hb (fnd_none hn) h3 (by show (used d.L : Int) + (f.data.length : Int) ≤ d.room; omega) d.ops d.tr d.down, hn, h4⟩

/-- What Load answers. -/
def LoadOut (q : Option Dsk) (w : World) (e : Ending) (w' : World) : Prop :=
  match q with
  | none => e = .returned (.tuple #[.pointer none, .int .i64 80]) ∧ Below w.heap.size w w'
  | some d => ∃ B S, e = .returned (.tuple #[.pointer (some ⟨B, 0, none⟩), .int .i64 0]) ∧ Disk w' S B d ∧ Fresh Non w.heap.size S ∧ Below w.heap.size w w'

/-- Where the four cells lie that the loading looks at. -/
def Four (W : World) (B F x : Nat) (nm : ByteArray) (a : Option Addr) (len cap : Nat) (z : Int) : Prop :=
  W.cell? ⟨B, 1, none⟩ = some (.map (some F)) ∧ W.cell? ⟨x, 0, none⟩ = some (.string nm) ∧ W.cell? ⟨x, 1, none⟩ = some (.slice a len cap) ∧ W.cell? ⟨x, 2, none⟩ = some (.int .i64 z)

theorem four_of {W : World} {S : Nat → Prop} {B : Nat} {d : Dsk} {F : Nat} {T : Option Nat} {cs : List Cel} (h : DiskAt W S B d F T cs) {x : Nat} {nm : ByteArray} {a : Option Addr} {len cap : Nat} {z : Int} (hx : W.heap[x]? = some (.cells #[.string nm, .slice a len cap, .int .i64 z] 63 (0, 0))) : Four W B F x nm a len cap z :=
  ⟨(cell_of_block h.blk 1).trans rfl, (cell_of_block hx 0).trans rfl, (cell_of_block hx 1).trans rfl, (cell_of_block hx 2).trans rfl⟩

theorem load_clone {w3 : World} {S S1 : Nat → Prop} {B : Nat} {d : Dsk} {F : Nat} {T : Option Nat} {cs : List Cel} (h : DiskAt w3 S B d F T cs) (hi : Inv d) {f : FilI} {a : Option Addr} {cap x : Nat} (hr : Row w3 S1 a f.data) (hl : f.data.length ≤ 1073741824)
    (hx : w3.heap[x]? = some (.cells #[.string f.name, .slice a f.data.length cap, .int .i64 f.safe] 63 (0, 0))) (hn : fnd f.name d.L = none) (hs0 : 0 ≤ f.safe) (hz : f.name.size ≤ 1099511627776) :
    Calls Tryz.prog 34 #[.slice a f.data.length cap] w3.drew fun e w4 => ∃ a3 c3 w6, e = .returned (.slice a3 f.data.length c3) ∧ Four w4 B F x f.name a f.data.length cap f.safe ∧ Four (w4.alloc (.cells #[.slice a3 f.data.length c3, .int .i64 f.safe] 74)) B F x f.name a f.data.length cap f.safe ∧
      (Instr.mapUpdate 75 (.map (some F)) (.string f.name) (.pointer (some ⟨w4.heap.size, 0, none⟩))).run Tryz.prog (w4.alloc (.cells #[.slice a3 f.data.length c3, .int .i64 f.safe] 74)) = .ok () w6 ∧ Four w6 B F x f.name a f.data.length cap f.safe ∧
      Hid (Half w3 S B (addF f d) w6) ∧ Hid (w3.heap.size ≤ w6.heap.size) := by
  refine (clone_calls a cap f.data S1 w3.drew hr hl).mono ?_
  rintro e w4 ⟨v, rfl, hown, hb⟩
  obtain ⟨a3, c3, rfl⟩ := dv_form2 hown
  have hb4 : Below w3.heap.size w3 w4 := ⟨hb.os, hb.tape, hb.output, hb.size, hb.block⟩
  have hown' : w4.ownsRow w3.heap.size 5 1 (.slice a3 f.data.length c3) f.data.length (cellsN f.data) := hown
  have h4 := h.below hb4
  have hx4 := block_below hb4 hx
  have hbel5 : Below w4.heap.size w4 (w4.alloc (.cells #[.slice a3 f.data.length c3, .int .i64 f.safe] 74)) := (Below.refl _ _).alloc (Nat.le_refl _) _
  have h5 := h4.below hbel5
  have hx5 := block_below hbel5 hx4
  have hcl : cs.length ≤ 64 := by have := hi.most; rw [← h.is, List.length_map] at this; exact this
  obtain ⟨w6, hrun, hown6, hturn⟩ := h5.map.store keyed9 Tryz.underlying75 (by unfold maxLen; omega) (keyOf_name (s := f.name) (by unfold maxLen; omega)) (Rp_mk w4.heap.size)
  have hg := hturn.grown
  have hk56 : Keeps (One F) (w4.alloc (.cells #[.slice a3 f.data.length c3, .int .i64 f.safe] 74)) w6 := (Keeps.refl (One F) _).grown hg (fun k e => .inl (Option.some.inj e).symm)
  have hk36 : Keeps (One F) w3 w6 := ((keeps_below hb4 (One F)).alloc _).trans hk56 (fun k e => .inl e)
  have hFl := h5.map.lt
  have hfb : w6.heap[w4.heap.size]? = some (.cells #[.slice a3 f.data.length c3, .int .i64 f.safe] 74 (0, 0)) := block_keep (heap_alloc_new w4 _) hk56 (fun e => by have h1 := h4.map.lt; have h2 : w4.heap.size = F := e; omega)
  have hsn : ((f.safe.toNat : Nat) : Int) = f.safe := by omega
  have hrow6 : w6.ownsRow w3.heap.size 5 1 (.slice a3 f.data.length c3) f.data.length (cellsN f.data) := by
    refine ownsRow_keep (hown'.alloc _) hk56 (fun k e hkF => ?_)
    have h1 := (hown'.lt k e).1
    have h2 := h.map.lt
    have h3 : k = F := hkF
    omega
  have hB6 : w6.cell? ⟨B, 1, none⟩ = some (.map (some F)) := (cell_of_block (block_keep h5.blk hk56 (fun e => map_ne h5.map h5.blk (by rw [show B = F from e]))) 1).trans rfl
  have hx6 := block_keep hx5 hk56 (fun e => map_ne h5.map hx5 (by rw [show x = F from e]))
  refine ⟨a3, c3, w6, rfl, four_of h4 hx4, four_of h5 hx5, hrun, ⟨hB6, (cell_of_block hx6 0).trans rfl, (cell_of_block hx6 1).trans rfl, (cell_of_block hx6 2).trans rfl⟩, Lib.hid ⟨⟨F, T, ?_⟩, ?_⟩, Lib.hid hk36.size⟩
  · refine h.created (f := fil f) hn hk36 (fb := w4.heap.size) hown6 ?_ (ownsRow_base0 hrow6) hb4.size (fun k e => (hrow6.lt k e).1)
    show w6.heap[w4.heap.size]? = some (.cells #[.slice a3 f.data.length c3, .int .i64 ((f.safe.toNat : Nat) : Int)] 74 (0, 0))
    rw [hsn]
    exact hfb
  · exact hk36.mono (fun k _ e => by rw [show k = F from e]; exact h.sF)

theorem fils_at {w : World} {S : Nat → Prop} {a : Option Addr} {L : List FilI} (h : Fils w S a L) {i : Nat} {f : FilI} (hi : L[i]? = some f) :
    ∃ b o da dc, a = some ⟨b, o, none⟩ ∧ S b ∧ w.cell? ⟨b, o + i * 3, none⟩ = some (.string f.name) ∧ w.cell? ⟨b, o + i * 3 + 1, none⟩ = some (.slice da f.data.length dc) ∧ w.cell? ⟨b, o + i * 3 + 2, none⟩ = some (.int .i64 f.safe) ∧ Row w S da f.data ∧ (da = none → dc = 0) ∧ f.data.length ≤ dc ∧ dc ≤ maxLen := by
  obtain ⟨cells, hc, h2⟩ := h
  obtain ⟨h3, ⟨dv, h4, h5⟩, h6⟩ := hc.at_ i f hi
  rcases h2 with h0 | ⟨b, o, h7, h8, h9⟩
  · rw [h0] at hi; simp at hi
  · obtain ⟨da, dc, hd, hr, hx⟩ := h5.is
    rw [hd] at h4
    exact ⟨b, o, da, dc, h7, h8, h9 _ _ h3, h9 _ _ h4, h9 _ _ h6, hr, hx⟩

theorem total_drop {L : List FilI} {i : Nat} {f : FilI} (hi : L[i]? = some f) : total (L.drop i) = f.data.length + total (L.drop (i + 1)) := by
  have hlt : i < L.length := (List.getElem?_eq_some_iff.1 hi).1
  have e : L[i] = f := by rw [List.getElem?_eq_getElem hlt] at hi; exact Option.some.inj hi
  rw [List.drop_eq_getElem_cons hlt, e]
  unfold total
  rw [List.map_cons, List.sum_cons]
theorem loadS_drop {L : List FilI} {i : Nat} {f : FilI} (hi : L[i]? = some f) (d : Dsk) : loadS (L.drop i) d = if takesB d f then loadS (L.drop (i + 1)) (addF f d) else none := by
  have hlt : i < L.length := (List.getElem?_eq_some_iff.1 hi).1
  have e : L[i] = f := by rw [List.getElem?_eq_getElem hlt] at hi; exact Option.some.inj hi
  rw [List.drop_eq_getElem_cons hlt, e]
  rfl

set_option maxRecDepth 100000 in
set_option maxHeartbeats 8000000 in
theorem load_calls (a0 : Option Addr) (L : List FilI) (cap0 n : Nat) (room : Int) (w : World) {S0 : Nat → Prop} (hr : Fils w S0 a0 L) (hn : L.length = n) (ht : total L ≤ 1073741824) (hnm : ∀ f ∈ L, f.name.size ≤ 1099511627776) (hcm : n ≤ 1048576) (hroom : room ≤ 9223372036854775807) :
    Calls Tryz.prog 9 #[.slice a0 n cap0, .int .i64 room] w (LoadOut (loadS L (dsk0 room)) w) := by
  obtain ⟨q, hq⟩ : ∃ q, loadS L (dsk0 room) = q := ⟨_, rfl⟩
  rw [hq]
  have HQ := Lib.hid hq
  have HNEW := Lib.hid (new_calls room w hroom)
  have HR := Lib.hid hr
  have HN := Lib.hid hn
  have HT := Lib.hid ht
  have HNM := Lib.hid hnm
  clear hq hr hn ht hnm hroom
  go_enter Tryz.func9, Tryz.ntmps9
  go_wp2_with fail
  with_reducible refine HNEW.out.mono ?_
  rintro e w1 ⟨B, S, rfl, hd1, hf1, hb1⟩
  have HD1 := Lib.hid hd1
  have HF1 := Lib.hid hf1
  have HB1 := Lib.hid hb1
  clear hd1 hf1 hb1
  go_wp2
  go_loopg [4, 5, 8, 13] n (fun g _ _ _ idx wr => ∃ (i : Nat) (d : Dsk) (S : Nat → Prop), idx = .int .i64 (i : Int) ∧ g + i = n ∧ Disk wr S B d ∧ (∀ k, S k → w.heap.size ≤ k) ∧ loadS (L.drop i) d = q ∧ used d.L + total (L.drop i) ≤ 1073741824 ∧ Below w.heap.size w wr)
  case atStart => exact ⟨0, _, S, rfl, rfl, HD1.out, fun k e => by rcases HF1.out k e with h | h; exact h.elim; exact h, HQ.out, by show used [] + total L ≤ _; have := HT.out; simp [used]; omega, HB1.out⟩
  case round =>
    obtain ⟨i, d, Si, rfl, hg, hD, hS, hld, hus, hb⟩ := hrel
    have HG := Lib.hid hg
    have HD := Lib.hid hD
    have HS := Lib.hid hS
    have HLD := Lib.hid hld
    have HUS := Lib.hid hus
    have HB := Lib.hid hb
    clear hg hD hS hld hus hb
    by_cases hlt : i < n
    · obtain ⟨g', rfl⟩ : ∃ g', gk = g' + 1 := ⟨gk - 1, by have := HG.out; omega⟩
      have hd : decide ((i : Int) < (n : Int)) = true := by simp; omega
      obtain ⟨f, hfi⟩ : ∃ f, L[i]? = some f := ⟨L[i]'(by rw [HN.out]; omega), List.getElem?_eq_getElem _⟩
      have hfm : f ∈ L := List.mem_of_getElem? hfi
      obtain ⟨b, o, da, dc, rfl, hSb, r0, r1, r2, hrow, hac, hlc, hcm2⟩ := fils_at (HR.out.below HB.out) hfi
      have htd := total_drop hfi
      have hld := loadS_drop hfi d
      have hlenD : f.data.length ≤ 1073741824 := by have := HUS.out; omega
      have hnz := HNM.out f hfm
      have hud : used d.L ≤ 1073741824 := by have := HUS.out; omega
      have huadd : used (addF f d).L + total (L.drop (i + 1)) ≤ 1073741824 := by
        have h1 : used (addF f d).L = used d.L + f.data.length := used_ins (fil f) d.L
        have := HUS.out
        omega
      obtain ⟨W, hW⟩ : ∃ W, wr.alloc (.cells #[.string f.name, .slice da f.data.length dc, .int .i64 f.safe] 63) = W := ⟨_, rfl⟩
      have hbel : Below wr.heap.size wr W := by rw [← hW]; exact (Below.refl _ _).alloc (Nat.le_refl _) _
      have hx : W.heap[wr.heap.size]? = some (.cells #[.string f.name, .slice da f.data.length dc, .int .i64 f.safe] 63 (0, 0)) := by rw [← hW]; exact heap_alloc_new wr _
      have w0 : W.cell? ⟨wr.heap.size, 0, none⟩ = some (.string f.name) := (cell_of_block hx 0).trans rfl
      have w1c : W.cell? ⟨wr.heap.size, 1, none⟩ = some (.slice da f.data.length dc) := (cell_of_block hx 1).trans rfl
      have w2c : W.cell? ⟨wr.heap.size, 2, none⟩ = some (.int .i64 f.safe) := (cell_of_block hx 2).trans rfl
      have HTK := Lib.hid (takes_calls f.name da f.data dc f.safe W (HD.out.below hbel) hud hnz hlenD)
      have HBW := Lib.hid hbel
      have HX := Lib.hid hx
      have HROW := Lib.hid hrow
      have HLEN := Lib.hid hlenD
      have HLD2 := Lib.hid hld
      have HUADD := Lib.hid huadd
      have HNZ := Lib.hid hnz
      have hfe : (⟨f.name, f.data, f.safe⟩ : FilI) = f := rfl
      rw [hfe] at HTK
      clear hfi hfm hrow htd hld hlenD hnz hud huadd hbel hx hfe hSb hac hlc hcm2
      cases htk : takesB d f with
      | false =>
        rw [htk] at HTK HLD2
        have HQN : Hid (q = none) := Lib.hid (by rw [← HLD.out, HLD2.out]; rfl)
        clear htk
        go_wp2_with fail
        with_reducible refine HTK.out.mono ?_
        rintro e w3 ⟨rfl, hb3⟩
        have HB3 := Lib.hid (HB.out.trans (below_then HBW.out hb3 |>.mono HB.out.size))
        clear hb3
        go_wp2
        go_ret2
        rw [HQN.out]
        exact ⟨rfl, HB3.out⟩
      | true =>
        rw [htk] at HTK HLD2
        have HTKB := Lib.hid htk
        clear htk
        go_wp2_with fail
        with_reducible refine HTK.out.mono ?_
        rintro e w3 ⟨rfl, hb3⟩
        have hb03 := below_then HBW.out hb3
        obtain ⟨hi3, hlt3, F, T, cs, h3⟩ := HD.out.below hb03
        have hrow3 : Row w3 S0 da f.data := Row.keep HROW.out (keeps_below hb03 Non) (fun _ _ h => h)
        obtain ⟨hinv, hnone, hs0⟩ := takes_inv hi3 HTKB.out hrow3.1
        have hx3 := block_below hb3 HX.out
        have HLC := Lib.hid (load_clone h3 hi3 hrow3 HLEN.out hx3 hnone hs0 HNZ.out)
        obtain ⟨p0, p1, p2, p3⟩ : Four w3.drew B F wr.heap.size f.name da f.data.length dc f.safe := four_of h3 hx3
        have HB3 := Lib.hid (HB.out.trans (hb03.mono HB.out.size))
        have HINV := Lib.hid hinv
        have HLT3 := Lib.hid hlt3
        clear hb3 hb03 hi3 hlt3 h3 hrow3 hinv hnone hs0 hx3
        go_wp2
        go_region_held3 (fun W => W.cell? ⟨B, 1, none⟩ = some (.map (some F)) ∧ W.cell? ⟨wr.heap.size, 0, none⟩ = some (.string f.name) ∧ W.cell? ⟨wr.heap.size, 1, none⟩ = some (.slice da f.data.length dc) ∧ W.cell? ⟨wr.heap.size, 2, none⟩ = some (.int .i64 f.safe))
          (first
            | exact ⟨p0, p1, p2, p3⟩
            | exact ⟨q0, q1, q2, q3⟩
            | exact ⟨s0, s1, s2, s3⟩
            | exact ⟨t0, t1, t2, t3⟩)
          (first
            | (refine HLC.out.mono ?_
               rintro e w4 ⟨a3, c3, w6, rfl, ⟨q0, q1, q2, q3⟩, ⟨s0, s1, s2, s3⟩, hrun, ⟨t0, t1, t2, t3⟩, HH, HSZ⟩))
        all_goals
          clear p0 p1 p2 p3 q0 q1 q2 q3 s0 s1 s2 s3 t0 t1 t2 t3 hrun
          go_wp2
          go_roundg g'
          case measure => omega
          case rel =>
            obtain ⟨S', h1, h2, h3⟩ := turns_of (Keeps.refl _ w3) HH.out HINV.out
            refine ⟨i + 1, addF f d, S', by go_num, by have := HG.out; omega, h1, fun k e => ?_, ?_, HUADD.out, HB3.out.trans (h3.toBelow (by have := HB3.out.size; omega) HS.out)⟩
            · rcases h2 k e with h4 | h4
              · exact HS.out k h4
              · have := HB3.out.size; omega
            · rw [← HLD.out, HLD2.out]
              rfl
    · have hd : decide ((i : Int) < (n : Int)) = false := by simp; omega
      have hin : i = n := by have := HG.out; omega
      have HQS : Hid (q = some d) := Lib.hid (by
        rw [← HLD.out, List.drop_eq_nil_of_le (by rw [HN.out]; omega)]
        rfl)
      go_wp2
      go_ret2
      rw [HQS.out]
      exact ⟨B, Si, rfl, HD.out, fun k e => .inr (HS.out k e), HB.out⟩

end Go.Proofs.YtacfcfbleogioaaGreatDoor

namespace Go.Proofs.YtacfcfbleogioaaGreatDoor
open Go.RowKit Go.Lib Go.Joins

/-- A call that only reads. -/
def Tells (v : Value) (w : World) (e : Ending) (w' : World) : Prop := e = .returned v ∧ ∃ n, w' = w.drewN n

/-- Same from a place on. -/
def eqFrom (l m : List Nat) (i : Nat) : Bool := decide (l.drop i = m.drop i)
theorem eqFrom_step {l m : List Nat} {i x y : Nat} (hx : l[i]? = some x) (hy : m[i]? = some y) : eqFrom l m i = (decide (x = y) && eqFrom l m (i + 1)) := by
  obtain ⟨h1, rfl⟩ := List.getElem?_eq_some_iff.1 hx
  obtain ⟨h2, rfl⟩ := List.getElem?_eq_some_iff.1 hy
  unfold eqFrom
  rw [List.drop_eq_getElem_cons h1, List.drop_eq_getElem_cons h2, Bool.eq_iff_iff]
  simp only [List.cons.injEq, decide_eq_true_eq, Bool.and_eq_true]

theorem row_at {w : World} {S : Nat → Prop} {a : Option Addr} {l : List Nat} (h : Row w S a l) {i x : Nat} (hi : l[i]? = some x) : ∃ b o, a = some ⟨b, o, none⟩ ∧ w.cell? ⟨b, o + i, none⟩ = some (.int .u8 (x : Int)) := by
  rcases h.2 with h0 | ⟨b, o, ha, _, hc⟩
  · rw [h0] at hi; simp at hi
  · exact ⟨b, o, ha, hc i x hi⟩

set_option maxRecDepth 100000 in
set_option maxHeartbeats 4000000 in
theorem bytes_calls (a a' : Option Addr) (l m : List Nat) (c c' n n' : Nat) (w : World) {S S' : Nat → Prop} (h : Row w S a l) (h' : Row w S' a' m) (hn : l.length = n) (hn' : m.length = n') (hb : n ≤ 1073741824) (hb' : n' ≤ 1073741824) :
    Calls Tryz.prog 69 #[.slice a n c, .slice a' n' c'] w (Tells (.bool (decide (l = m))) w) := by
  by_cases hnn : n = n'
  · subst hnn
    have he : decide (l = m) = eqFrom l m 0 := rfl
    rw [he]
    obtain ⟨q, hq⟩ : ∃ q, eqFrom l m 0 = q := ⟨_, rfl⟩
    rw [hq]
    have HQ := Lib.hid hq
    have HR := Lib.hid h
    have HR' := Lib.hid h'
    have HN := Lib.hid hn
    have HN' := Lib.hid hn'
    clear h h' hn hn' he hq
    go_enter Tryz.func69, Tryz.ntmps69
    go_wp2
    go_loopg [5] n (fun g idx wr => ∃ (i k : Nat), idx = .int .i64 (i : Int) ∧ g + i = n ∧ eqFrom l m i = q ∧ wr = w.drewN k)
    case atStart => exact ⟨0, 0, rfl, rfl, HQ.out, rfl⟩
    case round =>
      obtain ⟨i, k, rfl, hg, hq, rfl⟩ := hrel
      have HG := Lib.hid hg
      have HE := Lib.hid hq
      clear hg hq HQ
      by_cases hlt : i < n
      · obtain ⟨g', rfl⟩ : ∃ g', gk = g' + 1 := ⟨gk - 1, by have := HG.out; omega⟩
        have hd : decide ((i : Int) < (n : Int)) = true := by simp; omega
        obtain ⟨x, hx⟩ : ∃ x, l[i]? = some x := ⟨l[i]'(by rw [HN.out]; exact hlt), List.getElem?_eq_getElem _⟩
        obtain ⟨y, hy⟩ : ∃ y, m[i]? = some y := ⟨m[i]'(by rw [HN'.out]; exact hlt), List.getElem?_eq_getElem _⟩
        have hst := eqFrom_step hx hy
        rw [HE.out] at hst
        have HST := Lib.hid hst
        obtain ⟨b, o, rfl, hc⟩ := row_at HR.out hx
        obtain ⟨b', o', rfl, hc'⟩ := row_at HR'.out hy
        clear hst hx hy
        by_cases hxy : x = y
        · subst hxy
          have HN2 : Hid (eqFrom l m (i + 1) = q) := Lib.hid (by have := HST.out; simp at this; exact this.symm)
          go_wp2
          go_quiet (fail)
          go_wp2
          go_roundg g'
          case measure => omega
          case rel => exact ⟨i + 1, _, by go_num, by have := HG.out; omega, HN2.out, rfl⟩
        · have HF : Hid (q = false) := Lib.hid (by rw [HST.out, decide_eq_false hxy]; rfl)
          have hne : ((x : Int) != (y : Int)) = true := by simp; omega
          have hne2 : ((x : Int) == (y : Int)) = false := by simp; omega
          clear HST
          go_wp2
          go_quiet (fail)
          go_wp2
          go_ret
          exact ⟨by rw [HF.out]; rfl, _, World.drewN_drewN w k nq⟩
      · have hd : decide ((i : Int) < (n : Int)) = false := by simp; omega
        have HT : Hid (q = true) := Lib.hid (by
          rw [← HE.out]
          unfold eqFrom
          rw [List.drop_eq_nil_of_le (by rw [HN.out]; omega), List.drop_eq_nil_of_le (by rw [HN'.out]; omega)]
          rfl)
        go_wp2
        go_ret
        exact ⟨by rw [HT.out]; rfl, k, rfl⟩
  · have he : decide (l = m) = false := by
      simp only [decide_eq_false_iff_not]
      intro e
      rw [← hn, ← hn', e] at hnn
      exact hnn rfl
    rw [he]
    have hne : ((n : Int) != (n' : Int)) = true := by simp; omega
    clear h h' he hn hn'
    go_enter Tryz.func69, Tryz.ntmps69
    go_wp2
    go_ret
    exact ⟨rfl, 0, rfl⟩

set_option maxRecDepth 100000 in
set_option maxHeartbeats 4000000 in
theorem may_calls (s : ByteArray) (w : World) (hs : s.size ≤ 1099511627776) : Calls Tryz.prog 37 #[.string s] w fun e w' => e = .returned (.bool (nmd s)) ∧ w = w' := by
  obtain ⟨q, hq⟩ : ∃ q, s.data.toList.all okc = q := ⟨_, rfl⟩
  have HQ := Lib.hid hq
  have hn : nmd s = (q && decide (1 ≤ s.size) && decide (s.size ≤ 40)) := by unfold nmd; rw [hq]
  rw [hn]
  obtain ⟨z, hz⟩ : ∃ z, (q && decide (1 ≤ s.size) && decide (s.size ≤ 40)) = z := ⟨_, rfl⟩
  rw [hz]
  have HZ := Lib.hid hz
  clear hn hq hz
  go_enter Tryz.func37, Tryz.ntmps37
  go_wp2
  go_loopg [3, 4] s.size (fun g idx _ wr => ∃ (p : Nat), idx = .int .i64 (p : Int) ∧ g + p = s.size ∧ (s.data.toList.drop p).all okc = q ∧ wr = w)
  case atStart => exact ⟨0, rfl, rfl, HQ.out, rfl⟩
  case round =>
    obtain ⟨p, rfl, hg, hall, rfl⟩ := hrel
    have HG := Lib.hid hg
    have HA := Lib.hid hall
    clear hg hall HQ
    by_cases hlt : p < s.size
    · obtain ⟨g', rfl⟩ : ∃ g', gk = g' + 1 := ⟨gk - 1, by have := HG.out; omega⟩
      have hdd : decide ((p : Int) < (s.size : Int)) = true := by simp; omega
      have hd := drop_at hlt
      obtain ⟨c, hc⟩ : ∃ c, s[p] = c := ⟨_, rfl⟩
      have HA2 : Hid ((okc c && (s.data.toList.drop (p + 1)).all okc) = q) := Lib.hid (by
        have := HA.out
        rw [hd, hc, List.all_cons] at this
        exact this)
      clear hd HA
      have hok : okc c = (decide (97 ≤ (c.toNat : Int) ∧ (c.toNat : Int) ≤ 122) || decide (48 ≤ (c.toNat : Int) ∧ (c.toNat : Int) ≤ 57) || decide ((c.toNat : Int) = 46) || decide ((c.toNat : Int) = 45)) := by
        unfold okc
        rw [Bool.eq_iff_iff]
        simp
        omega
      have HOK := Lib.hid hok
      have hr0 : (0 : Int) ≤ (c.toNat : Int) := by omega
      have hr1 : (c.toNat : Int) ≤ 255 := by have := c.toNat_lt; omega
      obtain ⟨r, hr⟩ : ∃ r : Int, (c.toNat : Int) = r := ⟨_, rfl⟩
      rw [hr] at HOK hr0 hr1
      clear hok
      by_cases k1 : 97 ≤ r ∧ r ≤ 122
      · have H : Hid ((s.data.toList.drop (p + 1)).all okc = q) := Lib.hid (by have := HA2.out; rw [HOK.out, decide_eq_true k1] at this; simpa using this)
        obtain ⟨ka, kb⟩ := k1
        clear HA2 HOK
        go_wp2
        go_roundg g'
        case measure => omega
        case rel => exact ⟨p + 1, by go_num, by have := HG.out; omega, H.out, rfl⟩
      by_cases k2 : 48 ≤ r ∧ r ≤ 57
      · have H : Hid ((s.data.toList.drop (p + 1)).all okc = q) := Lib.hid (by have := HA2.out; rw [HOK.out, decide_eq_true k2] at this; simpa using this)
        obtain ⟨ka, kb⟩ := k2
        have kc : r < 97 := by omega
        clear HA2 HOK k1
        go_wp2
        go_roundg g'
        case measure => omega
        case rel => exact ⟨p + 1, by go_num, by have := HG.out; omega, H.out, rfl⟩
      by_cases k3 : r = 46
      · have H : Hid ((s.data.toList.drop (p + 1)).all okc = q) := Lib.hid (by have := HA2.out; rw [HOK.out, k3] at this; simpa using this)
        subst k3
        clear HA2 HOK k1 k2
        go_wp2
        go_roundg g'
        case measure => omega
        case rel => exact ⟨p + 1, by go_num, by have := HG.out; omega, H.out, rfl⟩
      by_cases k4 : r = 45
      · have H : Hid ((s.data.toList.drop (p + 1)).all okc = q) := Lib.hid (by have := HA2.out; rw [HOK.out, k4] at this; simpa using this)
        subst k4
        clear HA2 HOK k1 k2 k3
        go_wp2
        go_roundg g'
        case measure => omega
        case rel => exact ⟨p + 1, by go_num, by have := HG.out; omega, H.out, rfl⟩
      · have H : Hid (z = false) := Lib.hid (by
          have := HA2.out
          rw [HOK.out, decide_eq_false k1, decide_eq_false k2, decide_eq_false k3, decide_eq_false k4] at this
          rw [← HZ.out, ← this]
          rfl)
        have d1 : (r != 46) = true := by simpa using k3
        have d2 : (r != 45) = true := by simpa using k4
        clear HA2 HOK
        by_cases e1 : r < 97
        · by_cases e2 : r < 48
          · go_wp2
            go_ret
            exact ⟨by rw [H.out]; rfl, rfl⟩
          · have e3 : 57 < r := by omega
            go_wp2
            go_ret
            exact ⟨by rw [H.out]; rfl, rfl⟩
        · have e3 : 122 < r := by omega
          have e4 : 57 < r := by omega
          have e5 : ¬ r < 48 := by omega
          go_wp2
          go_ret
          exact ⟨by rw [H.out]; rfl, rfl⟩
    · have hdd : decide ((p : Int) < (s.size : Int)) = false := by simp; omega
      have H : Hid (z = (decide (1 ≤ s.size) && decide (s.size ≤ 40))) := Lib.hid (by
        have := HA.out
        rw [List.drop_eq_nil_of_le (by rw [Array.length_toList]; exact Nat.le_of_not_lt hlt)] at this
        rw [← HZ.out, ← this]
        rfl)
      clear HA
      by_cases k1 : 1 ≤ s.size
      · by_cases k2 : s.size ≤ 40
        · have e1 : Hid (z = true) := Lib.hid (by rw [H.out, decide_eq_true k1, decide_eq_true k2]; rfl)
          have d1 : decide ((1 : Int) ≤ (s.size : Int)) = true := by simp; omega
          have d2 : decide ((s.size : Int) ≤ 40) = true := by simp; omega
          go_wp2
          all_goals (go_ret; exact ⟨by rw [e1.out]; rfl, rfl⟩)
        · have e1 : Hid (z = false) := Lib.hid (by rw [H.out, decide_eq_true k1, decide_eq_false k2]; rfl)
          have d1 : decide ((1 : Int) ≤ (s.size : Int)) = true := by simp; omega
          have d2 : decide ((s.size : Int) ≤ 40) = false := by simp; omega
          go_wp2
          all_goals (go_ret; exact ⟨by rw [e1.out]; rfl, rfl⟩)
      · have e1 : Hid (z = false) := Lib.hid (by rw [H.out, decide_eq_false k1]; rfl)
        have d1 : decide ((1 : Int) ≤ (s.size : Int)) = false := by simp; omega
        go_wp2
        all_goals (go_ret; exact ⟨by rw [e1.out]; rfl, rfl⟩)

end Go.Proofs.YtacfcfbleogioaaGreatDoor
namespace Go.Proofs.YtacfcfbleogioaaGreatDoor
open Go.RowKit Go.Lib Go.Joins

def same1 (f g : FilI) : Bool := decide (f.name = g.name) && decide (f.safe = g.safe) && decide (f.data = g.data)
def sameB : List FilI → List FilI → Bool
  | [], [] => true
  | f :: L, g :: M => same1 f g && sameB L M
  | _, _ => false
theorem same1_eq {f g : FilI} : same1 f g = true ↔ f = g := by
  obtain ⟨n, d, s⟩ := f
  obtain ⟨n', d', s'⟩ := g
  unfold same1
  simp only [Bool.and_eq_true, decide_eq_true_eq, FilI.mk.injEq]
  constructor
  · rintro ⟨⟨h1, h2⟩, h3⟩; exact ⟨h1, h3, h2⟩
  · rintro ⟨h1, h3, h2⟩; exact ⟨⟨h1, h2⟩, h3⟩
theorem sameB_eq : ∀ {L M : List FilI}, sameB L M = true ↔ L = M
  | [], [] => by simp [sameB]
  | [], _ :: _ => by simp [sameB]
  | _ :: _, [] => by simp [sameB]
  | f :: L, g :: M => by
    unfold sameB
    rw [Bool.and_eq_true, same1_eq, sameB_eq, List.cons.injEq]
theorem sameB_len {L M : List FilI} (h : L.length ≠ M.length) : sameB L M = false := by
  cases hs : sameB L M
  · rfl
  · exact absurd (congrArg List.length (sameB_eq.1 hs)) h
theorem sameB_drop {L M : List FilI} {i : Nat} {f g : FilI} (hf : L[i]? = some f) (hg : M[i]? = some g) : sameB (L.drop i) (M.drop i) = (same1 f g && sameB (L.drop (i + 1)) (M.drop (i + 1))) := by
  obtain ⟨h1, rfl⟩ := List.getElem?_eq_some_iff.1 hf
  obtain ⟨h2, rfl⟩ := List.getElem?_eq_some_iff.1 hg
  rw [List.drop_eq_getElem_cons h1, List.drop_eq_getElem_cons h2]
  rfl

theorem quiet_add {P : Program} {f : FuncId} {args : Array Value} {w : World} {a n : Nat} {v : Value} (h : Calls P f args (w.drewN (a + n)) (Tells v (w.drewN (a + n)))) :
    Calls P f args (w.drewN (a + n)) fun e w'' => e = .returned v ∧ ∃ m, w'' = w.drewN (a + m) :=
  h.mono fun _ _ ⟨he, m, hm⟩ => ⟨he, n + m, by rw [hm, World.drewN_drewN, Nat.add_assoc]⟩

set_option maxRecDepth 100000 in
set_option maxHeartbeats 8000000 in
theorem same_calls (a a' : Option Addr) (L M : List FilI) (c c' n n' : Nat) (w : World) {S S' : Nat → Prop} (h : Fils w S a L) (h' : Fils w S' a' M) (hn : L.length = n) (hn' : M.length = n') (hb : n ≤ 1073741824) (hb' : n' ≤ 1073741824) (hd : ∀ f ∈ L, f.data.length ≤ 1073741824) (hd' : ∀ f ∈ M, f.data.length ≤ 1073741824) :
    Calls Tryz.prog 23 #[.slice a n c, .slice a' n' c'] w (Tells (.bool (sameB L M)) w) := by
  by_cases hnn : n = n'
  · subst hnn
    obtain ⟨q, hq⟩ : ∃ q, sameB L M = q := ⟨_, rfl⟩
    rw [hq]
    have HQ := Lib.hid hq
    have HR := Lib.hid h
    have HR' := Lib.hid h'
    have HN := Lib.hid hn
    have HN' := Lib.hid hn'
    have HD := Lib.hid hd
    have HD' := Lib.hid hd'
    clear h h' hn hn' hq hd hd'
    go_enter Tryz.func23, Tryz.ntmps23
    go_wp2
    go_loopg [5] n (fun g idx wr => ∃ (i k : Nat), idx = .int .i64 (i : Int) ∧ g + i = n ∧ sameB (L.drop i) (M.drop i) = q ∧ wr = w.drewN k)
    case atStart => exact ⟨0, 0, rfl, rfl, HQ.out, rfl⟩
    case round =>
      obtain ⟨i, k, rfl, hg, hq, rfl⟩ := hrel
      have HG := Lib.hid hg
      have HE := Lib.hid hq
      clear hg hq HQ
      by_cases hlt : i < n
      · obtain ⟨g', rfl⟩ : ∃ g', gk = g' + 1 := ⟨gk - 1, by have := HG.out; omega⟩
        have hdd : decide ((i : Int) < (n : Int)) = true := by simp; omega
        obtain ⟨f, hf⟩ : ∃ x, L[i]? = some x := ⟨L[i]'(by rw [HN.out]; exact hlt), List.getElem?_eq_getElem _⟩
        obtain ⟨g, hg⟩ : ∃ y, M[i]? = some y := ⟨M[i]'(by rw [HN'.out]; exact hlt), List.getElem?_eq_getElem _⟩
        have hst := sameB_drop hf hg
        rw [HE.out] at hst
        have HST := Lib.hid hst
        obtain ⟨b, o, da, dc, rfl, _, r0, r1, r2, hrow, _⟩ := fils_at HR.out hf
        obtain ⟨b', o', da', dc', rfl, _, s0, s1, s2, hrow', _⟩ := fils_at HR'.out hg
        have HBY := Lib.hid (fun W (hW : Row W S da f.data) (hW' : Row W S' da' g.data) => bytes_calls da da' f.data g.data dc dc' f.data.length g.data.length W hW hW' rfl rfl (HD.out f (List.mem_of_getElem? hf)) (HD'.out g (List.mem_of_getElem? hg)))
        have HROW := Lib.hid hrow
        have HROW' := Lib.hid hrow'
        clear hst hf hg hrow hrow'
        by_cases hnm : f.name = g.name
        · by_cases hsf : f.safe = g.safe
          · obtain ⟨bq, hbq⟩ : ∃ bq, decide (f.data = g.data) = bq := ⟨_, rfl⟩
            rw [hbq] at HBY
            have HBQ := Lib.hid hbq
            have HST2 : Hid (q = (bq && sameB (L.drop (i + 1)) (M.drop (i + 1)))) := Lib.hid (by
              have := HST.out
              unfold same1 at this
              rw [decide_eq_true hnm, decide_eq_true hsf, hbq] at this
              simpa using this)
            rw [hnm] at r0
            rw [hsf] at r2
            clear hbq hnm hsf HST
            cases bq with
            | true =>
              have HN2 : Hid (sameB (L.drop (i + 1)) (M.drop (i + 1)) = q) := Lib.hid (by have := HST2.out; simp at this; exact this.symm)
              go_wp2
              go_quiet ((exact quiet_add (HBY.out _ (HROW.out.keep ((Keeps.refl Non _).drewN _) (fun _ _ h => h)) (HROW'.out.keep ((Keeps.refl Non _).drewN _) (fun _ _ h => h)))))
              go_wp2
              go_roundg g'
              case measure => omega
              case rel => exact ⟨i + 1, _, by go_num, by have := HG.out; omega, HN2.out, rfl⟩
            | false =>
              have HF : Hid (q = false) := Lib.hid (by rw [HST2.out]; rfl)
              go_wp2
              go_quiet ((exact quiet_add (HBY.out _ (HROW.out.keep ((Keeps.refl Non _).drewN _) (fun _ _ h => h)) (HROW'.out.keep ((Keeps.refl Non _).drewN _) (fun _ _ h => h)))))
              go_wp2
              go_ret
              exact ⟨by rw [HF.out]; rfl, _, World.drewN_drewN w k nq⟩
          · have HF : Hid (q = false) := Lib.hid (by
              have := HST.out
              unfold same1 at this
              rw [decide_eq_false hsf] at this
              simpa using this)
            rw [hnm] at r0
            have hne : (f.safe != g.safe) = true := by simpa using hsf
            clear hnm hsf HST
            go_wp2
            go_quiet (fail)
            go_wp2
            go_ret
            exact ⟨by rw [HF.out]; rfl, _, World.drewN_drewN w k nq⟩
        · have HF : Hid (q = false) := Lib.hid (by
            have := HST.out
            unfold same1 at this
            rw [decide_eq_false hnm] at this
            simpa using this)
          have hne : (f.name.toList == g.name.toList) = false := by
            rw [ByteArray.toList_eq, ByteArray.toList_eq]
            have := same_is f.name g.name
            rw [decide_eq_false hnm] at this
            exact this
          clear HST
          go_wp2
          go_quiet (fail)
          go_wp2
          go_ret
          exact ⟨by rw [HF.out]; rfl, _, World.drewN_drewN w k nq⟩
      · have hdd : decide ((i : Int) < (n : Int)) = false := by simp; omega
        have HT : Hid (q = true) := Lib.hid (by
          rw [← HE.out, List.drop_eq_nil_of_le (by rw [HN.out]; omega), List.drop_eq_nil_of_le (by rw [HN'.out]; omega)]
          rfl)
        go_wp2
        go_ret
        exact ⟨by rw [HT.out]; rfl, k, rfl⟩
  · have he : sameB L M = false := sameB_len (by rw [hn, hn']; exact hnn)
    rw [he]
    have hne : ((n : Int) != (n' : Int)) = true := by simp; omega
    clear h h' he hn hn' hd hd'
    go_enter Tryz.func23, Tryz.ntmps23
    go_wp2
    go_ret
    exact ⟨rfl, 0, rfl⟩

end Go.Proofs.YtacfcfbleogioaaGreatDoor
namespace Go.Proofs.YtacfcfbleogioaaGreatDoor
open Go.RowKit Go.Lib Go.Joins

def smallF : List FilI → Nat → Nat → Bool
  | [], _, n => decide (n ≤ 16384)
  | f :: L, i, n => if i < 100 ∧ f.name.size ≤ 1000 then smallF L (i + 1) (n + f.data.length) else false
theorem smallF_total : ∀ (L : List FilI) (i n : Nat), smallF L i n = true → n + total L ≤ 16384 ∧ (∀ f ∈ L, f.name.size ≤ 1000) ∧ (i + L.length ≤ 100 ∨ L = [])
  | [], i, n, h => ⟨by simpa [smallF, total] using h, (fun _ hf => by cases hf), Or.inr rfl⟩
  | f :: L, i, n, h => by
    unfold smallF at h
    split at h
    · next hc =>
      obtain ⟨h1, h2, h3⟩ := smallF_total L (i + 1) (n + f.data.length) h
      refine ⟨?_, ?_, ?_⟩
      · unfold total at h1 ⊢
        simp only [List.map_cons, List.sum_cons]
        omega
      · intro g hg
        rcases List.mem_cons.1 hg with rfl | hg
        · exact hc.2
        · exact h2 g hg
      · rcases h3 with h3 | rfl
        · left; simp only [List.length_cons]; omega
        · left; simp only [List.length_cons, List.length_nil]; omega
    · cases h
theorem smallF_drop {L : List FilI} {i n : Nat} {f : FilI} (hf : L[i]? = some f) : smallF (L.drop i) i n = if i < 100 ∧ f.name.size ≤ 1000 then smallF (L.drop (i + 1)) (i + 1) (n + f.data.length) else false := by
  obtain ⟨h1, rfl⟩ := List.getElem?_eq_some_iff.1 hf
  rw [List.drop_eq_getElem_cons h1]
  rfl

set_option maxRecDepth 100000 in
set_option maxHeartbeats 8000000 in
theorem small_calls (a : Option Addr) (L : List FilI) (c n : Nat) (w : World) {S : Nat → Prop} (h : Fils w S a L) (hn : L.length = n) (_hb : n ≤ 281474976710656) (hd : ∀ f ∈ L, f.data.length ≤ 281474976710656) :
    Calls Tryz.prog 8 #[.slice a n c] w (Tells (.bool (smallF L 0 0)) w) := by
  obtain ⟨q, hq⟩ : ∃ q, smallF L 0 0 = q := ⟨_, rfl⟩
  rw [hq]
  have HQ := Lib.hid hq
  have HR := Lib.hid h
  have HN := Lib.hid hn
  have HD := Lib.hid hd
  clear h hn hq hd
  go_enter Tryz.func8, Tryz.ntmps8
  go_wp2
  go_loopg [4, 3] n (fun g idx acc wr => ∃ (i m k : Nat), idx = .int .i64 (i : Int) ∧ acc = .int .i64 (m : Int) ∧ g + i = n ∧ i ≤ 100 ∧ m ≤ i * 281474976710656 ∧ smallF (L.drop i) i m = q ∧ wr = w.drewN k)
  case atStart => exact ⟨0, 0, 0, rfl, rfl, rfl, by omega, by omega, HQ.out, rfl⟩
  case round =>
    obtain ⟨i, m, k, rfl, rfl, hg, hi, hm, hq, rfl⟩ := hrel
    have HG := Lib.hid hg
    have HE := Lib.hid hq
    have HI := Lib.hid hi
    have HM := Lib.hid hm
    clear hg hq HQ hi hm
    by_cases hlt : i < n
    · obtain ⟨g', rfl⟩ : ∃ g', gk = g' + 1 := ⟨gk - 1, by have := HG.out; omega⟩
      have hdd : decide ((i : Int) < (n : Int)) = true := by simp; omega
      obtain ⟨f, hf⟩ : ∃ x, L[i]? = some x := ⟨L[i]'(by rw [HN.out]; exact hlt), List.getElem?_eq_getElem _⟩
      have hst := smallF_drop (n := m) hf
      rw [HE.out] at hst
      have HST := Lib.hid hst
      have HDF := Lib.hid (HD.out f (List.mem_of_getElem? hf))
      obtain ⟨b, o, da, dc, rfl, _, r0, r1, r2, hrow, _⟩ := fils_at HR.out hf
      clear hst hf hrow
      by_cases h1 : i < 100
      · have hd1 : decide ((100 : Int) ≤ (i : Int)) = false := by simp; omega
        by_cases h2 : f.name.size ≤ 1000
        · have hd2 : decide ((1000 : Int) < (f.name.size : Int)) = false := by simp; omega
          have HN2 : Hid (smallF (L.drop (i + 1)) (i + 1) (m + f.data.length) = q) := Lib.hid (by
            have := HST.out
            rw [if_pos ⟨h1, h2⟩] at this
            exact this.symm)
          obtain ⟨z, hz⟩ : ∃ z, f.data.length = z := ⟨_, rfl⟩
          rw [hz] at r1 HN2 HDF
          have hz1 : z ≤ 281474976710656 := HDF.out
          have hm1 : m ≤ 28147497671065600 := by have := HM.out; have := HI.out; omega
          clear HST h2
          go_wp2
          go_roundg g'
          case measure => omega
          case rel => exact ⟨i + 1, m + z, k, by go_num, by go_num, by have := HG.out; omega, by omega, by have := HM.out; omega, HN2.out, rfl⟩
        · have hd2 : decide ((1000 : Int) < (f.name.size : Int)) = true := by simp; omega
          have HF : Hid (q = false) := Lib.hid (by
            have := HST.out
            rw [if_neg (fun h => h2 h.2)] at this
            exact this)
          clear HST
          go_wp2
          go_ret
          exact ⟨by rw [HF.out]; rfl, k, rfl⟩
      · have hd1 : decide ((100 : Int) ≤ (i : Int)) = true := by simp; omega
        have HF : Hid (q = false) := Lib.hid (by
          have := HST.out
          rw [if_neg (fun h => h1 h.1)] at this
          exact this)
        clear HST
        go_wp2
        go_ret
        exact ⟨by rw [HF.out]; rfl, k, rfl⟩
    · have hdd : decide ((i : Int) < (n : Int)) = false := by simp; omega
      have HT : Hid (q = decide (m ≤ 16384)) := Lib.hid (by
        rw [← HE.out, List.drop_eq_nil_of_le (by rw [HN.out]; omega)]
        rfl)
      have hdm : decide ((m : Int) ≤ 16384) = decide (m ≤ 16384) := by
        rw [Bool.eq_iff_iff]; simp; omega
      go_wp2
      go_ret
      exact ⟨by rw [HT.out, ← hdm]; rfl, k, rfl⟩

end Go.Proofs.YtacfcfbleogioaaGreatDoor

namespace Go.Proofs.YtacfcfbleogioaaGreatDoor
open Go.RowKit Go.Lib Go.Joins

/-- A disk in blocks of its own; else nothing has turned. -/
structure Live (w0 w : World) (S : Nat → Prop) (B : Nat) (d : Dsk) : Prop where
  disk : Disk w S B d
  own : ∀ k, S k → w0.heap.size ≤ k
  bel : Below w0.heap.size w0 w

theorem Live.turns {w0 w w' : World} {S : Nat → Prop} {B : Nat} {d d' : Dsk} (h : Live w0 w S B d) (ht : Turns w S B d' w') : ∃ S', Live w0 w' S' B d' ∧ Fresh S w.heap.size S' ∧ Keeps S w w' := by
  obtain ⟨S', h1, h2, h3⟩ := ht
  refine ⟨S', ⟨h1, fun k hk => ?_, h.bel.trans (h3.toBelow h.bel.size h.own)⟩, h2, h3⟩
  rcases h2 k hk with h4 | h4
  · exact h.own k h4
  · exact Nat.le_trans h.bel.size h4
theorem Live.quiet {w0 w w' : World} {S : Nat → Prop} {B : Nat} {d : Dsk} (h : Live w0 w S B d) (hb : Below w.heap.size w w') : Live w0 w' S B d := ⟨h.disk.below hb, h.own, below_then h.bel hb⟩
theorem below_drewN (w : World) (n : Nat) : Below w.heap.size w (w.drewN n) := ((Keeps.refl Non w).drewN n).toBelow (Nat.le_refl _) (fun _ h => h.elim)
theorem Live.drewN {w0 w : World} {S : Nat → Prop} {B : Nat} {d : Dsk} (h : Live w0 w S B d) (n : Nat) : Live w0 (w.drewN n) S B d := h.quiet (below_drewN w n)
theorem Live.born {w0 w w' : World} {S : Nat → Prop} {B : Nat} {d : Dsk} (h0 : Below w0.heap.size w0 w) (hd : Disk w' S B d) (hf : Fresh Non w.heap.size S) (hb : Below w.heap.size w w') : Live w0 w' S B d :=
  ⟨hd, fun k e => by rcases hf k e with h | h; exact h.elim; exact Nat.le_trans h0.size h, below_then h0 hb⟩

/-- Blocks beside a disk's. -/
def Off (S : Nat → Prop) (w : World) (O : Nat → Prop) : Prop := ∀ k, O k → k < w.heap.size ∧ ¬ S k
theorem Off.turn {S S' O : Nat → Prop} {w w' : World} (h : Off S w O) (hf : Fresh S w.heap.size S') (hk : Keeps S w w') : Off S' w' O := fun k hO =>
  ⟨Nat.lt_of_lt_of_le (h k hO).1 hk.size, fun e => by rcases hf k e with h1 | h1; exact (h k hO).2 h1; have := (h k hO).1; omega⟩
theorem Off.below {S O : Nat → Prop} {w w' : World} (h : Off S w O) (hb : Below w.heap.size w w') : Off S w' O := fun k hO => ⟨Nat.lt_of_lt_of_le (h k hO).1 hb.size, (h k hO).2⟩
theorem Off.not {S O : Nat → Prop} {w : World} (h : Off S w O) : ∀ k, O k → ¬ S k := fun k hO => (h k hO).2
theorem Off.old {w0 w : World} {S O : Nat → Prop} {B : Nat} {d : Dsk} (h : Live w0 w S B d) (hO : ∀ k, O k → k < w0.heap.size) : Off S w O := fun k e => ⟨Nat.lt_of_lt_of_le (hO k e) h.bel.size, fun hs => by have := h.own k hs; have := hO k e; omega⟩
theorem Off.new {w0 w w' : World} {S O : Nat → Prop} {B : Nat} {d : Dsk} (h : Live w0 w S B d) (hO : ∀ k, O k → w.heap.size ≤ k ∧ k < w'.heap.size) : Off S w' O := fun k e => ⟨(hO k e).2, fun hs => by have := h.disk.2.1 k hs; have := (hO k e).1; omega⟩

theorem Row.below {w w' : World} {S : Nat → Prop} {a l} (h : Row w S a l) (hb : Below w.heap.size w w') : Row w' S a l := h.keep (keeps_below hb Non) (fun _ _ h => h)

/-- A row of constants. -/
theorem row_new (w : World) (l : List Nat) (hb : ∀ c ∈ l, c < 256) (fr : Nat × Nat) : Row (w.alloc (.cells (cellsN l).toArray 5 fr)) (One w.heap.size) (some ⟨w.heap.size, 0, none⟩) l := by
  refine ⟨hb, Or.inr ⟨_, _, rfl, rfl, fun i c hi => ?_⟩⟩
  rw [Nat.zero_add, World.cell?_alloc_mark w _ 5 fr i]
  rw [List.getElem?_toArray, cellsN, List.getElem?_map, hi]
  rfl

/-- What Read hands out. -/
theorem read_row {w w' : World} {f : Fil} {v : Value} (hb : ∀ c ∈ f.data, c < 256) (ho : w'.ownsRow w.heap.size 5 1 v f.data.length (cellsN f.data)) :
    ∃ a c S', v = .slice a f.data.length c ∧ Row w' S' a f.data ∧ (∀ k, S' k → w.heap.size ≤ k ∧ k < w'.heap.size) := by
  obtain ⟨a, c, h1, h2, _⟩ := (row_of_own hb rfl ho).is
  exact ⟨a, c, _, h1, h2, fun k e => ho.lt k e⟩

end Go.Proofs.YtacfcfbleogioaaGreatDoor
