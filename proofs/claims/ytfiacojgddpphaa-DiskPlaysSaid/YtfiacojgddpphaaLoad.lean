/-
  The program's Load. Conditions: the files lie in memory; all of them together are no more than 2 to the 30 bytes; names are small.
-/
import Derived.Test.YtfiacojgddpphaaTakes
import Derived.Deep.RegionHeld3
import Derived.Deep.DrawnRows
namespace Go.Proofs.Ytfiacojgddpphaa
open Go.RowKit Go.Lib Go.Joins

def fil (f : FilI) : Fil := ⟨f.name, f.data, f.safe.toNat⟩
def addF (f : FilI) (d : Dsk) : Dsk := { d with L := ins (fil f) d.L }
/-- A disk is loaded, file by file. -/
def loadS : List FilI → Dsk → Option Dsk
  | [], d => some d
  | f :: L, d => if takesB d f then loadS L (addF f d) else none
def total (L : List FilI) : Nat := (L.map (fun f => f.data.length)).sum

theorem takes_inv {d : Dsk} (hi : Inv d) {f : FilI} (ht : takesB d f = true) (hb : ∀ c ∈ f.data, c < 256) : Inv (addF f d) ∧ fnd f.name d.L = none ∧ 0 ≤ f.safe := by
  unfold takesB at ht
  simp only [Bool.and_eq_true, decide_eq_true_eq, Bool.not_eq_true'] at ht
  obtain ⟨⟨⟨⟨⟨h1, h2⟩, h3⟩, h4⟩, h5⟩, h6⟩ := ht
  have hn := fnd_is.1 h2
  exact ⟨inv_ins (f := fil f) hi h1 (by show f.safe.toNat ≤ _; show f.safe.toNat ≤ f.data.length; omega) hb (fnd_none hn) h3 (by show (used d.L : Int) + (f.data.length : Int) ≤ d.room; omega) d.ops d.tr d.down, hn, h4⟩

/-- What Load answers. -/
def LoadOut (q : Option Dsk) (w : World) (e : Ending) (w' : World) : Prop :=
  match q with
  | none => e = .returned (.tuple #[.pointer none, .int .i64 80]) ∧ Below w.heap.size w w'
  | some d => ∃ B S, e = .returned (.tuple #[.pointer (some ⟨B, 0, none⟩), .int .i64 0]) ∧ Disk w' S B d ∧ Fresh Non w.heap.size S ∧ Below w.heap.size w w'

/-- Where the four cells lie that the loading looks at. -/
def Four (W : World) (B F x : Nat) (nm : ByteArray) (a : Option Addr) (len cap : Nat) (z : Int) : Prop :=
  W.cell? ⟨B, 1, none⟩ = some (.map (some F)) ∧ W.cell? ⟨x, 0, none⟩ = some (.string nm) ∧ W.cell? ⟨x, 1, none⟩ = some (.slice a len cap) ∧ W.cell? ⟨x, 2, none⟩ = some (.int .i64 z)

theorem four_of {W : World} {S : Nat → Prop} {B : Nat} {d : Dsk} {F : Nat} {T : Option Nat} {cs : List Cel} (h : DiskAt W S B d F T cs) {x : Nat} {nm : ByteArray} {a : Option Addr} {len cap : Nat} {z : Int} (hx : W.heap[x]? = some (.cells #[.string nm, .slice a len cap, .int .i64 z] 52 (0, 0))) : Four W B F x nm a len cap z :=
  ⟨(cell_of_block h.blk 1).trans rfl, (cell_of_block hx 0).trans rfl, (cell_of_block hx 1).trans rfl, (cell_of_block hx 2).trans rfl⟩

theorem load_clone {w3 : World} {S S1 : Nat → Prop} {B : Nat} {d : Dsk} {F : Nat} {T : Option Nat} {cs : List Cel} (h : DiskAt w3 S B d F T cs) (hi : Inv d) {f : FilI} {a : Option Addr} {cap x : Nat} (hr : Row w3 S1 a f.data) (hl : f.data.length ≤ 1073741824)
    (hx : w3.heap[x]? = some (.cells #[.string f.name, .slice a f.data.length cap, .int .i64 f.safe] 52 (0, 0))) (hn : fnd f.name d.L = none) (hs0 : 0 ≤ f.safe) (hz : f.name.size ≤ 1099511627776) :
    Calls Try.prog 33 #[.slice a f.data.length cap] w3.drew fun e w4 => ∃ a3 c3 w6, e = .returned (.slice a3 f.data.length c3) ∧ Four w4 B F x f.name a f.data.length cap f.safe ∧ Four (w4.alloc (.cells #[.slice a3 f.data.length c3, .int .i64 f.safe] 68)) B F x f.name a f.data.length cap f.safe ∧
      (Instr.mapUpdate 69 (.map (some F)) (.string f.name) (.pointer (some ⟨w4.heap.size, 0, none⟩))).run Try.prog (w4.alloc (.cells #[.slice a3 f.data.length c3, .int .i64 f.safe] 68)) = .ok () w6 ∧ Four w6 B F x f.name a f.data.length cap f.safe ∧
      Hid (Half w3 S B (addF f d) w6) ∧ Hid (w3.heap.size ≤ w6.heap.size) := by
  refine (clone_calls a cap f.data S1 w3.drew hr hl).mono ?_
  rintro e w4 ⟨v, rfl, hown, hb⟩
  obtain ⟨a3, c3, rfl⟩ := dv_form2 hown
  have hb4 : Below w3.heap.size w3 w4 := ⟨hb.os, hb.tape, hb.output, hb.size, hb.block⟩
  have hown' : w4.ownsRow w3.heap.size 5 1 (.slice a3 f.data.length c3) f.data.length (cellsN f.data) := hown
  have h4 := h.below hb4
  have hx4 := block_below hb4 hx
  have hbel5 : Below w4.heap.size w4 (w4.alloc (.cells #[.slice a3 f.data.length c3, .int .i64 f.safe] 68)) := (Below.refl _ _).alloc (Nat.le_refl _) _
  have h5 := h4.below hbel5
  have hx5 := block_below hbel5 hx4
  have hcl : cs.length ≤ 64 := by have := hi.most; rw [← h.is, List.length_map] at this; exact this
  obtain ⟨w6, hrun, hown6, hturn⟩ := h5.map.store keyed9 Try.underlying69 (by unfold maxLen; omega) (keyOf_name (s := f.name) (by unfold maxLen; omega)) (Rp_mk w4.heap.size)
  have hg := hturn.grown
  have hk56 : Keeps (One F) (w4.alloc (.cells #[.slice a3 f.data.length c3, .int .i64 f.safe] 68)) w6 := (Keeps.refl (One F) _).grown hg (fun k e => .inl (Option.some.inj e).symm)
  have hk36 : Keeps (One F) w3 w6 := ((keeps_below hb4 (One F)).alloc _).trans hk56 (fun k e => .inl e)
  have hFl := h5.map.lt
  have hfb : w6.heap[w4.heap.size]? = some (.cells #[.slice a3 f.data.length c3, .int .i64 f.safe] 68 (0, 0)) := block_keep (heap_alloc_new w4 _) hk56 (fun e => by have h1 := h4.map.lt; have h2 : w4.heap.size = F := e; omega)
  have hsn : ((f.safe.toNat : Nat) : Int) = f.safe := by omega
  have hrow6 : w6.ownsRow w3.heap.size 5 1 (.slice a3 f.data.length c3) f.data.length (cellsN f.data) := by
    refine ownsRow_keep (hown'.alloc _) hk56 (fun k e hkF => ?_)
    have h1 := (hown'.lt k e).1
    have h2 := h.map.lt
    have h3 : k = F := hkF
    omega
  have hB6 : w6.cell? ⟨B, 1, none⟩ = some (.map (some F)) := (cell_of_block (block_keep h5.blk hk56 (fun e => map_ne h5.map h5.blk (by rw [show B = F from e]))) 1).trans rfl
  have hx6 := block_keep hx5 hk56 (fun e => map_ne h5.map hx5 (by rw [show x = F from e]))
  refine ⟨a3, c3, w6, rfl, four_of h4 hx4, four_of h5 hx5, hrun, ⟨hB6, (cell_of_block hx6 0).trans rfl, (cell_of_block hx6 1).trans rfl, (cell_of_block hx6 2).trans rfl⟩, Lib.hid ⟨⟨F, T, ?_⟩, ?_⟩, Lib.hid hk36.size⟩
  · refine h.created (f := fil f) hn hk36 (fb := w4.heap.size) hown6 ?_ (ownsRow_base0 hrow6) hb4.size (fun k e => (hrow6.lt k e).1)
    show w6.heap[w4.heap.size]? = some (.cells #[.slice a3 f.data.length c3, .int .i64 ((f.safe.toNat : Nat) : Int)] 68 (0, 0))
    rw [hsn]
    exact hfb
  · exact hk36.mono (fun k _ e => by rw [show k = F from e]; exact h.sF)

theorem fils_at {w : World} {S : Nat → Prop} {a : Option Addr} {L : List FilI} (h : Fils w S a L) {i : Nat} {f : FilI} (hi : L[i]? = some f) :
    ∃ b o da dc, a = some ⟨b, o, none⟩ ∧ S b ∧ w.cell? ⟨b, o + i * 3, none⟩ = some (.string f.name) ∧ w.cell? ⟨b, o + i * 3 + 1, none⟩ = some (.slice da f.data.length dc) ∧ w.cell? ⟨b, o + i * 3 + 2, none⟩ = some (.int .i64 f.safe) ∧ Row w S da f.data ∧ (da = none → dc = 0) ∧ f.data.length ≤ dc ∧ dc ≤ maxLen := by
  obtain ⟨cells, hc, h2⟩ := h
  obtain ⟨h3, ⟨dv, h4, h5⟩, h6⟩ := hc.at_ i f hi
  rcases h2 with h0 | ⟨b, o, h7, h8, h9⟩
  · rw [h0] at hi; simp at hi
  · obtain ⟨da, dc, hd, hr, hx⟩ := h5.is
    rw [hd] at h4
    exact ⟨b, o, da, dc, h7, h8, h9 _ _ h3, h9 _ _ h4, h9 _ _ h6, hr, hx⟩

theorem total_drop {L : List FilI} {i : Nat} {f : FilI} (hi : L[i]? = some f) : total (L.drop i) = f.data.length + total (L.drop (i + 1)) := by
  have hlt : i < L.length := (List.getElem?_eq_some_iff.1 hi).1
  have e : L[i] = f := by rw [List.getElem?_eq_getElem hlt] at hi; exact Option.some.inj hi
  rw [List.drop_eq_getElem_cons hlt, e]
  unfold total
  rw [List.map_cons, List.sum_cons]
theorem loadS_drop {L : List FilI} {i : Nat} {f : FilI} (hi : L[i]? = some f) (d : Dsk) : loadS (L.drop i) d = if takesB d f then loadS (L.drop (i + 1)) (addF f d) else none := by
  have hlt : i < L.length := (List.getElem?_eq_some_iff.1 hi).1
  have e : L[i] = f := by rw [List.getElem?_eq_getElem hlt] at hi; exact Option.some.inj hi
  rw [List.drop_eq_getElem_cons hlt, e]
  rfl

set_option maxRecDepth 100000 in
set_option maxHeartbeats 8000000 in
theorem load_calls (a0 : Option Addr) (L : List FilI) (cap0 n : Nat) (room : Int) (w : World) {S0 : Nat → Prop} (hr : Fils w S0 a0 L) (hn : L.length = n) (ht : total L ≤ 1073741824) (hnm : ∀ f ∈ L, f.name.size ≤ 1099511627776) (hcm : n ≤ 1048576) (hroom : room ≤ 9223372036854775807) :
    Calls Try.prog 11 #[.slice a0 n cap0, .int .i64 room] w (LoadOut (loadS L (dsk0 room)) w) := by
  obtain ⟨q, hq⟩ : ∃ q, loadS L (dsk0 room) = q := ⟨_, rfl⟩
  rw [hq]
  have HQ := Lib.hid hq
  have HNEW := Lib.hid (new_calls room w hroom)
  have HR := Lib.hid hr
  have HN := Lib.hid hn
  have HT := Lib.hid ht
  have HNM := Lib.hid hnm
  clear hq hr hn ht hnm hroom
  go_enter Try.func11, Try.ntmps11
  go_wp2_with fail
  with_reducible refine HNEW.out.mono ?_
  rintro e w1 ⟨B, S, rfl, hd1, hf1, hb1⟩
  have HD1 := Lib.hid hd1
  have HF1 := Lib.hid hf1
  have HB1 := Lib.hid hb1
  clear hd1 hf1 hb1
  go_wp2
  go_loopg [4, 5, 8, 13] n (fun g _ _ _ idx wr => ∃ (i : Nat) (d : Dsk) (S : Nat → Prop), idx = .int .i64 (i : Int) ∧ g + i = n ∧ Disk wr S B d ∧ (∀ k, S k → w.heap.size ≤ k) ∧ loadS (L.drop i) d = q ∧ used d.L + total (L.drop i) ≤ 1073741824 ∧ Below w.heap.size w wr)
  case atStart => exact ⟨0, _, S, rfl, rfl, HD1.out, fun k e => by rcases HF1.out k e with h | h; exact h.elim; exact h, HQ.out, by show used [] + total L ≤ _; have := HT.out; simp [used]; omega, HB1.out⟩
  case round =>
    obtain ⟨i, d, Si, rfl, hg, hD, hS, hld, hus, hb⟩ := hrel
    have HG := Lib.hid hg
    have HD := Lib.hid hD
    have HS := Lib.hid hS
    have HLD := Lib.hid hld
    have HUS := Lib.hid hus
    have HB := Lib.hid hb
    clear hg hD hS hld hus hb
    by_cases hlt : i < n
    · obtain ⟨g', rfl⟩ : ∃ g', gk = g' + 1 := ⟨gk - 1, by have := HG.out; omega⟩
      have hd : decide ((i : Int) < (n : Int)) = true := by simp; omega
      obtain ⟨f, hfi⟩ : ∃ f, L[i]? = some f := ⟨L[i]'(by rw [HN.out]; omega), List.getElem?_eq_getElem _⟩
      have hfm : f ∈ L := List.mem_of_getElem? hfi
      obtain ⟨b, o, da, dc, rfl, hSb, r0, r1, r2, hrow, hac, hlc, hcm2⟩ := fils_at (HR.out.below HB.out) hfi
      have htd := total_drop hfi
      have hld := loadS_drop hfi d
      have hlenD : f.data.length ≤ 1073741824 := by have := HUS.out; omega
      have hnz := HNM.out f hfm
      have hud : used d.L ≤ 1073741824 := by have := HUS.out; omega
      have huadd : used (addF f d).L + total (L.drop (i + 1)) ≤ 1073741824 := by
        have h1 : used (addF f d).L = used d.L + f.data.length := used_ins (fil f) d.L
        have := HUS.out
        omega
      obtain ⟨W, hW⟩ : ∃ W, wr.alloc (.cells #[.string f.name, .slice da f.data.length dc, .int .i64 f.safe] 52) = W := ⟨_, rfl⟩
      have hbel : Below wr.heap.size wr W := by rw [← hW]; exact (Below.refl _ _).alloc (Nat.le_refl _) _
      have hx : W.heap[wr.heap.size]? = some (.cells #[.string f.name, .slice da f.data.length dc, .int .i64 f.safe] 52 (0, 0)) := by rw [← hW]; exact heap_alloc_new wr _
      have w0 : W.cell? ⟨wr.heap.size, 0, none⟩ = some (.string f.name) := (cell_of_block hx 0).trans rfl
      have w1c : W.cell? ⟨wr.heap.size, 1, none⟩ = some (.slice da f.data.length dc) := (cell_of_block hx 1).trans rfl
      have w2c : W.cell? ⟨wr.heap.size, 2, none⟩ = some (.int .i64 f.safe) := (cell_of_block hx 2).trans rfl
      have HTK := Lib.hid (takes_calls f.name da f.data dc f.safe W (HD.out.below hbel) hud hnz hlenD)
      have HBW := Lib.hid hbel
      have HX := Lib.hid hx
      have HROW := Lib.hid hrow
      have HLEN := Lib.hid hlenD
      have HLD2 := Lib.hid hld
      have HUADD := Lib.hid huadd
      have HNZ := Lib.hid hnz
      have hfe : (⟨f.name, f.data, f.safe⟩ : FilI) = f := rfl
      rw [hfe] at HTK
      clear hfi hfm hrow htd hld hlenD hnz hud huadd hbel hx hfe hSb hac hlc hcm2
      cases htk : takesB d f with
      | false =>
        rw [htk] at HTK HLD2
        have HQN : Hid (q = none) := Lib.hid (by rw [← HLD.out, HLD2.out]; rfl)
        clear htk
        go_wp2_with fail
        with_reducible refine HTK.out.mono ?_
        rintro e w3 ⟨rfl, hb3⟩
        have HB3 := Lib.hid (HB.out.trans (below_then HBW.out hb3 |>.mono HB.out.size))
        clear hb3
        go_wp2
        go_ret2
        rw [HQN.out]
        exact ⟨rfl, HB3.out⟩
      | true =>
        rw [htk] at HTK HLD2
        have HTKB := Lib.hid htk
        clear htk
        go_wp2_with fail
        with_reducible refine HTK.out.mono ?_
        rintro e w3 ⟨rfl, hb3⟩
        have hb03 := below_then HBW.out hb3
        obtain ⟨hi3, hlt3, F, T, cs, h3⟩ := HD.out.below hb03
        have hrow3 : Row w3 S0 da f.data := Row.keep HROW.out (keeps_below hb03 Non) (fun _ _ h => h)
        obtain ⟨hinv, hnone, hs0⟩ := takes_inv hi3 HTKB.out hrow3.1
        have hx3 := block_below hb3 HX.out
        have HLC := Lib.hid (load_clone h3 hi3 hrow3 HLEN.out hx3 hnone hs0 HNZ.out)
        obtain ⟨p0, p1, p2, p3⟩ : Four w3.drew B F wr.heap.size f.name da f.data.length dc f.safe := four_of h3 hx3
        have HB3 := Lib.hid (HB.out.trans (hb03.mono HB.out.size))
        have HINV := Lib.hid hinv
        have HLT3 := Lib.hid hlt3
        clear hb3 hb03 hi3 hlt3 h3 hrow3 hinv hnone hs0 hx3
        go_wp2
        go_region_held3 (fun W => W.cell? ⟨B, 1, none⟩ = some (.map (some F)) ∧ W.cell? ⟨wr.heap.size, 0, none⟩ = some (.string f.name) ∧ W.cell? ⟨wr.heap.size, 1, none⟩ = some (.slice da f.data.length dc) ∧ W.cell? ⟨wr.heap.size, 2, none⟩ = some (.int .i64 f.safe))
          (first
            | exact ⟨p0, p1, p2, p3⟩
            | exact ⟨q0, q1, q2, q3⟩
            | exact ⟨s0, s1, s2, s3⟩
            | exact ⟨t0, t1, t2, t3⟩)
          (first
            | (refine HLC.out.mono ?_
               rintro e w4 ⟨a3, c3, w6, rfl, ⟨q0, q1, q2, q3⟩, ⟨s0, s1, s2, s3⟩, hrun, ⟨t0, t1, t2, t3⟩, HH, HSZ⟩))
        all_goals
          clear p0 p1 p2 p3 q0 q1 q2 q3 s0 s1 s2 s3 t0 t1 t2 t3 hrun
          go_wp2
          go_roundg g'
          case measure => omega
          case rel =>
            obtain ⟨S', h1, h2, h3⟩ := turns_of (Keeps.refl _ w3) HH.out HINV.out
            refine ⟨i + 1, addF f d, S', by go_num, by have := HG.out; omega, h1, fun k e => ?_, ?_, HUADD.out, HB3.out.trans (h3.toBelow (by have := HB3.out.size; omega) HS.out)⟩
            · rcases h2 k e with h4 | h4
              · exact HS.out k h4
              · have := HB3.out.size; omega
            · rw [← HLD.out, HLD2.out]
              rfl
    · have hd : decide ((i : Int) < (n : Int)) = false := by simp; omega
      have hin : i = n := by have := HG.out; omega
      have HQS : Hid (q = some d) := Lib.hid (by
        rw [← HLD.out, List.drop_eq_nil_of_le (by rw [HN.out]; omega)]
        rfl)
      go_wp2
      go_ret2
      rw [HQS.out]
      exact ⟨B, Si, rfl, HD.out, fun k e => .inr (HS.out k e), HB.out⟩

end Go.Proofs.Ytfiacojgddpphaa
