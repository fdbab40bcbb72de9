/-
  The program's Files. Conditions: the disk lies in memory; all files together are no more than 2 to the 30 bytes.
-/
import Derived.Test.YtacfcfbleogioaaGreatDoorGrow
import Derived.Deep.RegionHeld3
import Derived.Deep.DrawnRows
namespace Go.Proofs.YtacfcfbleogioaaGreatDoor
open Go.RowKit Go.Lib Go.Joins

/-- A new slice of these files. -/
def FilesOut (l : List FilI) (w : World) (e : Ending) (w' : World) : Prop :=
  ∃ a c S', e = .returned (.slice a l.length c) ∧ Fils w' S' a l ∧ (a = none → c = 0) ∧ l.length ≤ c ∧ c ≤ maxLen ∧ (∀ k, S' k → w.heap.size ≤ k ∧ k < w'.heap.size) ∧ Below w.heap.size w w'

theorem names_cells {w : World} {base : Nat} {v : Value} {l : List ByteArray} (h : w.ownsRow base 9 1 v l.length (l.map Value.string)) : ∃ a c, v = .slice a l.length c ∧ (l = [] ∨ ∃ g, a = some ⟨g, 0, none⟩ ∧ base ≤ g ∧ ∀ (i : Nat) (s : ByteArray), l[i]? = some s → w.cell? ⟨g, i, none⟩ = some (.string s)) := by
  rcases h.2 with ⟨h1, h0⟩ | ⟨g, cap, cur, h1, hg, hgb, hcap, hcm, hcur, htk⟩
  · exact ⟨none, 0, by rw [h1, h0], .inl (List.length_eq_zero_iff.1 h0)⟩
  · refine ⟨_, cap, h1, .inr ⟨g, rfl, hg, fun i s hi => ?_⟩⟩
    have := h.cells (g := g) (by rw [h1]; rfl) i (.string s) (by rw [List.getElem?_map, hi]; rfl)
    rw [Addr.add_mid, Nat.zero_add] at this
    exact this

theorem dv_form2 {w : World} {base e size n : Nat} {dv : Value} {xs : List Value} (h : w.ownsRow base e size dv n xs) : ∃ a c, dv = .slice a n c := by
  rcases h.2 with ⟨h1, h0⟩ | ⟨g, cap, cur, h1, _⟩
  · exact ⟨none, 0, by rw [h1, h0]⟩
  · exact ⟨_, cap, h1⟩

theorem ownsRow_base0 {w : World} {base e size n : Nat} {v : Value} {xs : List Value} (h : w.ownsRow base e size v n xs) : w.ownsRow 0 e size v n xs := ownsRow_le h (Nat.zero_le _)

/-- A cell of the list as the map tells it. -/
theorem cfnd_at {cs : List Cel} (hs : Srt (cs.map Cel.f)) {i : Nat} {c : Cel} (hi : cs[i]? = some c) : cfnd c.f.name cs = some c := by
  have hm : c ∈ cs := List.mem_of_getElem? hi
  cases hc : cfnd c.f.name cs with
  | none =>
    unfold cfnd at hc
    have := List.find?_eq_none.1 hc c hm
    simp at this
  | some x =>
    obtain ⟨h1, h2⟩ := cfnd_some hc
    rw [srt_inj hs x h1 c hm h2]

theorem other_elem_n {w : World} {b e n size : Nat} {v : Value} {xs : List Value} {cs : Array Value} {t : TypeId} {fr : Nat × Nat} (h : w.heap[b]? = some (.cells cs t fr)) (hown : w.ownsRow 0 e size v n xs) (ht : t ≠ e) : v.ownBlock ≠ some b := by
  intro hb
  rcases hown.2 with ⟨rfl, _⟩ | ⟨g, cap, cur, rfl, _, hg, _⟩
  · cases hb
  · have : g = b := Option.some.inj hb
    subst this
    rw [h] at hg
    simp only [Option.some.injEq, Obj.cells.injEq] at hg
    exact ht hg.2.1

theorem news_at {w : World} {l : List Value} {t : TypeId} : ∀ j u, l[j]? = some u → (w.alloc (.cells l.toArray t)).cell? ((⟨w.heap.size, 0, none⟩ : Addr).add j) = some u := by
  intro j u hj
  rw [Addr.add_mid, Nat.zero_add, cell_of_block (heap_alloc_new w (.cells l.toArray t)) j]
  simpa using hj

theorem append_file {w : World} {v : Value} {n : Nat} {xs : List Value} (hown : w.ownsRow 0 63 3 v n xs) (hn : n ≤ 1000) (nm : ByteArray) (a : Option Addr) (l c : Nat) (z : Int) :
    ∃ v' w', (∀ ty, (Builtin.append_ #[22, 22] ty #[v, .slice (some ⟨w.heap.size, 0, none⟩) 1 1]).run Tryz.prog (w.alloc (.cells #[.string nm, .slice a l c, .int .i64 z] 63)) = .ok v' w') ∧ w'.ownsRow 0 63 3 v' (n + 1) (xs ++ [.string nm, .slice a l c, .int .i64 z]) ∧
      (w.alloc (.cells #[.string nm, .slice a l c, .int .i64 z] 63)).grownBy w' v.ownBlock ∧ ∀ k, v'.ownBlock = some k → v.ownBlock = some k ∨ w.heap.size + 1 ≤ k := by
  obtain ⟨v3, w3, h1, h2, h3, h4⟩ := append_any (w := w.alloc (.cells #[.string nm, .slice a l c, .int .i64 z] 63)) Tryz.underlying22 info52 rfl (by decide) (hown.alloc _)
    (b := ⟨w.heap.size, 0, none⟩) (m := 1) (c := 1) (news := [.string nm, .slice a l c, .int .i64 z]) rfl news_at (by intro u hu; simp at hu; rcases hu with rfl | rfl | rfl <;> rfl) (by unfold maxLen; omega) (by omega)
  exact ⟨v3, w3, h1, h2, h3, fun k hk => by simpa using h4 k hk⟩

/-- A copy of a file's bytes, the file lying as it lay. -/
theorem clone_file {wr : World} {a : Option Addr} {cap ln : Nat} {dt : List Nat} {sf : Int} {fb : Nat} (nm : ByteArray) (hcl : Calls Tryz.prog 34 #[.slice a ln cap] wr.drew (Cloned dt wr.drew)) (hln : dt.length = ln) (hfl : wr.heap[fb]? = some (.cells #[.slice a ln cap, .int .i64 sf] 74 (0, 0))) :
    Calls Tryz.prog 34 #[.slice a ln cap] wr.drew fun e w2 => ∃ a3 c3, e = .returned (.slice a3 ln c3) ∧ Hid (w2.ownsRow wr.heap.size 5 1 (.slice a3 ln c3) ln (cellsN dt)) ∧ Hid (Below wr.heap.size wr w2) ∧
      w2.cell? ⟨fb, 0, none⟩ = some (.slice a ln cap) ∧ w2.cell? ⟨fb, 1, none⟩ = some (.int .i64 sf) ∧
      (w2.alloc (.cells #[.string nm, .slice a3 ln c3, .int .i64 sf] 63)).cell? ⟨fb, 0, none⟩ = some (.slice a ln cap) ∧ (w2.alloc (.cells #[.string nm, .slice a3 ln c3, .int .i64 sf] 63)).cell? ⟨fb, 1, none⟩ = some (.int .i64 sf) := by
  refine hcl.mono ?_
  rintro e w2 ⟨v2, rfl, hown2, hb2⟩
  rw [hln] at hown2
  obtain ⟨a3, c3, rfl⟩ := dv_form2 hown2
  have hb3 : Below wr.heap.size wr w2 := ⟨hb2.os, hb2.tape, hb2.output, hb2.size, hb2.block⟩
  have hfl2 := block_below hb3 hfl
  have hfl3 := (Below.heap_alloc w2 (.cells #[.string nm, .slice a3 ln c3, .int .i64 sf] 63) fb (lt_of_block hfl2)).trans hfl2
  exact ⟨a3, c3, rfl, Lib.hid hown2, Lib.hid hb3, (cell_of_block hfl2 0).trans rfl, (cell_of_block hfl2 1).trans rfl, (cell_of_block hfl3 0).trans rfl, (cell_of_block hfl3 1).trans rfl⟩

/-- The copy is put behind the files that are there. -/
theorem put_file {wr w2 : World} {a : Option Addr} {cap ln i : Nat} {sf : Int} {fb : Nat} {lst : Value} {cells : List Value} (hfl : wr.heap[fb]? = some (.cells #[.slice a ln cap, .int .i64 sf] 74 (0, 0))) (hown : wr.ownsRow 0 63 3 lst i cells) (hi : i ≤ 1000)
    (hb2 : Below wr.heap.size wr w2) (nm : ByteArray) (a3 : Option Addr) (c3 : Nat) :
    ∃ a4 c4 w3, (∀ ty, (Builtin.append_ #[22, 22] ty #[lst, .slice (some ⟨w2.heap.size, 0, none⟩) 1 1]).run Tryz.prog (w2.alloc (.cells #[.string nm, .slice a3 ln c3, .int .i64 sf] 63)) = .ok (.slice a4 (i + 1) c4) w3) ∧
      Hid (w3.ownsRow 0 63 3 (.slice a4 (i + 1) c4) (i + 1) (cells ++ [.string nm, .slice a3 ln c3, .int .i64 sf])) ∧ Hid ((w2.alloc (.cells #[.string nm, .slice a3 ln c3, .int .i64 sf] 63)).grownBy w3 lst.ownBlock) ∧
      Hid (∀ k, (Value.slice a4 (i + 1) c4).ownBlock = some k → lst.ownBlock = some k ∨ w2.heap.size + 1 ≤ k) ∧ w3.cell? ⟨fb, 0, none⟩ = some (.slice a ln cap) ∧ w3.cell? ⟨fb, 1, none⟩ = some (.int .i64 sf) := by
  obtain ⟨v3, w3, h1, h2, h3, h4⟩ := append_file (ownsRow_keep hown (keeps_below hb2 Non) (fun _ _ h => h)) hi nm a3 ln c3 sf
  obtain ⟨a4, c4, rfl⟩ := dv_form2 h2
  have hfl2 := block_below hb2 hfl
  have hfl3 := (Below.heap_alloc w2 (.cells #[.string nm, .slice a3 ln c3, .int .i64 sf] 63) fb (lt_of_block hfl2)).trans hfl2
  have hfl4 := (h3.block fb (lt_of_block hfl3) (fun e => other_elem_n hfl hown (by decide) e.symm)).trans hfl3
  exact ⟨a4, c4, w3, h1, Lib.hid h2, Lib.hid h3, Lib.hid h4, (cell_of_block hfl4 0).trans rfl, (cell_of_block hfl4 1).trans rfl⟩

/-- One file more. -/
theorem fcells_more {wr w2 w3 : World} {So : Nat → Prop} {lst v2 : Value} {i ln : Nat} {cells : List Value} {L : List FilI} {f : FilI} (hown : wr.ownsRow 0 63 3 lst i cells) (hfc : FCells wr So cells L) (_hSo : ∀ k, So k → k < wr.heap.size) (hlo : ∀ k, lst.ownBlock = some k → ¬ So k)
    (hb2 : Below wr.heap.size wr w2) (h2 : w2.ownsRow wr.heap.size 5 1 v2 ln (cellsN f.data)) (hb : ∀ c ∈ f.data, c < 256) (hln : f.data.length = ln) {o : Obj} (hg : (w2.alloc o).grownBy w3 lst.ownBlock) :
    FCells w3 (fun k => So k ∨ v2.ownBlock = some k) (cells ++ [.string f.name, v2, .int .i64 f.safe]) (L ++ [f]) := by
  have hk1 : Keeps (fun k => lst.ownBlock = some k) wr w3 := ((keeps_below hb2 _).alloc o).grown hg (fun k e => .inl e)
  have hk2 : Keeps (fun k => lst.ownBlock = some k) w2 w3 := ((Keeps.refl _ w2).alloc o).grown hg (fun k e => .inl e)
  have hby := row_of_own hb hln h2
  have hlt : ∀ k, lst.ownBlock = some k → k < wr.heap.size := fun k e => (hown.lt k e).2
  refine ((hfc.keep hk1 (fun k hs e => hlo k e hs)).mono (fun k h => .inl h)).app ((FCells.one (hby.keep hk2 (fun k hs e => ?_))).mono (fun k h => .inr h))
  have := (h2.lt k hs).1
  have := hlt k e
  omega

set_option maxRecDepth 100000 in
set_option maxHeartbeats 4000000 in
theorem files_calls (w : World) {S : Nat → Prop} {B : Nat} {d : Dsk} (hd : Disk w S B d) (hu : used d.L ≤ 1073741824) : Calls Tryz.prog 24 #[.pointer (some ⟨B, 0, none⟩)] w (FilesOut (d.L.map toI) w) := by
  obtain ⟨hi, _, F, T, cs, h⟩ := hd
  have hnm := names_calls w h hi
  have HNM := Lib.hid hnm
  have HD := Lib.hid h
  have HI := Lib.hid hi
  have hmost := hi.most
  have hlen : (d.L.map Fil.name).length = d.L.length := List.length_map _
  obtain ⟨n, hn⟩ : ∃ n, d.L.length = n := ⟨_, rfl⟩
  obtain ⟨names, hnames⟩ : ∃ l, d.L.map Fil.name = l := ⟨_, rfl⟩
  rw [hn] at hmost
  rw [hnames, hn] at hlen
  rw [hnames] at HNM
  have HN := Lib.hid hn
  have HNAMES := Lib.hid hnames
  have HU := Lib.hid hu
  have HLEN := Lib.hid hlen
  clear hnm h hi hn hnames hu hlen
  go_enter Tryz.func24, Tryz.ntmps24
  go_wp2_with fail
  with_reducible refine HNM.out.mono ?_
  rintro e w1 ⟨v1, rfl, hown1, hb1⟩
  obtain ⟨a1, cap1, rfl, hcells⟩ := names_cells hown1
  rw [HLEN.out]
  have HC := Lib.hid hcells
  have HB1 := Lib.hid hb1
  have hsz1 := hb1.size
  clear hown1 hb1 hcells
  go_wp2
  go_loopg [3, 5, 6, 10] n (fun g lst _ _ idx wr => ∃ (i : Nat) (cells : List Value) (So : Nat → Prop), idx = .int .i64 (i : Int) ∧ g + i = n ∧ wr.ownsRow 0 63 3 lst i cells ∧ FCells wr So cells ((d.L.take i).map toI) ∧
    (∀ k, So k → w.heap.size ≤ k ∧ k < wr.heap.size) ∧ (∀ k, lst.ownBlock = some k → w1.heap.size ≤ k ∧ ¬ So k) ∧ Below w1.heap.size w1 wr)
  case atStart => exact ⟨0, [], Non, rfl, rfl, World.ownsRow_nil _ _ _ _, FCells.nil _ _, fun _ h => h.elim, (fun k e => by cases e), Below.refl _ _⟩
  case round =>
    obtain ⟨i, cells, So, rfl, hg, hown, hfc, hSo, hlo, hb⟩ := hrel
    have HG := Lib.hid hg
    have HOWN := Lib.hid hown
    have HFC := Lib.hid hfc
    have HSO := Lib.hid hSo
    have HLO := Lib.hid hlo
    have HB := Lib.hid hb
    have hszr := hb.size
    obtain ⟨ao, co, hform⟩ := dv_form2 hown
    subst hform
    clear hg hown hfc hSo hlo hb
    by_cases hlt : i < n
    · obtain ⟨g', rfl⟩ : ∃ g', gk = g' + 1 := ⟨gk - 1, by have := HG.out; omega⟩
      have hd : decide ((i : Int) < (n : Int)) = true := by simp; omega
      have hcl : cs.length = n := by rw [← HN.out, ← HD.out.is, List.length_map]
      obtain ⟨c, hci⟩ : ∃ c, cs[i]? = some c := ⟨cs[i]'(by omega), List.getElem?_eq_getElem (by omega)⟩
      have hm : c ∈ cs := List.mem_of_getElem? hci
      have hfi : d.L[i]? = some c.f := by rw [← HD.out.is, List.getElem?_map, hci]; rfl
      have hni : names[i]? = some c.f.name := by rw [← HNAMES.out, List.getElem?_map, hfi]; rfl
      obtain ⟨gn, rfl, _, hcn⟩ : ∃ g, a1 = some ⟨g, 0, none⟩ ∧ w.heap.size ≤ g ∧ ∀ (i : Nat) (s : ByteArray), names[i]? = some s → w1.cell? ⟨g, i, none⟩ = some (.string s) := by
        rcases HC.out with h0 | h0
        · rw [h0] at hni; simp at hni
        · exact h0
      have hcw := hcn i c.f.name hni
      have hcr : wr.cell? ⟨gn, i, none⟩ = some (.string c.f.name) := (World.cell?_of_block (a := ⟨gn, i, none⟩) (HB.out.block gn (lt_of_cell hcw))).trans hcw
      have hDr : DiskAt wr S B d F T cs := (HD.out.below HB1.out).below HB.out
      have hB1 : wr.cell? ⟨B, 1, none⟩ = some (.map (some F)) := (cell_of_block hDr.blk 1).trans rfl
      have hlk := look_run hDr.map (s := c.f.name) (by
        have := HI.out.name c.f (by rw [← HD.out.is]; exact List.mem_map.2 ⟨c, hm, rfl⟩)
        unfold nmd at this
        simp only [Bool.and_eq_true, decide_eq_true_eq] at this
        unfold maxLen; omega)
      rw [cfnd_at (by rw [HD.out.is]; exact HI.out.srt) hci] at hlk
      dsimp only [ptr] at hlk
      obtain ⟨a, cap, hdv⟩ := dv_form (hDr.row c hm)
      have hfl := hDr.file c hm
      have hlenD : c.f.data.length ≤ 1073741824 := Nat.le_trans (used_mem (by rw [← HD.out.is]; exact List.mem_map.2 ⟨c, hm, rfl⟩)) HU.out
      have hby := row_of_own (HI.out.byte c.f (by rw [← HD.out.is]; exact List.mem_map.2 ⟨c, hm, rfl⟩)) rfl (hDr.row c hm)
      obtain ⟨a2, cap2, hv2, hrow, _⟩ := hby.is
      rw [hdv] at hv2
      obtain ⟨rfl, _, rfl⟩ := Value.slice.inj hv2
      have HCL := Lib.hid (clone_calls a cap c.f.data _ wr.drew hrow hlenD)
      rw [hdv] at hfl
      have HFL := Lib.hid hfl
      have f0 : wr.drew.cell? ⟨c.fb, 0, none⟩ = some (.slice a c.f.data.length cap) := (cell_of_block hfl 0).trans rfl
      have f1 : wr.drew.cell? ⟨c.fb, 1, none⟩ = some (.int .i64 (c.f.safe : Int)) := (cell_of_block hfl 1).trans rfl
      have HB8 := Lib.hid (HI.out.byte c.f (by rw [← HD.out.is]; exact List.mem_map.2 ⟨c, hm, rfl⟩))
      obtain ⟨nm, hnm⟩ : ∃ x, c.f.name = x := ⟨_, rfl⟩
      obtain ⟨dt, hdt⟩ : ∃ x, c.f.data = x := ⟨_, rfl⟩
      obtain ⟨sf, hsf⟩ : ∃ x : Int, (c.f.safe : Int) = x := ⟨_, rfl⟩
      obtain ⟨ln, hln⟩ : ∃ x, dt.length = x := ⟨_, rfl⟩
      obtain ⟨fb, hfb⟩ : ∃ x, c.fb = x := ⟨_, rfl⟩
      have HFI : Hid (toI c.f = ⟨nm, dt, sf⟩) := Lib.hid (by unfold toI; rw [hnm, hdt, hsf])
      have HFI2 := Lib.hid hfi
      rw [hdt, hln] at HCL
      rw [hnm] at hcr hlk
      rw [hfb] at hlk HFL f0 f1
      rw [hdt] at HFL f0 HB8
      rw [hln] at HFL f0
      rw [hsf] at HFL f1
      have HLN := Lib.hid hln
      have HCL2 := Lib.hid (clone_file nm HCL.out HLN.out HFL.out)
      have HPUT := Lib.hid (fun w2 hb2 a3 c3 => put_file (w2 := w2) HFL.out HOWN.out (by omega) hb2 nm a3 c3)
      clear hlenD hby hv2 hrow hdv hfl hcn hcw hDr hcl hci hm hfi hni hnm hdt hsf hln hfb
      go_wp2
      go_region_held3 (fun W => W.cell? ⟨fb, 0, none⟩ = some (.slice a ln cap) ∧ W.cell? ⟨fb, 1, none⟩ = some (.int .i64 sf))
        (first
          | exact ⟨f0, f1⟩
          | exact ⟨g0, g1⟩
          | exact ⟨h0, h1⟩
          | exact ⟨k0, k1⟩)
        (first
          | (refine HCL2.out.mono ?_
             rintro e w2 ⟨a3, c3, rfl, HO2, HB2, g0, g1, h0, h1⟩)
          | (obtain ⟨a4, c4, w3, hrun3, HO3, HG3, HF3, k0, k1⟩ := HPUT.out w2 HB2.out a3 c3
             refine step_append rfl _ _ 22 rfl _ _ _ rfl rfl hrun3 ?_))
      all_goals
        clear k0 k1 h0 h1 g0 g1 f0 f1 hrun3 hlk hcr hB1
        go_wp2
        go_roundg g'
        case measure => omega
        case rel =>
          have hsz2 : wr.heap.size ≤ w2.heap.size := HB2.out.size
          have hsz3 : w2.heap.size + 1 ≤ w3.heap.size := by have := HG3.out.size; simpa using this
          have hv2 := HO2.out.lt
          have hll := HOWN.out.lt
          have hmore := fcells_more (f := ⟨nm, dt, sf⟩) HOWN.out HFC.out (fun k e => (HSO.out k e).2) (fun k e => (HLO.out k e).2) HB2.out HO2.out HB8.out HLN.out HG3.out
          refine ⟨i + 1, _, fun k => So k ∨ (Value.slice a3 ln c3).ownBlock = some k, by go_num, by have := HG.out; omega, HO3.out, ?_, fun k hk => ?_, fun k hk => ?_, ?_⟩
          · have e : (d.L.take (i + 1)).map toI = (d.L.take i).map toI ++ [⟨nm, dt, sf⟩] := by
              rw [List.take_add_one, HFI2.out, List.map_append]
              show _ ++ [toI c.f] = _
              rw [HFI.out]
            rw [e]
            exact hmore
          · rcases hk with hk | hk
            · have := HSO.out k hk
              omega
            · have h1 := (hv2 k hk).1
              have h2 := (hv2 k hk).2
              omega
          · rcases HF3.out k hk with h1 | h1
            · refine ⟨(HLO.out k h1).1, fun e => ?_⟩
              rcases e with e | e
              · exact (HLO.out k h1).2 e
              · have h2 := (hll k h1).2
                have h3 := (hv2 k e).1
                omega
            · have h2 : w2.heap.size + 1 ≤ k := h1
              refine ⟨by omega, fun e => ?_⟩
              rcases e with e | e
              · have := (HSO.out k e).2
                omega
              · have := (hv2 k e).2
                omega
          · have hB2 : Below wr.heap.size wr w2 := HB2.out
            refine HB.out.trans (((hB2.mono (by omega)).alloc (by omega) _).grown HG3.out (by simp; omega) (fun k e => (HLO.out k e).1))
    · have hd : decide ((i : Int) < (n : Int)) = false := by simp; omega
      go_wp2
      go_ret
      have hin : i = n := by have := HG.out; omega
      have hall : d.L.take i = d.L := List.take_of_length_le (by rw [HN.out]; omega)
      have hfc := HFC.out
      rw [hall] at hfc
      have hlen : (d.L.map toI).length = i := by rw [List.length_map, HN.out, hin]
      have hown := HOWN.out
      rw [← hlen] at hown
      obtain ⟨a9, c9, h1, h2, h3, h4, h5⟩ := fils_of_owns (S := fun k => So k ∨ (Value.slice ao i co).ownBlock = some k) (hfc.mono (fun k h => .inl h)) hown (fun k e => .inr (by cases ao <;> exact e))
      rw [hlen] at h1 h4
      refine ⟨a9, c9, _, by rw [hlen, ← h1]; rfl, h2, h3, by rw [hlen]; exact h4, h5, fun k hk => ?_, below_then HB1.out HB.out⟩
      rcases hk with hk | hk
      · exact HSO.out k hk
      · have h6 := (HLO.out k hk).1
        have h7 := (HOWN.out.lt k hk).2
        omega

end Go.Proofs.YtacfcfbleogioaaGreatDoor
