/-
  The program's disk in memory behind one change: a file's bytes, a new file, a file that is gone, a file's new name. No condition.
-/
import Derived.Test.YtjhiekijbcjohaaGreatDoorDoes
namespace Go.Proofs.YtjhiekijbcjohaaGreatDoor
open Go.RowKit Go.Lib Go.Joins

/-- These blocks, or new ones. -/
def Wide (S : Nat → Prop) (w : World) : Nat → Prop := fun k => S k ∨ w.heap.size ≤ k
theorem wide_fresh (S : Nat → Prop) (w : World) : Fresh S w.heap.size (Wide S w) := fun _ h => h

theorem nodup_inj {cs : List Cel} (h : (cs.map Cel.fb).Nodup) : ∀ x ∈ cs, ∀ y ∈ cs, x.fb = y.fb → x = y := by
  induction cs with
  | nil => intro x hx; cases hx
  | cons a L ih =>
    rw [List.map_cons, List.nodup_cons] at h
    intro x hx y hy e
    rcases List.mem_cons.1 hx with rfl | hx'
    · rcases List.mem_cons.1 hy with rfl | hy'
      · rfl
      · exact absurd (List.mem_map.2 ⟨y, hy', e.symm⟩) h.1
    · rcases List.mem_cons.1 hy with rfl | hy'
      · exact absurd (List.mem_map.2 ⟨x, hx', e⟩) h.1
      · exact ih h.2 x hx' y hy' e

theorem srt_inj {L : List Cel} (h : Srt (L.map Cel.f)) : ∀ x ∈ L, ∀ y ∈ L, x.f.name = y.f.name → x = y := by
  induction L with
  | nil => intro x hx; cases hx
  | cons a L ih =>
    obtain ⟨h1, h2⟩ := List.pairwise_cons.1 h
    intro x hx y hy e
    rcases List.mem_cons.1 hx with rfl | hx'
    · rcases List.mem_cons.1 hy with rfl | hy'
      · rfl
      · exact absurd e (nlt_ne (h1 _ (List.mem_map.2 ⟨y, hy', rfl⟩)))
    · rcases List.mem_cons.1 hy with rfl | hy'
      · exact absurd e.symm (nlt_ne (h1 _ (List.mem_map.2 ⟨x, hx', rfl⟩)))
      · exact ih h2 x hx' y hy' e

theorem ownsMap_exact {w : World} {F n : Nat} {cs : List Cel} (h : w.ownsMap Tryz.prog 9 Rp F n (dat cs)) : w.ownsMap Tryz.prog 9 Rp F cs.length (dat cs) := by
  obtain ⟨es, clock, h1, h2, h3, h4⟩ := h
  refine ⟨es, clock, h1, h2, ?_, h4⟩
  have e := size_dat cs
  rw [h4] at e
  have e1 : Maps.size (DataW.map ((es.toList.map (WideElems.rg Tryz.prog 9 Rp)).foldr DataW.insert [])) = es.size := by simp [Maps.size, Go.length_sorted]
  omega

/-- A file changed, in its cell. -/
def chg (n : ByteArray) (h : Fil → Fil) (dv : Value) (c : Cel) : Cel := if c.f.name = n then ⟨h c.f, c.fb, dv⟩ else c
theorem chg_f (n : ByteArray) (h : Fil → Fil) (dv : Value) (cs : List Cel) : (cs.map (chg n h dv)).map Cel.f = upd n h (cs.map Cel.f) := by
  unfold upd
  rw [List.map_map, List.map_map]
  refine List.map_congr_left (fun c _ => ?_)
  show (chg n h dv c).f = if c.f.name = n then h c.f else c.f
  unfold chg
  split <;> rfl
theorem chg_fb (n : ByteArray) (h : Fil → Fil) (dv : Value) (c : Cel) : (chg n h dv c).fb = c.fb := by unfold chg; split <;> rfl
theorem chg_dat (n : ByteArray) (h : Fil → Fil) (dv : Value) (hn : ∀ f, (h f).name = f.name) (cs : List Cel) : dat (cs.map (chg n h dv)) = dat cs := by
  unfold dat
  rw [List.map_map]
  congr 1
  refine List.map_congr_left (fun c _ => ?_)
  show ent (chg n h dv c) = ent c
  unfold ent
  rw [chg_fb]
  unfold chg
  split
  · simp only [hn]
  · rfl

theorem DiskAt.file_changed {w w2 : World} {S : Nat → Prop} {B : Nat} {d : Dsk} {F : Nat} {T : Option Nat} {cs : List Cel} (h : DiskAt w S B d F T cs) (hs : Srt d.L) {n : ByteArray} {c : Cel} (hc : cfnd n cs = some c)
    (hk : Keeps (fun k => k = c.fb ∨ c.dv.ownBlock = some k) w w2) {f' : Fil → Fil} (hn : ∀ f, (f' f).name = f.name) {dv' : Value}
    (h1 : w2.heap[c.fb]? = some (.cells #[dv', .int .i64 ((f' c.f).safe : Int)] 98 (0, 0))) (h2 : w2.ownsRow 0 5 1 dv' (f' c.f).data.length (cellsN (f' c.f).data))
    (h3 : ∀ k, dv'.ownBlock = some k → c.dv.ownBlock = some k ∨ w.heap.size ≤ k) :
    DiskAt w2 (Wide S w) B { d with L := upd n f' d.L } F T (cs.map (chg n f' dv')) := by
  obtain ⟨hm, hcn⟩ := cfnd_some hc
  have hfc := h.file c hm
  have hrc := h.row c hm
  have one : ∀ x ∈ cs, x.f.name = n → x = c := fun x hx e => srt_inj (by rw [h.is]; exact hs) x hx c hm (by rw [e, hcn])
  have two : ∀ x ∈ cs, x.f.name ≠ n → x.fb ≠ c.fb := fun x hx e hb => e (by rw [nodup_inj h.fbs x hx c hm hb, hcn])
  have nB : ¬ (B = c.fb ∨ c.dv.ownBlock = some B) := by
    rintro (e | e)
    · exact elem_ne h.blk hfc (by decide) e
    · exact other_elem h.blk hrc (by decide) e
  have nF : ¬ (F = c.fb ∨ c.dv.ownBlock = some F) := by
    rintro (e | e)
    · exact map_ne h.map hfc e
    · rcases hrc.2 with ⟨h5, _⟩ | ⟨g, cap, cur, h5, _, hg, _⟩
      · rw [h5] at e; cases e
      · rw [h5] at e
        obtain rfl : g = F := Option.some.inj e
        exact map_ne h.map hg rfl
  have nT : ∀ k, T = some k → ¬ (k = c.fb ∨ c.dv.ownBlock = some k) := by
    rintro k rfl (e | e)
    · exact h.tro.ne hfc (by rw [e])
    · rcases hrc.2 with ⟨h5, _⟩ | ⟨g, cap, cur, h5, _, hg, _⟩
      · rw [h5] at e; cases e
      · rw [h5] at e
        obtain rfl : g = k := Option.some.inj e
        exact h.tro.ne hg rfl
  have nx : ∀ x ∈ cs, x.f.name ≠ n → ¬ (x.fb = c.fb ∨ c.dv.ownBlock = some x.fb) := by
    rintro x hx e (e1 | e1)
    · exact two x hx e e1
    · exact other_elem (h.file x hx) hrc (by decide) e1
  have nd : ∀ x ∈ cs, x.f.name ≠ n → ∀ k, x.dv.ownBlock = some k → ¬ (k = c.fb ∨ c.dv.ownBlock = some k) := by
    rintro x hx e k hk (rfl | e1)
    · exact other_elem hfc (h.row x hx) (by decide) hk
    · exact h.dbs x hx c hm (two x hx e) k hk e1
  refine { blk := block_keep h.blk hk nB, map := ?_, tro := h.tro.keep hk nT, file := ?_, row := ?_, is := by rw [chg_f, h.is], fbs := ?_, dbs := ?_, mapT := h.mapT, sB := .inl h.sB, sF := .inl h.sF, sT := fun k e => .inl (h.sT k e), sfb := ?_, sdb := ?_ }
  · rw [List.length_map, chg_dat n f' dv' hn]
    exact ownsMap_keep h.map hk nF
  · intro y hy
    obtain ⟨x, hx, rfl⟩ := List.mem_map.1 hy
    by_cases e : x.f.name = n
    · obtain rfl := one x hx e
      unfold chg
      rw [if_pos e]
      exact h1
    · unfold chg
      rw [if_neg e]
      exact block_keep (h.file x hx) hk (nx x hx e)
  · intro y hy
    obtain ⟨x, hx, rfl⟩ := List.mem_map.1 hy
    by_cases e : x.f.name = n
    · obtain rfl := one x hx e
      unfold chg
      rw [if_pos e]
      exact h2
    · unfold chg
      rw [if_neg e]
      exact ownsRow_keep (h.row x hx) hk (nd x hx e)
  · rw [List.map_map]
    have : Cel.fb ∘ chg n f' dv' = Cel.fb := funext (fun c => chg_fb n f' dv' c)
    rw [this]
    exact h.fbs
  · intro y hy y' hy' hne k hq hq'
    obtain ⟨x, hx, rfl⟩ := List.mem_map.1 hy
    obtain ⟨x', hx', rfl⟩ := List.mem_map.1 hy'
    rw [chg_fb, chg_fb] at hne
    by_cases e : x.f.name = n
    · by_cases e' : x'.f.name = n
      · exact hne (by rw [one x hx e, one x' hx' e'])
      · obtain rfl := one x hx e
        unfold chg at hq hq'
        rw [if_pos e] at hq
        rw [if_neg e'] at hq'
        rcases h3 k hq with h4 | h4
        · exact nd x' hx' e' k hq' (.inr h4)
        · have := ((h.row x' hx').lt k hq').2
          omega
    · by_cases e' : x'.f.name = n
      · obtain rfl := one x' hx' e'
        unfold chg at hq hq'
        rw [if_neg e] at hq
        rw [if_pos e'] at hq'
        rcases h3 k hq' with h4 | h4
        · exact nd x hx e k hq (.inr h4)
        · have := ((h.row x hx).lt k hq).2
          omega
      · unfold chg at hq hq'
        rw [if_neg e] at hq
        rw [if_neg e'] at hq'
        exact h.dbs x hx x' hx' hne k hq hq'
  · intro y hy
    obtain ⟨x, hx, rfl⟩ := List.mem_map.1 hy
    rw [chg_fb]
    exact .inl (h.sfb x hx)
  · intro y hy k hq
    obtain ⟨x, hx, rfl⟩ := List.mem_map.1 hy
    by_cases e : x.f.name = n
    · obtain rfl := one x hx e
      unfold chg at hq
      rw [if_pos e] at hq
      rcases h3 k hq with h4 | h4
      · exact .inl (h.sdb x hx k h4)
      · exact .inr h4
    · unfold chg at hq
      rw [if_neg e] at hq
      exact .inl (h.sdb x hx k hq)

/-- The map of files holds other cells, all of which lie in memory. -/
theorem DiskAt.map_changed {w w2 : World} {S : Nat → Prop} {B : Nat} {d : Dsk} {F : Nat} {T : Option Nat} {cs cs' : List Cel} {n : Nat} {L' : List Fil} (h : DiskAt w S B d F T cs) (hk : Keeps (One F) w w2) (hm : w2.ownsMap Tryz.prog 9 Rp F n (dat cs')) (hL : cs'.map Cel.f = L')
    (hf : ∀ c ∈ cs', w2.heap[c.fb]? = some (.cells #[c.dv, .int .i64 (c.f.safe : Int)] 98 (0, 0))) (hr : ∀ c ∈ cs', w2.ownsRow 0 5 1 c.dv c.f.data.length (cellsN c.f.data)) (hfb : (cs'.map Cel.fb).Nodup)
    (hdb : ∀ c ∈ cs', ∀ c' ∈ cs', c.fb ≠ c'.fb → ∀ k, c.dv.ownBlock = some k → c'.dv.ownBlock ≠ some k) (hS : ∀ c ∈ cs', Wide S w c.fb ∧ ∀ k, c.dv.ownBlock = some k → Wide S w k) :
    DiskAt w2 (Wide S w) B { d with L := L' } F T cs' where
  blk := block_keep h.blk hk (fun e => map_ne h.map h.blk e.symm)
  map := ownsMap_exact hm
  tro := h.tro.keep hk (fun k e hkF => h.mapT (by rw [e, hkF]))
  file := hf
  row := hr
  is := hL
  fbs := hfb
  dbs := hdb
  mapT := h.mapT
  sB := .inl h.sB
  sF := .inl h.sF
  sT := fun k e => .inl (h.sT k e)
  sfb := fun c hc => (hS c hc).1
  sdb := fun c hc => (hS c hc).2

/-- A cell of the disk lies as it lay while the map of files is written. -/
theorem DiskAt.keepF {w w2 : World} {S : Nat → Prop} {B : Nat} {d : Dsk} {F : Nat} {T : Option Nat} {cs : List Cel} (h : DiskAt w S B d F T cs) (hk : Keeps (One F) w w2) {c : Cel} (hc : c ∈ cs) :
    w2.heap[c.fb]? = some (.cells #[c.dv, .int .i64 (c.f.safe : Int)] 98 (0, 0)) ∧ w2.ownsRow 0 5 1 c.dv c.f.data.length (cellsN c.f.data) := by
  refine ⟨block_keep (h.file c hc) hk (fun e => map_ne h.map (h.file c hc) e.symm), ownsRow_keep (h.row c hc) hk (fun k e hkF => ?_)⟩
  have hrc := h.row c hc
  rcases hrc.2 with ⟨h5, _⟩ | ⟨g, cap, cur, h5, _, hg, _⟩
  · rw [h5] at e; cases e
  · rw [h5] at e
    obtain rfl : g = k := Option.some.inj e
    exact map_ne h.map hg hkF.symm

theorem filter_f (n : ByteArray) (cs : List Cel) : (cs.filter (fun c => !decide (c.f.name = n))).map Cel.f = dro n (cs.map Cel.f) := by
  unfold dro
  rw [List.filter_map]
  rfl
theorem nodup_filter {cs : List Cel} (p : Cel → Bool) (h : (cs.map Cel.fb).Nodup) : ((cs.filter p).map Cel.fb).Nodup := h.sublist ((List.filter_sublist (l := cs) (p := p)).map Cel.fb)
theorem nodup_cins {c : Cel} {cs : List Cel} (h : (cs.map Cel.fb).Nodup) (hc : ∀ x ∈ cs, x.fb ≠ c.fb) : ((cins c cs).map Cel.fb).Nodup := by
  have hp := (perm_cins c cs).map Cel.fb
  rw [hp.nodup_iff, List.map_cons, List.nodup_cons]
  exact ⟨fun hm => by obtain ⟨x, hx, e⟩ := List.mem_map.1 hm; exact hc x hx e, h⟩

/-- A file is gone. -/
theorem DiskAt.dropped {w w2 : World} {S : Nat → Prop} {B : Nat} {d : Dsk} {F : Nat} {T : Option Nat} {cs : List Cel} (h : DiskAt w S B d F T cs) {n : Nat} {s : ByteArray} (ho : OnlyF F n ((dat cs).del (lit s)) w w2) :
    ∃ cs', DiskAt w2 (Wide S w) B { d with L := dro s d.L } F T cs' := by
  obtain ⟨hm, hk⟩ := ho
  rw [del_dat] at hm
  refine ⟨_, h.map_changed hk hm (by rw [filter_f, h.is]) (fun c hc => (h.keepF hk (List.mem_filter.1 hc).1).1) (fun c hc => (h.keepF hk (List.mem_filter.1 hc).1).2) (nodup_filter _ h.fbs)
    (fun c hc c' hc' => h.dbs c (List.mem_filter.1 hc).1 c' (List.mem_filter.1 hc').1) (fun c hc => ⟨.inl (h.sfb c (List.mem_filter.1 hc).1), fun k e => .inl (h.sdb c (List.mem_filter.1 hc).1 k e)⟩)⟩

/-- A file has another name. -/
theorem DiskAt.renamed {w w2 : World} {S : Nat → Prop} {B : Nat} {d : Dsk} {F : Nat} {T : Option Nat} {cs : List Cel} (h : DiskAt w S B d F T cs) (_hs : Srt d.L) {n : Nat} {s t : ByteArray} {c : Cel} (hc : cfnd s cs = some c)
    (ho : OnlyF F n (((dat cs).del (lit s)).put (lit t) (.lit (.int .u64 (c.fb : Int)))) w w2) :
    ∃ cs', DiskAt w2 (Wide S w) B { d with L := ren s t d.L } F T cs' := by
  obtain ⟨hm, hk⟩ := ho
  obtain ⟨hmc, hcn⟩ := cfnd_some hc
  have hput := put_dat ⟨{ c.f with name := t }, c.fb, c.dv⟩ (cs.filter (fun c => !decide (c.f.name = s)))
  simp only at hput
  rw [del_dat, hput] at hm
  have hin : ∀ x ∈ (cs.filter (fun c => !decide (c.f.name = s))).filter (fun g => !decide (g.f.name = t)), x ∈ cs ∧ x.f.name ≠ s := fun x hx => by
    have h1 := List.mem_filter.1 (List.mem_filter.1 hx).1
    exact ⟨h1.1, by simpa using h1.2⟩
  have hne : ∀ x ∈ (cs.filter (fun c => !decide (c.f.name = s))).filter (fun g => !decide (g.f.name = t)), x.fb ≠ c.fb := fun x hx e => (hin x hx).2 (by rw [nodup_inj h.fbs x (hin x hx).1 c hmc e, hcn])
  have hall : ∀ x ∈ cins ⟨{ c.f with name := t }, c.fb, c.dv⟩ ((cs.filter (fun c => !decide (c.f.name = s))).filter (fun g => !decide (g.f.name = t))), ∃ y ∈ cs, x.fb = y.fb ∧ x.dv = y.dv ∧ x.f.data = y.f.data ∧ x.f.safe = y.f.safe := fun x hx => by
    rcases mem_cins.1 hx with rfl | hx
    · exact ⟨c, hmc, rfl, rfl, rfl, rfl⟩
    · exact ⟨x, (hin x hx).1, rfl, rfl, rfl, rfl⟩
  refine ⟨_, h.map_changed hk hm ?_ ?_ ?_ (nodup_cins (nodup_filter _ (nodup_filter _ h.fbs)) hne) ?_ ?_⟩
  · rw [cins_is, filter_f, filter_f, h.is]
    unfold ren
    rw [← h.is, cfnd_is, hc]
    rfl
  · intro x hx
    obtain ⟨y, hy, e1, e2, e3, e4⟩ := hall x hx
    rw [e1, e2, e4]
    exact (h.keepF hk hy).1
  · intro x hx
    obtain ⟨y, hy, e1, e2, e3, e4⟩ := hall x hx
    rw [e2, e3]
    exact (h.keepF hk hy).2
  · intro x hx x' hx' hn k
    obtain ⟨y, hy, e1, e2, _⟩ := hall x hx
    obtain ⟨y', hy', e1', e2', _⟩ := hall x' hx'
    rw [e1, e1'] at hn
    rw [e2, e2']
    exact h.dbs y hy y' hy' hn k
  · intro x hx
    obtain ⟨y, hy, e1, e2, _⟩ := hall x hx
    rw [e1, e2]
    exact ⟨.inl (h.sfb y hy), fun k e => .inl (h.sdb y hy k e)⟩

/-- A new file, of these bytes. -/
theorem DiskAt.created {w w2 : World} {S : Nat → Prop} {B : Nat} {d : Dsk} {F : Nat} {T : Option Nat} {cs : List Cel} (h : DiskAt w S B d F T cs) {n fb : Nat} {f : Fil} {dv : Value} (hf : fnd f.name d.L = none) (hk : Keeps (One F) w w2)
    (hm : w2.ownsMap Tryz.prog 9 Rp F n ((dat cs).put (lit f.name) (.lit (.int .u64 (fb : Int))))) (hb : w2.heap[fb]? = some (.cells #[dv, .int .i64 (f.safe : Int)] 98 (0, 0))) (hr : w2.ownsRow 0 5 1 dv f.data.length (cellsN f.data))
    (hnew : w.heap.size ≤ fb) (hnew2 : ∀ k, dv.ownBlock = some k → w.heap.size ≤ k) :
    ∃ cs', DiskAt w2 (Wide S w) B { d with L := ins f d.L } F T cs' := by
  have hput := put_dat ⟨f, fb, dv⟩ cs
  simp only at hput
  have hall : cs.filter (fun g => !decide (g.f.name = f.name)) = cs := List.filter_eq_self.2 (fun x hx => by
    have := fnd_none hf x.f (by rw [← h.is]; exact List.mem_map.2 ⟨x, hx, rfl⟩)
    simp [this])
  rw [hall] at hput
  rw [hput] at hm
  have hlt : ∀ x ∈ cs, x.fb < w.heap.size := fun x hx => lt_of_block (h.file x hx)
  have hld : ∀ x ∈ cs, ∀ k, x.dv.ownBlock = some k → k < w.heap.size := fun x hx k e => ((h.row x hx).lt k e).2
  refine ⟨_, h.map_changed hk hm (by rw [cins_is, h.is]) ?_ ?_ (nodup_cins h.fbs (fun x hx e => by have := hlt x hx; simp only at e; omega)) ?_ ?_⟩
  · intro x hx
    rcases mem_cins.1 hx with rfl | hx
    · exact hb
    · exact (h.keepF hk hx).1
  · intro x hx
    rcases mem_cins.1 hx with rfl | hx
    · exact hr
    · exact (h.keepF hk hx).2
  · intro x hx x' hx' hn k e e'
    rcases mem_cins.1 hx with rfl | hx
    · rcases mem_cins.1 hx' with rfl | hx'
      · exact hn rfl
      · have := hld x' hx' k e'
        have := hnew2 k e
        omega
    · rcases mem_cins.1 hx' with rfl | hx'
      · have := hld x hx k e
        have := hnew2 k e'
        omega
      · exact h.dbs x hx x' hx' hn k e e'
  · intro x hx
    rcases mem_cins.1 hx with rfl | hx
    · exact ⟨.inr hnew, fun k e => .inr (hnew2 k e)⟩
    · exact ⟨.inl (h.sfb x hx), fun k e => .inl (h.sdb x hx k e)⟩

theorem ownsRow_take {w : World} {a : Option Addr} {len cap n : Nat} {l : List Nat} (h : w.ownsRow 0 5 1 (.slice a len cap) len (cellsN l)) (hn : n ≤ len) : w.ownsRow 0 5 1 (.slice a n cap) n (cellsN (l.take n)) := by
  have hl : (cellsN l).length = len := by rw [h.1, Nat.mul_one]
  rw [cellsN_len] at hl
  refine ⟨by rw [cellsN_len, List.length_take, Nat.mul_one]; omega, ?_⟩
  rcases h.2 with ⟨h1, h0⟩ | ⟨g, c, cur, h1, hg, hb, hc, hm, hs, ht⟩
  · simp only [Value.slice.injEq] at h1
    obtain ⟨rfl, _, rfl⟩ := h1
    obtain rfl : n = 0 := by omega
    exact .inl ⟨rfl, rfl⟩
  · simp only [Value.slice.injEq, true_and] at h1
    obtain ⟨rfl, rfl⟩ := h1
    refine .inr ⟨g, cap, cur, rfl, hg, hb, by omega, hm, hs, ?_⟩
    rw [cellsN_take, ← ht, List.take_take]
    congr 1
    omega

end Go.Proofs.YtjhiekijbcjohaaGreatDoor
