/-
  A disk to which the power comes again, file by file: lists alone, and the disk in memory behind one file's change. No condition.
-/
import Derived.Test.YtacfcfbleogioaaGreatDoorFilesW
namespace Go.Proofs.YtacfcfbleogioaaGreatDoor
open Go.RowKit Go.Lib Go.Joins

/-- How many bytes of the i-th file stay. -/
def crN (ts : List Int) (i : Nat) (f : Fil) : Nat := f.safe + (match ts[i]? with | some t => wth t (f.data.length - f.safe) | none => 0)
def crF (n : Nat) (f : Fil) : Fil := ⟨f.name, f.data.take n, n⟩
theorem crs_cons (ts : List Int) (k : Nat) (f : Fil) (L : List Fil) : crs ts k (f :: L) = crF (crN ts k f) f :: crs ts (k + 1) L := rfl

/-- The first i files behind it. -/
def hlf (ts : List Int) : Nat → Nat → List Fil → List Fil
  | _, 0, L => L
  | _, _ + 1, [] => []
  | k, i + 1, f :: L => crF (crN ts k f) f :: hlf ts (k + 1) i L

theorem hlf_all (ts : List Int) : ∀ (L : List Fil) (k : Nat), hlf ts k L.length L = crs ts k L
  | [], _ => rfl
  | f :: L, k => by
    rw [crs_cons, ← hlf_all ts L (k + 1)]
    rfl
theorem hlf_names (ts : List Int) : ∀ (L : List Fil) (k i : Nat), (hlf ts k i L).map Fil.name = L.map Fil.name
  | _, _, 0 => by unfold hlf; rfl
  | [], _, _ + 1 => rfl
  | f :: L, k, i + 1 => by
    show (crF (crN ts k f) f).name :: (hlf ts (k + 1) i L).map Fil.name = _
    rw [hlf_names ts L (k + 1) i]
    rfl
theorem hlf_at (ts : List Int) : ∀ (L : List Fil) (k i : Nat), (hlf ts k i L)[i]? = L[i]?
  | _, _, 0 => by unfold hlf; rfl
  | [], _, _ + 1 => rfl
  | f :: L, k, i + 1 => by
    show (hlf ts (k + 1) i L)[i]? = _
    rw [hlf_at ts L (k + 1) i]
    rfl
theorem hlf_step (ts : List Int) : ∀ (L : List Fil) (k i : Nat) (f : Fil), Srt L → L[i]? = some f → upd f.name (crF (crN ts (k + i) f)) (hlf ts k i L) = hlf ts k (i + 1) L
  | [], _, _, _, _, h => by simp at h
  | g :: L, k, 0, f, hs, h => by
    obtain ⟨h1, h2⟩ := List.pairwise_cons.1 hs
    obtain rfl : g = f := by simpa using h
    have e2 : upd g.name (crF (crN ts (k + 0) g)) L = L := by
      unfold upd
      refine (List.map_congr_left (fun x hx => ?_)).trans (List.map_id L)
      rw [if_neg (nlt_ne (h1 x hx)).symm]
      rfl
    show (if g.name = g.name then crF (crN ts (k + 0) g) g else g) :: upd g.name (crF (crN ts (k + 0) g)) L = crF (crN ts k g) g :: hlf ts (k + 1) 0 L
    rw [if_pos rfl, e2]
    rfl
  | g :: L, k, i + 1, f, hs, h => by
    obtain ⟨h1, h2⟩ := List.pairwise_cons.1 hs
    have h' : L[i]? = some f := by simpa using h
    have hne : g.name ≠ f.name := nlt_ne (h1 f (List.mem_of_getElem? h'))
    have ih := hlf_step ts L (k + 1) i f h2 h'
    show (if (crF (crN ts k g) g).name = f.name then _ else crF (crN ts k g) g) :: upd f.name (crF (crN ts (k + (i + 1)) f)) (hlf ts (k + 1) i L) = crF (crN ts k g) g :: hlf ts (k + 1) (i + 1) L
    rw [if_neg (show ¬ (crF (crN ts k g) g).name = f.name from hne), show k + (i + 1) = k + 1 + i by omega, ih]

theorem DiskAt.file_same {w w2 : World} {S : Nat → Prop} {B : Nat} {d : Dsk} {F : Nat} {T : Option Nat} {cs : List Cel} (h : DiskAt w S B d F T cs) (hs : Srt d.L) {n : ByteArray} {c : Cel} (hc : cfnd n cs = some c)
    (hk : Keeps (fun k => k = c.fb ∨ c.dv.ownBlock = some k) w w2) {f' : Fil → Fil} (hn : ∀ f, (f' f).name = f.name) {dv' : Value}
    (h1 : w2.heap[c.fb]? = some (.cells #[dv', .int .i64 ((f' c.f).safe : Int)] 74 (0, 0))) (h2 : w2.ownsRow 0 5 1 dv' (f' c.f).data.length (cellsN (f' c.f).data))
    (h3 : ∀ k, dv'.ownBlock = some k → c.dv.ownBlock = some k) :
    DiskAt w2 S B { d with L := upd n f' d.L } F T (cs.map (chg n f' dv')) := by
  have h4 := h.file_changed hs hc hk hn h1 h2 (fun k e => .inl (h3 k e))
  obtain ⟨hm, hcn⟩ := cfnd_some hc
  exact { h4 with
    sB := h.sB
    sF := h.sF
    sT := h.sT
    sfb := fun y hy => by
      obtain ⟨x, hx, rfl⟩ := List.mem_map.1 hy
      rw [chg_fb]
      exact h.sfb x hx
    sdb := fun y hy k e => by
      obtain ⟨x, hx, rfl⟩ := List.mem_map.1 hy
      unfold chg at e
      split at e
      · exact h.sdb c hm k (h3 k e)
      · exact h.sdb x hx k e }

/-- There are no troubles any more. -/
theorem DiskAt.cleared {w w1 : World} {S : Nat → Prop} {B : Nat} {d : Dsk} {F : Nat} {T : Option Nat} {cs : List Cel} (h : DiskAt w S B d F T cs) {ops : Int} {down : Bool} (hm : Mid w B d.room F none ops down w1) :
    DiskAt w1 S B { d with tr := [], ops := ops, down := down } F none cs where
  blk := hm.1
  map := ownsMap_keep h.map hm.2 (map_ne h.map h.blk)
  tro := fun i => rfl
  file := fun c hc => block_keep (h.file c hc) hm.2 (elem_ne (h.file c hc) h.blk (by decide))
  row := fun c hc => ownsRow_keep (h.row c hc) hm.2 (fun k e hk => other_elem h.blk (h.row c hc) (by decide) (by rw [e, hk]))
  is := h.is
  fbs := h.fbs
  dbs := h.dbs
  mapT := by simp
  sB := h.sB
  sF := h.sF
  sT := fun k e => by cases e
  sfb := h.sfb
  sdb := h.sdb

/-- A slice leads to these numbers. -/
def RowI (w : World) (S : Nat → Prop) (a : Option Addr) (xs : List Int) : Prop := xs = [] ∨ ∃ b o, a = some ⟨b, o, none⟩ ∧ S b ∧ ∀ (i : Nat) (x : Int), xs[i]? = some x → w.cell? ⟨b, o + i, none⟩ = some (.int .i64 x)
theorem RowI.keep {w w' : World} {S O a xs} (h : RowI w S a xs) (hb : Keeps O w w') (hO : ∀ k, S k → ¬ O k) : RowI w' S a xs := by
  rcases h with h0 | ⟨b, o, ha, hS, hc⟩
  · exact Or.inl h0
  · exact Or.inr ⟨b, o, ha, hS, fun i c hi => (World.cell?_of_block (a := ⟨b, o + i, none⟩) (hb.block b (lt_of_cell (hc i c hi)) (hO b hS))).trans (hc i c hi)⟩

theorem within_any (n M : Int) (m : Nat) (hM : M = (m : Int)) (w : World) : Calls Tryz.prog 72 #[.int .i64 n, .int .i64 M] w fun e w' => e = .returned (.int .i64 (wth n m : Int)) ∧ w' = w := by
  subst hM
  exact (within_calls n m w).mono fun e w' h => ⟨h.1, h.2.symm⟩

end Go.Proofs.YtacfcfbleogioaaGreatDoor
