/-
  What Write, Clean and a loss of power leave of a disk's manifests. Of no program. No condition.
-/
import Derived.Test.YtacfcfbleogioaaGreatDoorMPure
namespace Go.Proofs.YtacfcfbleogioaaGreatDoor

theorem tmp_gen : genB tmpB = 0 := by decide +kernel
theorem tmp_file {f : Fil} (h : f.name = tmpB) : ofFile f = none := by
  cases hf : ofFile f with
  | none => rfl
  | some m =>
    obtain ⟨h1, _, h3⟩ := ofFile_is hf
    have h4 := genB_name (mayM_is.1 h1).gen
    rw [← h3, h, tmp_gen] at h4
    have := mayN_is.1 (mayM_is.1 h1).gen
    omega
theorem tmp_ne {n : Int} (h : mayN n = true) : mnameB n ≠ tmpB := by
  intro e
  have h4 := genB_name h
  rw [e, tmp_gen] at h4
  have := mayN_is.1 h
  omega
theorem nmd_mname {n : Int} (h : mayN n = true) : nmd (mnameB n) = true := by
  have hs : (mnameB n).size = 12 := by
    show (mnameB n).data.size = 12
    rw [← Array.length_toList, mnameB_list h, List.length_append, pad_len]
    rfl
  have hd : ∀ l : List UInt8, l.all digC = true → l.all okc = true := fun l hl => by
    rw [List.all_eq_true] at hl ⊢
    intro c hc
    have := hl c hc
    unfold digC at this
    unfold okc
    simp only [Bool.and_eq_true, decide_eq_true_eq] at this
    simp only [Bool.or_eq_true, Bool.and_eq_true, decide_eq_true_eq]
    exact .inl (.inl (.inr this))
  unfold nmd
  rw [hs, mnameB_list h, List.all_append, hd _ (dig_pad _ _)]
  decide

/-! ### operations -/
theorem tro_kind {l : List Tro} {i : Int} {t : Tro} (h : tro l i = some t) : tld t.kind ≠ 0 := by
  have h1 := List.find?_some h
  unfold hits at h1
  simp only [Bool.and_eq_true, decide_eq_true_eq] at h1
  have h2 : t.kind = 1 ∨ t.kind = 2 ∨ t.kind = 3 := by omega
  unfold tld
  rcases h2 with h2 | h2 | h2 <;> rw [h2] <;> decide
theorem step_ok {d : Dsk} {o : Opn} (h : (step d o).1 = 0) : ref d o = 0 ∧ (step d o).2.L = whole o d.L := by
  unfold step at h ⊢
  cases hd : d.down with
  | true => rw [hd, if_pos rfl] at h; exact absurd h (show ¬ (45 : Int) = 0 by decide)
  | false =>
    rw [hd, if_neg (by decide)] at h
    rw [if_neg (by decide)]
    by_cases hr : ref d o = 0
    · rw [if_neg (not_not_intro hr)] at h ⊢
      cases ht : tro d.tr (d.ops + 1) with
      | none => exact ⟨hr, rfl⟩
      | some t => rw [ht] at h; exact absurd h (tro_kind ht)
    · rw [if_pos hr] at h
      exact absurd h hr
theorem step_bad {d : Dsk} {o : Opn} (h : (step d o).1 ≠ 0) : (step d o).2.L = d.L ∨ ∃ p, (step d o).2.L = part o p d.L := by
  unfold step at h ⊢
  cases hd : d.down with
  | true => rw [if_pos rfl]; exact .inl rfl
  | false =>
    rw [hd, if_neg (by decide)] at h
    rw [if_neg (by decide)]
    by_cases hr : ref d o = 0
    · rw [if_neg (not_not_intro hr)] at h ⊢
      cases ht : tro d.tr (d.ops + 1) with
      | none => rw [ht] at h; exact absurd rfl h
      | some t => exact .inr ⟨t.part, rfl⟩
    · rw [if_pos hr]
      exact .inl rfl
theorem step_calm {d : Dsk} {o : Opn} (h1 : d.down = false) (h2 : d.tr = []) (hr : ref d o = 0) : step d o = (0, { d with ops := d.ops + 1, L := whole o d.L }) := by
  unfold step
  rw [h1, if_neg (by decide), if_neg (not_not_intro hr), h2]
  rfl

/-- The same files, but for man.tmp. -/
def Same1 (L L' : List Fil) : Prop := ∀ g, g.name ≠ tmpB → (g ∈ L' ↔ g ∈ L)
theorem Same1.refl (L : List Fil) : Same1 L L := fun _ _ => Iff.rfl
theorem Same1.trans {L L' L'' : List Fil} (h : Same1 L L') (k : Same1 L' L'') : Same1 L L'' := fun g hg => (k g hg).trans (h g hg)
theorem mem_upd_other {n : ByteArray} {h : Fil → Fil} (hn : ∀ f, (h f).name = f.name) {L : List Fil} {g : Fil} (hg : g.name ≠ n) : g ∈ upd n h L ↔ g ∈ L := by
  constructor
  · intro hm
    rcases mem_upd hm with ⟨f, _, h2, rfl⟩ | ⟨h1, _⟩
    · exact absurd ((hn f).trans h2) hg
    · exact h1
  · intro hm
    unfold upd
    exact List.mem_map.2 ⟨g, hm, if_neg hg⟩
theorem part_tmp {o : Opn} (ho : o.name = tmpB) (p : Int) (L : List Fil) : Same1 L (part o p L) := by
  unfold part
  split
  · rw [ho]; exact fun g hg => mem_upd_other (h := addB _) (fun _ => rfl) hg
  · exact Same1.refl L
theorem whole_tmp {o : Opn} (ho : o.name = tmpB) (h5 : o.kind ≠ 5) (L : List Fil) : Same1 L (whole o L) := by
  intro g hg
  unfold whole
  rw [ho]
  split
  · rw [mem_ins]
    exact ⟨fun h => h.elim (fun e => absurd (by rw [e]) hg) id, .inr⟩
  · split
    · exact mem_upd_other (h := addB _) (fun _ => rfl) hg
    · split
      · exact mem_upd_other (h := cutB _) (fun _ => rfl) hg
      · split
        · exact mem_upd_other (h := synB) (fun _ => rfl) hg
        · first | rw [if_neg h5] | skip
          rw [mem_dro]
          exact ⟨fun h => h.1, fun h => ⟨h, hg⟩⟩
theorem step_tmp {d : Dsk} {o : Opn} (ho : o.name = tmpB) (h5 : o.kind ≠ 5 ∨ (step d o).1 ≠ 0) : Same1 d.L (step d o).2.L := by
  by_cases h : (step d o).1 = 0
  · rw [(step_ok h).2]
    exact whole_tmp ho (h5.resolve_right (fun k => k h)) _
  · rcases step_bad h with h1 | ⟨p, h1⟩
    · rw [h1]; exact Same1.refl _
    · rw [h1]; exact part_tmp ho p _
theorem len_whole (o : Opn) (L : List Fil) (hk : o.kind ≠ 1) : (whole o L).length ≤ L.length := by
  unfold whole
  rw [if_neg hk]
  split
  · rw [len_upd]; exact Nat.le_refl _
  · split
    · rw [len_upd]; exact Nat.le_refl _
    · split
      · rw [len_upd]; exact Nat.le_refl _
      · split
        · unfold ren
          cases hf : fnd o.name L with
          | none => exact Nat.le_refl _
          | some f =>
            dsimp only
            rw [len_ins]
            have h1 := len_dro_lt hf
            have h2 := len_dro o.to (dro o.name L)
            omega
        · exact len_dro _ _

/-- A manifest's file, safe. -/
def manF (m : Mfs) : Fil := ⟨mnameB m.gen, encM m, (encM m).length⟩
/-- What Write leaves: but for man.tmp all is as it was, or the new one is there in the place of one of its name. -/
def WroteAs (d : Dsk) (m : Mfs) (r : Int × Dsk) : Prop :=
  (r.1 ≠ 0 ∧ Same1 d.L r.2.L) ∨ (r.1 = 0 ∧ (∀ g, g ∈ r.2.L ↔ (g = manF m ∨ (g ∈ d.L ∧ g.name ≠ tmpB ∧ g.name ≠ mnameB m.gen))) ∧ r.2.L.length ≤ d.L.length + 1)
theorem WroteAs.from {d d1 : Dsk} {m : Mfs} {r : Int × Dsk} (h : WroteAs d1 m r) (hs : Same1 d.L d1.L) (hl : d1.L.length ≤ d.L.length) : WroteAs d m r := by
  rcases h with ⟨h1, h2⟩ | ⟨h1, h2, h3⟩
  · exact .inl ⟨h1, hs.trans h2⟩
  · refine .inr ⟨h1, fun g => (h2 g).trans ?_, by omega⟩
    constructor
    · rintro (h | ⟨h4, h5, h6⟩)
      · exact .inl h
      · exact .inr ⟨(hs g h5).1 h4, h5, h6⟩
    · rintro (h | ⟨h4, h5, h6⟩)
      · exact .inl h
      · exact .inr ⟨(hs g h5).2 h4, h5, h6⟩
theorem wops_as (d : Dsk) (m : Mfs) : WroteAs d m (runB d (wopsT m)) := by
  unfold wopsT
  rw [runB]
  by_cases h1 : (step d ⟨1, tmpB, noS, 0, []⟩).1 = 0
  · have s1 := step_tmp (d := d) (o := ⟨1, tmpB, noS, 0, []⟩) rfl (.inl (by decide))
    obtain ⟨r1, e1⟩ := step_ok h1
    rw [if_pos h1]
    obtain ⟨d1, hd1⟩ : ∃ d1, (step d ⟨1, tmpB, noS, 0, []⟩).2 = d1 := ⟨_, rfl⟩
    rw [hd1] at e1 s1 ⊢
    have hno : fnd tmpB d.L = none := by
      unfold ref at r1
      rw [if_pos rfl] at r1
      split at r1
      · exact absurd r1 (by decide)
      · split at r1
        · exact absurd r1 (by decide)
        · next hh => exact fnd_is.1 (by simpa using hh)
    have e1' : d1.L = ins ⟨tmpB, [], 0⟩ d.L := e1
    rw [runB]
    by_cases h2 : (step d1 ⟨2, tmpB, noS, 0, encM m⟩).1 = 0
    · have s2 := s1.trans (step_tmp (d := d1) (o := ⟨2, tmpB, noS, 0, encM m⟩) rfl (.inl (by simp)))
      obtain ⟨_, e2⟩ := step_ok h2
      rw [if_pos h2]
      obtain ⟨d2, hd2⟩ : ∃ d2, (step d1 ⟨2, tmpB, noS, 0, encM m⟩).2 = d2 := ⟨_, rfl⟩
      rw [hd2] at e2 s2 ⊢
      have e2' : d2.L = upd tmpB (addB (encM m)) d1.L := e2
      rw [runB]
      by_cases h3 : (step d2 ⟨4, tmpB, noS, 0, []⟩).1 = 0
      · have s3 := s2.trans (step_tmp (d := d2) (o := ⟨4, tmpB, noS, 0, []⟩) rfl (.inl (by decide)))
        obtain ⟨_, e3⟩ := step_ok h3
        rw [if_pos h3]
        obtain ⟨d3, hd3⟩ : ∃ d3, (step d2 ⟨4, tmpB, noS, 0, []⟩).2 = d3 := ⟨_, rfl⟩
        rw [hd3] at e3 s3 ⊢
        have e3' : d3.L = upd tmpB synB d2.L := e3
        have hfil : ∀ f ∈ d3.L, f.name = tmpB → f = ⟨tmpB, encM m, (encM m).length⟩ := by
          intro f hf hn
          rw [e3'] at hf
          rcases mem_upd hf with ⟨f2, hf2, hn2, rfl⟩ | ⟨_, hx⟩
          · rw [e2'] at hf2
            rcases mem_upd hf2 with ⟨f1, hf1, hn1, rfl⟩ | ⟨_, hx⟩
            · rw [e1', mem_ins] at hf1
              rcases hf1 with rfl | hf1
              · simp [synB, addB]
              · exact absurd hn1 (fnd_none hno f1 hf1)
            · exact absurd hn2 hx
          · exact absurd hn hx
        have hlen : d3.L.length = d.L.length + 1 := by rw [e3', len_upd, e2', len_upd, e1', len_ins]
        rw [runB]
        by_cases h4 : (step d3 ⟨5, tmpB, mnameB m.gen, 0, []⟩).1 = 0
        · obtain ⟨r4, e4⟩ := step_ok h4
          rw [if_pos h4]
          obtain ⟨d4, hd4⟩ : ∃ d4, (step d3 ⟨5, tmpB, mnameB m.gen, 0, []⟩).2 = d4 := ⟨_, rfl⟩
          rw [hd4] at e4 ⊢
          rw [runB]
          obtain ⟨f, hf, _⟩ := ref_file (by simp) r4
          have hf' : fnd tmpB d3.L = some f := hf
          obtain rfl := hfil f (fnd_some hf').1 (fnd_some hf').2
          have e4' : d4.L = ins (manF m) (dro (mnameB m.gen) (dro tmpB d3.L)) := by
            rw [e4]
            show ren tmpB (mnameB m.gen) d3.L = _
            unfold ren
            rw [hf']
            rfl
          refine .inr ⟨rfl, fun g => ?_, ?_⟩
          · show g ∈ d4.L ↔ _
            rw [e4', mem_ins, mem_dro, mem_dro]
            constructor
            · rintro (h | ⟨⟨h5, h6⟩, h7⟩)
              · exact .inl h
              · exact .inr ⟨(s3 g h6).1 h5, h6, h7⟩
            · rintro (h | ⟨h5, h6, h7⟩)
              · exact .inl h
              · exact .inr ⟨⟨(s3 g h6).2 h5, h6⟩, h7⟩
          · show d4.L.length ≤ _
            have := len_whole ⟨5, tmpB, mnameB m.gen, 0, []⟩ d3.L (by simp)
            rw [e4]
            omega
        · rw [if_neg h4]
          exact .inl ⟨h4, s3.trans (step_tmp rfl (.inr h4))⟩
      · rw [if_neg h3]
        exact .inl ⟨h3, s2.trans (step_tmp rfl (.inr h3))⟩
    · rw [if_neg h2]
      exact .inl ⟨h2, s1.trans (step_tmp rfl (.inr h2))⟩
  · rw [if_neg h1]
    exact .inl ⟨h1, step_tmp rfl (.inr h1)⟩
theorem wr_as (d : Dsk) {m : Mfs} (hm : mayM m = true) : WroteAs d m (wrM d m) := by
  unfold wrM
  rw [if_neg (by rw [hm]; decide)]
  unfold wopsB
  split
  · rw [runB]
    by_cases h1 : (step d (delO tmpB)).1 = 0
    · rw [if_pos h1]
      refine (wops_as _ m).from (step_tmp rfl (.inl (by simp [delO]))) ?_
      rw [(step_ok h1).2]
      exact len_whole _ _ (by simp [delO])
    · rw [if_neg h1]
      exact .inl ⟨h1, step_tmp rfl (.inr h1)⟩
  · exact wops_as d m

theorem fnd_there {n : ByteArray} {L : List Fil} {f : Fil} (hf : f ∈ L) (hn : f.name = n) : ∃ g, fnd n L = some g := by
  cases h : fnd n L with
  | some g => exact ⟨g, rfl⟩
  | none => exact absurd hn (fnd_none h f hf)
/-- On a disk that nothing befalls Write goes well. -/
theorem wr_calm {d : Dsk} {m : Mfs} (hm : mayM m = true) (h1 : d.down = false) (h2 : d.tr = []) (hno : fnd tmpB d.L = none) (hl : d.L.length < 64) (hr : (used d.L : Int) + 280 ≤ d.room) :
    (wrM d m).1 = 0 ∧ (wrM d m).2.down = false ∧ (wrM d m).2.tr = [] ∧ (wrM d m).2.room = d.room := by
  have hle := encM_le m
  unfold wrM
  rw [if_neg (by rw [hm]; decide)]
  unfold wopsB
  rw [hno, if_neg (by decide)]
  unfold wopsT
  have c1 : step d ⟨1, tmpB, noS, 0, []⟩ = (0, { d with ops := d.ops + 1, L := ins ⟨tmpB, [], 0⟩ d.L }) := step_calm h1 h2 (by
    have hn : nmd tmpB = true := by decide +kernel
    unfold ref
    rw [if_pos rfl, hn, if_neg (by decide), hno, if_neg (by decide), if_neg (by omega)])
  rw [runB, c1, if_pos rfl]
  obtain ⟨d1, hd1⟩ : ∃ d1 : Dsk, { d with ops := d.ops + 1, L := ins ⟨tmpB, [], 0⟩ d.L } = d1 := ⟨_, rfl⟩
  have a1 : d1.down = false := by rw [← hd1]; exact h1
  have a2 : d1.tr = [] := by rw [← hd1]; exact h2
  have a3 : d1.L = ins ⟨tmpB, [], 0⟩ d.L := by rw [← hd1]
  have a4 : d1.room = d.room := by rw [← hd1]
  dsimp only
  rw [hd1]
  clear c1 hd1
  obtain ⟨f1, hf1⟩ := fnd_there (L := d1.L) (n := tmpB) (f := ⟨tmpB, [], 0⟩) (by rw [a3]; exact mem_ins.2 (.inl rfl)) rfl
  have c2 : step d1 ⟨2, tmpB, noS, 0, encM m⟩ = (0, { d1 with ops := d1.ops + 1, L := upd tmpB (addB (encM m)) d1.L }) := step_calm a1 a2 (by
    unfold ref
    rw [if_neg (by simp)]
    dsimp only
    rw [hf1]
    dsimp only
    unfold refF
    rw [if_pos rfl, a3, used_ins, a4]
    refine if_neg ?_
    show ¬ (d.room - ((used d.L + 0 : Nat) : Int) < ((encM m).length : Int))
    omega)
  rw [runB, c2, if_pos rfl]
  obtain ⟨d2, hd2⟩ : ∃ d2 : Dsk, { d1 with ops := d1.ops + 1, L := upd tmpB (addB (encM m)) d1.L } = d2 := ⟨_, rfl⟩
  have b1 : d2.down = false := by rw [← hd2]; exact a1
  have b2 : d2.tr = [] := by rw [← hd2]; exact a2
  have b3 : d2.L = upd tmpB (addB (encM m)) d1.L := by rw [← hd2]
  have b4 : d2.room = d.room := by rw [← hd2]; exact a4
  dsimp only
  rw [hd2]
  clear c2 hd2
  have hm2 : addB (encM m) f1 ∈ d2.L := by
    rw [b3]
    unfold upd
    exact List.mem_map.2 ⟨f1, (fnd_some hf1).1, if_pos (fnd_some hf1).2⟩
  obtain ⟨f2, hf2⟩ := fnd_there (n := tmpB) hm2 (fnd_some hf1).2
  have c3 : step d2 ⟨4, tmpB, noS, 0, []⟩ = (0, { d2 with ops := d2.ops + 1, L := upd tmpB synB d2.L }) := step_calm b1 b2 (by
    unfold ref
    rw [if_neg (by simp)]
    dsimp only
    rw [hf2]
    rfl)
  rw [runB, c3, if_pos rfl]
  obtain ⟨d3, hd3⟩ : ∃ d3 : Dsk, { d2 with ops := d2.ops + 1, L := upd tmpB synB d2.L } = d3 := ⟨_, rfl⟩
  have e1 : d3.down = false := by rw [← hd3]; exact b1
  have e2 : d3.tr = [] := by rw [← hd3]; exact b2
  have e3 : d3.L = upd tmpB synB d2.L := by rw [← hd3]
  have e4 : d3.room = d.room := by rw [← hd3]; exact b4
  dsimp only
  rw [hd3]
  clear c3 hd3
  have hm3 : synB f2 ∈ d3.L := by
    rw [e3]
    unfold upd
    exact List.mem_map.2 ⟨f2, (fnd_some hf2).1, if_pos (fnd_some hf2).2⟩
  obtain ⟨f3, hf3⟩ := fnd_there (n := tmpB) hm3 (fnd_some hf2).2
  have c4 : step d3 ⟨5, tmpB, mnameB m.gen, 0, []⟩ = (0, { d3 with ops := d3.ops + 1, L := ren tmpB (mnameB m.gen) d3.L }) := step_calm e1 e2 (by
    unfold ref
    rw [if_neg (by simp)]
    dsimp only
    rw [hf3]
    dsimp only
    unfold refF
    rw [if_neg (by simp), if_neg (by simp), if_pos rfl, nmd_mname (mayM_is.1 hm).gen]
    exact if_neg (by decide))
  rw [runB, c4, if_pos rfl, runB]
  exact ⟨rfl, e1, e2, e4⟩

/-! ### a Write of a greater generation, whatever befalls -/
/-- The disk has a's manifest, safe, perhaps b's, and else man.tmp at most. -/
structure Sw (L : List Fil) (a b : Mfs) : Prop where
  srt : Srt L
  has : manF a ∈ L
  all : ∀ f ∈ L, f.name = tmpB ∨ f = manF a ∨ f = manF b
theorem Sw.new {L : List Fil} {a b : Mfs} (h : Sw L a b) (ha : mayM a = true) (hb : mayM b = true) (hlt : a.gen < b.gen) : (manF b ∈ L → newB L = some b) ∧ (manF b ∉ L → newB L = some a) := by
  have fa : ofFile (manF a) = some a := ofFile_mk ha rfl rfl
  have fb : ofFile (manF b) = some b := ofFile_mk hb rfl rfl
  have hall : ∀ g ∈ L, ∀ x, ofFile g = some x → (g = manF a ∧ x = a) ∨ (g = manF b ∧ x = b) := by
    intro g hg x hx
    rcases h.all g hg with h1 | rfl | rfl
    · rw [tmp_file h1] at hx; cases hx
    · rw [fa] at hx; exact .inl ⟨rfl, (Option.some.inj hx).symm⟩
    · rw [fb] at hx; exact .inr ⟨rfl, (Option.some.inj hx).symm⟩
  refine ⟨fun hm => newB_is h.srt hm fb (fun g hg x hx => ?_), fun hm => newB_is h.srt h.has fa (fun g hg x hx => ?_)⟩
  · rcases hall g hg x hx with ⟨_, rfl⟩ | ⟨_, rfl⟩ <;> omega
  · rcases hall g hg x hx with ⟨_, rfl⟩ | ⟨rfl, _⟩
    · exact Int.le_refl _
    · exact absurd hg hm
theorem Sw.wrote {d : Dsk} {a b : Mfs} (h : Sw d.L a b) (ha : mayM a = true) (hb : mayM b = true) (hlt : a.gen < b.gen) {r : Int × Dsk} (hw : WroteAs d b r) (hs : Srt r.2.L) : Sw r.2.L a b ∧ (r.1 = 0 → manF b ∈ r.2.L) := by
  have na : (manF a).name ≠ tmpB := tmp_ne (mayM_is.1 ha).gen
  have nab : (manF a).name ≠ mnameB b.gen := fun e => by have := mname_inj (mayM_is.1 ha).gen (mayM_is.1 hb).gen e; omega
  rcases hw with ⟨h1, h2⟩ | ⟨h1, h2, _⟩
  · refine ⟨⟨hs, (h2 _ na).2 h.has, fun f hf => ?_⟩, fun e => absurd e h1⟩
    by_cases hn : f.name = tmpB
    · exact .inl hn
    · exact h.all f ((h2 f hn).1 hf)
  · refine ⟨⟨hs, (h2 _).2 (.inr ⟨h.has, na, nab⟩), fun f hf => ?_⟩, fun _ => (h2 _).2 (.inl rfl)⟩
    rcases (h2 f).1 hf with rfl | ⟨h3, _, _⟩
    · exact .inr (.inr rfl)
    · exact h.all f h3
theorem crs_safe {ts : List Int} {L : List Fil} (hs : Srt L) {f : Fil} (hf : f ∈ L) (hsafe : f.safe = f.data.length) : f ∈ crs ts 0 L := by
  have h1 : f.name ∈ (crs ts 0 L).map Fil.name := by rw [names_crs]; exact List.mem_map_of_mem hf
  obtain ⟨g, hg, hn⟩ := List.mem_map.1 h1
  obtain ⟨f', hf', n, rfl, h2, h3⟩ := mem_crs ts 0 L g hg
  have h4 := fnd_mem hs hf'
  rw [show f'.name = f.name from hn, fnd_mem hs hf] at h4
  obtain rfl := Option.some.inj h4
  have h5 : n = f.data.length := by have := h3 (by omega); omega
  rw [h5, List.take_length] at hg
  rw [show f = ⟨f.name, f.data, f.data.length⟩ by rw [← hsafe]]
  exact hg
theorem crs_was {ts : List Int} {L : List Fil} {g : Fil} (hg : g ∈ crs ts 0 L) : ∃ f ∈ L, g.name = f.name ∧ (f.safe = f.data.length → g = f) := by
  obtain ⟨f, hf, n, rfl, h2, h3⟩ := mem_crs ts 0 L g hg
  refine ⟨f, hf, rfl, fun hs => ?_⟩
  have h5 : n = f.data.length := by have := h3 (by omega); omega
  rw [h5, List.take_length, ← hs]
theorem Sw.power {L : List Fil} {a b : Mfs} (h : Sw L a b) (ts : List Int) (hs : Srt (crs ts 0 L)) : Sw (crs ts 0 L) a b ∧ (manF b ∈ L → manF b ∈ crs ts 0 L) := by
  refine ⟨⟨hs, crs_safe h.srt h.has rfl, fun g hg => ?_⟩, fun hb => crs_safe h.srt hb rfl⟩
  obtain ⟨f, hf, hn, he⟩ := crs_was hg
  rcases h.all f hf with h1 | rfl | rfl
  · exact .inl (hn.trans h1)
  · exact .inr (.inl (he rfl))
  · exact .inr (.inr (he rfl))
/-- One Write, whatever befalls, and the power goes. -/
theorem Sw.round {d : Dsk} {a b : Mfs} {M K : Nat} (h : Sw d.L a b) (hf : Few d M K) (ha : mayM a = true) (hb : mayM b = true) (hlt : a.gen < b.gen) (tr : List Tro) (ts : List Int) :
    Sw (crash ts (wrM (arm tr d) b).2).L a b ∧ ∃ m, newB (crash ts (wrM (arm tr d) b).2).L = some m ∧ (m = b ∨ ((wrM (arm tr d) b).1 ≠ 0 ∧ m = a)) := by
  have h1 : Sw (arm tr d).L a b := h
  have hfw := (hf.arm tr).write8 b
  obtain ⟨h2, h3⟩ := h1.wrote ha hb hlt (wr_as (arm tr d) hb) hfw.inv.srt
  obtain ⟨h4, h5⟩ := h2.power ts (hfw.crash ts).inv.srt
  obtain ⟨h6, h7⟩ := h4.new ha hb hlt
  refine ⟨h4, ?_⟩
  by_cases hm : manF b ∈ crs ts 0 (wrM (arm tr d) b).2.L
  · exact ⟨b, h6 hm, .inl rfl⟩
  · exact ⟨a, h7 hm, .inr ⟨fun e => hm (h5 (h3 e)), rfl⟩⟩
/-- The first one. -/
theorem Sw.first {d : Dsk} {a b : Mfs} {M K : Nat} (h0 : d.L = []) (hf : Few d M K) (ha : mayM a = true) (h1 : d.down = false) (h2 : d.tr = []) (hr : 280 ≤ d.room) : (wrM d a).1 = 0 ∧ Sw (wrM d a).2.L a b := by
  have hc := wr_calm (d := d) ha h1 h2 (by rw [h0]; rfl) (by rw [h0]; exact (by decide : (0 : Nat) < 64)) (by rw [h0]; show ((0 : Nat) : Int) + 280 ≤ _; omega)
  refine ⟨hc.1, ?_⟩
  rcases wr_as d ha with ⟨h3, _⟩ | ⟨_, h4, _⟩
  · exact absurd hc.1 h3
  · refine ⟨(hf.write8 a).inv.srt, (h4 _).2 (.inl rfl), fun f hfm => ?_⟩
    rcases (h4 f).1 hfm with rfl | ⟨h5, _⟩
    · exact .inr (.inl rfl)
    · rw [h0] at h5; cases h5

/-! ### manifests in whatever order -/
/-- Nothing befalls this disk, it has manifests alone, so many at most; the best is the newest one. -/
structure Gr (d : Dsk) (best : Mfs) (i : Nat) : Prop where
  down : d.down = false
  tr : d.tr = []
  room : d.room = 65536
  few : Few d (280 * i) (5 * i)
  len : d.L.length ≤ i
  all : ∀ f ∈ d.L, ∃ m, mayM m = true ∧ f = manF m
  best : (d.L = [] ∧ best = ⟨0, 0, []⟩) ∨ newB d.L = some best
theorem Gr.gen {d : Dsk} {best : Mfs} {i : Nat} (h : Gr d best i) : 0 ≤ best.gen ∧ (best.gen = 0 → newB d.L = none ∧ best = ⟨0, 0, []⟩) ∧ (0 < best.gen → newB d.L = some best) := by
  rcases h.best with ⟨h1, h2⟩ | h1
  · rw [h2, h1]
    exact ⟨Int.le_refl _, fun _ => ⟨rfl, rfl⟩, fun h => absurd h (by decide)⟩
  · obtain ⟨f, _, hf⟩ := newB_mem h1
    have := mayN_is.1 (mayM_is.1 (ofFile_is hf).1).gen
    exact ⟨by omega, fun e => by omega, fun _ => h1⟩
theorem Gr.next {d : Dsk} {best : Mfs} {i : Nat} (h : Gr d best i) (hi : i < 12) {m : Mfs} (hm : mayM m = true) :
    (wrM d m).1 = 0 ∧ Gr (wrM d m).2 (if best.gen ≤ m.gen then m else best) (i + 1) := by
  have hno : fnd tmpB d.L = none := by
    cases hf : fnd tmpB d.L with
    | none => rfl
    | some f =>
      obtain ⟨x, hx, rfl⟩ := h.all f (fnd_some hf).1
      exact absurd (fnd_some hf).2 (tmp_ne (mayM_is.1 hx).gen)
  have hu := h.few.used
  obtain ⟨c1, c2, c3, c4⟩ := wr_calm (d := d) hm h.down h.tr hno (by have := h.len; omega) (by rw [h.room]; omega)
  have hfw := h.few.write8 m
  rcases wr_as d hm with ⟨h3, _⟩ | ⟨_, h4, h5⟩
  · exact absurd c1 h3
  have fm : ofFile (manF m) = some m := ofFile_mk hm rfl rfl
  have hg := mayN_is.1 (mayM_is.1 hm).gen
  refine ⟨c1, c2, c3, c4.trans h.room, hfw.mono (by omega) (by omega), by have := h.len; omega, fun f hf => ?_, .inr ?_⟩
  · rcases (h4 f).1 hf with rfl | ⟨h6, _⟩
    · exact ⟨m, hm, rfl⟩
    · exact h.all f h6
  · have hold : ∀ g ∈ d.L, ∀ x, ofFile g = some x → x.gen ≤ best.gen := by
      intro g hgm x hx
      rcases h.best with ⟨h6, _⟩ | h6
      · rw [h6] at hgm; cases hgm
      · exact newB_most h.few.inv.srt h6 g hgm x hx
    split
    · next hle =>
      refine newB_is hfw.inv.srt ((h4 _).2 (.inl rfl)) fm (fun g hgm x hx => ?_)
      rcases (h4 g).1 hgm with rfl | ⟨h6, _⟩
      · rw [fm] at hx; rw [Option.some.inj hx]; exact Int.le_refl _
      · have := hold g h6 x hx; omega
    · next hle =>
      have hn := h.gen.2.2 (by omega)
      obtain ⟨f, hf, hfo⟩ := newB_mem hn
      obtain ⟨o1, _, o3⟩ := ofFile_is hfo
      have hne : f.name ≠ mnameB m.gen := fun e => by
        have := mname_inj (mayM_is.1 o1).gen (mayM_is.1 hm).gen (o3.symm.trans e)
        omega
      refine newB_is hfw.inv.srt ((h4 _).2 (.inr ⟨hf, by rw [o3]; exact tmp_ne (mayM_is.1 o1).gen, hne⟩)) hfo (fun g hgm x hx => ?_)
      rcases (h4 g).1 hgm with rfl | ⟨h6, _⟩
      · rw [fm] at hx; rw [← Option.some.inj hx]; omega
      · exact hold g h6 x hx

/-! ### Clean -/
/-- Is a name among these? -/
def among (l : List ByteArray) (n : ByteArray) : Bool := l.any fun s => decide (s = n)
theorem among_is {l : List ByteArray} {n : ByteArray} : among l n = true ↔ n ∈ l := by
  unfold among
  rw [List.any_eq_true]
  constructor
  · rintro ⟨s, hs, he⟩
    obtain rfl : s = n := by simpa using he
    exact hs
  · exact fun h => ⟨n, h, by simp⟩
theorem among_cons (s : ByteArray) (l : List ByteArray) (n : ByteArray) : among (s :: l) n = (decide (s = n) || among l n) := by unfold among; exact List.any_cons
theorem dro_filter (n : ByteArray) (L : List Fil) : dro n L = L.filter (fun f => !decide (f.name = n)) := rfl
/-- Files that are there are deleted, on a disk that nothing befalls. -/
theorem run_del : ∀ (l : List ByteArray) (d : Dsk), d.down = false → d.tr = [] → l.Nodup → (∀ s ∈ l, s ∈ d.L.map Fil.name) → (runB d (l.map delO)).1 = 0 ∧ (runB d (l.map delO)).2.L = d.L.filter (fun f => !among l f.name) ∧ (runB d (l.map delO)).2.down = false ∧ (runB d (l.map delO)).2.tr = []
  | [], d, h1, h2, _, _ => ⟨rfl, by rw [List.map_nil, runB]; exact (List.filter_eq_self.2 (fun f _ => rfl)).symm, h1, h2⟩
  | s :: l, d, h1, h2, hn, hm => by
    obtain ⟨hn1, hn2⟩ := List.nodup_cons.1 hn
    obtain ⟨f, hf, hfn⟩ := List.mem_map.1 (hm s (List.mem_cons_self ..))
    obtain ⟨g, hg⟩ := fnd_there hf hfn
    have c : step d (delO s) = (0, { d with ops := d.ops + 1, L := dro s d.L }) := step_calm h1 h2 (by
      unfold ref delO
      rw [if_neg (by simp)]
      dsimp only
      rw [hg]
      rfl)
    rw [List.map_cons, runB, c, if_pos rfl]
    obtain ⟨k1, k2, k3, k4⟩ := run_del l { d with ops := d.ops + 1, L := dro s d.L } h1 h2 hn2 (fun x hx => by
      obtain ⟨y, hy, hyn⟩ := List.mem_map.1 (hm x (List.mem_cons_of_mem _ hx))
      exact List.mem_map.2 ⟨y, mem_dro.2 ⟨hy, fun e => hn1 (by rw [← e, hyn]; exact hx)⟩, hyn⟩)
    refine ⟨k1, ?_, k3, k4⟩
    rw [k2]
    show (dro s d.L).filter _ = _
    rw [dro_filter, List.filter_filter]
    refine List.filter_congr (fun x _ => ?_)
    rw [among_cons]
    by_cases hx : x.name = s
    · simp [hx]
    · have hx2 : ¬ s = x.name := fun e => hx e.symm
      simp [hx, hx2]
theorem srt_nodup : ∀ {L : List Fil}, Srt L → (L.map Fil.name).Nodup := by
  intro L h
  rw [List.Nodup, List.pairwise_map]
  exact h.imp (fun hab => nlt_ne hab)
/-- Behind a Clean that nothing befalls there is what is needed, as it was. -/
theorem clean_calm {d : Dsk} {m : Mfs} (h1 : d.down = false) (h2 : d.tr = []) (hs : Srt d.L) :
    (cleanM d m).1 = 0 ∧ (cleanM d m).2.L = d.L.filter (fun f => needM m f.name) ∧ orphM (cleanM d m).2 m = [] := by
  obtain ⟨k1, k2, _⟩ := run_del (orphM d m) d h1 h2 ((srt_nodup hs).filter _) (fun s hs => (List.mem_filter.1 hs).1)
  have he : (cleanM d m).2.L = d.L.filter (fun f => needM m f.name) := by
    unfold cleanM
    rw [k2]
    refine List.filter_congr (fun x hx => ?_)
    have hmem : among (orphM d m) x.name = !needM m x.name := by
      cases hn : needM m x.name with
      | true =>
        rw [Bool.not_true]
        rw [Bool.eq_false_iff]
        intro hc0
        have hc := among_is.1 hc0
        have := (List.mem_filter.1 hc).2
        rw [hn] at this
        cases this
      | false =>
        rw [Bool.not_false]
        rw [among_is]
        exact List.mem_filter.2 ⟨List.mem_map_of_mem hx, by rw [hn]; rfl⟩
    rw [hmem, Bool.not_not]
  refine ⟨k1, he, ?_⟩
  unfold orphM
  rw [he, List.filter_eq_nil_iff]
  intro s hs
  obtain ⟨f, hf, rfl⟩ := List.mem_map.1 hs
  have := (List.mem_filter.1 hf).2
  simp [this]

end Go.Proofs.YtacfcfbleogioaaGreatDoor
