/-
  The program's Sync, Delete, Rename, Create, Cut: each answers what the document says, and leaves the disk that it says. Conditions: the disk lies in memory; numbers and names are small.
-/
import Derived.Test.YtjhiekijbcjohaaGreatDoorFiles
namespace Go.Proofs.YtjhiekijbcjohaaGreatDoor
open Go.RowKit Go.Lib Go.Joins

/-- What a closure leaves. -/
def Half (w : World) (S : Nat → Prop) (B : Nat) (d' : Dsk) (w2 : World) : Prop := (∃ F T cs, DiskAt w2 (Wide S w) B d' F T cs) ∧ Keeps S w w2

theorem turns_of {w w1 w2 : World} {S : Nat → Prop} {B : Nat} {d' : Dsk} (hk : Keeps S w w1) (h : Half w1 S B d' w2) (hi : Inv d') : Turns w S B d' w2 := by
  obtain ⟨⟨F, T, cs, hd⟩, hk2⟩ := h
  refine ⟨_, ⟨hi, fun k e => e.2, F, T, cs, hd.tight⟩, fun k hw => ?_, hk.trans hk2 (fresh_refl _ _)⟩
  rcases hw.1 with h1 | h1
  · exact .inl h1
  · exact .inr (Nat.le_trans hk.size h1)
theorem turns_same {w w1 : World} {S : Nat → Prop} {B : Nat} {d' : Dsk} {F : Nat} {T : Option Nat} {cs : List Cel} (hk : Keeps S w w1) (h : DiskAt w1 S B d' F T cs) (hi : Inv d') : Turns w S B d' w1 :=
  ⟨_, ⟨hi, fun _k e => e.2, F, T, cs, h.tight⟩, fun _ e => .inl e.1, hk⟩

theorem operate_does {o : Opn} {w : World} {S : Nat → Prop} {B : Nat} {d : Dsk} {F : Nat} {T : Option Nat} {cs : List Cel} (h : DiskAt w S B d F T cs) (hi : Inv d) (hs : Sml d) (hb : ∀ c ∈ o.b, c < 256) (g : Nat) (caps : Array Value) (v2 : Value)
    (eg : ∀ args w, (callFunc g args).run Tryz.prog w = .ok (.enter g args) w)
    (hw : ref d o = 0 → ∀ w1, DiskAt w1 S B ⟨d.room, d.L, d.tr, d.ops + 1, false⟩ F T cs → Keeps (One B) w w1 → Calls Tryz.prog g caps w1 (Ran (Half w1 S B ⟨d.room, whole o d.L, d.tr, d.ops + 1, false⟩)))
    (hp : (v2 = .nilFunc ∧ o.kind ≠ 2) ∨ ∃ g2 caps2 S0, v2 = .func (.func g2) #[] caps2 ∧ (∀ k, S0 k → k < w.heap.size ∧ k ≠ B) ∧ (∀ args w, (callFunc g2 args).run Tryz.prog w = .ok (.enter g2 args) w) ∧
      (ref d o = 0 → ∀ p w1, DiskAt w1 S B ⟨d.room, d.L, d.tr, d.ops + 1, false⟩ F T cs → Keeps (One B) w w1 → Calls Tryz.prog g2 (#[.int .i64 p] ++ caps2) w1 (Ran (fun w2 => Half w1 S B ⟨d.room, part o p d.L, d.tr, d.ops + 1, false⟩ w2 ∧ Keeps S0 w1 w2)))) :
    Calls Tryz.prog 74 #[.pointer (some ⟨B, 0, none⟩), .agg #[.int .i64 (ref d o), .func (.func g) #[] caps, v2]] w (Does w S B (.int .i64 (step d o).1) (step d o).2) := by
  have hinv := inv_step (o := o) hi hb
  have h5 : Five w B d.room F T d.ops d.down := h.blk
  have hops0 := hs.ops0
  have hops1 := hs.ops1
  have hT : T ≠ some B := h.tro.ne h.blk
  unfold step at hinv ⊢
  cases hdn : d.down with
  | true =>
    rw [hdn] at h5
    rw [hdn, if_pos rfl] at hinv
    rw [if_pos rfl]
    refine (operate_down B F T d.room d.ops (ref d o) _ v2 w h5).mono ?_
    rintro e w' ⟨rfl, hbl⟩
    exact ⟨rfl, turns_same (keeps_below hbl S) (h.keep (keeps_below hbl Non) (fun _ _ h => h)) hinv⟩
  | false =>
    rw [hdn] at h5
    rw [hdn, if_neg (by decide)] at hinv
    rw [if_neg (by decide)]
    by_cases hr : ref d o = 0
    · rw [if_neg (by simpa using hr)] at hinv ⊢
      have hlk := look_tro h.tro (i := d.ops + 1) (by omega) (by omega)
      have hmid : ∀ {w1}, Mid w B d.room F T (d.ops + 1) false w1 → DiskAt w1 S B ⟨d.room, d.L, d.tr, d.ops + 1, false⟩ F T cs := fun hm => h.mid hm
      rw [hr]
      cases ht : tro d.tr (d.ops + 1) with
      | none =>
        rw [ht] at hlk hinv
        dsimp only [Option.isSome] at hlk hinv ⊢
        refine (operate_whole B F T d.room d.ops g caps v2 _ w h5 hops0 (by omega) hT hlk _ eg (fun w1 hm => hw hr w1 (hmid hm) hm.2)).mono ?_
        rintro e w' ⟨rfl, w1, hm, hh⟩
        exact ⟨rfl, turns_of (hm.keeps h.sB) hh hinv⟩
      | some t =>
        rw [ht] at hlk hinv
        dsimp only [Option.isSome] at hlk hinv ⊢
        rcases hp with ⟨rfl, hk2⟩ | ⟨g2, caps2, S0, rfl, hS0, eg2, hp⟩
        · have e1 : part o t.part d.L = d.L := by unfold part; rw [if_neg hk2]
          rw [e1] at hinv ⊢
          refine (operate_hit B F T d.room d.ops g caps t w h5 hops0 (by omega) hT hlk).mono ?_
          rintro e w' ⟨rfl, hm⟩
          exact ⟨rfl, turns_same (hm.keeps h.sB) (h.mid hm) hinv⟩
        · refine (operate_part B F T d.room d.ops g g2 caps caps2 t w h5 hops0 (by omega) hT hlk _ S0 hS0 eg2 (fun w1 hm => hp hr t.part w1 (hmid hm) hm.2)).mono ?_
          rintro e w' ⟨rfl, w1, w2, hm, ⟨⟨F', T', cs', hd⟩, hk3⟩, hk4, rfl⟩
          have hm2 : Mid w2 B d.room F' T' (d.ops + 1) (decide (t.kind = 3)) (w2.setCell ⟨B, 4, none⟩ (.bool (decide (t.kind = 3)))) :=
            ⟨Five.down hd.blk _, (Keeps.refl (One B) w2).setCell (p := ⟨B, 4, none⟩) (.inl rfl) _⟩
          have hd2 := hd.mid hm2
          refine ⟨rfl, turns_of (w1 := w1) (hm.keeps h.sB) ⟨⟨F', T', cs', hd2⟩, hk3.trans (hm2.keeps h.sB) (fresh_refl _ _)⟩ hinv⟩
    · rw [if_pos (by simpa using hr)] at hinv ⊢
      refine (operate_refused B F T d.room d.ops (ref d o) _ v2 w h5 hops0 (by omega) (by simpa using hr)).mono ?_
      rintro e w' ⟨rfl, hm⟩
      exact ⟨rfl, turns_same (hm.keeps h.sB) (h.mid hm) hinv⟩

theorem Calls.after {f : FuncId} {args : Array Value} {w w1 : World} {S : Nat → Prop} {B : Nat} {v : Value} {d' : Dsk} (h : Calls Tryz.prog f args w1 (Does w1 S B v d')) (hk : Keeps S w w1) : Calls Tryz.prog f args w1 (Does w S B v d') :=
  h.mono fun _ _ ⟨he, S', h1, h2, h3⟩ => ⟨he, S', h1, fun k hs => by rcases h2 k hs with h4 | h4; exact .inl h4; exact .inr (Nat.le_trans hk.size h4), hk.trans h3 (fresh_refl _ _)⟩

theorem Does.after {w w1 : World} {S : Nat → Prop} {B : Nat} {v : Value} {d' : Dsk} (hk : Keeps S w w1) {e : Ending} {w' : World} (h : Does w1 S B v d' e w') : Does w S B v d' e w' := by
  obtain ⟨rfl, S', h1, h2, h3⟩ := h
  exact ⟨rfl, S', h1, fun k hs => by rcases h2 k hs with h4 | h4; exact .inl h4; exact .inr (Nat.le_trans hk.size h4), hk.trans h3 (fresh_refl _ _)⟩

theorem enters48 : ∀ args w, (callFunc 75 args).run Tryz.prog w = .ok (.enter 75 args) w := enters_of Tryz.func75 (by kernel_rfl) rfl
theorem enters50 : ∀ args w, (callFunc 108 args).run Tryz.prog w = .ok (.enter 108 args) w := enters_of Tryz.func108 (by kernel_rfl) rfl
theorem enters51 : ∀ args w, (callFunc 109 args).run Tryz.prog w = .ok (.enter 109 args) w := enters_of Tryz.func109 (by kernel_rfl) rfl
theorem enters53 : ∀ args w, (callFunc 110 args).run Tryz.prog w = .ok (.enter 110 args) w := enters_of Tryz.func110 (by kernel_rfl) rfl
theorem enters57 : ∀ args w, (callFunc 138 args).run Tryz.prog w = .ok (.enter 138 args) w := enters_of Tryz.func138 (by kernel_rfl) rfl
theorem enters58 : ∀ args w, (callFunc 137 args).run Tryz.prog w = .ok (.enter 137 args) w := enters_of Tryz.func137 (by kernel_rfl) rfl

theorem fnd_cs {w : World} {S : Nat → Prop} {B : Nat} {d : Dsk} {F : Nat} {T : Option Nat} {cs : List Cel} (h : DiskAt w S B d F T cs) (n : ByteArray) : fnd n d.L = (cfnd n cs).map Cel.f := by rw [← h.is]; exact cfnd_is n cs

/-- What find tells of a name that is there, or not. -/
theorem ref_none {d : Dsk} {o : Opn} (hk : o.kind ≠ 1) (hf : fnd o.name d.L = none) : ref d o = 42 := by
  unfold ref
  rw [if_neg hk, hf]
theorem ref_some {d : Dsk} {o : Opn} (hk : o.kind ≠ 1) {f : Fil} (hf : fnd o.name d.L = some f) : ref d o = refF d o f := by
  unfold ref
  rw [if_neg hk, hf]

theorem box_keep {w w1 : World} {S : Nat → Prop} {B : Nat} {d : Dsk} {F : Nat} {T : Option Nat} {cs : List Cel} (h : DiskAt w S B d F T cs) (hk : Keeps (One B) w w1) {x : Nat} {v : Value} {t : TypeId} (hx : w.heap[x]? = some (.cells #[v] t (0, 0))) : w1.heap[x]? = some (.cells #[v] t (0, 0)) :=
  block_keep hx hk (fun e => by
    have hxB : x = B := e
    subst hxB
    rw [h.blk] at hx
    simp at hx)
theorem box_cell {w : World} {x : Nat} {v : Value} {t : TypeId} (hx : w.heap[x]? = some (.cells #[v] t (0, 0))) : w.cell? ⟨x, 0, none⟩ = some v := (cell_of_block hx 0).trans rfl

theorem ptr_is (o : Option Cel) : ∃ p, ptr o = .pointer p := by cases o <;> exact ⟨_, rfl⟩

set_option maxRecDepth 100000 in
set_option maxHeartbeats 4000000 in
theorem sync_calls (s : ByteArray) (w : World) {S : Nat → Prop} {B : Nat} {d : Dsk} (hd : Disk w S B d) (hs : Sml d) (hz : s.size ≤ 1099511627776) (tw : ByteArray) (n : Int) :
    Calls Tryz.prog 77 #[.pointer (some ⟨B, 0, none⟩), .string s] w (Does w S B (.int .i64 (step d ⟨4, s, tw, n, []⟩).1) (step d ⟨4, s, tw, n, []⟩).2) := by
  obtain ⟨hi, _, F, T, cs, h⟩ := hd
  have hfc := find_calls s w h hz
  have HFC := Lib.hid hfc
  obtain ⟨V, hV⟩ := ptr_is (cfnd s cs)
  have hf := fnd_cs h s
  obtain ⟨R, hR⟩ : ∃ R, (if (cfnd s cs).isSome then (0 : Int) else 42) = R := ⟨_, rfl⟩
  have hrr : ref d ⟨4, s, tw, n, []⟩ = R := by
    rw [← hR]
    cases hc : cfnd s cs with
    | none => rw [hc] at hf; exact ref_none (by simp) hf
    | some c => rw [hc] at hf; exact ref_some (by simp) hf
  have hal := h.keep (keeps_below ((Below.refl _ w).alloc (Nat.le_refl _) (.cells #[.pointer V] 95)) Non) (fun _ _ h => h)
  have hbox : (w.alloc (.cells #[.pointer V] 95)).heap[w.heap.size]? = some (.cells #[.pointer V] 95 (0, 0)) := heap_alloc_new w _
  have HOP := operate_does (o := ⟨4, s, tw, n, []⟩) hal hi hs (fun _ h => by cases h) 110 #[.pointer (some ⟨w.heap.size, 0, none⟩)] .nilFunc enters53 (by
    intro hr0 w1 h1 hk1
    have hb1 := box_keep hal hk1 hbox
    rw [hrr, ← hR] at hr0
    cases hc : cfnd s cs with
    | none => rw [hc] at hr0; simp at hr0
    | some c =>
      rw [hc] at hV
      obtain ⟨hm, hcn⟩ := cfnd_some hc
      obtain ⟨a, cap, hdv⟩ := dv_form (h1.row c hm)
      have hfl := h1.file c hm
      rw [hdv] at hfl
      have hlen : c.f.data.length ≤ 1073741824 := Nat.le_trans (used_mem (by rw [← h.is]; exact List.mem_map.2 ⟨c, hm, rfl⟩)) hs.used
      refine (sync1_calls w.heap.size c.fb a c.f.data.length cap (c.f.safe : Int) w1 (by rw [box_cell hb1, ← hV]; rfl) hfl hlen).mono ?_
      rintro e w2 ⟨rfl, hsf⟩
      refine ⟨rfl, ⟨F, T, cs.map (chg s synB c.dv), ?_⟩, hsf.2.mono (fun k _ e => by rw [e]; exact h1.sfb c hm)⟩
      have hrow := ownsRow_keep (h1.row c hm) hsf.2 (fun k (e : c.dv.ownBlock = some k) (e2 : k = c.fb) => other_elem hfl (h1.row c hm) (by decide) (by rw [e, e2]))
      have := h1.file_changed hi.srt hc (hsf.2.mono (fun k _ e => .inl e)) (f' := synB) (fun _ => rfl) (dv' := c.dv) (by rw [hdv]; exact hsf.1) hrow (fun k e => .inl e)
      exact this) (.inl ⟨rfl, by simp⟩)
  rw [hrr] at HOP
  have HHOP := Lib.hid HOP
  rw [hV, hR] at HFC
  clear hfc hV hf hR hrr hal hbox HOP hz hs hi h
  go_enter Tryz.func77, Tryz.ntmps77
  go_wp2_with fail
  refine HFC.out.mono ?_
  rintro e w' ⟨rfl, rfl⟩
  go_wp2_with fail
  refine (Calls.after HHOP.out (keeps_below ((Below.refl _ w).alloc (Nat.le_refl _) _) S)).mono ?_
  rintro e w2 ⟨rfl, hT⟩
  have HT := Lib.hid hT
  clear hT
  go_wp2
  go_ret
  exact ⟨rfl, HT.out⟩

end Go.Proofs.YtjhiekijbcjohaaGreatDoor
