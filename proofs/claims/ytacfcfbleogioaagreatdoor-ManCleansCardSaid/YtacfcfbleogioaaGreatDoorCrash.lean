/-
  The program's Crash. Conditions: the disk lies in memory; the numbers lie in memory that isn't the disk's.
-/
import Derived.Test.YtacfcfbleogioaaGreatDoorCrashP
namespace Go.Proofs.YtacfcfbleogioaaGreatDoor
open Go.RowKit Go.Lib Go.Joins

def CrashOut (w : World) (S : Nat → Prop) (B : Nat) (d' : Dsk) (e : Ending) (w' : World) : Prop := e = .returned (.tuple #[]) ∧ Turns w S B d' w'

/-- One file behind the power's loss. -/
theorem crash_one {wr w2 : World} {S : Nat → Prop} {B : Nat} {d : Dsk} {L : List Fil} {F : Nat} {T : Option Nat} {cs : List Cel} (h : DiskAt wr S B { d with L := L } F T cs) (hs : Srt L) {c : Cel} (hc : cfnd c.f.name cs = some c) {a : Option Addr} {cap n : Nat}
    (hdv : c.dv = .slice a c.f.data.length cap) (hn : n ≤ c.f.data.length) (hk : Keeps (One c.fb) wr w2) (hb : w2.heap[c.fb]? = some (.cells #[.slice a n cap, .int .i64 (n : Int)] 74 (0, 0))) :
    DiskAt w2 S B { d with L := upd c.f.name (crF n) L } F T (cs.map (chg c.f.name (crF n) (.slice a n cap))) := by
  obtain ⟨hm, _⟩ := cfnd_some hc
  have hrow := h.row c hm
  have hfl := h.file c hm
  rw [hdv] at hrow hfl
  have hrow2 := ownsRow_keep hrow hk (fun k (e : (Value.slice a c.f.data.length cap).ownBlock = some k) (e2 : k = c.fb) => other_elem hfl hrow (by decide) (by rw [e, e2]))
  have hlen : (crF n c.f).data.length = n := by simp only [crF, List.length_take]; omega
  exact h.file_same hs hc (hk.mono (fun k _ e => .inl e)) (f' := crF n) (fun _ => rfl) (dv' := .slice a n cap) hb (by rw [hlen]; exact ownsRow_take hrow2 hn) (fun k e => by rw [hdv]; cases a <;> exact e)

theorem keep_any (fb : Nat) (a : Option Addr) (len cap n safe : Nat) (N : Int) (hN : N = (n : Int)) (w : World) (h : w.heap[fb]? = some (.cells #[.slice a len cap, .int .i64 (safe : Int)] 74 (0, 0))) (hn : n ≤ len) (hs : safe ≤ n) (hl : len ≤ cap) (hc : cap ≤ maxLen) (ha : a = none → cap = 0) :
    Calls Tryz.prog 73 #[.pointer (some ⟨fb, 0, none⟩), .int .i64 N] w fun e w' => e = .returned (.tuple #[]) ∧ Hid (Keeps (One fb) w w') ∧ w'.heap[fb]? = some (.cells #[.slice a n cap, .int .i64 (safe : Int)] 74 (0, 0)) := by
  subst hN
  refine (keep_calls fb a len cap n safe w h hn hl hc ha).mono ?_
  rintro e w' ⟨rfl, h1, h2⟩
  rw [Nat.min_eq_left hs] at h1
  exact ⟨rfl, Lib.hid h2, h1⟩

set_option maxRecDepth 100000 in
set_option maxHeartbeats 4000000 in
theorem crash_calls (a0 : Option Addr) (ts : List Int) (cap0 m : Nat) (w : World) {S S0 : Nat → Prop} {B : Nat} {d : Dsk} (hd : Disk w S B d) (hu : used d.L ≤ 1073741824) (hr : RowI w S0 a0 ts) (hm : ts.length = m) (hS0 : ∀ k, S0 k → ¬ S k) (_hlc : m ≤ cap0) (hcm : m ≤ 1073741824) :
    Calls Tryz.prog 29 #[.pointer (some ⟨B, 0, none⟩), .slice a0 m cap0] w (CrashOut w S B (crash ts d)) := by
  obtain ⟨hi, hSlt, F, T, cs, h⟩ := hd
  have hnm := names_calls w h hi
  have HNM := Lib.hid hnm
  have HD := Lib.hid h
  have HI := Lib.hid hi
  have hmost := hi.most
  have hlen : (d.L.map Fil.name).length = d.L.length := List.length_map _
  obtain ⟨n, hn⟩ : ∃ n, d.L.length = n := ⟨_, rfl⟩
  obtain ⟨names, hnames⟩ : ∃ l, d.L.map Fil.name = l := ⟨_, rfl⟩
  rw [hn] at hmost
  rw [hnames, hn] at hlen
  rw [hnames] at HNM
  have HN := Lib.hid hn
  have HNAMES := Lib.hid hnames
  have HU := Lib.hid hu
  have HLEN := Lib.hid hlen
  have HR := Lib.hid hr
  have HM := Lib.hid hm
  have HS0 := Lib.hid hS0
  have HSLT := Lib.hid hSlt
  have hfive : Five w B d.room F T d.ops d.down := h.blk
  clear hnm h hi hn hnames hu hlen hr hm hS0 hSlt hfive
  go_enter Tryz.func29, Tryz.ntmps29
  go_wp2_with fail
  with_reducible refine HNM.out.mono ?_
  rintro e w1 ⟨v1, rfl, hown1, hb1⟩
  obtain ⟨a1, cap1, rfl, hcells⟩ := names_cells hown1
  rw [HLEN.out]
  have HC := Lib.hid hcells
  have HB1 := Lib.hid hb1
  have hsz1 := hb1.size
  clear hown1 hb1 hcells
  go_wp2
  go_loopg [4, 5, 6, 7, 11] n (fun g _ _ _ _ idx wr => ∃ (i : Nat) (cs' : List Cel), idx = .int .i64 (i : Int) ∧ g + i = n ∧ DiskAt wr S B { d with L := hlf ts 0 i d.L } F T cs' ∧ Keeps S w1 wr)
  case atStart => exact ⟨0, cs, rfl, rfl, by rw [show hlf ts 0 0 d.L = d.L by unfold hlf; rfl]; exact HD.out.below HB1.out, Keeps.refl _ _⟩
  case round =>
    obtain ⟨i, cs', rfl, hg, hDr, hK⟩ := hrel
    have HG := Lib.hid hg
    have HDR := Lib.hid hDr
    have HK := Lib.hid hK
    have hszr := hK.size
    clear hg hDr hK
    have HSRT : Hid (Srt (hlf ts 0 i d.L)) := Lib.hid (srt_map (hlf_names ts d.L 0 i) HI.out.srt)
    by_cases hlt : i < n
    · obtain ⟨g', rfl⟩ : ∃ g', gk = g' + 1 := ⟨gk - 1, by have := HG.out; omega⟩
      have hd : decide ((i : Int) < (n : Int)) = true := by simp; omega
      obtain ⟨f, hfi⟩ : ∃ f, d.L[i]? = some f := ⟨d.L[i]'(by rw [HN.out]; omega), List.getElem?_eq_getElem _⟩
      have hni : names[i]? = some f.name := by rw [← HNAMES.out, List.getElem?_map, hfi]; rfl
      have hci' : (cs'.map Cel.f)[i]? = some f := by rw [HDR.out.is]; exact (hlf_at ts d.L 0 i).trans hfi
      obtain ⟨c, hci, hcf⟩ : ∃ c, cs'[i]? = some c ∧ c.f = f := by
        rw [List.getElem?_map] at hci'
        obtain ⟨c, h1, h2⟩ := Option.map_eq_some_iff.1 hci'
        exact ⟨c, h1, h2⟩
      have hm : c ∈ cs' := List.mem_of_getElem? hci
      have hcc := cfnd_at (by rw [HDR.out.is]; exact HSRT.out) hci
      obtain ⟨gn, rfl, hgn, hcn⟩ : ∃ g, a1 = some ⟨g, 0, none⟩ ∧ w.heap.size ≤ g ∧ ∀ (i : Nat) (s : ByteArray), names[i]? = some s → w1.cell? ⟨g, i, none⟩ = some (.string s) := by
        rcases HC.out with h0 | h0
        · rw [h0] at hni; simp at hni
        · exact h0
      have hcw := hcn i f.name hni
      have hcr : wr.cell? ⟨gn, i, none⟩ = some (.string f.name) := (World.cell?_of_block (a := ⟨gn, i, none⟩) (HK.out.block gn (lt_of_cell hcw) (fun e => by have := HSLT.out gn e; omega))).trans hcw
      have hB1 : wr.cell? ⟨B, 1, none⟩ = some (.map (some F)) := (cell_of_block HDR.out.blk 1).trans rfl
      have hfm : f ∈ d.L := List.mem_of_getElem? hfi
      have hlk := look_run HDR.out.map (s := f.name) (by
        have := HI.out.name f hfm
        unfold nmd at this
        simp only [Bool.and_eq_true, decide_eq_true_eq] at this
        unfold maxLen; omega)
      rw [← hcf, hcc, hcf] at hlk
      dsimp only [ptr] at hlk
      obtain ⟨a, cap, hdv⟩ := dv_form (HDR.out.row c hm)
      have hfl := HDR.out.file c hm
      have hrow := HDR.out.row c hm
      rw [hdv] at hfl hrow
      have hfit : f.data.length ≤ cap ∧ cap ≤ maxLen ∧ (a = none → cap = 0) := by
        rw [hcf] at hrow
        rcases hrow.2 with ⟨e1, e2⟩ | ⟨g, cap', cur, e1, _, _, e2, e3, _⟩
        · simp only [Value.slice.injEq] at e1
          exact ⟨by omega, by rw [e1.2.2]; exact Nat.zero_le _, fun _ => e1.2.2⟩
        · simp only [Value.slice.injEq, true_and] at e1
          obtain ⟨rfl, rfl⟩ := e1
          exact ⟨e2, e3, fun e => by cases e⟩
      have hlenD : f.data.length ≤ 1073741824 := Nat.le_trans (used_mem hfm) HU.out
      have hsafe := HI.out.safe f hfm
      have hnle : crN ts i f ≤ f.data.length := by
        unfold crN
        split
        · have := wth_le ‹Int› (f.data.length - f.safe)
          omega
        · omega
      have hnge : f.safe ≤ crN ts i f := Nat.le_add_right _ _
      have HONE := fun w2 => crash_one (w2 := w2) HDR.out HSRT.out (by rw [hcf]; rw [hcf] at hcc; exact hcc) (c := c) (a := a) (cap := cap) (n := crN ts i f) hdv (by rw [hcf]; exact hnle)
      have HSTEP := Lib.hid (hlf_step ts d.L 0 i f HI.out.srt hfi)
      rw [Nat.zero_add] at HSTEP
      have HONE2 : Hid (∀ w2, Keeps (One c.fb) wr w2 → w2.heap[c.fb]? = some (.cells #[.slice a (crN ts i f) cap, .int .i64 ((crN ts i f : Nat) : Int)] 74 (0, 0)) → DiskAt w2 S B { d with L := hlf ts 0 (i + 1) d.L } F T (cs'.map (chg c.f.name (crF (crN ts i f)) (.slice a (crN ts i f) cap)))) := Lib.hid (fun w2 h1 h2 => by
        have := HONE w2 h1 h2
        rw [hcf] at this ⊢
        rw [← HSTEP.out]
        exact this)
      have HSFB := Lib.hid (HDR.out.sfb c hm)
      have hKP := fun (N : Int) (hN : N = ((crN ts i f : Nat) : Int)) (W : World) (hW : W.heap[c.fb]? = some (.cells #[.slice a f.data.length cap, .int .i64 (f.safe : Int)] 74 (0, 0))) => keep_any c.fb a f.data.length cap (crN ts i f) f.safe N hN W hW hnle hnge hfit.1 hfit.2.1 hfit.2.2
      have hcn : crN ts i f = f.safe + (match ts[i]? with | some t => wth t (f.data.length - f.safe) | none => 0) := rfl
      rw [hcf] at hfl
      obtain ⟨fb, hfb⟩ : ∃ x, c.fb = x := ⟨_, rfl⟩
      obtain ⟨nm, hnm⟩ : ∃ x, f.name = x := ⟨_, rfl⟩
      obtain ⟨ln, hln⟩ : ∃ x, f.data.length = x := ⟨_, rfl⟩
      obtain ⟨sf, hsf⟩ : ∃ x, f.safe = x := ⟨_, rfl⟩
      obtain ⟨N, hNN⟩ : ∃ x, crN ts i f = x := ⟨_, rfl⟩
      rw [hNN] at hcn hnle hnge HONE2 hKP
      rw [hfb] at hlk hfl HONE2 HSFB hKP
      rw [hnm] at hcr hlk
      rw [hln] at hfl hcn hlenD hsafe hnle hKP
      rw [hsf] at hfl hcn hsafe hnge hKP
      have HFL := Lib.hid hfl
      have HKP := Lib.hid hKP
      have f0 : wr.cell? ⟨fb, 0, none⟩ = some (.slice a ln cap) := (cell_of_block hfl 0).trans rfl
      have f1 : wr.cell? ⟨fb, 1, none⟩ = some (.int .i64 (sf : Int)) := (cell_of_block hfl 1).trans rfl
      have HCN := Lib.hid hcn
      clear hfi hni hci' hci hcf hm hcc hcn hcw hfm hdv hfl hrow hfit HONE hfb hnm hln hsf hNN hKP
      by_cases him : i < m
      · have hdm : decide ((i : Int) < (m : Int)) = true := by simp; omega
        have hil : i < ts.length := by rw [HM.out]; exact him
        obtain ⟨t, ht⟩ : ∃ t, ts[i]? = some t := ⟨ts[i], List.getElem?_eq_getElem hil⟩
        have hrow := HR.out.keep ((keeps_below HB1.out S).trans HK.out (fresh_refl _ _)) HS0.out
        obtain ⟨bt, ot, rfl, hct⟩ : ∃ b o, a0 = some ⟨b, o, none⟩ ∧ wr.cell? ⟨b, o + i, none⟩ = some (.int .i64 t) := by
          rcases hrow with h0 | ⟨b, o, ha, _, hc⟩
          · rw [h0] at hil; simp at hil
          · exact ⟨b, o, ha, hc i t ht⟩
        have hcn := HCN.out
        rw [ht] at hcn
        simp only at hcn
        obtain ⟨M, hM⟩ : ∃ M : Int, (ln : Int) - (sf : Int) = M := ⟨_, rfl⟩
        have hwr : IntKind.i64.wrap ((ln : Int) - (sf : Int)) = M := by rw [IntWalk.i64_in _ (by omega), hM]
        have HWI := fun W => within_any t M (ln - sf) (by omega) W
        obtain ⟨t1, ht1⟩ : ∃ t1, wth t (ln - sf) = t1 := ⟨_, rfl⟩
        rw [ht1] at hcn
        simp only [ht1] at HWI
        have HHWI := Lib.hid HWI
        have HCN2 := Lib.hid hcn
        have ht1l : t1 ≤ ln := by omega
        clear hcn HWI ht hrow HCN hM ht1
        have HCN := HCN2
        clear HCN2
        go_wp2
        go_quiet ((exact Calls.quiet_of_same (HHWI.out _)))
        go_wp2_with fail
        with_reducible refine (HKP.out _ ?_ _ ?_).mono ?_
        · have := HCN.out
          omega
        · exact HFL.out
        rintro e w2 ⟨rfl, HK2, hfl2⟩
        have e0 : w2.cell? ⟨fb, 0, none⟩ = some (.slice a N cap) := (cell_of_block hfl2 0).trans rfl
        have e1 : w2.cell? ⟨fb, 1, none⟩ = some (.int .i64 (sf : Int)) := (cell_of_block hfl2 1).trans rfl
        have k1 : w2.frozen? ⟨fb, 1, none⟩ = false := unfrozen_of_block hfl2 1
        have hb3 := block_setCell (i := 1) hfl2 (.int .i64 (N : Int))
        have HK3 : Hid (Keeps (One fb) wr (w2.setCell ⟨fb, 1, none⟩ (.int .i64 (N : Int)))) := Lib.hid (((Keeps.refl (One fb) wr).drewN nq |>.trans HK2.out (fresh_refl _ _)).setCell (p := ⟨fb, 1, none⟩) (.inl rfl) _)
        have HD3 := Lib.hid (HONE2.out _ HK3.out hb3)
        clear hb3 hfl2
        go_wp2
        go_roundg g'
        case measure => omega
        case rel => exact ⟨i + 1, _, by go_num, by have := HG.out; omega, HD3.out, HK.out.trans HK3.out (fun k e => .inl (by rw [show k = fb from e]; exact HSFB.out))⟩
      · have hdm : decide ((i : Int) < (m : Int)) = false := by simp; omega
        have hcn := HCN.out
        rw [List.getElem?_eq_none (by rw [HM.out]; omega)] at hcn
        simp only at hcn
        have HCN2 := Lib.hid hcn
        clear hcn HCN
        have HCN := HCN2
        clear HCN2
        go_wp2_with fail
        with_reducible refine (HKP.out _ ?_ _ ?_).mono ?_
        · have := HCN.out
          omega
        · exact HFL.out
        rintro e w2 ⟨rfl, HK2, hfl2⟩
        have e0 : w2.cell? ⟨fb, 0, none⟩ = some (.slice a N cap) := (cell_of_block hfl2 0).trans rfl
        have e1 : w2.cell? ⟨fb, 1, none⟩ = some (.int .i64 (sf : Int)) := (cell_of_block hfl2 1).trans rfl
        have k1 : w2.frozen? ⟨fb, 1, none⟩ = false := unfrozen_of_block hfl2 1
        have hb3 := block_setCell (i := 1) hfl2 (.int .i64 (N : Int))
        have HK3 : Hid (Keeps (One fb) wr (w2.setCell ⟨fb, 1, none⟩ (.int .i64 (N : Int)))) := Lib.hid (HK2.out.setCell (p := ⟨fb, 1, none⟩) (.inl rfl) _)
        have HD3 := Lib.hid (HONE2.out _ HK3.out hb3)
        clear hb3 hfl2
        go_wp2
        go_roundg g'
        case measure => omega
        case rel => exact ⟨i + 1, _, by go_num, by have := HG.out; omega, HD3.out, HK.out.trans HK3.out (fun k e => .inl (by rw [show k = fb from e]; exact HSFB.out))⟩
    · have hd : decide ((i : Int) < (n : Int)) = false := by simp; omega
      have h5 : Five wr B d.room F T d.ops d.down := HDR.out.blk
      have c2 := h5.c2
      have c4 := h5.c4
      have k2 := h5.fr 2
      have k4 := h5.fr 4
      have hb2 := block_setCell (i := 4) (block_setCell (i := 2) HDR.out.blk (.map none)) (.bool false)
      have HB2 := Lib.hid hb2
      clear h5 hb2
      go_wp2
      go_end0
      have hin : i = n := by have := HG.out; omega
      have hall : hlf ts 0 i d.L = crs ts 0 d.L := by rw [hin, ← HN.out]; exact hlf_all ts d.L 0
      have hDD := HDR.out
      rw [hall] at hDD
      have hm : Mid wr B d.room F none d.ops false ((wr.setCell ⟨B, 2, none⟩ (.map none)).setCell ⟨B, 4, none⟩ (.bool false)) := ⟨HB2.out, ((Keeps.refl (One B) wr).setCell (p := ⟨B, 2, none⟩) (.inl rfl) _).setCell (p := ⟨B, 4, none⟩) (.inl rfl) _⟩
      refine ⟨rfl, turns_same ?_ (hDD.cleared hm) (inv_crash HI.out ts)⟩
      exact ((keeps_below HB1.out S).trans HK.out (fresh_refl _ _)).trans (hm.keeps HD.out.sB) (fresh_refl _ _)

end Go.Proofs.YtacfcfbleogioaaGreatDoor
