/-
  The rule of a line, told by the program. Conditions: the line is no longer than 2 to the 30; the tables and the library's bound are laid.
-/
import Derived.Test.YtojpjhfafbdpcaaGreatDoorKA
import Derived.OrdersHeld
import Derived.Deep.RegionHeld
import Derived.Deep.RegionHeld3
namespace Go.Proofs.YtojpjhfafbdpcaaGreatDoor
open Go.RowKit Go.Lib Go.Joins

def cutP (l : List UInt8) : List UInt8 := (cut1 123 l).1
def cutR (l : List UInt8) : List UInt8 := (cut1 123 l).2.getD []
theorem cut1_no {c : UInt8} : ∀ {p : List UInt8}, c ∉ p → cut1 c p = (p, none)
  | [], _ => rfl
  | b :: p, h => by
    have hb : b ≠ c := fun e => h (by rw [e]; exact List.mem_cons_self ..)
    rw [cut1, if_neg hb, cut1_no (fun e => h (List.mem_cons_of_mem _ e))]
theorem cut_eq (l : List UInt8) : Lib.cut l [123] = (cutP l, cutR l, (cut1 123 l).2.isSome) := by
  unfold cutP cutR
  rcases first_of 123 l with h | ⟨p, t, h, rfl⟩
  · rw [cut_no h, cut1_no h]
    rfl
  · rw [cut_at h, cut1_at h]
    rfl
theorem cut1_len (c : UInt8) : ∀ l : List UInt8, (cut1 c l).1.length + ((cut1 c l).2.getD []).length ≤ l.length
  | [] => Nat.le_refl _
  | b :: t => by
    have := cut1_len c t
    rw [cut1]
    split
    · simp
    · simp only [List.length_cons]
      omega
def rootB (x : List UInt8) : Bool := x.head? == some 47
def rootT (x : List UInt8) : List UInt8 := if rootB x = true then x.tail else x
def endB (x : List UInt8) : Bool := x.getLast? == some 125
def endT (x : List UInt8) : List UInt8 := if endB x = true then x.dropLast else x
theorem root_pre (x : List UInt8) : Lib.hasPrefix x [47] = rootB x ∧ Lib.trimPrefix x [47] = rootT x := by
  unfold Lib.trimPrefix rootT Lib.hasPrefix rootB
  cases x with
  | nil => exact ⟨rfl, rfl⟩
  | cons b t =>
    by_cases h : b = 47
    · subst h
      exact ⟨rfl, rfl⟩
    · have h1 : ([47] : List UInt8).isPrefixOf (b :: t) = false := by
        simp only [List.isPrefixOf, Bool.and_eq_false_iff]
        exact .inl (beq_eq_false_iff_ne.2 (fun e => h e.symm))
      have h2 : ((b :: t).head? == some (47 : UInt8)) = false := by
        rw [beq_eq_false_iff_ne]
        simpa using h
      rw [h1, h2]
      exact ⟨rfl, rfl⟩
theorem end_suf (x : List UInt8) : Lib.hasSuffix x [125] = endB x ∧ Lib.trimSuffix x [125] = endT x := by
  have h1 : ([125] : List UInt8).isSuffixOf x = (x.getLast? == some 125) := by
    unfold List.isSuffixOf
    rw [← List.head?_reverse]
    cases x.reverse with
    | nil => rfl
    | cons b t =>
      by_cases h : b = 125
      · subst h
        rfl
      · have h1 : ([125] : List UInt8).isPrefixOf (b :: t) = false := by
          simp only [List.isPrefixOf, Bool.and_eq_false_iff]
          exact .inl (beq_eq_false_iff_ne.2 (fun e => h e.symm))
        have h2 : ((b :: t).head? == some (125 : UInt8)) = false := by
          rw [beq_eq_false_iff_ne]
          simpa using h
        rw [h2]
        exact h1
  unfold Lib.trimSuffix endT Lib.hasSuffix endB
  rw [h1]
  refine ⟨rfl, ?_⟩
  split
  · rw [List.dropLast_eq_take]
    rfl
  · rfl
theorem rootT_len (x : List UInt8) : (rootT x).length ≤ x.length := by
  unfold rootT
  split
  · rw [List.length_tail]; omega
  · exact Nat.le_refl _
theorem endT_len (x : List UInt8) : (endT x).length ≤ x.length := by
  unfold endT
  split
  · rw [List.length_dropLast]; omega
  · exact Nat.le_refl _
/-- What the program makes of a line, right or not. -/
def progR (l : List UInt8) : Rl := ⟨pieces 47 (rootT (trimL (cutP l))), keysT (endT (cutR l))⟩
def okR (l : List UInt8) : Bool := rootB (trimL (cutP l)) && endB (cutR l) && ruleW (progR l)
theorem readW_prog (l : List UInt8) : readW l = if okR l = true then some (progR l) else none := by
  unfold readW
  cases hc : cut1 123 l with
  | mk p r =>
    have hp : cutP l = p := by unfold cutP; rw [hc]
    cases r with
    | none =>
      have hr : cutR l = [] := by unfold cutR; rw [hc]; rfl
      have h : okR l = false := by
        unfold okR
        rw [hr, show endB [] = false from rfl, Bool.and_false, Bool.false_and]
      rw [h]
      rfl
    | some r =>
      have hr : cutR l = r := by unfold cutR; rw [hc]; rfl
      dsimp only
      cases ht : trimL p with
      | nil =>
        have h : okR l = false := by
          unfold okR
          rw [hp, ht]
          rfl
        rw [h]
        rfl
      | cons b names =>
        have hprog : progR l = ⟨pieces 47 (rootT (b :: names)), keysT (endT r)⟩ := by unfold progR; rw [hp, hr, ht]
        have hokk : okR l = (rootB (b :: names) && endB r && ruleW (progR l)) := by unfold okR; rw [hp, hr, ht]
        dsimp only
        by_cases h1 : b = 47
        · subst h1
          have hb : rootB (47 :: names) = true := rfl
          have ht2 : rootT (47 :: names) = names := rfl
          by_cases h2 : r.getLast? = some 125
          · have he : endB r = true := by unfold endB; rw [h2]; rfl
            have het : endT r = r.dropLast := by unfold endT; rw [if_pos he]
            rw [ht2, het] at hprog
            rw [hb, he, Bool.true_and, Bool.true_and] at hokk
            by_cases h3 : ruleW ⟨pieces 47 names, keysT r.dropLast⟩ = true
            · rw [if_pos ⟨rfl, h2, h3⟩, hokk, hprog, if_pos h3]
            · rw [if_neg (fun e => h3 e.2.2), hokk, hprog, if_neg h3]
          · have he : endB r = false := by unfold endB; rw [beq_eq_false_iff_ne]; exact h2
            rw [he, Bool.and_false, Bool.false_and] at hokk
            rw [if_neg (fun e => h2 e.2.1), hokk]
            rfl
        · have hb : rootB (b :: names) = false := by
            unfold rootB
            rw [beq_eq_false_iff_ne]
            simpa using h1
          rw [hb, Bool.false_and, Bool.false_and] at hokk
          rw [if_neg (fun e => h1 e.1), hokk]
          rfl
theorem keysT_len {t k : List UInt8} (h : k ∈ keysT t) : k.length ≤ t.length := by
  unfold keysT at h
  split at h
  · cases h
  · obtain ⟨p, hp, rfl⟩ := List.mem_map.1 h
    have := trimL_len p
    have := pieces_short hp
    omega
theorem progR_few {l : List UInt8} (h : l.length ≤ 1073741823) : RlFew (progR l) := by
  have h1 : (cutP l).length + (cutR l).length ≤ l.length := cut1_len 123 l
  constructor
  · intro x hx
    have h2 := pieces_short hx
    have h3 := rootT_len (trimL (cutP l))
    have h4 := trimL_len (cutP l)
    omega
  · intro x hx
    have h2 := keysT_len hx
    have h3 := endT_len (cutR l)
    omega

theorem store_two {w8 : World} {B B' n : Nat} {T : TypeId} {x y : Value} (pv kv : Value) (h : w8.heap[B]? = some (.cells #[x, y] T (0, 0))) (hne : B ≠ B') (hn : n ≤ B) :
    ((w8.setCell ⟨B, 0, none⟩ pv).setCell ⟨B, 1, none⟩ kv).heap[B]? = some (.cells #[pv, kv] T (0, 0)) ∧ (∀ o, ((w8.setCell ⟨B, 0, none⟩ pv).setCell ⟨B, 1, none⟩ kv).cell? ⟨B', o, none⟩ = w8.cell? ⟨B', o, none⟩) ∧ Below n w8 ((w8.setCell ⟨B, 0, none⟩ pv).setCell ⟨B, 1, none⟩ kv) ∧ ∀ k, k ≠ B → ((w8.setCell ⟨B, 0, none⟩ pv).setCell ⟨B, 1, none⟩ kv).heap[k]? = w8.heap[k]? := by
  have hk : ∀ k, k ≠ B → ((w8.setCell ⟨B, 0, none⟩ pv).setCell ⟨B, 1, none⟩ kv).heap[k]? = w8.heap[k]? := fun k hk => by
    rw [Below.heap_setCell _ _ _ _ hk, Below.heap_setCell _ _ _ _ hk]
  exact ⟨block_setCell (i := 1) (block_setCell (i := 0) h pv) kv, fun o => World.cell?_of_block (w := w8) (hk B' (fun e => hne e.symm)), ((Below.refl _ _).setCell (p := ⟨B, 0, none⟩) hn _).setCell (p := ⟨B, 1, none⟩) hn _, hk⟩
theorem StrIn.stored {w w' : World} {B : Nat} {S : Nat → Prop} {v : Value} {l : List (List UInt8)} (h : StrIn w S v l) (hS : ¬ S B) (hk : ∀ k, k ≠ B → w'.heap[k]? = w.heap[k]?) : StrIn w' S v l := by
  obtain ⟨a, c, h1, h2, h3, h4, h5⟩ := h
  refine ⟨a, c, h1, h2, h3, h4, ?_⟩
  rcases h5 with h5 | ⟨b, o, h5, h6, h7⟩
  · exact .inl h5
  · exact .inr ⟨b, o, h5, h6, fun i x hx => (World.cell?_of_block (w := w) (hk b (fun e => hS (e ▸ h6)))).trans (h7 i x hx)⟩
/-- What a reading of a line leaves. -/
def ReadOut (l : List UInt8) (w : World) (e : Ending) (w' : World) : Prop := ∃ pv kv, e = .returned (.tuple #[.agg #[pv, kv], .bool (okR l)]) ∧ StrIn w' (fun k => w.heap.size ≤ k) pv (progR l).path ∧ StrIn w' (fun k => w.heap.size ≤ k) kv (progR l).keys ∧ Below w.heap.size w w'

set_option maxRecDepth 100000 in
set_option maxHeartbeats 8000000 in
theorem read_calls (l : List UInt8) (w : World) (hs : l.length ≤ 1073741823) (hE : KEnv w) : Calls Tryz.prog 25 #[.string (strB l)] w (ReadOut l w) := by
  obtain ⟨m, hm⟩ := hE.mx
  have hlen : (cutP l).length + (cutR l).length ≤ l.length := cut1_len 123 l
  have hfew := progR_few hs
  have hokr : okR l = (rootB (trimL (cutP l)) && endB (cutR l) && ruleW (progR l)) := rfl
  have hpr : (progR l).path = pieces 47 (rootT (trimL (cutP l))) := rfl
  have hkr : (progR l).keys = keysT (endT (cutR l)) := rfl
  have hcut := cut_eq l
  obtain ⟨r, hr⟩ : ∃ r, progR l = r := ⟨_, rfl⟩
  obtain ⟨cp, hcp⟩ : ∃ x, cutP l = x := ⟨_, rfl⟩
  obtain ⟨cr, hcr⟩ : ∃ x, cutR l = x := ⟨_, rfl⟩
  obtain ⟨cs, hcs⟩ : ∃ x, (cut1 123 l).2.isSome = x := ⟨_, rfl⟩
  rw [hr] at hpr hkr hokr hfew
  rw [hcp] at hpr hokr hlen hcut
  rw [hcr] at hkr hokr hlen hcut
  rw [hcs] at hcut
  unfold ReadOut
  rw [hr]
  obtain ⟨ok, hok⟩ : ∃ ok, okR l = ok := ⟨_, rfl⟩
  rw [hok] at hokr ⊢
  have HOK := Lib.hid hokr
  have HPR := Lib.hid hpr
  have HKR := Lib.hid hkr
  have HFEW := Lib.hid hfew
  have HE := Lib.hid hE
  have HLEN := Lib.hid hlen
  have HS := Lib.hid hs
  clear hr hcp hcr hcs hok hokr hpr hkr hfew hlen
  have HCUT : ∀ W : World, Below w.heap.size w W → Calls Tryz.prog 50 #[.string (strB l), .string ⟨#[123]⟩] W fun e w' => e = .returned (.tuple #[.string (strB cp), .string (strB cr), .bool cs]) ∧ ∃ n, w' = W.drewN n := fun W hb => by
    have h := Tryz.strings_Cut (strB l) ⟨#[123]⟩ m W (by rw [strB_size]; omega) (cell_below hb hm)
    have h2 : Lib.cut (strB l).data.toList (⟨#[123]⟩ : ByteArray).data.toList = (cp, cr, cs) := hcut
    rw [h2] at h
    exact h
  have HCUTH := Lib.hid HCUT
  obtain ⟨s, hst⟩ : ∃ s, strB l = s := ⟨_, rfl⟩
  rw [hst] at HCUTH ⊢
  clear hs hcut hE HCUT hm hst
  obtain ⟨W1, hW1⟩ : ∃ W1, w.alloc (.cells #[.slice none 0 0, .slice none 0 0] 38) = W1 := ⟨_, rfl⟩
  have hb1 : Below w.heap.size w W1 := by rw [← hW1]; exact (Below.refl _ _).alloc (Nat.le_refl _) _
  have HB1 := Lib.hid hb1
  have HK1 : Hid (W1.heap[w.heap.size]? = some (.cells #[.slice none 0 0, .slice none 0 0] 38 (0, 0))) := Lib.hid (by rw [← hW1]; exact heap_alloc_new _ _)
  have HW1 := Lib.hid hW1
  have HC := Lib.hid (HCUTH.out W1 hb1)
  clear hb1 hW1 HCUTH
  go_enter Tryz.func25, Tryz.ntmps25
  go_wp2_with fail
  rw [HW1.out]
  with_reducible refine HC.out.mono ?_
  rintro e w2 ⟨rfl, q, rfl⟩
  have HB2 : Hid (Below w.heap.size w (W1.drewN q)) := Lib.hid (below_drewNv HB1.out q)
  have HK2 : Hid ((W1.drewN q).heap[w.heap.size]? = some (.cells #[.slice none 0 0, .slice none 0 0] 38 (0, 0))) := Lib.hid HK1.out
  obtain ⟨w2, hw2⟩ : ∃ w2, W1.drewN q = w2 := ⟨_, rfl⟩
  rw [hw2] at HB2 HK2 ⊢
  clear hw2 HC HK1 HB1 HW1
  have HT := Lib.hid (ktrim_calls cp w2 (by have := HLEN.out; have := HS.out; omega) (HE.out.laid.below HB2.out))
  have HTL := Lib.hid (trimL_len cp)
  obtain ⟨tp, htp⟩ : ∃ x, trimL cp = x := ⟨_, rfl⟩
  rw [htp] at HT HOK HPR HTL
  have HPX := Lib.hid (fun (W : World) => Tryz.strings_CutPrefix (strB tp) ⟨#[47]⟩ W)
  have HPQ := root_pre tp
  have hpx2 : ∀ W : World, Calls Tryz.prog 51 #[.string (strB tp), .string ⟨#[47]⟩] W fun e w' => e = .returned (.tuple #[.string (strB (rootT tp)), .bool (rootB tp)]) ∧ w' = W := fun W => by
    have h := HPX.out W
    have h1 : Lib.hasPrefix (strB tp).data.toList (⟨#[47]⟩ : ByteArray).data.toList = rootB tp := HPQ.1
    have h2 : (⟨(Lib.trimPrefix (strB tp).data.toList (⟨#[47]⟩ : ByteArray).data.toList).toArray⟩ : ByteArray) = strB (rootT tp) := congrArg strB HPQ.2
    rw [h1, h2] at h
    exact h
  have HPX2 := Lib.hid hpx2
  have HRL := Lib.hid (rootT_len tp)
  obtain ⟨nm, hnm⟩ : ∃ x, rootT tp = x := ⟨_, rfl⟩
  obtain ⟨rt, hrt⟩ : ∃ x, rootB tp = x := ⟨_, rfl⟩
  rw [hnm] at HPX2 HRL HPR
  rw [hrt] at HPX2 HOK
  have HSX := Lib.hid (fun (W : World) => Tryz.strings_CutSuffix (strB cr) ⟨#[125]⟩ W (by rw [strB_size]; have := HLEN.out; have := HS.out; omega))
  have HSQ := end_suf cr
  have hsx2 : ∀ W : World, Calls Tryz.prog 52 #[.string (strB cr), .string ⟨#[125]⟩] W fun e w' => e = .returned (.tuple #[.string (strB (endT cr)), .bool (endB cr)]) ∧ w' = W := fun W => by
    have h := HSX.out W
    have h1 : Lib.hasSuffix (strB cr).data.toList (⟨#[125]⟩ : ByteArray).data.toList = endB cr := HSQ.1
    have h2 : (⟨(Lib.trimSuffix (strB cr).data.toList (⟨#[125]⟩ : ByteArray).data.toList).toArray⟩ : ByteArray) = strB (endT cr) := congrArg strB HSQ.2
    rw [h1, h2] at h
    exact h
  have HSX2 := Lib.hid hsx2
  have HEL := Lib.hid (endT_len cr)
  obtain ⟨kt, hkt⟩ : ∃ x, endT cr = x := ⟨_, rfl⟩
  obtain ⟨cl, hcl⟩ : ∃ x, endB cr = x := ⟨_, rfl⟩
  rw [hkt] at HSX2 HEL HKR
  rw [hcl] at HSX2 HOK
  have HNL : Hid (nm.length ≤ 1073741823) := Lib.hid (by have := HRL.out; have := HTL.out; have := HLEN.out; have := HS.out; omega)
  have HKL : Hid (kt.length ≤ 1073741823) := Lib.hid (by have := HEL.out; have := HLEN.out; have := HS.out; omega)
  obtain ⟨cpB, hcpB⟩ : ∃ x, strB cp = x := ⟨_, rfl⟩
  obtain ⟨crB, hcrB⟩ : ∃ x, strB cr = x := ⟨_, rfl⟩
  obtain ⟨tpB, htpB⟩ : ∃ x, strB tp = x := ⟨_, rfl⟩
  rw [hcpB] at HT ⊢
  rw [hcrB] at HSX2 ⊢
  rw [htpB] at HT HPX2
  clear htp HPX HPQ hpx2 hnm hrt HSX HSQ hsx2 hkt hcl hcpB hcrB htpB HRL HTL HEL HLEN
  go_wp2_with fail
  with_reducible refine HT.out.mono ?_
  rintro e w3 ⟨rfl, hb3⟩
  have HB3 := Lib.hid (below_then HB2.out hb3)
  have HK3 := Lib.hid (block_below hb3 HK2.out)
  clear hb3 HT HB2 HK2
  go_wp2_with fail
  with_reducible refine (HPX2.out w3).mono ?_
  rintro e w4 ⟨rfl, rfl⟩
  go_wp2_with fail
  with_reducible refine (HSX2.out w4).mono ?_
  rintro e w5 ⟨rfl, rfl⟩
  have HSPL := Lib.hid (split_calls nm 47 w5 (by have := HNL.out; omega) (HE.out.mx.below HB3.out))
  rw [← HPR.out] at HSPL
  have HFL : Hid (r.path.length ≤ 1073741824) := Lib.hid (by rw [HPR.out]; have := pieces_few 47 nm; have := HNL.out; omega)
  obtain ⟨nmB, hnmB⟩ : ∃ x, strB nm = x := ⟨_, rfl⟩
  obtain ⟨ktB, hktB⟩ : ∃ x, strB kt = x := ⟨_, rfl⟩
  rw [hnmB] at HSPL
  have HKC := Lib.hid (fun (W : World) (hb : Below w.heap.size w W) => keys_calls kt W HKL.out (HE.out.below hb))
  rw [hktB, ← HKR.out] at HKC
  rw [hnmB, hktB]
  clear hnmB hktB HPX2 HSX2
  go_wp2_with fail
  with_reducible refine HSPL.out.mono ?_
  rintro e w6 ⟨rfl, hw6⟩
  have HB6 : Hid (Below w.heap.size w w6) := Lib.hid (by rw [hw6]; exact HB3.out.alloc HB3.out.size _)
  have HK6 : Hid (w6.heap[w.heap.size]? = some (.cells #[.slice none 0 0, .slice none 0 0] 38 (0, 0))) := Lib.hid (by
    rw [hw6]
    exact (Below.heap_alloc _ _ _ (lt_of_block HK3.out)).trans HK3.out)
  have HP6 : Hid (StrIn w6 (fun k => w.heap.size < k) (.slice (some ⟨w5.heap.size, 0, none⟩) r.path.length r.path.length) r.path) := Lib.hid (by
    rw [hw6]
    exact (StrIn.made w5 r.path (by have := HFL.out; omega)).mono (fun k _ h => Nat.lt_of_lt_of_le (lt_of_block HK3.out) h))
  have HKC6 := Lib.hid (HKC.out w6 HB6.out)
  clear hw6 HSPL HKC HB3 HK3
  go_wp2_with fail
  with_reducible refine HKC6.out.mono ?_
  rintro e w7 ⟨kv, rfl, hkin, hb7⟩
  have HKV : Hid (StrIn w7 (fun k => w.heap.size < k) kv r.keys) := Lib.hid (hkin.mono (fun k _ h => Nat.lt_of_lt_of_le (lt_of_block HK6.out) h))
  obtain ⟨ka, kc, rfl, _⟩ := hkin.form
  have HB7 := Lib.hid (below_then HB6.out hb7)
  have HK7 := Lib.hid (block_below hb7 HK6.out)
  have HP7 := Lib.hid (HP6.out.below hb7)
  clear hkin hb7 HKC6 HP6 HK6
  obtain ⟨n1, hn1⟩ : ∃ n1, r.path.length = n1 := ⟨_, rfl⟩
  obtain ⟨n2, hn2⟩ : ∃ n2, r.keys.length = n2 := ⟨_, rfl⟩
  rw [hn1] at HP7
  rw [hn2] at HKV
  rw [hn1, hn2]
  obtain ⟨w8, hw8⟩ : ∃ w8, w7.alloc (.cells #[.slice (some ⟨w5.heap.size, 0, none⟩) n1 n1, .slice ka n2 kc] 38) = w8 := ⟨_, rfl⟩
  have hb8 : Below w7.heap.size w7 w8 := by rw [← hw8]; exact (Below.refl _ _).alloc (Nat.le_refl _) _
  have hk8 : w8.heap[w7.heap.size]? = some (.cells #[.slice (some ⟨w5.heap.size, 0, none⟩) n1 n1, .slice ka n2 kc] 38 (0, 0)) := by rw [← hw8]; exact heap_alloc_new _ _
  have HB8 := Lib.hid (below_then HB7.out hb8)
  have HK8 := Lib.hid (block_below hb8 HK7.out)
  have HP8 := Lib.hid (HP7.out.below hb8)
  have HV8 := Lib.hid (HKV.out.below hb8)
  have c0 : w8.cell? ⟨w7.heap.size, 0, none⟩ = some (.slice (some ⟨w5.heap.size, 0, none⟩) n1 n1) := (cell_of_block hk8 0).trans rfl
  have c1 : w8.cell? ⟨w7.heap.size, 1, none⟩ = some (.slice ka n2 kc) := (cell_of_block hk8 1).trans rfl
  have HNE : Hid (w.heap.size ≠ w7.heap.size) := Lib.hid (by have := lt_of_block HK7.out; omega)
  have HW8 := Lib.hid hw8
  have HC0 := Lib.hid c0
  have HC1 := Lib.hid c1
  have HN1 := Lib.hid hn1
  have HN2 := Lib.hid hn2
  clear hn1 hn2 hw8 hb8 hk8 HB7 HK7 HP7 HKV c0 c1 HFL HNL HKL HS
  go_upto_region 5 with (fail)
  rw [HW8.out]
  cases rt with
  | true =>
    cases cl with
    | true =>
      have HF := Lib.hid (fair_calls (w := w8.drew) (HP8.out.below (Below.refl _ _).drew) (HV8.out.below (Below.refl _ _).drew) HFEW.out ((HE.out.below HB8.out).below (Below.refl _ _).drew))
      obtain ⟨q, hq⟩ : ∃ q, ruleW r = q := ⟨_, rfl⟩
      rw [hq] at HF
      have HRQ := Lib.hid hq
      clear hq
      refine wp_region_held_drew (S := fun W => W.cell? ⟨w7.heap.size, 0, none⟩ = some (.slice (some ⟨w5.heap.size, 0, none⟩) n1 n1) ∧ W.cell? ⟨w7.heap.size, 1, none⟩ = some (.slice ka n2 kc)) (by kernel_rfl) ⟨HC0.out, HC1.out⟩ (fun hHeld => ?_)
      refine wpAnyH_take (i := 0) (v := ?_) rfl (by kernel_rfl) (by kernel_rfl) (by kernel_rfl) (fun _ _ _ h => h) (Or.inl ⟨by rfl, ?_⟩) (by assumption) ?_
      rotate_left
      · intro W hS
        try dsimp only at hS
        go_simp
        try with_reducible rfl
      simp only [List.getElem_toArray, List.getElem_cons_zero, Act.put, List.setIfInBounds_toArray, List.set_cons_zero, List.set_cons_succ]
      refine wpAnyH_take (i := 1) (v := ?_) rfl (by kernel_rfl) (by kernel_rfl) (by kernel_rfl) (fun _ _ _ h => h) (Or.inl ⟨by rfl, ?_⟩) (by assumption) ?_
      rotate_left
      · intro W hS
        try dsimp only at hS
        go_simp
        try with_reducible rfl
      simp only [List.getElem_toArray, List.getElem_cons_succ, List.getElem_cons_zero, Act.put, List.setIfInBounds_toArray, List.set_cons_zero, List.set_cons_succ]
      refine wpAnyH_take (i := 2) (v := ?_) rfl (by kernel_rfl) (by kernel_rfl) (by kernel_rfl) (fun _ _ _ h => h) (Or.inl ⟨by rfl, ?_⟩) (by assumption) ?_
      rotate_left
      · intro W hS
        try dsimp only at hS
        go_simp
        try with_reducible rfl
      simp only [List.getElem_toArray, List.getElem_cons_succ, List.getElem_cons_zero, Act.put, List.setIfInBounds_toArray, List.set_cons_zero, List.set_cons_succ]
      refine wpAnyH_take (i := 3) (v := ?_) rfl (by kernel_rfl) (by kernel_rfl) (by kernel_rfl) (fun _ _ _ h => h) (Or.inl ⟨by rfl, ?_⟩) (by assumption) ?_
      rotate_left
      · intro W hS
        try dsimp only at hS
        go_simp
        try with_reducible rfl
      simp only [List.getElem_toArray, List.getElem_cons_succ, List.getElem_cons_zero, Act.put, List.setIfInBounds_toArray, List.set_cons_zero, List.set_cons_succ]
      refine wpAnyH_take (i := 4) (v := ?_) rfl (by kernel_rfl) (by kernel_rfl) (by kernel_rfl) (fun _ _ _ h => h) (Or.inl ⟨by rfl, ?_⟩) (by assumption) ?_
      rotate_left
      · intro W hS
        try dsimp only at hS
        go_simp
        try with_reducible rfl
      simp only [List.getElem_toArray, List.getElem_cons_succ, List.getElem_cons_zero, Act.put, List.setIfInBounds_toArray, List.set_cons_zero, List.set_cons_succ]
      refine wpAnyH_take (i := 5) (v := ?_) rfl (by kernel_rfl) (by kernel_rfl) (by kernel_rfl) (fun _ _ _ h => h) (Or.inl ⟨by rfl, ?_⟩) (by assumption) ?_
      rotate_left
      · intro W hS
        try dsimp only at hS
        go_simp
        try with_reducible rfl
      simp only [List.getElem_toArray, List.getElem_cons_succ, List.getElem_cons_zero, Act.put, List.setIfInBounds_toArray, List.set_cons_zero, List.set_cons_succ]
      refine wpAnyH_take (i := 6) (v := ?_) rfl (by kernel_rfl) (by kernel_rfl) (by kernel_rfl) (fun _ _ _ h => h) (Or.inl ⟨by rfl, ?_⟩) (by assumption) ?_
      rotate_left
      · intro W hS
        try dsimp only at hS
        go_simp
        try with_reducible rfl
      simp only [List.getElem_toArray, List.getElem_cons_succ, List.getElem_cons_zero, Act.put, List.setIfInBounds_toArray, List.set_cons_zero, List.set_cons_succ]
      refine wpAnyH_ready (rs := [7]) (by kernel_rfl) (by simp) ?_
      refine AllReadyH.cons rfl (fun K hK => ?_) AllReadyH.nil
      go_simp
      with_reducible refine HF.out.mono ?_
      rintro e w9 ⟨rfl, hb9⟩
      have HB9 : Hid (Below w8.heap.size w8 w9) := Lib.hid (((Below.refl w8.heap.size w8).drew).trans hb9)
      have hc90 := (HB9.out.cell (lt_of_cell HC0.out)).trans HC0.out
      have hc91 := (HB9.out.cell (lt_of_cell HC1.out)).trans HC1.out
      have HC90 := Lib.hid hc90
      have HC91 := Lib.hid hc91
      clear hb9 HF
      refine hK.out _ _ ⟨hc90, hc91⟩ (fun hHeld => ?_)
      clear hK K hc90 hc91
      try simp only [List.getElem_toArray, List.getElem_cons_succ, List.getElem_cons_zero, Act.put, List.setIfInBounds_toArray, List.set_cons_zero, List.set_cons_succ]
      refine wpAnyH_take (i := 8) (v := ?_) rfl (by kernel_rfl) (by kernel_rfl) (by kernel_rfl) (fun _ _ _ h => h) (Or.inl ⟨by rfl, ?_⟩) (by assumption) ?_
      rotate_left
      · intro W hS
        try dsimp only at hS
        go_simp
        try with_reducible rfl
      simp only [List.getElem_toArray, List.getElem_cons_succ, List.getElem_cons_zero, Act.put, List.setIfInBounds_toArray, List.set_cons_zero, List.set_cons_succ]
      have HK8X : Hid (w9.heap[w.heap.size]? = some (.cells #[.slice none 0 0, .slice none 0 0] 38 (0, 0))) := Lib.hid (block_below HB9.out HK8.out)
      have hs8 := HK8X.out
      have z0 : w9.cell? ⟨w.heap.size, 0, none⟩ = some (.slice none 0 0) := (cell_of_block hs8 0).trans rfl
      have z1 : w9.cell? ⟨w.heap.size, 1, none⟩ = some (.slice none 0 0) := (cell_of_block hs8 1).trans rfl
      have u0 := unfrozen_of_block hs8 0
      have u1 := unfrozen_of_block hs8 1
      clear hs8
      obtain ⟨hkk, hcc, hbb, hoo⟩ := store_two (n := w.heap.size) (.slice (some ⟨w5.heap.size, 0, none⟩) n1 n1) (.slice ka n2 kc) HK8X.out HNE.out (Nat.le_refl _)
      have HKK := Lib.hid hkk
      have HCC := Lib.hid hcc
      have HBB := Lib.hid hbb
      have HOO := Lib.hid hoo
      clear hkk hcc hbb hoo
      refine wpAnyH_ready (rs := [9]) (by kernel_rfl) (by simp) ?_
      refine AllReadyH.cons rfl (fun K hK => ?_) AllReadyH.nil
      go_simp
      refine hK.out _ _ ⟨(HCC.out 0).trans HC90.out, (HCC.out 1).trans HC91.out⟩ (fun hHeld => ?_)
      clear hK K
      try simp only [List.getElem_toArray, List.getElem_cons_succ, List.getElem_cons_zero, Act.put, List.setIfInBounds_toArray, List.set_cons_zero, List.set_cons_succ]
      refine wpAnyH_take (i := 10) (v := ?_) rfl (by kernel_rfl) (by kernel_rfl) (by kernel_rfl) (fun _ _ _ h => h) (Or.inl ⟨by rfl, ?_⟩) (by assumption) ?_
      rotate_left
      · intro W hS
        try dsimp only at hS
        go_simp
        try with_reducible rfl
      simp only [List.getElem_toArray, List.getElem_cons_succ, List.getElem_cons_zero, Act.put, List.setIfInBounds_toArray, List.set_cons_zero, List.set_cons_succ]
      refine wpAnyH_done (by kernel_rfl) ?_ _
      have d0 := (cell_of_block HKK.out 0).trans (show (#[(.slice (some ⟨w5.heap.size, 0, none⟩) n1 n1 : Value), .slice ka n2 kc] : Array Value)[0]? = some (.slice (some ⟨w5.heap.size, 0, none⟩) n1 n1) from rfl)
      have d1 := (cell_of_block HKK.out 1).trans (show (#[(.slice (some ⟨w5.heap.size, 0, none⟩) n1 n1 : Value), .slice ka n2 kc] : Array Value)[1]? = some (.slice ka n2 kc) from rfl)
      have HFIN : Hid (ok = q) := Lib.hid (by rw [HOK.out, HRQ.out]; rfl)
      go_wp2_with fail
      refine bodyPost_ret (v := .tuple #[.agg #[.slice (some ⟨w5.heap.size, 0, none⟩) n1 n1, .slice ka n2 kc], .bool q]) (by simp [results, Tryz.results25, go_sem, d0, d1]) rfl ⟨_, _, by rw [HFIN.out], ?_, ?_, ?_⟩
      · exact ((HP8.out.below HB9.out).stored (B := w.heap.size) (Nat.lt_irrefl _) HOO.out).mono (fun k _ h => Nat.le_of_lt h)
      · exact ((HV8.out.below HB9.out).stored (B := w.heap.size) (Nat.lt_irrefl _) HOO.out).mono (fun k _ h => Nat.le_of_lt h)
      · exact (below_then HB8.out HB9.out).trans HBB.out
    | false =>
      refine wp_region_held_drew (S := fun W => W.cell? ⟨w7.heap.size, 0, none⟩ = some (.slice (some ⟨w5.heap.size, 0, none⟩) n1 n1) ∧ W.cell? ⟨w7.heap.size, 1, none⟩ = some (.slice ka n2 kc)) (by kernel_rfl) ⟨HC0.out, HC1.out⟩ (fun hHeld => ?_)
      refine wpAnyH_take (i := 0) (v := ?_) rfl (by kernel_rfl) (by kernel_rfl) (by kernel_rfl) (fun _ _ _ h => h) (Or.inl ⟨by rfl, ?_⟩) (by assumption) ?_
      rotate_left
      · intro W hS
        try dsimp only at hS
        go_simp
        try with_reducible rfl
      simp only [List.getElem_toArray, List.getElem_cons_zero, Act.put, List.setIfInBounds_toArray, List.set_cons_zero, List.set_cons_succ]
      refine wpAnyH_take (i := 1) (v := ?_) rfl (by kernel_rfl) (by kernel_rfl) (by kernel_rfl) (fun _ _ _ h => h) (Or.inl ⟨by rfl, ?_⟩) (by assumption) ?_
      rotate_left
      · intro W hS
        try dsimp only at hS
        go_simp
        try with_reducible rfl
      simp only [List.getElem_toArray, List.getElem_cons_succ, List.getElem_cons_zero, Act.put, List.setIfInBounds_toArray, List.set_cons_zero, List.set_cons_succ]
      refine wpAnyH_take (i := 2) (v := ?_) rfl (by kernel_rfl) (by kernel_rfl) (by kernel_rfl) (fun _ _ _ h => h) (Or.inl ⟨by rfl, ?_⟩) (by assumption) ?_
      rotate_left
      · intro W hS
        try dsimp only at hS
        go_simp
        try with_reducible rfl
      simp only [List.getElem_toArray, List.getElem_cons_succ, List.getElem_cons_zero, Act.put, List.setIfInBounds_toArray, List.set_cons_zero, List.set_cons_succ]
      refine wpAnyH_take (i := 3) (v := ?_) rfl (by kernel_rfl) (by kernel_rfl) (by kernel_rfl) (fun _ _ _ h => h) (Or.inl ⟨by rfl, ?_⟩) (by assumption) ?_
      rotate_left
      · intro W hS
        try dsimp only at hS
        go_simp
        try with_reducible rfl
      simp only [List.getElem_toArray, List.getElem_cons_succ, List.getElem_cons_zero, Act.put, List.setIfInBounds_toArray, List.set_cons_zero, List.set_cons_succ]
      refine wpAnyH_take (i := 4) (v := ?_) rfl (by kernel_rfl) (by kernel_rfl) (by kernel_rfl) (fun _ _ _ h => h) (Or.inl ⟨by rfl, ?_⟩) (by assumption) ?_
      rotate_left
      · intro W hS
        try dsimp only at hS
        go_simp
        try with_reducible rfl
      simp only [List.getElem_toArray, List.getElem_cons_succ, List.getElem_cons_zero, Act.put, List.setIfInBounds_toArray, List.set_cons_zero, List.set_cons_succ]
      refine wpAnyH_take (i := 5) (v := ?_) rfl (by kernel_rfl) (by kernel_rfl) (by kernel_rfl) (fun _ _ _ h => h) (Or.inl ⟨by rfl, ?_⟩) (by assumption) ?_
      rotate_left
      · intro W hS
        try dsimp only at hS
        go_simp
        try with_reducible rfl
      simp only [List.getElem_toArray, List.getElem_cons_succ, List.getElem_cons_zero, Act.put, List.setIfInBounds_toArray, List.set_cons_zero, List.set_cons_succ]
      refine wpAnyH_take (i := 6) (v := undef) rfl (by kernel_rfl) (by kernel_rfl) (by kernel_rfl) (fun _ _ _ h => h) (Or.inr ⟨by rfl, rfl⟩) (by assumption) ?_
      simp only [List.getElem_toArray, List.getElem_cons_succ, List.getElem_cons_zero, Act.put, List.setIfInBounds_toArray, List.set_cons_zero, List.set_cons_succ]
      refine wpAnyH_take (i := 7) (v := undef) rfl (by kernel_rfl) (by kernel_rfl) (by kernel_rfl) (fun _ _ _ h => h) (Or.inr ⟨by rfl, rfl⟩) (by assumption) ?_
      simp only [List.getElem_toArray, List.getElem_cons_succ, List.getElem_cons_zero, Act.put, List.setIfInBounds_toArray, List.set_cons_zero, List.set_cons_succ]
      refine wpAnyH_take (i := 8) (v := ?_) rfl (by kernel_rfl) (by kernel_rfl) (by kernel_rfl) (fun _ _ _ h => h) (Or.inl ⟨by rfl, ?_⟩) (by assumption) ?_
      rotate_left
      · intro W hS
        try dsimp only at hS
        go_simp
        try with_reducible rfl
      simp only [List.getElem_toArray, List.getElem_cons_succ, List.getElem_cons_zero, Act.put, List.setIfInBounds_toArray, List.set_cons_zero, List.set_cons_succ]
      have HK8X : Hid (w8.heap[w.heap.size]? = some (.cells #[.slice none 0 0, .slice none 0 0] 38 (0, 0))) := Lib.hid HK8.out
      have hs8 := HK8X.out
      have z0 : w8.cell? ⟨w.heap.size, 0, none⟩ = some (.slice none 0 0) := (cell_of_block hs8 0).trans rfl
      have z1 : w8.cell? ⟨w.heap.size, 1, none⟩ = some (.slice none 0 0) := (cell_of_block hs8 1).trans rfl
      have u0 := unfrozen_of_block hs8 0
      have u1 := unfrozen_of_block hs8 1
      clear hs8
      obtain ⟨hkk, hcc, hbb, hoo⟩ := store_two (n := w.heap.size) (.slice (some ⟨w5.heap.size, 0, none⟩) n1 n1) (.slice ka n2 kc) HK8X.out HNE.out (Nat.le_refl _)
      have HKK := Lib.hid hkk
      have HCC := Lib.hid hcc
      have HBB := Lib.hid hbb
      have HOO := Lib.hid hoo
      clear hkk hcc hbb hoo
      refine wpAnyH_ready (rs := [9]) (by kernel_rfl) (by simp) ?_
      refine AllReadyH.cons rfl (fun K hK => ?_) AllReadyH.nil
      go_simp
      refine hK.out _ _ ⟨(HCC.out 0).trans HC0.out, (HCC.out 1).trans HC1.out⟩ (fun hHeld => ?_)
      clear hK K
      try simp only [List.getElem_toArray, List.getElem_cons_succ, List.getElem_cons_zero, Act.put, List.setIfInBounds_toArray, List.set_cons_zero, List.set_cons_succ]
      refine wpAnyH_take (i := 10) (v := ?_) rfl (by kernel_rfl) (by kernel_rfl) (by kernel_rfl) (fun _ _ _ h => h) (Or.inl ⟨by rfl, ?_⟩) (by assumption) ?_
      rotate_left
      · intro W hS
        try dsimp only at hS
        go_simp
        try with_reducible rfl
      simp only [List.getElem_toArray, List.getElem_cons_succ, List.getElem_cons_zero, Act.put, List.setIfInBounds_toArray, List.set_cons_zero, List.set_cons_succ]
      refine wpAnyH_done (by kernel_rfl) ?_ _
      have d0 := (cell_of_block HKK.out 0).trans (show (#[(.slice (some ⟨w5.heap.size, 0, none⟩) n1 n1 : Value), .slice ka n2 kc] : Array Value)[0]? = some (.slice (some ⟨w5.heap.size, 0, none⟩) n1 n1) from rfl)
      have d1 := (cell_of_block HKK.out 1).trans (show (#[(.slice (some ⟨w5.heap.size, 0, none⟩) n1 n1 : Value), .slice ka n2 kc] : Array Value)[1]? = some (.slice ka n2 kc) from rfl)
      have HFIN : Hid (ok = false) := Lib.hid (by rw [HOK.out]; rfl)
      go_wp2_with fail
      refine bodyPost_ret (v := .tuple #[.agg #[.slice (some ⟨w5.heap.size, 0, none⟩) n1 n1, .slice ka n2 kc], .bool false]) (by simp [results, Tryz.results25, go_sem, d0, d1]) rfl ⟨_, _, by rw [HFIN.out], ?_, ?_, ?_⟩
      · exact (HP8.out.stored (B := w.heap.size) (Nat.lt_irrefl _) HOO.out).mono (fun k _ h => Nat.le_of_lt h)
      · exact (HV8.out.stored (B := w.heap.size) (Nat.lt_irrefl _) HOO.out).mono (fun k _ h => Nat.le_of_lt h)
      · exact HB8.out.trans HBB.out.drew
  | false =>
    refine wp_region_held_drew (S := fun W => W.cell? ⟨w7.heap.size, 0, none⟩ = some (.slice (some ⟨w5.heap.size, 0, none⟩) n1 n1) ∧ W.cell? ⟨w7.heap.size, 1, none⟩ = some (.slice ka n2 kc)) (by kernel_rfl) ⟨HC0.out, HC1.out⟩ (fun hHeld => ?_)
    refine wpAnyH_take (i := 0) (v := ?_) rfl (by kernel_rfl) (by kernel_rfl) (by kernel_rfl) (fun _ _ _ h => h) (Or.inl ⟨by rfl, ?_⟩) (by assumption) ?_
    rotate_left
    · intro W hS
      try dsimp only at hS
      go_simp
      try with_reducible rfl
    simp only [List.getElem_toArray, List.getElem_cons_zero, Act.put, List.setIfInBounds_toArray, List.set_cons_zero, List.set_cons_succ]
    refine wpAnyH_take (i := 1) (v := ?_) rfl (by kernel_rfl) (by kernel_rfl) (by kernel_rfl) (fun _ _ _ h => h) (Or.inl ⟨by rfl, ?_⟩) (by assumption) ?_
    rotate_left
    · intro W hS
      try dsimp only at hS
      go_simp
      try with_reducible rfl
    simp only [List.getElem_toArray, List.getElem_cons_succ, List.getElem_cons_zero, Act.put, List.setIfInBounds_toArray, List.set_cons_zero, List.set_cons_succ]
    refine wpAnyH_take (i := 2) (v := ?_) rfl (by kernel_rfl) (by kernel_rfl) (by kernel_rfl) (fun _ _ _ h => h) (Or.inl ⟨by rfl, ?_⟩) (by assumption) ?_
    rotate_left
    · intro W hS
      try dsimp only at hS
      go_simp
      try with_reducible rfl
    simp only [List.getElem_toArray, List.getElem_cons_succ, List.getElem_cons_zero, Act.put, List.setIfInBounds_toArray, List.set_cons_zero, List.set_cons_succ]
    refine wpAnyH_take (i := 3) (v := undef) rfl (by kernel_rfl) (by kernel_rfl) (by kernel_rfl) (fun _ _ _ h => h) (Or.inr ⟨by rfl, rfl⟩) (by assumption) ?_
    simp only [List.getElem_toArray, List.getElem_cons_succ, List.getElem_cons_zero, Act.put, List.setIfInBounds_toArray, List.set_cons_zero, List.set_cons_succ]
    refine wpAnyH_take (i := 4) (v := ?_) rfl (by kernel_rfl) (by kernel_rfl) (by kernel_rfl) (fun _ _ _ h => h) (Or.inl ⟨by rfl, ?_⟩) (by assumption) ?_
    rotate_left
    · intro W hS
      try dsimp only at hS
      go_simp
      try with_reducible rfl
    simp only [List.getElem_toArray, List.getElem_cons_succ, List.getElem_cons_zero, Act.put, List.setIfInBounds_toArray, List.set_cons_zero, List.set_cons_succ]
    refine wpAnyH_take (i := 5) (v := ?_) rfl (by kernel_rfl) (by kernel_rfl) (by kernel_rfl) (fun _ _ _ h => h) (Or.inl ⟨by rfl, ?_⟩) (by assumption) ?_
    rotate_left
    · intro W hS
      try dsimp only at hS
      go_simp
      try with_reducible rfl
    simp only [List.getElem_toArray, List.getElem_cons_succ, List.getElem_cons_zero, Act.put, List.setIfInBounds_toArray, List.set_cons_zero, List.set_cons_succ]
    refine wpAnyH_take (i := 6) (v := undef) rfl (by kernel_rfl) (by kernel_rfl) (by kernel_rfl) (fun _ _ _ h => h) (Or.inr ⟨by rfl, rfl⟩) (by assumption) ?_
    simp only [List.getElem_toArray, List.getElem_cons_succ, List.getElem_cons_zero, Act.put, List.setIfInBounds_toArray, List.set_cons_zero, List.set_cons_succ]
    refine wpAnyH_take (i := 7) (v := undef) rfl (by kernel_rfl) (by kernel_rfl) (by kernel_rfl) (fun _ _ _ h => h) (Or.inr ⟨by rfl, rfl⟩) (by assumption) ?_
    simp only [List.getElem_toArray, List.getElem_cons_succ, List.getElem_cons_zero, Act.put, List.setIfInBounds_toArray, List.set_cons_zero, List.set_cons_succ]
    refine wpAnyH_take (i := 8) (v := ?_) rfl (by kernel_rfl) (by kernel_rfl) (by kernel_rfl) (fun _ _ _ h => h) (Or.inl ⟨by rfl, ?_⟩) (by assumption) ?_
    rotate_left
    · intro W hS
      try dsimp only at hS
      go_simp
      try with_reducible rfl
    simp only [List.getElem_toArray, List.getElem_cons_succ, List.getElem_cons_zero, Act.put, List.setIfInBounds_toArray, List.set_cons_zero, List.set_cons_succ]
    have HK8X : Hid (w8.heap[w.heap.size]? = some (.cells #[.slice none 0 0, .slice none 0 0] 38 (0, 0))) := Lib.hid HK8.out
    have hs8 := HK8X.out
    have z0 : w8.cell? ⟨w.heap.size, 0, none⟩ = some (.slice none 0 0) := (cell_of_block hs8 0).trans rfl
    have z1 : w8.cell? ⟨w.heap.size, 1, none⟩ = some (.slice none 0 0) := (cell_of_block hs8 1).trans rfl
    have u0 := unfrozen_of_block hs8 0
    have u1 := unfrozen_of_block hs8 1
    clear hs8
    obtain ⟨hkk, hcc, hbb, hoo⟩ := store_two (n := w.heap.size) (.slice (some ⟨w5.heap.size, 0, none⟩) n1 n1) (.slice ka n2 kc) HK8X.out HNE.out (Nat.le_refl _)
    have HKK := Lib.hid hkk
    have HCC := Lib.hid hcc
    have HBB := Lib.hid hbb
    have HOO := Lib.hid hoo
    clear hkk hcc hbb hoo
    refine wpAnyH_ready (rs := [9]) (by kernel_rfl) (by simp) ?_
    refine AllReadyH.cons rfl (fun K hK => ?_) AllReadyH.nil
    go_simp
    refine hK.out _ _ ⟨(HCC.out 0).trans HC0.out, (HCC.out 1).trans HC1.out⟩ (fun hHeld => ?_)
    clear hK K
    try simp only [List.getElem_toArray, List.getElem_cons_succ, List.getElem_cons_zero, Act.put, List.setIfInBounds_toArray, List.set_cons_zero, List.set_cons_succ]
    refine wpAnyH_take (i := 10) (v := ?_) rfl (by kernel_rfl) (by kernel_rfl) (by kernel_rfl) (fun _ _ _ h => h) (Or.inl ⟨by rfl, ?_⟩) (by assumption) ?_
    rotate_left
    · intro W hS
      try dsimp only at hS
      go_simp
      try with_reducible rfl
    simp only [List.getElem_toArray, List.getElem_cons_succ, List.getElem_cons_zero, Act.put, List.setIfInBounds_toArray, List.set_cons_zero, List.set_cons_succ]
    refine wpAnyH_done (by kernel_rfl) ?_ _
    have d0 := (cell_of_block HKK.out 0).trans (show (#[(.slice (some ⟨w5.heap.size, 0, none⟩) n1 n1 : Value), .slice ka n2 kc] : Array Value)[0]? = some (.slice (some ⟨w5.heap.size, 0, none⟩) n1 n1) from rfl)
    have d1 := (cell_of_block HKK.out 1).trans (show (#[(.slice (some ⟨w5.heap.size, 0, none⟩) n1 n1 : Value), .slice ka n2 kc] : Array Value)[1]? = some (.slice ka n2 kc) from rfl)
    have HFIN : Hid (ok = false) := Lib.hid (by rw [HOK.out]; rfl)
    go_wp2_with fail
    refine bodyPost_ret (v := .tuple #[.agg #[.slice (some ⟨w5.heap.size, 0, none⟩) n1 n1, .slice ka n2 kc], .bool false]) (by simp [results, Tryz.results25, go_sem, d0, d1]) rfl ⟨_, _, by rw [HFIN.out], ?_, ?_, ?_⟩
    · exact (HP8.out.stored (B := w.heap.size) (Nat.lt_irrefl _) HOO.out).mono (fun k _ h => Nat.le_of_lt h)
    · exact (HV8.out.stored (B := w.heap.size) (Nat.lt_irrefl _) HOO.out).mono (fun k _ h => Nat.le_of_lt h)
    · exact HB8.out.trans HBB.out.drew

end Go.Proofs.YtojpjhfafbdpcaaGreatDoor
