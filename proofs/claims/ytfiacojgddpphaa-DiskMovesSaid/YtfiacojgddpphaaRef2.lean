/-
  The reference's Same and Small. Conditions: slices lead to what they are said to; names and bytes are short.
-/
import Derived.Test.YtfiacojgddpphaaRef1
namespace Go.Proofs.Ytfiacojgddpphaa
open Go.RowKit Go.Lib Go.Joins

def same1 (f g : FilI) : Bool := decide (f.name = g.name) && decide (f.safe = g.safe) && decide (f.data = g.data)
def sameB : List FilI → List FilI → Bool
  | [], [] => true
  | f :: L, g :: M => same1 f g && sameB L M
  | _, _ => false
theorem same1_eq {f g : FilI} : same1 f g = true ↔ f = g := by
  obtain ⟨n, d, s⟩ := f
  obtain ⟨n', d', s'⟩ := g
  unfold same1
  simp only [Bool.and_eq_true, decide_eq_true_eq, FilI.mk.injEq]
  constructor
  · rintro ⟨⟨h1, h2⟩, h3⟩; exact ⟨h1, h3, h2⟩
  · rintro ⟨h1, h3, h2⟩; exact ⟨⟨h1, h2⟩, h3⟩
theorem sameB_eq : ∀ {L M : List FilI}, sameB L M = true ↔ L = M
  | [], [] => by simp [sameB]
  | [], _ :: _ => by simp [sameB]
  | _ :: _, [] => by simp [sameB]
  | f :: L, g :: M => by
    unfold sameB
    rw [Bool.and_eq_true, same1_eq, sameB_eq, List.cons.injEq]
theorem sameB_len {L M : List FilI} (h : L.length ≠ M.length) : sameB L M = false := by
  cases hs : sameB L M
  · rfl
  · exact absurd (congrArg List.length (sameB_eq.1 hs)) h
theorem sameB_drop {L M : List FilI} {i : Nat} {f g : FilI} (hf : L[i]? = some f) (hg : M[i]? = some g) : sameB (L.drop i) (M.drop i) = (same1 f g && sameB (L.drop (i + 1)) (M.drop (i + 1))) := by
  obtain ⟨h1, rfl⟩ := List.getElem?_eq_some_iff.1 hf
  obtain ⟨h2, rfl⟩ := List.getElem?_eq_some_iff.1 hg
  rw [List.drop_eq_getElem_cons h1, List.drop_eq_getElem_cons h2]
  rfl

theorem quiet_add {P : Program} {f : FuncId} {args : Array Value} {w : World} {a n : Nat} {v : Value} (h : Calls P f args (w.drewN (a + n)) (Tells v (w.drewN (a + n)))) :
    Calls P f args (w.drewN (a + n)) fun e w'' => e = .returned v ∧ ∃ m, w'' = w.drewN (a + m) :=
  h.mono fun _ _ ⟨he, m, hm⟩ => ⟨he, n + m, by rw [hm, World.drewN_drewN, Nat.add_assoc]⟩

set_option maxRecDepth 100000 in
set_option maxHeartbeats 8000000 in
theorem same_calls (a a' : Option Addr) (L M : List FilI) (c c' n n' : Nat) (w : World) {S S' : Nat → Prop} (h : Fils w S a L) (h' : Fils w S' a' M) (hn : L.length = n) (hn' : M.length = n') (hb : n ≤ 1073741824) (hb' : n' ≤ 1073741824) (hd : ∀ f ∈ L, f.data.length ≤ 1073741824) (hd' : ∀ f ∈ M, f.data.length ≤ 1073741824) :
    Calls Try.prog 15 #[.slice a n c, .slice a' n' c'] w (Tells (.bool (sameB L M)) w) := by
  by_cases hnn : n = n'
  · subst hnn
    obtain ⟨q, hq⟩ : ∃ q, sameB L M = q := ⟨_, rfl⟩
    rw [hq]
    have HQ := Lib.hid hq
    have HR := Lib.hid h
    have HR' := Lib.hid h'
    have HN := Lib.hid hn
    have HN' := Lib.hid hn'
    have HD := Lib.hid hd
    have HD' := Lib.hid hd'
    clear h h' hn hn' hq hd hd'
    go_enter Try.func15, Try.ntmps15
    go_wp2
    go_loopg [5] n (fun g idx wr => ∃ (i k : Nat), idx = .int .i64 (i : Int) ∧ g + i = n ∧ sameB (L.drop i) (M.drop i) = q ∧ wr = w.drewN k)
    case atStart => exact ⟨0, 0, rfl, rfl, HQ.out, rfl⟩
    case round =>
      obtain ⟨i, k, rfl, hg, hq, rfl⟩ := hrel
      have HG := Lib.hid hg
      have HE := Lib.hid hq
      clear hg hq HQ
      by_cases hlt : i < n
      · obtain ⟨g', rfl⟩ : ∃ g', gk = g' + 1 := ⟨gk - 1, by have := HG.out; omega⟩
        have hdd : decide ((i : Int) < (n : Int)) = true := by simp; omega
        obtain ⟨f, hf⟩ : ∃ x, L[i]? = some x := ⟨L[i]'(by rw [HN.out]; exact hlt), List.getElem?_eq_getElem _⟩
        obtain ⟨g, hg⟩ : ∃ y, M[i]? = some y := ⟨M[i]'(by rw [HN'.out]; exact hlt), List.getElem?_eq_getElem _⟩
        have hst := sameB_drop hf hg
        rw [HE.out] at hst
        have HST := Lib.hid hst
        obtain ⟨b, o, da, dc, rfl, _, r0, r1, r2, hrow, _⟩ := fils_at HR.out hf
        obtain ⟨b', o', da', dc', rfl, _, s0, s1, s2, hrow', _⟩ := fils_at HR'.out hg
        have HBY := Lib.hid (fun W (hW : Row W S da f.data) (hW' : Row W S' da' g.data) => bytes_calls da da' f.data g.data dc dc' f.data.length g.data.length W hW hW' rfl rfl (HD.out f (List.mem_of_getElem? hf)) (HD'.out g (List.mem_of_getElem? hg)))
        have HROW := Lib.hid hrow
        have HROW' := Lib.hid hrow'
        clear hst hf hg hrow hrow'
        by_cases hnm : f.name = g.name
        · by_cases hsf : f.safe = g.safe
          · obtain ⟨bq, hbq⟩ : ∃ bq, decide (f.data = g.data) = bq := ⟨_, rfl⟩
            rw [hbq] at HBY
            have HBQ := Lib.hid hbq
            have HST2 : Hid (q = (bq && sameB (L.drop (i + 1)) (M.drop (i + 1)))) := Lib.hid (by
              have := HST.out
              unfold same1 at this
              rw [decide_eq_true hnm, decide_eq_true hsf, hbq] at this
              simpa using this)
            rw [hnm] at r0
            rw [hsf] at r2
            clear hbq hnm hsf HST
            cases bq with
            | true =>
              have HN2 : Hid (sameB (L.drop (i + 1)) (M.drop (i + 1)) = q) := Lib.hid (by have := HST2.out; simp at this; exact this.symm)
              go_wp2
              go_quiet ((exact quiet_add (HBY.out _ (HROW.out.keep ((Keeps.refl Non _).drewN _) (fun _ _ h => h)) (HROW'.out.keep ((Keeps.refl Non _).drewN _) (fun _ _ h => h)))))
              go_wp2
              go_roundg g'
              case measure => omega
              case rel => exact ⟨i + 1, _, by go_num, by have := HG.out; omega, HN2.out, rfl⟩
            | false =>
              have HF : Hid (q = false) := Lib.hid (by rw [HST2.out]; rfl)
              go_wp2
              go_quiet ((exact quiet_add (HBY.out _ (HROW.out.keep ((Keeps.refl Non _).drewN _) (fun _ _ h => h)) (HROW'.out.keep ((Keeps.refl Non _).drewN _) (fun _ _ h => h)))))
              go_wp2
              go_ret
              exact ⟨by rw [HF.out]; rfl, _, World.drewN_drewN w k nq⟩
          · have HF : Hid (q = false) := Lib.hid (by
              have := HST.out
              unfold same1 at this
              rw [decide_eq_false hsf] at this
              simpa using this)
            rw [hnm] at r0
            have hne : (f.safe != g.safe) = true := by simpa using hsf
            clear hnm hsf HST
            go_wp2
            go_quiet (fail)
            go_wp2
            go_ret
            exact ⟨by rw [HF.out]; rfl, _, World.drewN_drewN w k nq⟩
        · have HF : Hid (q = false) := Lib.hid (by
            have := HST.out
            unfold same1 at this
            rw [decide_eq_false hnm] at this
            simpa using this)
          have hne : (f.name.toList == g.name.toList) = false := by
            rw [ByteArray.toList_eq, ByteArray.toList_eq]
            have := same_is f.name g.name
            rw [decide_eq_false hnm] at this
            exact this
          clear HST
          go_wp2
          go_quiet (fail)
          go_wp2
          go_ret
          exact ⟨by rw [HF.out]; rfl, _, World.drewN_drewN w k nq⟩
      · have hdd : decide ((i : Int) < (n : Int)) = false := by simp; omega
        have HT : Hid (q = true) := Lib.hid (by
          rw [← HE.out, List.drop_eq_nil_of_le (by rw [HN.out]; omega), List.drop_eq_nil_of_le (by rw [HN'.out]; omega)]
          rfl)
        go_wp2
        go_ret
        exact ⟨by rw [HT.out]; rfl, k, rfl⟩
  · have he : sameB L M = false := sameB_len (by rw [hn, hn']; exact hnn)
    rw [he]
    have hne : ((n : Int) != (n' : Int)) = true := by simp; omega
    clear h h' he hn hn' hd hd'
    go_enter Try.func15, Try.ntmps15
    go_wp2
    go_ret
    exact ⟨rfl, 0, rfl⟩

end Go.Proofs.Ytfiacojgddpphaa
