/-
  The reference's Join and Text. Conditions: the texts lie in memory; what they are put together to is no longer than 2 to the 40.
-/
import Derived.Test.YtojpjhfafbdpcaaGreatDoorKE
namespace Go.Proofs.YtojpjhfafbdpcaaGreatDoor
open Go.RowKit Go.Lib Go.Joins

theorem joinB_snoc (sep x : List UInt8) : ∀ {ps : List (List UInt8)}, ps ≠ [] → joinB sep (ps ++ [x]) = joinB sep ps ++ (sep ++ x)
  | [p], _ => by
    rw [List.singleton_append, joinB_cons, joinB, joinB]
  | p :: q :: t, _ => by
    have ih := joinB_snoc sep x (List.cons_ne_nil q t)
    rw [List.cons_append, List.cons_append, joinB_cons, joinB_cons, ← List.cons_append, ih]
    simp only [List.append_assoc]
theorem joinB_pre (sep : List UInt8) : ∀ (a b : List (List UInt8)), (joinB sep a).length ≤ (joinB sep (a ++ b)).length
  | [], b => by rw [joinB]; exact Nat.zero_le _
  | [p], [] => Nat.le_refl _
  | [p], q :: t => by
    rw [List.singleton_append, joinB_cons, joinB, List.length_append]
    omega
  | p :: q :: t, b => by
    have ih := joinB_pre sep (q :: t) b
    rw [List.cons_append] at ih
    rw [List.cons_append, List.cons_append, joinB_cons, joinB_cons, List.length_append, List.length_append, List.length_append, List.length_append]
    omega
theorem joinB_take {sep x : List UInt8} {l : List (List UInt8)} {j : Nat} (hx : l[j]? = some x) : joinB sep (l.take (j + 1)) = if j = 0 then x else joinB sep (l.take j) ++ (sep ++ x) := by
  obtain ⟨hlt, rfl⟩ := List.getElem?_eq_some_iff.1 hx
  rw [List.take_succ_eq_append_getElem hlt]
  split
  · rename_i h
    subst h
    rfl
  · rename_i h
    exact joinB_snoc sep _ (fun e => by
      have := congrArg List.length e
      rw [List.length_take, List.length_nil] at this
      omega)

set_option maxRecDepth 100000 in
set_option maxHeartbeats 4000000 in
theorem rjoin_calls {w : World} {S : Nat → Prop} {v : Value} {l : List (List UInt8)} (h : StrIn w S v l) (sep : List UInt8) (hs : (joinB sep l).length ≤ 1099511627776) :
    Calls Tryz.prog 41 #[v, .string (strB sep)] w (Leaves (.string (strB (joinB sep l))) w) := by
  obtain ⟨a, c, rfl, hlc, hcm, _⟩ := h.form
  obtain ⟨n, hn⟩ : ∃ n, l.length = n := ⟨_, rfl⟩
  rw [hn] at h hlc ⊢
  have HR := Lib.hid h
  have HN := Lib.hid hn
  have HS := Lib.hid hs
  have hm : n ≤ 9223372036854775807 := by unfold maxLen at hcm; omega
  obtain ⟨sp, hsp⟩ : ∃ s, strB sep = s := ⟨_, rfl⟩
  rw [hsp]
  have HSP := Lib.hid hsp
  clear h hn hs hcm hsp
  go_enter Tryz.func41, Tryz.ntmps41
  go_wp2_with fail
  go_loopg [5, 6] n (fun gk s i wr => ∃ (j : Nat), s = .string (strB (joinB sep (l.take j))) ∧ i = .int .i64 (j : Int) ∧ gk + j = n ∧ Below w.heap.size w wr)
  case atStart => exact ⟨0, rfl, rfl, rfl, Below.refl _ _⟩
  case round =>
    obtain ⟨j, rfl, rfl, hg, hb⟩ := hrel
    have HG := Lib.hid hg
    have HB := Lib.hid hb
    clear hg hb
    by_cases hlt : j < n
    · obtain ⟨g', rfl⟩ : ∃ g', gk = g' + 1 := ⟨gk - 1, by have := HG.out; omega⟩
      have hdd : decide ((j : Int) < (n : Int)) = true := by simp; omega
      have hji : (j : Int) < (n : Int) := by omega
      obtain ⟨x, hx⟩ : ∃ x, l[j]? = some x := ⟨l[j]'(by rw [HN.out]; exact hlt), List.getElem?_eq_getElem _⟩
      obtain ⟨b, o, hab, c0⟩ := (HR.out.below HB.out).at hx
      subst hab
      have htk := joinB_take (sep := sep) hx
      have htot : (joinB sep (l.take (j + 1))).length ≤ 1099511627776 := by
        have h1 := joinB_pre sep (l.take (j + 1)) (l.drop (j + 1))
        rw [List.take_append_drop] at h1
        have := HS.out
        omega
      obtain ⟨y, hy⟩ : ∃ s, strB x = s := ⟨_, rfl⟩
      rw [hy] at c0
      by_cases hj0 : j = 0
      · subst hj0
        rw [Nat.add_zero] at c0
        have hd0 : decide (((0 : Nat) : Int) > 0) = false := rfl
        have hyz : y.size = x.length := by rw [← hy]; exact strB_size x
        rw [if_pos rfl] at htk
        have hcat : ¬ (9223372036854775807 < 0 + y.size) := by rw [htk] at htot; omega
        have hcat2 : ¬ (9223372036854775807 < y.size) := by omega
        have HFIN : Hid ((⟨#[]⟩ : ByteArray) ++ y = strB (joinB sep (l.take 1))) := Lib.hid (by
          have h0 : (⟨#[]⟩ : ByteArray) = strB [] := rfl
          rw [h0, ← hy, strB_app, List.nil_append, htk])
        have e0 : strB (joinB sep (l.take 0)) = ⟨#[]⟩ := rfl
        rw [e0]
        clear hx hy htk htot hyz e0
        go_wp2_with fail
        go_roundg g'
        case measure => omega
        case rel => exact ⟨1, by rw [HFIN.out], by go_num, by have := HG.out; omega, HB.out⟩
      · have hd0 : decide ((j : Int) > 0) = true := by simp; omega
        rw [if_neg hj0] at htk
        obtain ⟨s0, hs0⟩ : ∃ s, strB (joinB sep (l.take j)) = s := ⟨_, rfl⟩
        obtain ⟨s1, hs1⟩ : ∃ s, s0 ++ sp = s := ⟨_, rfl⟩
        have hz0 : s0.size = (joinB sep (l.take j)).length := by rw [← hs0]; exact strB_size _
        have hzp : sp.size = sep.length := by rw [← HSP.out]; exact strB_size _
        have hyz : y.size = x.length := by rw [← hy]; exact strB_size x
        have hz1 : s1.size = s0.size + sp.size := by rw [← hs1, ByteArray.size_append]
        rw [htk, List.length_append, List.length_append] at htot
        have hcat : ¬ (9223372036854775807 < s0.size + sp.size) := by omega
        have hcat2 : ¬ (9223372036854775807 < s0.size + sp.size + y.size) := by omega
        have HFIN : Hid (s0 ++ sp ++ y = strB (joinB sep (l.take (j + 1)))) := Lib.hid (by
          rw [← hy, ← hs0, ← HSP.out, strB_app, strB_app, htk, List.append_assoc])
        rw [hs0]
        clear hx hy htk htot hyz hs0 hs1 hz0 hzp hz1
        go_wp2_with fail
        go_roundg g'
        case measure => omega
        case rel => exact ⟨j + 1, by rw [HFIN.out], by go_num, by have := HG.out; omega, HB.out⟩
    · have hdd : decide ((j : Int) < (n : Int)) = false := by simp; omega
      have htk : l.take j = l := List.take_of_length_le (by have := HN.out; omega)
      rw [htk]
      obtain ⟨s0, hs0⟩ : ∃ s, strB (joinB sep l) = s := ⟨_, rfl⟩
      rw [hs0]
      clear htk
      go_wp2
      go_ret
      exact ⟨by rw [hs0]; rfl, HB.out⟩

set_option maxRecDepth 100000 in
set_option maxHeartbeats 8000000 in
theorem rtext_calls {w : World} {S : Nat → Prop} {v : Value} {l : List Rl} (hl : RlsIn w S v l) (hs : (textW l).length ≤ 1099511627776) :
    Calls Tryz.prog 20 #[v] w (Leaves (.string (strB (textW l))) w) := by
  obtain ⟨a, c, rfl, hlc, hcm, _⟩ := hl.form
  obtain ⟨n, hn⟩ : ∃ n, l.length = n := ⟨_, rfl⟩
  rw [hn] at hl hlc ⊢
  have HR := Lib.hid hl
  have HN := Lib.hid hn
  have HS := Lib.hid hs
  have hm : n ≤ 9223372036854775807 := by unfold maxLen at hcm; omega
  clear hl hn hs hcm
  go_enter Tryz.func20, Tryz.ntmps20
  go_wp2_with fail
  go_loopg [3, 4] n (fun gk s i wr => ∃ (j : Nat), s = .string (strB (textW (l.take j))) ∧ i = .int .i64 (j : Int) ∧ gk + j = n ∧ Below w.heap.size w wr)
  case atStart => exact ⟨0, rfl, rfl, rfl, Below.refl _ _⟩
  case round =>
    obtain ⟨j, rfl, rfl, hg, hb⟩ := hrel
    have HG := Lib.hid hg
    have HB := Lib.hid hb
    clear hg hb
    by_cases hlt : j < n
    · obtain ⟨g', rfl⟩ : ∃ g', gk = g' + 1 := ⟨gk - 1, by have := HG.out; omega⟩
      have hdd : decide ((j : Int) < (n : Int)) = true := by simp; omega
      have hji : (j : Int) < (n : Int) := by omega
      obtain ⟨x, hx⟩ : ∃ x, l[j]? = some x := ⟨l[j]'(by rw [HN.out]; exact hlt), List.getElem?_eq_getElem _⟩
      have htm := text_mem (List.mem_of_getElem? hx)
      have hss := HS.out
      have htt := text_take hx
      have htp := text_part l (j + 1)
      have hle := line_eq x
      obtain ⟨b, o, pv, kv, hab, c0, c1, hpv, hkv⟩ := (HR.out.below HB.out).at hx
      subst hab
      have cP0 := fun dq os => Calls.regrown_of (rjoin_calls (hpv.below (below_regrown wr dq os)) [47] (by omega))
      have cK0 := fun dq os => Calls.regrown_of (rjoin_calls (hkv.below (below_regrown wr dq os)) [44, 32] (by omega))
      obtain ⟨pa, pc, rfl, _⟩ := hpv.form
      obtain ⟨ka, kc, rfl, _⟩ := hkv.form
      obtain ⟨n1, hn1⟩ : ∃ n1, x.path.length = n1 := ⟨_, rfl⟩
      obtain ⟨n2, hn2⟩ : ∃ n2, x.keys.length = n2 := ⟨_, rfl⟩
      rw [hn1] at c0 cP0
      rw [hn2] at c1 cK0
      have e47 : strB [47] = ⟨#[47]⟩ := rfl
      have e44 : strB [44, 32] = ⟨#[44, 32]⟩ := rfl
      rw [e47] at cP0
      rw [e44] at cK0
      obtain ⟨jp, hjp⟩ : ∃ s, strB (joinB [47] x.path) = s := ⟨_, rfl⟩
      obtain ⟨jk, hjk⟩ : ∃ s, strB (joinB [44, 32] x.keys) = s := ⟨_, rfl⟩
      obtain ⟨s0, hs0⟩ : ∃ s, strB (textW (l.take j)) = s := ⟨_, rfl⟩
      rw [hjp] at cP0 hle
      rw [hjk] at cK0 hle
      have hzp : jp.size = (joinB [47] x.path).length := by rw [← hjp]; exact strB_size _
      have hzk : jk.size = (joinB [44, 32] x.keys).length := by rw [← hjk]; exact strB_size _
      have hz0 : s0.size = (textW (l.take j)).length := by rw [← hs0]; exact strB_size _
      rw [htt, List.length_append] at htp
      have y1 : ¬ (9223372036854775807 < s0.size + 1) := by omega
      have y2 : ¬ (9223372036854775807 < s0.size + 1 + jp.size) := by omega
      have y3 : ¬ (9223372036854775807 < s0.size + 1 + jp.size + 2) := by omega
      have y4 : ¬ (9223372036854775807 < s0.size + 1 + jp.size + 2 + jk.size) := by omega
      have y5 : ¬ (9223372036854775807 < s0.size + 1 + jp.size + 2 + jk.size + 2) := by omega
      have HFIN : Hid (s0 ++ (⟨#[47]⟩ : ByteArray) ++ jp ++ (⟨#[32, 123]⟩ : ByteArray) ++ jk ++ (⟨#[125, 10]⟩ : ByteArray) = strB (textW (l.take (j + 1)))) := Lib.hid (by
        rw [htt, ← strB_app, hs0, ← hle]
        simp only [ByteArray.append_assoc])
      have cP := fun dq os => cP0 dq os
      have cK := fun dq os => cK0 dq os
      have k0 := fun dq os => cell_regrown c0 dq os
      have k1 := fun dq os => cell_regrown c1 dq os
      rw [hs0]
      clear hx htm hss htt htp hle hpv hkv hn1 hn2 e47 e44 hjp hjk hs0 hzp hzk hz0 cP0 cK0 c0 c1
      go_upto_region 5 with (fail)
      refine wp_region_quiet_below (by kernel_rfl) (by kernel_rfl) ?_
      repeat (go_big_quiet_step (first | with_reducible exact cP _ _ | with_reducible exact cK _ _))
      refine wpQuiet_nil ?_
      intro _ hw'
      obtain ⟨⟨dq, osq⟩, hw''⟩ := hw'
      subst hw''
      go_wp2_with fail
      go_roundg g'
      case measure => omega
      case rel => exact ⟨j + 1, by rw [HFIN.out], by go_num, by have := HG.out; omega, below_then HB.out (below_regrown wr dq osq)⟩
    · have hdd : decide ((j : Int) < (n : Int)) = false := by simp; omega
      have htk : l.take j = l := List.take_of_length_le (by have := HN.out; omega)
      rw [htk]
      obtain ⟨s0, hs0⟩ : ∃ s, strB (textW l) = s := ⟨_, rfl⟩
      rw [hs0]
      clear htk
      go_wp2
      go_ret
      exact ⟨by rw [hs0]; rfl, HB.out⟩

end Go.Proofs.YtojpjhfafbdpcaaGreatDoor
