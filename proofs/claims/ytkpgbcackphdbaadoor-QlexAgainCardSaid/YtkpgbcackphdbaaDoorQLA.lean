/-
  QlexAgain: tokens written out again, each with a blank behind it, are the same tokens; their places rise. Conditions: the tables, the library's bound, the arrays of signs and the handle are laid.
-/
import Derived.Test.YtkpgbcackphdbaaDoorQL
namespace Go.Proofs.YtkpgbcackphdbaaDoor
open Go.RowKit Go.Lib Go.Joins

theorem writeL_app : ∀ a b : List Tk, writeL (a ++ b) = writeL a ++ writeL b
  | [], _ => rfl
  | x :: t, b => by
    rw [List.cons_append, writeL, writeL, writeL_app t b, List.append_assoc]
    rfl
theorem writeL_take {ts : List Tk} {i : Nat} {x : Tk} (h : ts[i]? = some x) : writeL (ts.take (i + 1)) = writeL (ts.take i) ++ (writeQ x.kind x.text ++ [32]) := by
  rw [List.take_add_one, h]
  show writeL (ts.take i ++ [x]) = _
  rw [writeL_app]
  rfl
theorem writeL_le (ts : List Tk) (i : Nat) : (writeL (ts.take i)).length ≤ (writeL ts).length := by
  have h := writeL_app (ts.take i) (ts.drop i)
  rw [List.take_append_drop] at h
  rw [h, List.length_append]
  omega
theorem text_le {ts : List Tk} {i : Nat} {x : Tk} (h : ts[i]? = some x) : x.text.length ≤ (writeL ts).length := by
  have h1 := writeL_le ts (i + 1)
  rw [writeL_take h, List.length_append, List.length_append] at h1
  have h2 : x.text.length ≤ (writeQ x.kind x.text).length := by
    unfold writeQ
    split
    · simp
    · split
      · split
        · simp; omega
        · simp; omega
      · exact Nat.le_refl _
  omega
theorem rise_at {n : Nat} : ∀ {ts : List Tk} {lo i : Nat} {x : Tk}, Rise n lo ts → ts[i]? = some x → x.spot < n ∧ lo ≤ x.spot
  | [], _, _, _, _, h => by simp at h
  | y :: t, lo, 0, x, hr, h => by
    obtain rfl : y = x := by simpa using h
    exact ⟨hr.2.1, hr.1⟩
  | y :: t, lo, i + 1, x, hr, h => by
    rw [List.getElem?_cons_succ] at h
    obtain ⟨h1, h2⟩ := rise_at hr.2.2 h
    exact ⟨h1, by have := hr.1; omega⟩
theorem rise_next {n : Nat} : ∀ {ts : List Tk} {lo i : Nat} {x y : Tk}, Rise n lo ts → ts[i]? = some x → ts[i + 1]? = some y → x.spot < y.spot
  | [], _, _, _, _, _, h, _ => by simp at h
  | z :: t, lo, 0, x, y, hr, hx, hy => by
    obtain rfl : z = x := by simpa using hx
    rw [List.getElem?_cons_succ] at hy
    exact (rise_at hr.2.2 hy).2
  | z :: t, lo, i + 1, x, y, hr, hx, hy => by
    rw [List.getElem?_cons_succ] at hx hy
    exact rise_next hr.2.2 hx hy
theorem keys_at {a b : List Tk} (h : keysQ a = keysQ b) {i : Nat} {x : Tk} (hx : b[i]? = some x) : ∃ y, a[i]? = some y ∧ y.kind = x.kind ∧ y.text = x.text := by
  have h1 : (keysQ a)[i]? = (keysQ b)[i]? := by rw [h]
  unfold keysQ at h1
  rw [List.getElem?_map, List.getElem?_map, hx] at h1
  obtain ⟨y, hy, e⟩ := Option.map_eq_some_iff.1 h1
  injection e with e1 e2
  exact ⟨y, hy, e1, e2⟩
theorem keys_len {a b : List Tk} (h : keysQ a = keysQ b) : a.length = b.length := by
  have := congrArg List.length h
  unfold keysQ at this
  simpa using this
theorem all_err {l : List UInt8} {c : Int} {n : Nat} (h : allQ l = .error (c, n)) : (c == 0) = false := by
  have key : c = 8 ∨ c = 1 ∨ c = 60 ∨ c = 61 := by
    unfold allQ at h
    split at h
    · cases h; exact .inl rfl
    · split at h
      · cases h; exact .inr (.inl rfl)
      · have lex : ∀ (N g : Nat) (r : List UInt8) (acc : List Tk), lexQ N g r acc = .error (c, n) → c = 60 ∨ c = 61 := by
          intro N g
          induction g with
          | zero => intro r acc h; cases h
          | succ g ih =>
            intro r acc h
            rw [lexQ] at h
            split at h
            · cases h
            · split at h
              · rename_i e
                injection h with h
                injection h with h1 _
                subst h1
                exact read_err e
              · exact ih _ _ h
        exact .inr (.inr (lex _ _ _ _ h))
  rw [beq_eq_false_iff_ne]
  omega
theorem write9 (t : List UInt8) : writeQ 9 t = 36 :: t := rfl
theorem write7 (t : List UInt8) (q : Bool) (h : t.contains 34 = q) : writeQ 7 t = if q = true then 39 :: (t ++ [39]) else 34 :: (t ++ [34]) := by rw [← h]; rfl

set_option maxRecDepth 100000 in
set_option maxHeartbeats 16000000 in
theorem again_calls (l : List UInt8) (hll : l.length ≤ 9223372036854775807) (w : World) (hE : AwE w) : Calls Tryd.prog 3 #[.string (strB l)] w (Leaves (.bool true) w) := by
  have HAW := Lib.hid (awake_calls w hE)
  have hs1 := strB_size l
  obtain ⟨n, hn⟩ : ∃ n, l.length = n := ⟨_, rfl⟩
  rw [hn] at hs1 hll
  have HE := Lib.hid hE
  by_cases hlong : 300 < n
  · obtain ⟨s, hs⟩ : ∃ s, strB l = s := ⟨_, rfl⟩
    rw [hs] at hs1 ⊢
    have hd : decide ((s.size : Int) > 300) = true := decide_eq_true (by omega)
    have hgt : (300 : Int) < (s.size : Int) := by omega
    clear hs hE hn hs1
    go_enter Tryd.func3, Tryd.ntmps3
    go_wp2_with fail
    with_reducible refine HAW.out.mono ?_
    rintro e w1 ⟨rfl, hb1⟩
    have HB1 := Lib.hid hb1
    clear hb1
    go_wp2_with fail
    go_ret
    exact ⟨rfl, HB1.out⟩
  · have HALL := Lib.hid (fun (W : World) (hb : Below w.heap.size w W) => all_calls l W (by omega) (hE.env.below hb))
    have HALL2 := Lib.hid (fun (l2 : List UInt8) (h2 : l2.length ≤ 600) (W : World) (hb : Below w.heap.size w W) => all_calls l2 W (by omega) (hE.env.below hb))
    unfold AllOut at HALL HALL2
    have hn300 : l.length ≤ 300 := by omega
    cases hall : allQ l with
    | error x =>
      obtain ⟨c, sp⟩ := x
      have hc := all_err hall
      have hcd : ¬ c = 0 := by simpa using hc
      rw [hall] at HALL
      obtain ⟨s, hs⟩ : ∃ s, strB l = s := ⟨_, rfl⟩
      rw [hs] at hs1 HALL ⊢
      have hd : decide ((s.size : Int) > 300) = false := decide_eq_false (by omega)
      have hgt : ¬ (300 : Int) < (s.size : Int) := by omega
      clear hs hE hn hs1 hall HALL2
      go_enter Tryd.func3, Tryd.ntmps3
      go_wp2_with fail
      with_reducible refine HAW.out.mono ?_
      rintro e w1 ⟨rfl, hb1⟩
      have HB1 := Lib.hid hb1
      have HAL := Lib.hid (HALL.out w1 hb1)
      clear hb1 HAW HALL
      go_wp2_with fail
      with_reducible refine HAL.out.mono ?_
      rintro e w2 ⟨tv, ev, rfl, hb2, ⟨l3, hl, _, _⟩ | ⟨cc, nn, hl, rfl, her⟩⟩
      case inl => cases hl
      injection hl with hl
      injection hl with hl1 hl2
      subst hl1 hl2
      have HB2 := Lib.hid (below_then HB1.out hb2)
      have HC := Lib.hid (code_calls c (sp : Int) ev w2 her (HE.out.handle.below HB2.out))
      obtain ⟨eb, rfl⟩ : ∃ eb, ev = .iface 61 (.pointer (some ⟨eb, 0, none⟩)) := by
        rcases her with ⟨h0, _⟩ | ⟨_, eb, h1, _⟩
        · exact absurd h0 hcd
        · exact ⟨eb, h1⟩
      clear hb2 her HAL
      go_wp2_with fail
      with_reducible refine HC.out.mono ?_
      rintro e w3 ⟨rfl, hb3⟩
      have HB3 := Lib.hid (below_then HB2.out hb3)
      clear hb3 HC
      go_wp2_with fail
      go_ret
      exact ⟨rfl, HB3.out⟩
    | ok ts =>
      obtain ⟨hrise, hwl, ts', hts', hkeys⟩ := all_again hn300 hall
      have hklen := keys_len hkeys
      rw [hall] at HALL
      have HAL2 := Lib.hid (HALL2.out (writeL ts) hwl)
      rw [hts'] at HAL2
      have HRISE := Lib.hid hrise
      have HWL := Lib.hid hwl
      have HKEYS := Lib.hid hkeys
      have HHAS := Lib.hid (fun (t : List UInt8) (h : t.length ≤ 600) (W : World) => has_calls t 34 W (by omega))
      obtain ⟨T, hT⟩ : ∃ T, ts.length = T := ⟨_, rfl⟩
      have hTw : ∀ ts : List Tk, ts.length ≤ (writeL ts).length := by
        intro ts
        induction ts with
        | nil => exact Nat.zero_le _
        | cons x t ih => rw [writeL, List.length_append, List.length_cons, List.length_cons]; omega
      have HTB : Hid (T ≤ 600) := Lib.hid (by have := hTw ts; omega)
      rw [hn] at HRISE
      have HT := Lib.hid hT
      have HKL : Hid (ts'.length = T) := Lib.hid (by rw [hklen, hT])
      obtain ⟨s, hs⟩ : ∃ s, strB l = s := ⟨_, rfl⟩
      rw [hs] at hs1 HALL ⊢
      have HSZ := Lib.hid hs1
      have hd : decide ((s.size : Int) > 300) = false := decide_eq_false (by omega)
      have hgt : ¬ (300 : Int) < (s.size : Int) := by omega
      clear hs hE hn hs1 hall HALL2 hrise hwl hts' hkeys hklen hT hTw hn300
      go_enter Tryd.func3, Tryd.ntmps3
      go_wp2_with fail
      with_reducible refine HAW.out.mono ?_
      rintro e w1 ⟨rfl, hb1⟩
      have HB1 := Lib.hid hb1
      have HAL := Lib.hid (HALL.out w1 hb1)
      clear hb1 HAW HALL
      go_wp2_with fail
      with_reducible refine HAL.out.mono ?_
      rintro e w2 ⟨tv, ev, rfl, hb2, ⟨l3, hl, hin, rfl⟩ | ⟨cc, nn, hl, _⟩⟩
      case inr => cases hl
      injection hl with hl
      subst hl
      have HB2 := Lib.hid (below_then HB1.out hb2)
      have HC := Lib.hid (code_calls (B := 0) 0 0 .nilIface w2 (.inl ⟨rfl, rfl⟩) (HE.out.handle.below HB2.out))
      obtain ⟨ta, tc, rfl, htc, _⟩ := hin.form
      rw [HT.out] at hin htc ⊢
      have HIN := Lib.hid hin
      clear hb2 hin HAL
      go_wp2_with fail
      with_reducible refine HC.out.mono ?_
      rintro e w3 ⟨rfl, hb3⟩
      have HB3 := Lib.hid (below_then HB2.out hb3)
      have HIN3 := Lib.hid (HIN.out.below hb3)
      clear hb3 HC HIN
      go_wp2_with fail
      go_loopg [5, 6] T (fun g v5 v6 wr => ∃ i : Nat, v5 = .string (strB (writeL (ts.take i))) ∧ v6 = .int .i64 i ∧ g + i = T ∧ Below w3.heap.size w3 wr)
      case atStart => exact ⟨0, rfl, rfl, rfl, Below.refl _ _⟩
      case round =>
        obtain ⟨i, rfl, rfl, hg, hb⟩ := hrel
        have HG := Lib.hid hg
        have HB := Lib.hid hb
        clear hg hb
        by_cases hlt : i < T
        · have hdi : decide ((i : Int) < (T : Int)) = true := decide_eq_true (by omega)
          have hii : (i : Int) < (T : Int) := by omega
          have hi0 : (0 : Int) ≤ (i : Int) := by omega
          have hic : i < tc := by omega
          obtain ⟨x, hx⟩ : ∃ x, ts[i]? = some x := ⟨_, List.getElem?_eq_getElem (show i < ts.length by rw [HT.out]; exact hlt)⟩
          have HIW := Lib.hid (HIN3.out.below HB.out)
          obtain ⟨b, o, rfl, y1, y2, y3⟩ := HIW.out.at hx
          have hwt := writeL_take hx
          have hsp := (rise_at HRISE.out hx).1
          have htl := text_le hx
          have hle1 := writeL_le ts (i + 1)
          have hsz0 := strB_size (writeL (ts.take i))
          have hsz1 := strB_size x.text
          have hle0 := writeL_le ts i
          have hprev : ∀ j, i = j + 1 → ∃ S' : Nat, wr.cell? ⟨b, o + j * 3 + 1, none⟩ = some (.int .i64 (S' : Int)) ∧ S' < x.spot := fun j hj => by
            subst hj
            obtain ⟨x', hx'⟩ : ∃ x', ts[j]? = some x' := ⟨_, List.getElem?_eq_getElem (show j < ts.length by rw [HT.out]; omega)⟩
            obtain ⟨b', o', hbo, _, y2', _⟩ := HIW.out.at hx'
            injection hbo with hbo
            injection hbo with e1 e2 _
            subst e1 e2
            exact ⟨x'.spot, y2', rise_next HRISE.out hx' hx⟩
          obtain ⟨K, hK⟩ : ∃ K, x.kind = K := ⟨_, rfl⟩
          obtain ⟨S, hS⟩ : ∃ S, x.spot = S := ⟨_, rfl⟩
          obtain ⟨tx, htx⟩ : ∃ S, x.text = S := ⟨_, rfl⟩
          rw [hK] at y1 hwt
          rw [hS] at y2 hsp hprev
          rw [htx] at y3 hwt htl hsz1
          have HWT := Lib.hid hwt
          have HPREV := Lib.hid hprev
          have HX : Hid (tx.length ≤ 600) := Lib.hid (by have := HWL.out; omega)
          have HWI : Hid ((writeL (ts.take i)).length ≤ 600) := Lib.hid (by have := HWL.out; omega)
          have HAP := Lib.hid (fun (a : List UInt8) => strB_app (writeL (ts.take i)) a)
          have HAX := Lib.hid (fun (a : List UInt8) => strB_app a tx)
          have HHX := Lib.hid (HHAS.out tx HX.out)
          obtain ⟨sx, hsx⟩ : ∃ sx, strB tx = sx := ⟨_, rfl⟩
          obtain ⟨sw, hsw⟩ : ∃ sw, strB (writeL (ts.take i)) = sw := ⟨_, rfl⟩
          rw [hsx] at y3 HHX hsz1
          rw [hsw] at hsz0 ⊢
          have HSX := Lib.hid hsx
          have HSW := Lib.hid hsw
          have hS1 : decide ((S : Int) ≥ (s.size : Int)) = false := decide_eq_false (by have := HSZ.out; omega)
          have hS2 : ¬ (s.size : Int) ≤ (S : Int) := by have := HSZ.out; omega
          have hwi : IntKind.i64.wrap ((i : Int) + 1) = ((i + 1 : Nat) : Int) := by have := HTB.out; rw [IntWalk.i64_in _ (by omega)]; rfl
          have b1 := HX.out
          have b2 := HWI.out
          have n1 : ¬ 9223372036854775807 < sw.size + 1 := by omega
          have n2 : ¬ 9223372036854775807 < sw.size + 1 + sx.size := by omega
          have n3 : ¬ 9223372036854775807 < sw.size + 1 + sx.size + 1 := by omega
          have n4 : ¬ 9223372036854775807 < sw.size + 1 + sx.size + 1 + 1 := by omega
          have n5 : ¬ 9223372036854775807 < sw.size + sx.size := by omega
          have n6 : ¬ 9223372036854775807 < sw.size + sx.size + 1 := by omega
          clear hx hwt hsp htl hle1 hsz0 hsz1 hle0 hprev hK hS htx hsx hsw b1 b2 hlt
          by_cases hz : i = 0
          · subst hz
            have hi1 : decide (((0 : Nat) : Int) > 0) = false := rfl
            go_upto_region 12 with (fail)
            refine wp_region_quiet_lit (by kernel_rfl) (by kernel_rfl) (QW.out ?_)
            repeat
              (refine QW.step (fun K hK => ?_)
               go_simp
               (refine hK _ ?_; clear hK K))
            refine QW.nil ?_
            intro _ hw'
            obtain ⟨nq, hw''⟩ := hw'
            subst hw''
            have HBQ : Hid (Below w3.heap.size w3 (wr.drewN nq)) := Lib.hid (below_drewNv HB.out nq)
            have z1 : (wr.drewN nq).cell? ⟨b, o, none⟩ = some (.int .i64 K) := y1
            have z3 : (wr.drewN nq).cell? ⟨b, o + 2, none⟩ = some (.string sx) := y3
            obtain ⟨w4, hw4⟩ : ∃ w4, wr.drewN nq = w4 := ⟨_, rfl⟩
            rw [hw4] at HBQ z1 z3 ⊢
            clear hw4 y1 y2 y3
            by_cases h9 : K = 9
            · have e9 : (K == 9) = true := by rw [h9]; rfl
              subst h9
              have HN : Hid (sw ++ ⟨#[36]⟩ ++ sx ++ ⟨#[32]⟩ = strB (writeL (ts.take (0 + 1)))) := Lib.hid (by
                rw [HWT.out, write9, ← HSW.out, ← HSX.out, show (⟨#[36]⟩ : ByteArray) = strB [36] from rfl, show (⟨#[32]⟩ : ByteArray) = strB [32] from rfl, strB_app, strB_app, strB_app]
                exact congrArg strB (by simp))
              clear e9
              go_wp2_with fail
              go_roundg (gk - 1)
              case measure => have := HG.out; omega
              case rel => exact ⟨0 + 1, by rw [HN.out], rfl, by have := HG.out; omega, HBQ.out⟩
            · have e9 : (K == 9) = false := beq_eq_false_iff_ne.2 h9
              by_cases h7 : K = 7
              · have HHW := Lib.hid (HHX.out w4)
                have hw7 := fun q h => write7 tx q h
                obtain ⟨q, hq⟩ : ∃ q, tx.contains 34 = q := ⟨_, rfl⟩
                rw [hq] at HHW
                have hwq := hw7 q hq
                have HWQ := Lib.hid hwq
                have HHW2 : Hid (Calls Tryd.prog 9 #[.string sx, .int .u8 34] w4 (Leaves (.bool q) w4)) := HHW
                subst h7
                clear hq hw7 hwq HHW e9 h9
                go_wp2_with fail
                with_reducible refine HHW2.out.mono ?_
                rintro e w5 ⟨rfl, hb5⟩
                have HB5 := Lib.hid (HBQ.out.trans (hb5.mono HBQ.out.size))
                have v1 := cell_below hb5 z1
                have v3 := cell_below hb5 z3
                clear hb5 HHW2 z1 z3
                cases q with
                | true =>
                  have HN : Hid (sw ++ ⟨#[39]⟩ ++ sx ++ ⟨#[39]⟩ ++ ⟨#[32]⟩ = strB (writeL (ts.take (0 + 1)))) := Lib.hid (by
                    rw [HWT.out, HWQ.out, if_pos rfl, ← HSW.out, ← HSX.out, show (⟨#[39]⟩ : ByteArray) = strB [39] from rfl, show (⟨#[32]⟩ : ByteArray) = strB [32] from rfl, strB_app, strB_app, strB_app, strB_app]
                    exact congrArg strB (by simp))
                  go_wp2_with fail
                  go_roundg (gk - 1)
                  case measure => have := HG.out; omega
                  case rel => exact ⟨0 + 1, by rw [HN.out], rfl, by have := HG.out; omega, HB5.out⟩
                | false =>
                  have HN : Hid (sw ++ ⟨#[34]⟩ ++ sx ++ ⟨#[34]⟩ ++ ⟨#[32]⟩ = strB (writeL (ts.take (0 + 1)))) := Lib.hid (by
                    rw [HWT.out, HWQ.out, if_neg (by decide), ← HSW.out, ← HSX.out, show (⟨#[34]⟩ : ByteArray) = strB [34] from rfl, show (⟨#[32]⟩ : ByteArray) = strB [32] from rfl, strB_app, strB_app, strB_app, strB_app]
                    exact congrArg strB (by simp))
                  go_wp2_with fail
                  go_roundg (gk - 1)
                  case measure => have := HG.out; omega
                  case rel => exact ⟨0 + 1, by rw [HN.out], rfl, by have := HG.out; omega, HB5.out⟩
              · have e7 : (K == 7) = false := beq_eq_false_iff_ne.2 h7
                have HN : Hid (sw ++ sx ++ ⟨#[32]⟩ = strB (writeL (ts.take (0 + 1)))) := Lib.hid (by
                  rw [HWT.out, write_plain h9 h7, ← HSW.out, ← HSX.out, show (⟨#[32]⟩ : ByteArray) = strB [32] from rfl, strB_app, strB_app]
                  exact congrArg strB (by simp))
                go_wp2_with fail
                go_roundg (gk - 1)
                case measure => have := HG.out; omega
                case rel => exact ⟨0 + 1, by rw [HN.out], rfl, by have := HG.out; omega, HBQ.out⟩
          · obtain ⟨j, hj⟩ : ∃ j, i = j + 1 := ⟨i - 1, by omega⟩
            obtain ⟨S', y2', hSS⟩ := HPREV.out j hj
            have hi1 : decide ((i : Int) > 0) = true := decide_eq_true (by omega)
            have hi2 : (0 : Int) < (i : Int) := by omega
            have hi3 : decide (0 < i) = true := decide_eq_true (by omega)
            have hi4 : 0 < i := by omega
            have hj0 : (0 : Int) ≤ (j : Int) := by omega
            have hjt : (j : Int) < (T : Int) := by omega
            have hjc : j < tc := by omega
            have hsub : IntKind.i64.wrap ((i : Int) - 1) = (j : Int) := by have := HTB.out; rw [IntWalk.i64_in _ (by omega)]; omega
            have hS3 : decide ((S' : Int) ≥ (S : Int)) = false := decide_eq_false (by omega)
            have hS4 : ¬ (S : Int) ≤ (S' : Int) := by omega
            have hS5 : decide (S ≤ S') = false := decide_eq_false (by omega)
            have hS6 : ¬ S ≤ S' := by omega
            clear hSS hj hz
            go_upto_region 12 with (fail)
            refine wp_region_quiet_lit (by kernel_rfl) (by kernel_rfl) (QW.out ?_)
            repeat
              (refine QW.step (fun K hK => ?_)
               go_simp
               (refine hK _ ?_; clear hK K))
            refine QW.nil ?_
            intro _ hw'
            obtain ⟨nq, hw''⟩ := hw'
            subst hw''
            have HBQ : Hid (Below w3.heap.size w3 (wr.drewN nq)) := Lib.hid (below_drewNv HB.out nq)
            have z1 : (wr.drewN nq).cell? ⟨b, o + i * 3, none⟩ = some (.int .i64 K) := y1
            have z3 : (wr.drewN nq).cell? ⟨b, o + i * 3 + 2, none⟩ = some (.string sx) := y3
            obtain ⟨w4, hw4⟩ : ∃ w4, wr.drewN nq = w4 := ⟨_, rfl⟩
            rw [hw4] at HBQ z1 z3 ⊢
            clear hw4 y1 y2 y3 y2'
            by_cases h9 : K = 9
            · have e9 : (K == 9) = true := by rw [h9]; rfl
              subst h9
              have HN : Hid (sw ++ ⟨#[36]⟩ ++ sx ++ ⟨#[32]⟩ = strB (writeL (ts.take (i + 1)))) := Lib.hid (by
                rw [HWT.out, write9, ← HSW.out, ← HSX.out, show (⟨#[36]⟩ : ByteArray) = strB [36] from rfl, show (⟨#[32]⟩ : ByteArray) = strB [32] from rfl, strB_app, strB_app, strB_app]
                exact congrArg strB (by simp))
              clear e9
              go_wp2_with fail
              go_roundg (gk - 1)
              case measure => have := HG.out; omega
              case rel => exact ⟨i + 1, by rw [HN.out], rfl, by have := HG.out; omega, HBQ.out⟩
            · have e9 : (K == 9) = false := beq_eq_false_iff_ne.2 h9
              by_cases h7 : K = 7
              · have HHW := Lib.hid (HHX.out w4)
                have hw7 := fun q h => write7 tx q h
                obtain ⟨q, hq⟩ : ∃ q, tx.contains 34 = q := ⟨_, rfl⟩
                rw [hq] at HHW
                have hwq := hw7 q hq
                have HWQ := Lib.hid hwq
                have HHW2 : Hid (Calls Tryd.prog 9 #[.string sx, .int .u8 34] w4 (Leaves (.bool q) w4)) := HHW
                subst h7
                clear hq hw7 hwq HHW e9 h9
                go_wp2_with fail
                with_reducible refine HHW2.out.mono ?_
                rintro e w5 ⟨rfl, hb5⟩
                have HB5 := Lib.hid (HBQ.out.trans (hb5.mono HBQ.out.size))
                have v1 := cell_below hb5 z1
                have v3 := cell_below hb5 z3
                clear hb5 HHW2 z1 z3
                cases q with
                | true =>
                  have HN : Hid (sw ++ ⟨#[39]⟩ ++ sx ++ ⟨#[39]⟩ ++ ⟨#[32]⟩ = strB (writeL (ts.take (i + 1)))) := Lib.hid (by
                    rw [HWT.out, HWQ.out, if_pos rfl, ← HSW.out, ← HSX.out, show (⟨#[39]⟩ : ByteArray) = strB [39] from rfl, show (⟨#[32]⟩ : ByteArray) = strB [32] from rfl, strB_app, strB_app, strB_app, strB_app]
                    exact congrArg strB (by simp))
                  go_wp2_with fail
                  go_roundg (gk - 1)
                  case measure => have := HG.out; omega
                  case rel => exact ⟨i + 1, by rw [HN.out], rfl, by have := HG.out; omega, HB5.out⟩
                | false =>
                  have HN : Hid (sw ++ ⟨#[34]⟩ ++ sx ++ ⟨#[34]⟩ ++ ⟨#[32]⟩ = strB (writeL (ts.take (i + 1)))) := Lib.hid (by
                    rw [HWT.out, HWQ.out, if_neg (by decide), ← HSW.out, ← HSX.out, show (⟨#[34]⟩ : ByteArray) = strB [34] from rfl, show (⟨#[32]⟩ : ByteArray) = strB [32] from rfl, strB_app, strB_app, strB_app, strB_app]
                    exact congrArg strB (by simp))
                  go_wp2_with fail
                  go_roundg (gk - 1)
                  case measure => have := HG.out; omega
                  case rel => exact ⟨i + 1, by rw [HN.out], rfl, by have := HG.out; omega, HB5.out⟩
              · have e7 : (K == 7) = false := beq_eq_false_iff_ne.2 h7
                have HN : Hid (sw ++ sx ++ ⟨#[32]⟩ = strB (writeL (ts.take (i + 1)))) := Lib.hid (by
                  rw [HWT.out, write_plain h9 h7, ← HSW.out, ← HSX.out, show (⟨#[32]⟩ : ByteArray) = strB [32] from rfl, strB_app, strB_app]
                  exact congrArg strB (by simp))
                go_wp2_with fail
                go_roundg (gk - 1)
                case measure => have := HG.out; omega
                case rel => exact ⟨i + 1, by rw [HN.out], rfl, by have := HG.out; omega, HBQ.out⟩
        · have hdi : decide ((i : Int) < (T : Int)) = false := decide_eq_false (by omega)
          have hii : ¬ (i : Int) < (T : Int) := by omega
          obtain rfl : i = T := by have := HG.out; omega
          have htk : ts.take i = ts := List.take_of_length_le (by rw [HT.out]; exact Nat.le_refl _)
          rw [htk]
          have HAL := Lib.hid (HAL2.out wr (below_then HB3.out HB.out))
          have HIW := Lib.hid (HIN3.out.below HB.out)
          obtain ⟨sw, hsw⟩ : ∃ sw, strB (writeL ts) = sw := ⟨_, rfl⟩
          rw [hsw] at HAL ⊢
          clear hsw htk HAL2 hlt
          go_wp2_with fail
          with_reducible refine HAL.out.mono ?_
          rintro e w4 ⟨tv, ev, rfl, hb4, ⟨l3, hl, hin, rfl⟩ | ⟨cc, nn, hl, _⟩⟩
          case inr => cases hl
          injection hl with hl
          subst hl
          have HB4 := Lib.hid (below_then (below_then HB3.out HB.out) hb4)
          have HI4 := Lib.hid (HIW.out.below hb4)
          have HC := Lib.hid (code_calls (B := 0) 0 0 .nilIface w4 (.inl ⟨rfl, rfl⟩) (HE.out.handle.below HB4.out))
          obtain ⟨ua, uc, rfl, huc, _⟩ := hin.form
          rw [HKL.out] at hin huc ⊢
          have HIN2 := Lib.hid hin
          clear hb4 hin HAL
          go_wp2_with fail
          with_reducible refine HC.out.mono ?_
          rintro e w5 ⟨rfl, hb5⟩
          have HB5 := Lib.hid (below_then HB4.out hb5)
          have HI5 := Lib.hid (HI4.out.below hb5)
          have HU5 := Lib.hid (HIN2.out.below hb5)
          clear hb5 HC HI4 HIN2
          go_wp2_with fail
          go_loopg [9] i (fun g v wr2 => ∃ k : Nat, v = .int .i64 k ∧ g + k = i ∧ Below w5.heap.size w5 wr2)
          case atStart => exact ⟨0, rfl, rfl, Below.refl _ _⟩
          case round =>
            obtain ⟨k, rfl, hg2, hb6⟩ := hrel
            have HG2 := Lib.hid hg2
            have HB6 := Lib.hid hb6
            clear hg2 hb6
            by_cases hlt : k < i
            · have hdk : decide ((k : Int) < (i : Int)) = true := decide_eq_true (by omega)
              have hki : (k : Int) < (i : Int) := by omega
              have hk0 : (0 : Int) ≤ (k : Int) := by omega
              have hkc : k < tc := by omega
              have hkc2 : k < uc := by omega
              obtain ⟨x, hx⟩ : ∃ x, ts[k]? = some x := ⟨_, List.getElem?_eq_getElem (show k < ts.length by rw [HT.out]; exact hlt)⟩
              obtain ⟨y, hy, hyk, hyt⟩ := keys_at HKEYS.out hx
              obtain ⟨b, o, rfl, y1, _, y3⟩ := (HI5.out.below HB6.out).at hx
              obtain ⟨b2, o2, rfl, u1, _, u3⟩ := (HU5.out.below HB6.out).at hy
              rw [hyk] at u1
              rw [hyt] at u3
              obtain ⟨K, hK⟩ : ∃ K, x.kind = K := ⟨_, rfl⟩
              obtain ⟨sx, hsx⟩ : ∃ sx, strB x.text = sx := ⟨_, rfl⟩
              rw [hK] at y1 u1
              rw [hsx] at y3 u3
              have hwi : IntKind.i64.wrap ((k : Int) + 1) = ((k + 1 : Nat) : Int) := by have := HTB.out; rw [IntWalk.i64_in _ (by omega)]; rfl
              clear hx hy hyk hyt hK hsx
              go_upto_region 28 with (fail)
              refine wp_region_quiet_lit (by kernel_rfl) (by kernel_rfl) (QW.out ?_)
              repeat
                (refine QW.step (fun K hK => ?_)
                 go_simp
                 (refine hK _ ?_; clear hK K))
              refine QW.nil ?_
              intro _ hw'
              obtain ⟨nq, hw''⟩ := hw'
              subst hw''
              have HBQ : Hid (Below w5.heap.size w5 (wr.drewN nq)) := Lib.hid (below_drewNv HB6.out nq)
              go_wp2_with fail
              go_roundg (gk - 1)
              case measure => have := HG2.out; omega
              case rel => exact ⟨k + 1, rfl, by have := HG2.out; omega, HBQ.out⟩
            · have hdk : decide ((k : Int) < (i : Int)) = false := decide_eq_false (by omega)
              have hki : ¬ (k : Int) < (i : Int) := by omega
              go_wp2_with fail
              go_ret
              exact ⟨rfl, below_then HB5.out HB6.out⟩
end Go.Proofs.YtkpgbcackphdbaaDoor
