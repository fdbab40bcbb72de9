/-
  KeysParses: every text is the rules that the document says, or is refused by its code, at its line. Conditions: the tables, the library's bound and the handle are laid.
-/
import Derived.Test.YtojpjhfafbdpcaaGreatDoorKO
import Derived.Test.YtojpjhfafbdpcaaGreatDoorKX
import Derived.Test.YtojpjhfafbdpcaaGreatDoorKPr
namespace Go.Proofs.YtojpjhfafbdpcaaGreatDoor
open Go.RowKit Go.Lib Go.Joins Go.Shelf

theorem goW_few : ∀ {ts : List (List UInt8)} {n : Nat} {acc l : List Rl}, goW ts n acc = .ok l → (∀ t ∈ ts, t.length ≤ 1073741823) → (∀ r ∈ acc, RlFew r) → ∀ r ∈ l, RlFew r
  | [], n, acc, l, h, _, ha => by
    rw [goW] at h
    split at h
    · cases h
    · injection h with h
      rw [← h]
      exact ha
  | t :: ts, n, acc, l, h, ht, ha => by
    rw [goW] at h
    split at h
    · exact goW_few h (fun t ht2 => ht t (List.mem_cons_of_mem _ ht2)) ha
    · split at h
      · cases h
      · rename_i r hr
        split at h
        · cases h
        · split at h
          · refine goW_few h (fun t ht2 => ht t (List.mem_cons_of_mem _ ht2)) (fun x hx => ?_)
            rcases List.mem_append.1 hx with hx | hx
            · exact ha x hx
            · rw [List.mem_singleton.1 hx]
              rw [readW_prog] at hr
              split at hr
              · rw [← Option.some.inj hr]
                exact progR_few (ht t (List.mem_cons_self ..))
              · cases hr
          · cases h
theorem parse_few {d : List UInt8} {l : List Rl} (h : parseW d = .ok l) (hd : d.length ≤ 1073741823) : ∀ r ∈ l, RlFew r := by
  refine goW_few h (fun t ht => ?_) (fun r hr => by cases hr)
  obtain ⟨p, hp, rfl⟩ := List.mem_map.1 ht
  have h1 := trimL_len p
  have h2 := pieces_short hp
  have h3 := eols_length d
  omega
theorem goW_code : ∀ {ts : List (List UInt8)} {n : Nat} {acc : List Rl} {c m : Nat}, goW ts n acc = .error (c, m) → c = 20 ∨ c = 21
  | [], n, acc, c, m, h => by
    rw [goW] at h
    split at h
    · injection h with h
      injection h with h _
      exact .inl h.symm
    · cases h
  | t :: ts, n, acc, c, m, h => by
    rw [goW] at h
    split at h
    · exact goW_code h
    · split at h
      · injection h with h
        injection h with h _
        exact .inl h.symm
      · split at h
        · injection h with h
          injection h with h _
          exact .inl h.symm
        · split at h
          · exact goW_code h
          · injection h with h
            injection h with h _
            exact .inr h.symm

set_option maxRecDepth 100000 in
set_option maxHeartbeats 8000000 in
theorem parses_calls (s : ByteArray) {w : World} (hE : AwE w) : Calls Tryz.prog 3 #[.string s] w (Leaves (.bool true) w) := by
  have HAW := Lib.hid (awake_calls w hE)
  have HE := Lib.hid hE
  clear hE
  by_cases hbig : 4096 < s.size
  · have hdz : decide ((s.size : Int) > 4096) = true := by simp; omega
    go_enter Tryz.func3, Tryz.ntmps3
    go_wp2_with fail
    with_reducible refine HAW.out.mono ?_
    rintro e w1 ⟨rfl, hb1⟩
    have HB1 := Lib.hid hb1
    clear hb1
    go_wp2
    go_ret
    exact ⟨rfl, HB1.out⟩
  · have hdz : decide ((s.size : Int) > 4096) = false := by simp; omega
    obtain ⟨d, rfl⟩ : ∃ d, strB d = s := ⟨s.data.toList, strB_back s⟩
    have hd : d.length ≤ 4096 := by rw [strB_size] at hbig; omega
    have HPS := Lib.hid (fun (W : World) (hb1 : Below w.heap.size w W) => parse_calls d W (by omega) (HE.out.env.below hb1))
    have HRP := Lib.hid (fun (W : World) => rparse_calls d W (by omega))
    unfold ParseOut at HPS
    unfold RParseOut at HRP
    have HFEW : Hid (∀ l, parseW d = .ok l → (∀ r ∈ l, RlFew r) ∧ mayW l = true) := Lib.hid (fun l hl => ⟨parse_few hl (by omega), parseW_may hl⟩)
    have HCD : Hid (∀ c n, parseW d = .error (c, n) → c = 20 ∨ c = 21) := Lib.hid (fun c n hc => goW_code hc)
    obtain ⟨z, hz⟩ : ∃ z, strB d = z := ⟨_, rfl⟩
    rw [hz] at HPS HRP hdz ⊢
    clear hbig hd hz
    go_enter Tryz.func3, Tryz.ntmps3
    go_wp2_with fail
    with_reducible refine HAW.out.mono ?_
    rintro e w1 ⟨rfl, hb1⟩
    have HB1 := Lib.hid hb1
    have HP1 := Lib.hid (HPS.out w1 hb1)
    clear hb1 HAW HPS
    go_wp2_with fail
    with_reducible refine HP1.out.mono ?_
    rintro e w2 ⟨v, ev, rfl, hb2, ⟨l, hl, hin, rfl⟩ | ⟨c, n, hl, rfl, he⟩⟩
    · obtain ⟨hfew, hmay⟩ := HFEW.out l hl
      have HL := Lib.hid hl
      have HIN := Lib.hid hin.any
      obtain ⟨la, lc, rfl, _⟩ := hin.form
      obtain ⟨k, hk⟩ : ∃ k, l.length = k := ⟨_, rfl⟩
      rw [hk] at HIN ⊢
      have HB2 := Lib.hid (below_then HB1.out hb2)
      have HR2 := Lib.hid (HRP.out w2)
      have HFW := Lib.hid hfew
      have HMY := Lib.hid hmay
      have HKK := Lib.hid hk
      clear hb2 HP1 HRP hl hin hfew hmay hk
      go_wp2_with fail
      with_reducible refine HR2.out.mono ?_
      rintro e w3 ⟨rv, c, n, rfl, hb3, ⟨l2, hl2, hin2, rfl, rfl⟩ | ⟨c', n', hl2, _⟩⟩
      case inr => rw [HL.out] at hl2; cases hl2
      rw [HL.out] at hl2
      injection hl2 with hl2
      subst hl2
      have HB3 := Lib.hid (below_then HB2.out hb3)
      have HIN3 := Lib.hid (HIN.out.below hb3)
      obtain ⟨ra, rc, rfl, _⟩ := hin2.form
      have HJN3 := Lib.hid hin2
      rw [HKK.out] at HJN3 ⊢
      have HC := Lib.hid (code_calls (B := 0) 0 0 .nilIface w3 (.inl ⟨rfl, rfl⟩) (HE.out.handle.below HB3.out))
      have HA := Lib.hid (fun (W : World) (hb4 : Below w3.heap.size w3 W) => at_calls (B := 0) 0 0 .nilIface W (.inl ⟨rfl, rfl⟩) (HE.out.handle.below (below_then HB3.out hb4)))
      have HRU := Lib.hid (fun (W : World) (hb4 : Below w3.heap.size w3 W) => rules_calls (HIN3.out.below hb4) (HJN3.out.below hb4))
      have HMA := Lib.hid (fun (W : World) (hb4 : Below w3.heap.size w3 W) => may_calls (HIN3.out.below hb4) HFW.out (HE.out.env.below (below_then HB3.out hb4)))
      rw [if_pos rfl] at HA
      rw [HMY.out] at HMA
      clear hb3 hin2 HR2
      go_wp2_with fail
      with_reducible refine HC.out.mono ?_
      rintro e w4 ⟨rfl, hb4⟩
      have HB4 := Lib.hid hb4
      clear hb4 HC
      go_wp2_with fail
      with_reducible refine (HA.out w4 HB4.out).mono ?_
      rintro e w5 ⟨rfl, hb5⟩
      have HB5 := Lib.hid (below_then HB4.out hb5)
      clear hb5 HA
      go_wp2_with fail
      with_reducible refine (HRU.out w5 HB5.out).mono ?_
      rintro e w6 ⟨rfl, hb6⟩
      have HB6 := Lib.hid (below_then HB5.out hb6)
      clear hb6 HRU
      go_wp2_with fail
      with_reducible refine (HMA.out w6 HB6.out).mono ?_
      rintro e w7 ⟨rfl, hb7⟩
      have HB7 := Lib.hid (below_then HB3.out (below_then HB6.out hb7))
      clear hb7 HMA
      go_wp2
      go_ret
      exact ⟨rfl, HB7.out⟩
    · have hcd := HCD.out c n hl
      have HL := Lib.hid hl
      have HB2 := Lib.hid (below_then HB1.out hb2)
      have HR2 := Lib.hid (HRP.out w2)
      have HEA := Lib.hid he
      have hc0 : ((c : Nat) : Int) ≠ 0 := by omega
      obtain ⟨eb, rfl⟩ : ∃ eb, ev = .iface 91 (.pointer (some ⟨eb, 0, none⟩)) := by
        rcases he with ⟨h0, _⟩ | ⟨_, eb, h1, _⟩
        · exact absurd h0 hc0
        · exact ⟨eb, h1⟩
      clear hb2 HP1 HRP hl he hcd
      go_wp2_with fail
      with_reducible refine HR2.out.mono ?_
      rintro e w3 ⟨rv, c2, n2, rfl, hb3, ⟨l2, hl2, _⟩ | ⟨c', n', hl2, rfl, rfl, rfl⟩⟩
      case inl => rw [HL.out] at hl2; cases hl2
      rw [HL.out] at hl2
      injection hl2 with hl2
      injection hl2 with hl3 hl4
      subst hl3 hl4
      have HB3 := Lib.hid (below_then HB2.out hb3)
      have HEA3 := Lib.hid (HEA.out.below hb3)
      have HC := Lib.hid (code_calls _ _ _ w3 HEA3.out (HE.out.handle.below HB3.out))
      have HA := Lib.hid (fun (W : World) (hb4 : Below w3.heap.size w3 W) => at_calls _ _ _ W (HEA3.out.below hb4) (HE.out.handle.below (below_then HB3.out hb4)))
      have HRU := Lib.hid (fun (W : World) => rules_calls (w := W) (RlsIn.nil W Any) (RlsIn.nil W Any))
      rw [if_neg hc0] at HA
      have hcc : (((c : Nat) : Int) == ((c : Nat) : Int)) = true := by simp
      have hnn : (((n : Nat) : Int) == ((n : Nat) : Int)) = true := by simp
      have hne : (((c : Nat) : Int) != 0) = true := by rw [bne_iff_ne]; exact hc0
      clear hb3 HR2
      go_wp2_with fail
      with_reducible refine HC.out.mono ?_
      rintro e w4 ⟨rfl, hb4⟩
      have HB4 := Lib.hid hb4
      clear hb4 HC
      go_wp2_with fail
      with_reducible refine (HA.out w4 HB4.out).mono ?_
      rintro e w5 ⟨rfl, hb5⟩
      have HB5 := Lib.hid (below_then HB4.out hb5)
      clear hb5 HA
      go_wp2_with fail
      with_reducible refine (HRU.out w5).mono ?_
      rintro e w6 ⟨rfl, hb6⟩
      have HB6 := Lib.hid (below_then HB3.out (below_then HB5.out hb6))
      clear hb6 HRU
      go_wp2
      go_ret
      exact ⟨rfl, HB6.out⟩

end Go.Proofs.YtojpjhfafbdpcaaGreatDoor
