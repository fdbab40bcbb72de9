/-
  A document's declaration, taken off a scan that stands at its beginning. Conditions: the scan lies in memory, the laid variables hold what their initialisers lay. Package fault's New and Wrap, the error of a code and a place, wrapped once. No condition. Whether a document's bytes are right; and what the deferred call of All leaves of what is thrown. Conditions: the document lies in memory, the laid variables hold what their initialisers lay.
-/
import Derived.Test.YtfonflbpkbibbaaGreatDoorXD
import Derived.Test.YtfonflbpkbibbaaGreatDoorXP
import Derived.Lib.SlBytesRowKit
import Derived.Test.YtfonflbpkbibbaaGreatDoorXB
import Derived.Defers
import Derived.Recover
import Derived.Laws.ResultCell
namespace Go.Proofs.YtfonflbpkbibbaaGreatDoor
open Go.RowKit Go.Lib Go.Joins

theorem ScAt.bytes {w : World} {B : Nat} {a : Option Addr} {c : Nat} {l : List UInt8} {i : Nat} {t : List UInt8} (h : ScAt w B a c l i t) : Lib.BytesIn w a l.length (intsB l) := by
  intro hpos
  rcases h.row with h1 | ⟨b, o, h1, _, h3⟩
  · omega
  · refine ⟨b, o, h1, fun k hk => ?_⟩
    rw [h3 k hk, intsB_getD _ _ hk]
theorem prefix_split {m l : List UInt8} (h : m.isPrefixOf l = true) : l = m ++ l.drop m.length := by
  obtain ⟨r, rfl⟩ := List.isPrefixOf_iff_prefix.1 h
  rw [List.drop_left]
theorem cutp_bytes {W : World} {B : Nat} {a : Option Addr} {c : Nat} {l : List UInt8} {i : Nat} {t : List UInt8} (h : ScAt W B a c l i t) (m : List UInt8) (p : Option Addr) (mc : Nat) (h2 : Lib.BytesIn W p m.length (intsB m)) : Calls Tryz.prog 91 #[.slice a l.length c, .slice p m.length mc] W (fun e w' => e = .returned (.tuple #[if m.isPrefixOf l = true then .slice (tailA a c m.length) (l.length - m.length) (c - m.length) else .slice a l.length c, .bool (m.isPrefixOf l)]) ∧ w' = W) := by
  refine (Tryz.bytes_CutPrefix_all a p l.length c m.length mc (intsB l) (intsB m) W (intsB_len l) (intsB_len m) h.cap h.bytes h2).mono ?_
  rintro e w' ⟨rfl, rfl⟩
  refine ⟨?_, rfl⟩
  rw [trimPrefixV_eq (intsB_len l) h.bytes, bytesOf_ints, bytesOf_ints, intsB_len]
  rfl
def xmlB : List UInt8 := [60, 63, 120, 109, 108]
theorem upToS_len {m : List UInt8} {i : Nat} {t x : List UInt8} {j : Nat} {u : List UInt8} (h : upToS m i t = .ok x j u) : x.length ≤ t.length := by
  unfold upToS at h
  cases hc : cutS m t with
  | none => rw [hc] at h; cases h
  | some q =>
    rw [hc] at h
    cases h
    have := cutS_le m hc
    exact Nat.le_trans (eols_length _) this.1
def declR : Sx (List UInt8) → Sx Unit
  | .ok u j t => if declaresS u = true then .ok () j t else .no 2 0
  | .no cd p => .no cd p
theorem declS_eq (b : List UInt8) : declS b = if xmlB.isPrefixOf b = true then (match b.drop 5 with | [] => .ok () 0 b | x :: t => if blankB (x.toNat : Int) = true then declR (upToS [63, 62] 5 (x :: t)) else .ok () 0 b) else .ok () 0 b := by
  unfold declS
  rw [show ([60, 63, 120, 109, 108] : List UInt8) = xmlB from rfl]
  by_cases h : xmlB.isPrefixOf b = true
  · rw [if_pos h]
    cases hd : b.drop 5 with
    | nil => rw [if_neg (by simp)]
    | cons x t =>
      dsimp only
      by_cases h2 : blankB (x.toNat : Int) = true
      · rw [if_pos ⟨h, h2⟩, if_pos h2]
        cases upToS [63, 62] 5 (x :: t) <;> rfl
      · rw [if_neg (fun h3 => h2 h3.2), if_neg h2]
  · rw [if_neg (fun h3 => h h3.1), if_neg h]
set_option maxRecDepth 100000 in
set_option maxHeartbeats 8000000 in
theorem declaration_calls {w : World} {B : Nat} {a : Option Addr} {c : Nat} {l : List UInt8} (h : ScAt w B a c l 0 l) (hE : EnvAt w) (hB : 15 ≤ B) : Calls Tryz.prog 63 #[.pointer (some ⟨B, 0, none⟩)] w (ScOut w B a c l (fun _ : Unit => .tuple #[]) (declS l)) := by
  rw [declS_eq]
  obtain ⟨e0, e1⟩ := h.cells
  have hfew := h.few
  have hcap := h.cap
  have HS := Lib.hid h
  have HE := Lib.hid hE
  have kc := fun (w : World) (C : Array Value) (n c : Nat) => Lib.run_convert_bytes_const (P := Tryz.prog) w 22 5 C n c Tryz.underlying22 Tryz.underlying5
  have HPR : Hid (∀ W, Below w.heap.size w W → ∀ mb, Lib.BytesIn W (some ⟨mb, 0, none⟩) 5 (intsB xmlB) → Calls Tryz.prog 91 #[.slice a l.length c, .slice (some ⟨mb, 0, none⟩) 5 5] W (fun e w' => e = .returned (.tuple #[if xmlB.isPrefixOf l = true then .slice (tailA a c 5) (l.length - 5) (c - 5) else .slice a l.length c, .bool (xmlB.isPrefixOf l)]) ∧ w' = W)) := Lib.hid (fun W hb mb h2 => cutp_bytes (HS.out.keep hb) xmlB _ 5 h2)
  have HBY : Hid (∀ W : World, Lib.BytesIn (W.alloc (.cells #[.int .u8 60, .int .u8 63, .int .u8 120, .int .u8 109, .int .u8 108] 5 (5, 6))) (some ⟨W.heap.size, 0, none⟩) 5 (intsB xmlB)) := Lib.hid (fun W _ => ⟨W.heap.size, 0, rfl, fun k hk => by
    rw [World.cell?_alloc_mark]
    rcases k with _ | _ | _ | _ | _ | k
    · rfl
    · rfl
    · rfl
    · rfl
    · rfl
    · omega⟩)
  by_cases hp : xmlB.isPrefixOf l = true
  · rw [if_pos hp]
    rw [hp, if_pos rfl] at HPR
    have hsp := prefix_split hp
    rw [show xmlB.length = 5 from rfl] at hsp
    have hl5 := congrArg List.length hsp
    rw [List.length_append, show xmlB.length = 5 from rfl] at hl5
    have HTL := Lib.hid (fun W (hb : Below w.heap.size w W) => ((HS.out.keep hb).tail 5 (by omega)).1)
    obtain ⟨ta, hta⟩ : ∃ x, tailA a c 5 = x := ⟨_, rfl⟩
    rw [hta] at HPR HTL
    obtain ⟨r, hr⟩ : ∃ r, l.drop 5 = r := ⟨_, rfl⟩
    rw [hr] at HTL hl5 ⊢
    obtain ⟨n, hn⟩ : ∃ n, l.length = n := ⟨_, rfl⟩
    obtain ⟨nr, hnr⟩ : ∃ x, n - 5 = x := ⟨_, rfl⟩
    obtain ⟨cr, hcr⟩ : ∃ x, c - 5 = x := ⟨_, rfl⟩
    rw [hn] at e0 hfew hcap HPR HTL hl5
    rw [hnr] at HPR HTL
    rw [hcr] at HPR
    have HR := Lib.hid hr
    have HN := Lib.hid hn
    have hnrr : nr = r.length := by omega
    cases r with
    | nil =>
      have h0 : nr = 0 := hnrr
      subst h0
      clear HTL hsp hnr hcr hnrr hr hn hp
      dsimp only
      have HF : Hid (∀ W, Below w.heap.size w W → ScOut w B a c l (fun _ : Unit => .tuple #[]) (.ok () 0 l) (.returned (.tuple #[])) W) := Lib.hid (fun W hb => ⟨rfl, HS.out.keep hb, keeps_below hb _⟩)
      clear h hE hfew hcap hl5
      go_enter Tryz.func63, Tryz.ntmps63
      go_wp2_with fail
      have HB0 : Hid (Below w.heap.size w (w.alloc (.cells #[.int .u8 60, .int .u8 63, .int .u8 120, .int .u8 109, .int .u8 108] 5 (5, 6)))) := Lib.hid (Below.alloc ⟨rfl, rfl, rfl, Nat.le_refl _, fun _ _ => rfl⟩ (Nat.le_refl _) _)
      with_reducible refine (HPR.out _ HB0.out _ (HBY.out w)).mono ?_
      rintro e wx ⟨rfl, hx⟩
      have HBx : Hid (Below w.heap.size w wx) := Lib.hid (by rw [hx]; exact HB0.out)
      clear hx HB0
      go_wp2_with fail
      go_end0
      exact HF.out _ HBx.out
    | cons x t =>
      dsimp only
      rw [List.length_cons] at hnrr hl5
      have hpos : ((nr : Int) == 0) = false := by
        rw [beq_eq_false_iff_ne]
        omega
      have hp1 : (0 : Int) < (nr : Int) := by omega
      obtain ⟨tb, tof, hta2, hcell⟩ : ∃ b o, ta = some ⟨b, o, none⟩ ∧ ∀ W, Below w.heap.size w W → W.cell? ⟨b, o, none⟩ = some (.int .u8 (x.toNat : Int)) := by
        obtain ⟨b, o, h1, h2⟩ := HTL.out w ⟨rfl, rfl, rfl, Nat.le_refl _, fun _ _ => rfl⟩ (by omega)
        refine ⟨b, o, h1, fun W hb => ?_⟩
        obtain ⟨b', o', h1', h2'⟩ := HTL.out W hb (by omega)
        rw [h1] at h1'
        cases h1'
        have := h2' 0 (by omega)
        rw [Nat.add_zero] at this
        rw [this]
        rfl
      rw [hta2] at HPR
      have HCELL := Lib.hid hcell
      have hwr : IntKind.i32.wrap (x.toNat : Int) = (x.toNat : Int) := IntWalk.i32_in _ (by have := x.toNat_lt; omega)
      obtain ⟨bl, hbl⟩ : ∃ y, blankB (x.toNat : Int) = y := ⟨_, rfl⟩
      have HBL := Lib.hid (fun W => blank_calls (x.toNat : Int) W)
      rw [hbl] at HBL ⊢
      obtain ⟨xn, hxn⟩ : ∃ y : Int, (x.toNat : Int) = y := ⟨_, rfl⟩
      rw [hxn] at HCELL hwr HBL
      clear hcell hta hta2 HTL hsp hcr hr hn hp hxn hbl
      cases bl with
      | false =>
        rw [if_neg (by decide)]
        have HF : Hid (∀ W, Below w.heap.size w W → ScOut w B a c l (fun _ : Unit => .tuple #[]) (.ok () 0 l) (.returned (.tuple #[])) W) := Lib.hid (fun W hb => ⟨rfl, HS.out.keep hb, keeps_below hb _⟩)
        clear h hE hfew hcap hl5 hnrr hnr
        go_enter Tryz.func63, Tryz.ntmps63
        go_wp2_with fail
        have HB0 : Hid (Below w.heap.size w (w.alloc (.cells #[.int .u8 60, .int .u8 63, .int .u8 120, .int .u8 109, .int .u8 108] 5 (5, 6)))) := Lib.hid (Below.alloc ⟨rfl, rfl, rfl, Nat.le_refl _, fun _ _ => rfl⟩ (Nat.le_refl _) _)
        with_reducible refine (HPR.out _ HB0.out _ (HBY.out w)).mono ?_
        rintro e wx ⟨rfl, hx⟩
        have HBx : Hid (Below w.heap.size w wx) := Lib.hid (by rw [hx]; exact HB0.out)
        clear hx HB0
        have e5 := HCELL.out _ HBx.out
        go_wp2_with fail
        with_reducible refine (HBL.out _).mono ?_
        rintro e wy ⟨rfl, hy⟩
        have hy' := hy.symm
        subst hy'
        clear hy
        go_wp2_with fail
        go_end0
        exact HF.out _ HBx.out
      | true =>
        rw [if_pos rfl]
        have hsub : IntKind.i64.wrap ((n : Int) - (nr : Int)) = ((5 : Nat) : Int) := by
          rw [show ((n : Int) - (nr : Int)) = 5 by omega]
          exact IntWalk.i64_in _ (by omega)
        obtain ⟨Q, hQ⟩ : ∃ Q, upToS [63, 62] 5 (x :: t) = Q := ⟨_, rfl⟩
        have HQ := Lib.hid hQ
        have HR5 : Hid (x :: t = l.drop 5 ∧ 5 ≤ l.length) := Lib.hid ⟨HR.out.symm, by rw [HN.out]; omega⟩
        rw [hQ]
        clear h hE hfew hcap hl5 hnrr hnr hQ
        go_enter Tryz.func63, Tryz.ntmps63
        go_wp2_with fail
        have HB0 : Hid (Below w.heap.size w (w.alloc (.cells #[.int .u8 60, .int .u8 63, .int .u8 120, .int .u8 109, .int .u8 108] 5 (5, 6)))) := Lib.hid (Below.alloc ⟨rfl, rfl, rfl, Nat.le_refl _, fun _ _ => rfl⟩ (Nat.le_refl _) _)
        with_reducible refine (HPR.out _ HB0.out _ (HBY.out w)).mono ?_
        rintro e wx ⟨rfl, hx⟩
        have HBx : Hid (Below w.heap.size w wx) := Lib.hid (by rw [hx]; exact HB0.out)
        clear hx HB0
        have e5 := HCELL.out _ HBx.out
        go_wp2_with fail
        with_reducible refine (HBL.out _).mono ?_
        rintro e wy ⟨rfl, hy⟩
        have hy' := hy.symm
        subst hy'
        clear hy
        have f1 := unfrozen_of_block (HS.out.keep HBx.out).blk 1
        obtain ⟨z0, z1⟩ := (HS.out.keep HBx.out).cells
        rw [HN.out] at z0
        clear e0 e1
        go_wp2_with fail
        have HP := Lib.hid ((HS.out.keep HBx.out).place HR5.out.2 HR5.out.1)
        have HK2 : Hid (Keeps (One B) w (wx.setCell ⟨B, 1, none⟩ (.int .i64 ((5 : Nat) : Int)))) := Lib.hid ((keeps_below HBx.out (One B)).trans HP.out.2 (fresh_refl _ _))
        have HS2 := Lib.hid HP.out.1
        clear HP
        rw [show ((5 : Nat) : Int) = 5 from rfl] at HS2 HK2
        obtain ⟨w2, hw2⟩ : ∃ W, wx.setCell ⟨B, 1, none⟩ (.int .i64 5) = W := ⟨_, rfl⟩
        rw [hw2] at HS2 HK2 ⊢
        clear hw2 e5 f1
        have HUP := Lib.hid (upTo_at HS2.out (HE.out.keeps HK2.out hB) hB [63, 62] ⟨#[63, 62]⟩ rfl (by decide) (by decide))
        rw [HQ.out] at HUP
        with_reducible refine HUP.out.mono ?_
        clear HUP
        cases Q with
        | no cd p =>
          rintro e w3 ⟨rfl, hk⟩
          have HF : Hid (ScOut w B a c l (fun _ : Unit => .tuple #[]) (declR (.no cd p)) (.panicked [{ v := wrongV cd p, recovered := false }]) w3) := Lib.hid ⟨rfl, HK2.out.trans hk (fresh_refl _ _)⟩
          clear hk
          go_wp2_with fail
          exact ⟨rfl, HF.out⟩
        | ok u j t2 =>
          rintro e w3 ⟨rfl, hs3, hk⟩
          have HK3 : Hid (Keeps (One B) w w3) := Lib.hid (HK2.out.trans hk (fresh_refl _ _))
          have HS3 := Lib.hid hs3
          clear hs3 hk
          have HD := Lib.hid (declares_calls u w3 (by
            have h1 := upToS_len HQ.out
            rw [HR5.out.1, List.length_drop] at h1
            have := HS.out.few
            omega) (HE.out.keeps HK3.out hB))
          dsimp only
          obtain ⟨us, hus⟩ : ∃ x, strB u = x := ⟨_, rfl⟩
          rw [hus] at HD ⊢
          clear hus
          obtain ⟨D, hD⟩ : ∃ D, declaresS u = D := ⟨_, rfl⟩
          have HDD := Lib.hid hD
          rw [hD] at HD
          go_wp2_with fail
          with_reducible refine HD.out.mono ?_
          rintro e w4 ⟨rfl, hb⟩
          have HB4 := Lib.hid hb
          clear hb
          cases D with
          | false =>
            have HF : Hid (ScOut w B a c l (fun _ : Unit => .tuple #[]) (declR (.ok u j t2)) (.panicked [{ v := wrongV 2 0, recovered := false }]) w4) := Lib.hid (by
              rw [declR, if_neg (by rw [HDD.out]; decide)]
              exact ⟨rfl, HK3.out.trans (keeps_below HB4.out Non) (fresh_non _ _)⟩)
            go_wp2_with fail
            exact ⟨rfl, HF.out⟩
          | true =>
            have HF : Hid (ScOut w B a c l (fun _ : Unit => .tuple #[]) (declR (.ok u j t2)) (.returned (.tuple #[])) w4) := Lib.hid (by
              rw [declR, if_pos HDD.out]
              exact ⟨rfl, HS3.out.keep HB4.out, HK3.out.trans (keeps_below HB4.out Non) (fresh_non _ _)⟩)
            go_wp2_with fail
            go_end0
            exact HF.out
  · rw [if_neg hp]
    have hpf : xmlB.isPrefixOf l = false := by
      cases h9 : xmlB.isPrefixOf l with
      | true => exact absurd h9 hp
      | false => rfl
    rw [hpf, if_neg (by decide)] at HPR
    have HF : Hid (∀ W, Below w.heap.size w W → ScOut w B a c l (fun _ : Unit => .tuple #[]) (.ok () 0 l) (.returned (.tuple #[])) W) := Lib.hid (fun W hb => ⟨rfl, HS.out.keep hb, keeps_below hb _⟩)
    obtain ⟨n, hn⟩ : ∃ n, l.length = n := ⟨_, rfl⟩
    rw [hn] at HPR e0
    clear h hE hfew hcap hp hpf hn
    go_enter Tryz.func63, Tryz.ntmps63
    go_wp2_with fail
    have HB0 : Hid (Below w.heap.size w (w.alloc (.cells #[.int .u8 60, .int .u8 63, .int .u8 120, .int .u8 109, .int .u8 108] 5 (5, 6)))) := Lib.hid (Below.alloc ⟨rfl, rfl, rfl, Nat.le_refl _, fun _ _ => rfl⟩ (Nat.le_refl _) _)
    with_reducible refine (HPR.out _ HB0.out _ (HBY.out w)).mono ?_
    rintro e wx ⟨rfl, hx⟩
    have HBx : Hid (Below w.heap.size w wx) := Lib.hid (by rw [hx]; exact HB0.out)
    clear hx HB0
    go_wp2_with fail
    go_end0
    exact HF.out _ HBx.out
end Go.Proofs.YtfonflbpkbibbaaGreatDoor
namespace Go.Proofs.YtfonflbpkbibbaaGreatDoor
open Go.RowKit Go.Lib

/-- A plain error's value. -/
def plainV (c a : Int) : Value := .iface 69 (.agg #[.int .i64 c, .int .i64 a])
def segS : ByteArray := ⟨#[120, 109, 108]⟩
/-- The error of a code and a number, wrapped once; none, if the code is 0. -/
def ErrAt (B : Nat) (w : World) (c n : Int) (v : Value) : Prop :=
  (c = 0 ∧ v = .nilIface) ∨ (c ≠ 0 ∧ ∃ b, v = .iface 115 (.pointer (some ⟨b, 0, none⟩)) ∧ w.cell? ⟨b, 0, none⟩ = some (.string segS) ∧ w.cell? ⟨b, 1, none⟩ = some (plainV c n) ∧ B ≤ b)
theorem ErrAt.low {B B' : Nat} {w : World} {c n : Int} {v : Value} (h : ErrAt B w c n v) (hB : B' ≤ B) : ErrAt B' w c n v := by
  rcases h with h | ⟨h0, b, h1, h2, h3, h4⟩
  · exact .inl h
  · exact .inr ⟨h0, b, h1, h2, h3, Nat.le_trans hB h4⟩
theorem ErrAt.below {B : Nat} {w w' : World} {c n : Int} {v : Value} (h : ErrAt B w c n v) (hb : Below w.heap.size w w') : ErrAt B w' c n v := by
  rcases h with h | ⟨h0, b, h1, h2, h3, h4⟩
  · exact .inl h
  · exact .inr ⟨h0, b, h1, (hb.cell (p := ⟨b, 0, none⟩) (lt_of_cell h2)).trans h2, (hb.cell (p := ⟨b, 1, none⟩) (lt_of_cell h3)).trans h3, h4⟩

theorem new_ok (a : Int) (w : World) : Calls Tryz.prog 51 #[.int .i64 0, .int .i64 a] w fun e w' => e = .returned .nilIface ∧ w = w' := by
  go_enter Tryz.func51, Tryz.ntmps51
  go_wp2
  go_ret
  exact ⟨rfl, rfl⟩
theorem new_code (c a : Int) (w : World) (hc : (c == 0) = false) : Calls Tryz.prog 51 #[.int .i64 c, .int .i64 a] w fun e w' => e = .returned (plainV c a) ∧ w = w' := by
  go_enter Tryz.func51, Tryz.ntmps51
  go_wp2
  go_ret
  exact ⟨rfl, rfl⟩
theorem wrap_nil (s : ByteArray) (w : World) : Calls Tryz.prog 50 #[.string s, .nilIface] w fun e w' => e = .returned .nilIface ∧ w = w' := by
  go_enter Tryz.func50, Tryz.ntmps50
  go_wp2
  go_ret
  exact ⟨rfl, rfl⟩
theorem wrap_some (s : ByteArray) (T : TypeId) (v : Value) (w : World) : Calls Tryz.prog 50 #[.string s, .iface T v] w fun e w' =>
    e = .returned (.iface 115 (.pointer (some ⟨w.heap.size, 0, none⟩))) ∧ w.alloc (.cells #[.string s, .iface T v] 117) = w' := by
  go_enter Tryz.func50, Tryz.ntmps50
  go_wp2
  go_ret
  exact ⟨rfl, rfl⟩

end Go.Proofs.YtfonflbpkbibbaaGreatDoor
namespace Go.Proofs.YtfonflbpkbibbaaGreatDoor
open Go.RowKit Go.Lib Go.Joins

/-- What check leaves. -/
def ChkOut (l : List UInt8) (w : World) (e : Ending) (w' : World) : Prop :=
  (if 65536 < l.length then e = .panicked [{ v := wrongV 8 65536, recovered := false }] else if 0 ≤ badZ (fs l) l.length then e = .panicked [{ v := wrongV 1 (badZ (fs l) l.length).toNat, recovered := false }] else e = .returned (.tuple #[])) ∧ Below w.heap.size w w'
set_option maxRecDepth 100000 in
set_option maxHeartbeats 4000000 in
theorem check_calls {w : World} (a : Option Addr) (c : Nat) (l : List UInt8) (hr : Row8 w a l.length (fs l)) (hc : l.length ≤ c) (hc2 : c ≤ 9223372036854775807) (hL : Laid w) : Calls Tryz.prog 62 #[.slice a l.length c] w (ChkOut l w) := by
  by_cases h1 : 65536 < l.length
  · have HF : Hid (ChkOut l w (.panicked [{ v := wrongV 8 65536, recovered := false }]) w) := Lib.hid ⟨by rw [if_pos h1], Below.refl _ _⟩
    obtain ⟨n, hn⟩ : ∃ n, l.length = n := ⟨_, rfl⟩
    rw [hn] at h1 ⊢
    have hz : (65536 : Int) < (n : Int) := by omega
    clear hr hL hn hc hc2
    go_enter Tryz.func62, Tryz.ntmps62
    go_wp2_with fail
    exact ⟨rfl, HF.out⟩
  · have HB := Lib.hid (bad_calls a l.length c (fs l) w hL hc hc2 hr (by omega))
    obtain ⟨z, hz⟩ : ∃ z, badZ (fs l) l.length = z := ⟨_, rfl⟩
    have HZ := Lib.hid hz
    have HN1 := Lib.hid h1
    rw [hz] at HB
    obtain ⟨n, hn⟩ : ∃ n, l.length = n := ⟨_, rfl⟩
    have HN := Lib.hid hn
    rw [hn] at h1 HB ⊢
    have hz1 : ¬ ((65536 : Int) < (n : Int)) := by omega
    clear hr hL hn hc hc2 hz
    by_cases h2 : 0 ≤ z
    · have HF : Hid (∀ w', Below w.heap.size w w' → ChkOut l w (.panicked [{ v := .iface 102 (.agg #[.int .i64 1, .int .i64 z]), recovered := false }]) w') := Lib.hid (fun w' hb => ⟨by
        rw [if_neg HN1.out, HZ.out, if_pos h2]
        unfold wrongV
        rw [Int.toNat_of_nonneg h2]
        rfl, hb⟩)
      go_enter Tryz.func62, Tryz.ntmps62
      go_wp2_with fail
      with_reducible refine HB.out.mono ?_
      rintro e w1 ⟨rfl, hb⟩
      have HF1 := Lib.hid (HF.out w1 hb)
      clear hb
      go_wp2_with fail
      exact ⟨rfl, HF1.out⟩
    · have HF : Hid (∀ w', Below w.heap.size w w' → ChkOut l w (.returned (.tuple #[])) w') := Lib.hid (fun w' hb => ⟨by
        rw [if_neg HN1.out, HZ.out, if_neg h2], hb⟩)
      go_enter Tryz.func62, Tryz.ntmps62
      go_wp2_with fail
      with_reducible refine HB.out.mono ?_
      rintro e w1 ⟨rfl, hb⟩
      have HF1 := Lib.hid (HF.out w1 hb)
      clear hb
      go_wp2_with fail
      go_end0
      exact HF1.out

theorem catch_idle2 (p q : Addr) (w : World) :
    CallsD Tryz.prog 61 #[.pointer (some p), .pointer (some q)] .returning w fun e u' w' => e = .returned (.tuple #[]) ∧ u' = .returning ∧ w' = w := by
  refine callsD_of_wpS Tryz.func61 rfl fun c₀ cs hu => ?_
  apply wpS_seq
  apply wpS_region
  simp [wpOpsS, go_sem, recoverD, hu, Tryz.ntmps61, Exit.thenS]
  refine wpS_of_wp ?_
  simp only [Array.replicate_succ, Array.replicate_zero, List.push_toArray, List.nil_append, List.cons_append]
  go_wp2_with fail
  cases c₀
  simp_all [bodyPostS, results, Tryz.results61]

/-- What the deferred call leaves of what was thrown. -/
def CaughtOut (p q : Nat) (cd pl : Nat) (older : List PanicEntry) (w : World) (e : Ending) (u' : FrameMode) (w' : World) : Prop :=
  e = .returned (.tuple #[]) ∧ u' = .panicking ({ v := wrongV cd pl, recovered := true } :: older) ∧ ∃ w1 b, Below w.heap.size w w1 ∧ w.heap.size ≤ b ∧ w1.cell? ⟨b, 0, none⟩ = some (.string segS) ∧ w1.cell? ⟨b, 1, none⟩ = some (plainV cd pl) ∧
    w' = (w1.setCell ⟨p, 0, none⟩ (.slice none 0 0)).setCell ⟨q, 0, none⟩ (.iface 115 (.pointer (some ⟨b, 0, none⟩)))
set_option maxRecDepth 100000 in
set_option maxHeartbeats 4000000 in
theorem catch_wrong (p q : Nat) (cd pl : Nat) (hcd : cd ≠ 0) (older : List PanicEntry) (x y : Value) (w : World) (h0 : w.cell? ⟨p, 0, none⟩ = some x) (h1 : w.cell? ⟨q, 0, none⟩ = some y) (f0 : w.frozen? ⟨p, 0, none⟩ = false) (f1 : w.frozen? ⟨q, 0, none⟩ = false) (hpq : p ≠ q) :
    CallsD Tryz.prog 61 #[.pointer (some ⟨p, 0, none⟩), .pointer (some ⟨q, 0, none⟩)] (.panicking ({ v := wrongV cd pl, recovered := false } :: older)) w (CaughtOut p q cd pl older w) := by
  have HC := Lib.hid hcd
  have hz : ((cd : Int) == 0) = false := by
    rw [beq_eq_false_iff_ne]
    omega
  have hp := lt_of_cell h0
  have hq := lt_of_cell h1
  refine callsD_of_wpS Tryz.func61 rfl fun c₀ cs hu => ?_
  have HF : Hid (∀ a w', a.defers = [] → (∃ w1 b, Below w.heap.size w w1 ∧ w.heap.size ≤ b ∧ w1.cell? ⟨b, 0, none⟩ = some (.string segS) ∧ w1.cell? ⟨b, 1, none⟩ = some (plainV cd pl) ∧ w' = (w1.setCell ⟨p, 0, none⟩ (.slice none 0 0)).setCell ⟨q, 0, none⟩ (.iface 115 (.pointer (some ⟨b, 0, none⟩)))) →
      bodyPostS Tryz.prog Tryz.f61 c₀ cs (CaughtOut p q cd pl older w) .normal a ({ c₀ with mode := .panicking ({ v := wrongV cd pl, recovered := true } :: older) } :: cs) w') := Lib.hid (fun a w' hd h => ⟨hd, _, rfl, _, by simp [results, Tryz.results61, go_sem], rfl, rfl, h⟩)
  apply wpS_seq
  apply wpS_region
  simp [wpOpsS, go_sem, recoverD, hu, Tryz.ntmps61, Exit.thenS]
  refine wpS_of_wp ?_
  simp only [Array.replicate_succ, Array.replicate_zero, List.push_toArray, List.nil_append, List.cons_append]
  unfold wrongV at HF ⊢
  have hta : ∀ w : World, (Instr.typeAssert (.iface 102 (.agg #[.int .i64 (cd : Int), .int .i64 (pl : Int)])) 20 102 true).run Tryz.prog w = .ok (.tuple #[.agg #[.int .i64 (cd : Int), .int .i64 (pl : Int)], .bool true]) w := fun _ => by kernel_rfl
  have HN := Lib.hid (fun W => new_code (cd : Int) (pl : Int) W hz)
  have HWr := Lib.hid (fun W => wrap_some segS 69 (.agg #[.int .i64 (cd : Int), .int .i64 (pl : Int)]) W)
  unfold segS at HWr
  go_wp2_with fail
  obtain ⟨wa, hwa⟩ : ∃ W, w.alloc (.cells #[.int .i64 (cd : Int), .int .i64 (pl : Int)] 102) = W := ⟨_, rfl⟩
  have HBA : Hid (Below w.heap.size w wa) := Lib.hid (by rw [← hwa]; exact (Below.refl _ _).alloc (Nat.le_refl _) _)
  rw [hwa]
  clear hwa
  with_reducible refine (HN.out wa).mono ?_
  rintro e wb ⟨rfl, hx⟩
  subst hx
  unfold plainV at *
  go_wp2_with fail
  with_reducible refine (HWr.out wa).mono ?_
  rintro e wb ⟨rfl, hx⟩
  have hab : Below w.heap.size w wb := by
    rw [← hx]
    exact HBA.out.alloc HBA.out.size _
  have hc0 : wb.cell? ⟨wa.heap.size, 0, none⟩ = some (.string ⟨#[120, 109, 108]⟩) := by rw [← hx]; simp
  have hc1 : wb.cell? ⟨wa.heap.size, 1, none⟩ = some (.iface 69 (.agg #[.int .i64 (cd : Int), .int .i64 (pl : Int)])) := by rw [← hx]; simp
  have g0 := (hab.cell (p := ⟨p, 0, none⟩) hp).trans h0
  have g1 := (hab.cell (p := ⟨q, 0, none⟩) hq).trans h1
  have k0 := (hab.frozen (p := ⟨p, 0, none⟩) hp).trans f0
  have k1 := (hab.frozen (p := ⟨q, 0, none⟩) hq).trans f1
  have hle := HBA.out.size
  have HZ : Hid (∃ w1 b, Below w.heap.size w w1 ∧ w.heap.size ≤ b ∧ w1.cell? ⟨b, 0, none⟩ = some (.string segS) ∧ w1.cell? ⟨b, 1, none⟩ = some (.iface 69 (.agg #[.int .i64 (cd : Int), .int .i64 (pl : Int)])) ∧ (wb.setCell ⟨p, 0, none⟩ (.slice none 0 0)).setCell ⟨q, 0, none⟩ (.iface 115 (.pointer (some ⟨wa.heap.size, 0, none⟩))) = (w1.setCell ⟨p, 0, none⟩ (.slice none 0 0)).setCell ⟨q, 0, none⟩ (.iface 115 (.pointer (some ⟨b, 0, none⟩)))) := Lib.hid ⟨wb, wa.heap.size, hab, hle, hc0, hc1, rfl⟩
  have e1 : (wb.setCell ⟨p, 0, none⟩ (.slice none 0 0)).cell? ⟨q, 0, none⟩ = some y := by
    exact (World.cell?_of_block (Below.heap_setCell wb ⟨p, 0, none⟩ _ q (fun h => hpq h.symm))).trans g1
  have e2 : (wb.setCell ⟨p, 0, none⟩ (.slice none 0 0)).frozen? ⟨q, 0, none⟩ = false := by rw [World.frozen?_setCell]; exact k1
  clear hab hc0 hc1 hx h0 h1 f0 f1 g1 k1 hle
  go_wp2_with fail
  exact HF.out _ _ rfl HZ.out

end Go.Proofs.YtfonflbpkbibbaaGreatDoor
