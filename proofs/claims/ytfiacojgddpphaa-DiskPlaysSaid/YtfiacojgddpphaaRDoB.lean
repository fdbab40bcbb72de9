/-
  The reference's refuse. Conditions: the disk lies in memory; names are short, bytes few.
  What the walks of the reference's Do share. Conditions: the disk lies in memory; few bytes, few operations.
-/
import Derived.Test.YtfiacojgddpphaaRPutC
import Derived.Test.YtfiacojgddpphaaRDrop2
namespace Go.Proofs.Ytfiacojgddpphaa
open Go.RowKit Go.Lib Go.Joins

theorem ref_ne {d : Dsk} {k : Nat} {s t : ByteArray} {n : Int} {b : List Nat} (hk : k ≠ 1) : ref d ⟨k, s, t, n, b⟩ = match fnd s d.L with | none => 42 | some f => refF d ⟨k, s, t, n, b⟩ f := by
  unfold ref
  rw [if_neg hk]
  rfl

set_option maxRecDepth 100000 in
set_option maxHeartbeats 4000000 in
theorem rref1_calls (s t : ByteArray) (n : Int) (b : List Nat) (w : World) {S : Nat → Prop} {B : Nat} {d : Dsk} (hd : RefD w S B d) (hu : used d.L ≤ 1073741824) (hs : s.size ≤ 1099511627776) (_ht : t.size ≤ 1099511627776) :
    Calls Try.prog 60 #[.pointer (some ⟨B, 0, none⟩), .int .i64 1, .string s, .string t, .int .i64 n] w (Tells (.int .i64 (ref d ⟨1, s, t, n, b⟩)) w) := by
  have HAT := Lib.hid (rat_calls s w hd)
  have HMAY := Lib.hid (fun (x : ByteArray) (hx : x.size ≤ 1099511627776) => may_calls x w hx)
  have HU := Lib.hid (fun W (h : RefD W S B d) => rused_calls W h hu)
  have HD := Lib.hid hd
  obtain ⟨hi, _, lv, ta, tn, tc, Sd, St, h⟩ := hd
  have hroom0 := hi.room0
  have hroom1 := hi.room1
  have hfit := hi.fit
  have hmost := hi.most
  obtain ⟨la, lc, rfl, hf, _, _, _⟩ := h.fils
  have b0 : w.cell? ⟨B, 0, none⟩ = some (.int .i64 d.room) := (cell_of_block h.blk 0).trans rfl
  have b1 : w.cell? ⟨B, 1, none⟩ = some (.slice la d.L.length lc) := (cell_of_block h.blk 1).trans rfl
  obtain ⟨N, hN⟩ : ∃ N, d.L.length = N := ⟨_, rfl⟩
  rw [hN] at b1 hmost
  obtain ⟨U, hU⟩ : ∃ U, used d.L = U := ⟨_, rfl⟩
  rw [hU] at HU hfit hu
  obtain ⟨q, hq⟩ : ∃ q, ref d ⟨1, s, t, n, b⟩ = q := ⟨_, rfl⟩
  rw [hq]

  unfold ref at hq
  rw [if_pos rfl] at hq
  dsimp only at hq
  cases hm : nmd s with
  | false =>
    rw [hm] at hq
    have HQ : Hid (q = 44) := Lib.hid hq.symm
    have HM := Lib.hid (HMAY.out s hs)
    rw [hm] at HM
    clear hm hq hf h hi hN hU HMAY HU HD hroom0 hroom1 hfit hmost b0 b1
    go_enter Try.func60, Try.ntmps60
    go_wp2_with fail
    with_reducible refine HAT.out.mono ?_
    rintro e w1 ⟨rfl, rfl⟩
    go_wp2_with fail
    with_reducible refine HM.out.mono ?_
    rintro e w2 ⟨rfl, rfl⟩
    go_wp2
    go_ret
    exact ⟨by rw [HQ.out]; rfl, 0, rfl⟩
  | true =>
    rw [hm, if_neg (by decide)] at hq
    have HM := Lib.hid (HMAY.out s hs)
    rw [hm] at HM
    clear hm
    cases hfn : fnd s d.L with
    | some f =>
      obtain ⟨j, hj, hfj⟩ := ixF_some (i := 0) hfn
      have hjl : j < d.L.length := (List.getElem?_eq_some_iff.1 hfj).1
      rw [hj, Nat.zero_add] at HAT
      rw [hfn] at hq
      have HQ : Hid (q = 43) := Lib.hid hq.symm
      have hj1 : j < 1000 := by omega
      have hj0 : decide ((0 : Int) ≤ (j : Int)) = true := by simp
      clear hj hfj hjl hfn hq hf h hi hN hU HMAY HU HD hroom0 hroom1 hfit hmost b0 b1
      go_enter Try.func60, Try.ntmps60
      go_wp2_with fail
      with_reducible refine HAT.out.mono ?_
      rintro e w1 ⟨rfl, rfl⟩
      go_wp2_with fail
      with_reducible refine HM.out.mono ?_
      rintro e w2 ⟨rfl, rfl⟩
      go_wp2
      go_ret
      exact ⟨by rw [HQ.out]; rfl, 0, rfl⟩
    | none =>
      rw [ixF_none hfn] at HAT
      rw [hfn, hN] at hq
      by_cases h64 : 64 ≤ N
      · have HQ : Hid (q = 40) := Lib.hid (by rw [if_neg (by decide), if_pos h64] at hq; exact hq.symm)
        have hd64 : decide ((64 : Int) ≤ (N : Int)) = true := by simp; omega
        clear hfn hq hf h hi hN hU HMAY HU HD hroom0 hroom1 hfit b0
        go_enter Try.func60, Try.ntmps60
        go_wp2_with fail
        with_reducible refine HAT.out.mono ?_
        rintro e w1 ⟨rfl, rfl⟩
        go_wp2_with fail
        with_reducible refine HM.out.mono ?_
        rintro e w2 ⟨rfl, rfl⟩
        go_wp2
        go_ret
        exact ⟨by rw [HQ.out]; rfl, 0, rfl⟩
      · have HQ : Hid (q = 0) := Lib.hid (by rw [if_neg (by decide), if_neg h64] at hq; exact hq.symm)
        have hd64 : decide ((64 : Int) ≤ (N : Int)) = false := by simp; omega
        clear hfn hq hf h hi hN hU HMAY HU HD hroom0 hroom1 hfit b0
        go_enter Try.func60, Try.ntmps60
        go_wp2_with fail
        with_reducible refine HAT.out.mono ?_
        rintro e w1 ⟨rfl, rfl⟩
        go_wp2_with fail
        with_reducible refine HM.out.mono ?_
        rintro e w2 ⟨rfl, rfl⟩
        go_wp2
        go_ret
        exact ⟨by rw [HQ.out]; rfl, 0, rfl⟩

set_option maxRecDepth 100000 in
set_option maxHeartbeats 4000000 in
theorem rref2_calls (s t : ByteArray) (n : Int) (b : List Nat) (w : World) {S : Nat → Prop} {B : Nat} {d : Dsk} (hd : RefD w S B d) (hu : used d.L ≤ 1073741824) (_hs : s.size ≤ 1099511627776) (_ht : t.size ≤ 1099511627776) (hn : n = (b.length : Int)) :
    Calls Try.prog 60 #[.pointer (some ⟨B, 0, none⟩), .int .i64 2, .string s, .string t, .int .i64 n] w (Tells (.int .i64 (ref d ⟨2, s, t, n, b⟩)) w) := by
  have HAT := Lib.hid (rat_calls s w hd)
  have HMAY := Lib.hid (fun (x : ByteArray) (hx : x.size ≤ 1099511627776) => may_calls x w hx)
  have HU := Lib.hid (fun W (h : RefD W S B d) => rused_calls W h hu)
  have HD := Lib.hid hd
  obtain ⟨hi, _, lv, ta, tn, tc, Sd, St, h⟩ := hd
  have hroom0 := hi.room0
  have hroom1 := hi.room1
  have hfit := hi.fit
  have hmost := hi.most
  obtain ⟨la, lc, rfl, hf, _, _, _⟩ := h.fils
  have b0 : w.cell? ⟨B, 0, none⟩ = some (.int .i64 d.room) := (cell_of_block h.blk 0).trans rfl
  have b1 : w.cell? ⟨B, 1, none⟩ = some (.slice la d.L.length lc) := (cell_of_block h.blk 1).trans rfl
  obtain ⟨N, hN⟩ : ∃ N, d.L.length = N := ⟨_, rfl⟩
  rw [hN] at b1 hmost
  obtain ⟨U, hU⟩ : ∃ U, used d.L = U := ⟨_, rfl⟩
  rw [hU] at HU hfit hu
  obtain ⟨q, hq⟩ : ∃ q, ref d ⟨2, s, t, n, b⟩ = q := ⟨_, rfl⟩
  rw [hq]

  rw [ref_ne (by decide)] at hq
  cases hfn : fnd s d.L with
  | none =>
    rw [ixF_none hfn] at HAT
    rw [hfn] at hq
    have HQ : Hid (q = 42) := Lib.hid hq.symm
    clear hfn hq hf h hi hN hU HMAY HU HD hroom0 hroom1 hfit hmost b0 b1
    go_enter Try.func60, Try.ntmps60
    go_wp2_with fail
    with_reducible refine HAT.out.mono ?_
    rintro e w1 ⟨rfl, rfl⟩
    go_wp2
    go_ret
    exact ⟨by rw [HQ.out]; rfl, 0, rfl⟩
  | some f =>
    obtain ⟨j, hj, hfj⟩ := ixF_some (i := 0) hfn
    have hjl : j < d.L.length := (List.getElem?_eq_some_iff.1 hfj).1
    rw [hj, Nat.zero_add] at HAT
    rw [hfn] at hq
    dsimp only at hq
    have hj1 : j < 1000 := by omega
    have hj0 : decide ((j : Int) < (0 : Int)) = false := by simp
    have hfi : (d.L.map toI)[j]? = some (toI f) := by rw [List.getElem?_map, hfj]; rfl
    obtain ⟨gb, go_, da, dc, rfl, _, _, r1, _, _, _, _, _⟩ := fils_at hf hfi
    have r1' : w.cell? ⟨gb, go_ + j * 3 + 1, none⟩ = some (.slice da f.data.length dc) := r1
    obtain ⟨fl, hfl⟩ : ∃ fl, f.data.length = fl := ⟨_, rfl⟩
    rw [hfl] at r1'
    rw [hN] at hjl
    unfold refF at hq
    dsimp only at hq
    rw [if_pos rfl, hU] at hq
    have HUS : Hid (∀ j : Nat, Calls Try.prog 18 #[.pointer (some ⟨B, 0, none⟩)] (w.drewN j) fun e w' => e = .returned (.int .i64 (U : Int)) ∧ w' = w.drewN j) := Lib.hid (fun j => (HU.out (w.drewN j) (HD.out.keep ((Keeps.refl Non w).drewN j) (fun _ _ h => h))).mono fun e w' h => ⟨h.1, h.2.symm⟩)
    obtain ⟨R, hR⟩ : ∃ R, d.room = R := ⟨_, rfl⟩
    rw [hR] at hq hroom0 hroom1 hfit b0
    obtain ⟨Q, hQ⟩ : ∃ Q : Int, R - (U : Int) = Q := ⟨_, rfl⟩
    rw [hQ, ← hn] at hq
    have hwr : IntKind.i64.wrap (R - (U : Int)) = Q := by rw [IntWalk.i64_in _ (by omega), hQ]
    by_cases hlt : Q < n
    · have HQ : Hid (q = 40) := Lib.hid (by rw [if_pos hlt] at hq; exact hq.symm)
      have hd : decide (Q < n) = true := by simpa using hlt
      clear hlt hQ hn hR hj hfj hfi r1 hfl hfn hq hf h hi hN hU HMAY HU HD hfit hroom0 hroom1 hu _hs _ht hmost
      go_enter Try.func60, Try.ntmps60
      go_wp2_with fail
      with_reducible refine HAT.out.mono ?_
      rintro e w1 ⟨rfl, rfl⟩
      go_wp2
      go_quiet ((exact Calls.quiet_of_same (HUS.out _)))
      go_wp2
      go_ret
      exact ⟨by rw [HQ.out]; rfl, _, rfl⟩
    · have HQ : Hid (q = 0) := Lib.hid (by rw [if_neg hlt] at hq; exact hq.symm)
      have hd : decide (Q < n) = false := by simpa using hlt
      clear hlt hQ hn hR hj hfj hfi r1 hfl hfn hq hf h hi hN hU HMAY HU HD hfit hroom0 hroom1 hu _hs _ht hmost
      go_enter Try.func60, Try.ntmps60
      go_wp2_with fail
      with_reducible refine HAT.out.mono ?_
      rintro e w1 ⟨rfl, rfl⟩
      go_wp2
      go_quiet ((exact Calls.quiet_of_same (HUS.out _)))
      go_wp2
      go_ret
      exact ⟨by rw [HQ.out]; rfl, _, rfl⟩

set_option maxRecDepth 100000 in
set_option maxHeartbeats 4000000 in
theorem rref3_calls (s t : ByteArray) (n : Int) (b : List Nat) (w : World) {S : Nat → Prop} {B : Nat} {d : Dsk} (hd : RefD w S B d) (hu : used d.L ≤ 1073741824) (_hs : s.size ≤ 1099511627776) (_ht : t.size ≤ 1099511627776) :
    Calls Try.prog 60 #[.pointer (some ⟨B, 0, none⟩), .int .i64 3, .string s, .string t, .int .i64 n] w (Tells (.int .i64 (ref d ⟨3, s, t, n, b⟩)) w) := by
  have HAT := Lib.hid (rat_calls s w hd)
  have HMAY := Lib.hid (fun (x : ByteArray) (hx : x.size ≤ 1099511627776) => may_calls x w hx)
  have HU := Lib.hid (fun W (h : RefD W S B d) => rused_calls W h hu)
  have HD := Lib.hid hd
  obtain ⟨hi, _, lv, ta, tn, tc, Sd, St, h⟩ := hd
  have hroom0 := hi.room0
  have hroom1 := hi.room1
  have hfit := hi.fit
  have hmost := hi.most
  obtain ⟨la, lc, rfl, hf, _, _, _⟩ := h.fils
  have b0 : w.cell? ⟨B, 0, none⟩ = some (.int .i64 d.room) := (cell_of_block h.blk 0).trans rfl
  have b1 : w.cell? ⟨B, 1, none⟩ = some (.slice la d.L.length lc) := (cell_of_block h.blk 1).trans rfl
  obtain ⟨N, hN⟩ : ∃ N, d.L.length = N := ⟨_, rfl⟩
  rw [hN] at b1 hmost
  obtain ⟨U, hU⟩ : ∃ U, used d.L = U := ⟨_, rfl⟩
  rw [hU] at HU hfit hu
  obtain ⟨q, hq⟩ : ∃ q, ref d ⟨3, s, t, n, b⟩ = q := ⟨_, rfl⟩
  rw [hq]

  rw [ref_ne (by decide)] at hq
  cases hfn : fnd s d.L with
  | none =>
    rw [ixF_none hfn] at HAT
    rw [hfn] at hq
    have HQ : Hid (q = 42) := Lib.hid hq.symm
    clear hfn hq hf h hi hN hU HMAY HU HD hroom0 hroom1 hfit hmost b0 b1
    go_enter Try.func60, Try.ntmps60
    go_wp2_with fail
    with_reducible refine HAT.out.mono ?_
    rintro e w1 ⟨rfl, rfl⟩
    go_wp2
    go_ret
    exact ⟨by rw [HQ.out]; rfl, 0, rfl⟩
  | some f =>
    obtain ⟨j, hj, hfj⟩ := ixF_some (i := 0) hfn
    have hjl : j < d.L.length := (List.getElem?_eq_some_iff.1 hfj).1
    rw [hj, Nat.zero_add] at HAT
    rw [hfn] at hq
    dsimp only at hq
    have hj1 : j < 1000 := by omega
    have hj0 : decide ((j : Int) < (0 : Int)) = false := by simp
    have hfi : (d.L.map toI)[j]? = some (toI f) := by rw [List.getElem?_map, hfj]; rfl
    obtain ⟨gb, go_, da, dc, rfl, _, _, r1, _, _, _, _, _⟩ := fils_at hf hfi
    have r1' : w.cell? ⟨gb, go_ + j * 3 + 1, none⟩ = some (.slice da f.data.length dc) := r1
    obtain ⟨fl, hfl⟩ : ∃ fl, f.data.length = fl := ⟨_, rfl⟩
    rw [hfl] at r1'
    rw [hN] at hjl
    unfold refF at hq
    dsimp only at hq
    rw [if_neg (by decide), if_pos rfl, hfl] at hq
    by_cases h0 : n < 0
    · have HQ : Hid (q = 80) := Lib.hid (by rw [if_pos (.inl h0)] at hq; exact hq.symm)
      have hd : decide (n < 0) = true := by simpa using h0
      clear hj hfj hfi r1 hfl hfn hq hf h hi hN hU HMAY HU HD
      go_enter Try.func60, Try.ntmps60
      go_wp2_with fail
      with_reducible refine HAT.out.mono ?_
      rintro e w1 ⟨rfl, rfl⟩
      go_wp2
      go_quiet (fail)
      go_wp2
      go_ret
      exact ⟨by rw [HQ.out]; rfl, _, rfl⟩
    by_cases h1 : (fl : Int) < n
    · have HQ : Hid (q = 80) := Lib.hid (by rw [if_pos (.inr h1)] at hq; exact hq.symm)
      have hd : decide (n < 0) = false := by simpa using h0
      have hd1 : decide ((fl : Int) < n) = true := by simpa using h1
      clear hj hfj hfi r1 hfl hfn hq hf h hi hN hU HMAY HU HD
      go_enter Try.func60, Try.ntmps60
      go_wp2_with fail
      with_reducible refine HAT.out.mono ?_
      rintro e w1 ⟨rfl, rfl⟩
      go_wp2
      go_quiet (fail)
      go_wp2
      go_ret
      exact ⟨by rw [HQ.out]; rfl, _, rfl⟩
    · have HQ : Hid (q = 0) := Lib.hid (by rw [if_neg (by omega)] at hq; exact hq.symm)
      have hd : decide (n < 0) = false := by simpa using h0
      have hd1 : decide ((fl : Int) < n) = false := by simpa using h1
      clear hj hfj hfi r1 hfl hfn hq hf h hi hN hU HMAY HU HD
      go_enter Try.func60, Try.ntmps60
      go_wp2_with fail
      with_reducible refine HAT.out.mono ?_
      rintro e w1 ⟨rfl, rfl⟩
      go_wp2
      go_quiet (fail)
      go_wp2
      go_ret
      exact ⟨by rw [HQ.out]; rfl, _, rfl⟩

set_option maxRecDepth 100000 in
set_option maxHeartbeats 4000000 in
theorem rref4_calls (s t : ByteArray) (n : Int) (b : List Nat) (w : World) {S : Nat → Prop} {B : Nat} {d : Dsk} (hd : RefD w S B d) (hu : used d.L ≤ 1073741824) (_hs : s.size ≤ 1099511627776) (_ht : t.size ≤ 1099511627776) :
    Calls Try.prog 60 #[.pointer (some ⟨B, 0, none⟩), .int .i64 4, .string s, .string t, .int .i64 n] w (Tells (.int .i64 (ref d ⟨4, s, t, n, b⟩)) w) := by
  have HAT := Lib.hid (rat_calls s w hd)
  have HMAY := Lib.hid (fun (x : ByteArray) (hx : x.size ≤ 1099511627776) => may_calls x w hx)
  have HU := Lib.hid (fun W (h : RefD W S B d) => rused_calls W h hu)
  have HD := Lib.hid hd
  obtain ⟨hi, _, lv, ta, tn, tc, Sd, St, h⟩ := hd
  have hroom0 := hi.room0
  have hroom1 := hi.room1
  have hfit := hi.fit
  have hmost := hi.most
  obtain ⟨la, lc, rfl, hf, _, _, _⟩ := h.fils
  have b0 : w.cell? ⟨B, 0, none⟩ = some (.int .i64 d.room) := (cell_of_block h.blk 0).trans rfl
  have b1 : w.cell? ⟨B, 1, none⟩ = some (.slice la d.L.length lc) := (cell_of_block h.blk 1).trans rfl
  obtain ⟨N, hN⟩ : ∃ N, d.L.length = N := ⟨_, rfl⟩
  rw [hN] at b1 hmost
  obtain ⟨U, hU⟩ : ∃ U, used d.L = U := ⟨_, rfl⟩
  rw [hU] at HU hfit hu
  obtain ⟨q, hq⟩ : ∃ q, ref d ⟨4, s, t, n, b⟩ = q := ⟨_, rfl⟩
  rw [hq]

  rw [ref_ne (by decide)] at hq
  cases hfn : fnd s d.L with
  | none =>
    rw [ixF_none hfn] at HAT
    rw [hfn] at hq
    have HQ : Hid (q = 42) := Lib.hid hq.symm
    clear hfn hq hf h hi hN hU HMAY HU HD hroom0 hroom1 hfit hmost b0 b1
    go_enter Try.func60, Try.ntmps60
    go_wp2_with fail
    with_reducible refine HAT.out.mono ?_
    rintro e w1 ⟨rfl, rfl⟩
    go_wp2
    go_ret
    exact ⟨by rw [HQ.out]; rfl, 0, rfl⟩
  | some f =>
    obtain ⟨j, hj, hfj⟩ := ixF_some (i := 0) hfn
    have hjl : j < d.L.length := (List.getElem?_eq_some_iff.1 hfj).1
    rw [hj, Nat.zero_add] at HAT
    rw [hfn] at hq
    dsimp only at hq
    have hj1 : j < 1000 := by omega
    have hj0 : decide ((j : Int) < (0 : Int)) = false := by simp
    have hfi : (d.L.map toI)[j]? = some (toI f) := by rw [List.getElem?_map, hfj]; rfl
    obtain ⟨gb, go_, da, dc, rfl, _, _, r1, _, _, _, _, _⟩ := fils_at hf hfi
    have r1' : w.cell? ⟨gb, go_ + j * 3 + 1, none⟩ = some (.slice da f.data.length dc) := r1
    obtain ⟨fl, hfl⟩ : ∃ fl, f.data.length = fl := ⟨_, rfl⟩
    rw [hfl] at r1'
    rw [hN] at hjl
    unfold refF at hq
    dsimp only at hq
    rw [if_neg (by decide), if_neg (by decide), if_neg (by decide)] at hq
    have HQ : Hid (q = 0) := Lib.hid hq.symm
    clear hj hfj hfi r1 r1' hfl hfn hq hf h hi hN hU HMAY HU HD b0 b1
    go_enter Try.func60, Try.ntmps60
    go_wp2_with fail
    with_reducible refine HAT.out.mono ?_
    rintro e w1 ⟨rfl, rfl⟩
    go_wp2
    go_quiet (fail)
    go_wp2
    go_ret
    exact ⟨by rw [HQ.out]; rfl, _, rfl⟩

set_option maxRecDepth 100000 in
set_option maxHeartbeats 4000000 in
theorem rref5_calls (s t : ByteArray) (n : Int) (b : List Nat) (w : World) {S : Nat → Prop} {B : Nat} {d : Dsk} (hd : RefD w S B d) (hu : used d.L ≤ 1073741824) (_hs : s.size ≤ 1099511627776) (ht : t.size ≤ 1099511627776) :
    Calls Try.prog 60 #[.pointer (some ⟨B, 0, none⟩), .int .i64 5, .string s, .string t, .int .i64 n] w (Tells (.int .i64 (ref d ⟨5, s, t, n, b⟩)) w) := by
  have HAT := Lib.hid (rat_calls s w hd)
  have HMAY := Lib.hid (fun (x : ByteArray) (hx : x.size ≤ 1099511627776) => may_calls x w hx)
  have HU := Lib.hid (fun W (h : RefD W S B d) => rused_calls W h hu)
  have HD := Lib.hid hd
  obtain ⟨hi, _, lv, ta, tn, tc, Sd, St, h⟩ := hd
  have hroom0 := hi.room0
  have hroom1 := hi.room1
  have hfit := hi.fit
  have hmost := hi.most
  obtain ⟨la, lc, rfl, hf, _, _, _⟩ := h.fils
  have b0 : w.cell? ⟨B, 0, none⟩ = some (.int .i64 d.room) := (cell_of_block h.blk 0).trans rfl
  have b1 : w.cell? ⟨B, 1, none⟩ = some (.slice la d.L.length lc) := (cell_of_block h.blk 1).trans rfl
  obtain ⟨N, hN⟩ : ∃ N, d.L.length = N := ⟨_, rfl⟩
  rw [hN] at b1 hmost
  obtain ⟨U, hU⟩ : ∃ U, used d.L = U := ⟨_, rfl⟩
  rw [hU] at HU hfit hu
  obtain ⟨q, hq⟩ : ∃ q, ref d ⟨5, s, t, n, b⟩ = q := ⟨_, rfl⟩
  rw [hq]

  rw [ref_ne (by decide)] at hq
  cases hfn : fnd s d.L with
  | none =>
    rw [ixF_none hfn] at HAT
    rw [hfn] at hq
    have HQ : Hid (q = 42) := Lib.hid hq.symm
    clear hfn hq hf h hi hN hU HMAY HU HD hroom0 hroom1 hfit hmost b0 b1
    go_enter Try.func60, Try.ntmps60
    go_wp2_with fail
    with_reducible refine HAT.out.mono ?_
    rintro e w1 ⟨rfl, rfl⟩
    go_wp2
    go_ret
    exact ⟨by rw [HQ.out]; rfl, 0, rfl⟩
  | some f =>
    obtain ⟨j, hj, hfj⟩ := ixF_some (i := 0) hfn
    have hjl : j < d.L.length := (List.getElem?_eq_some_iff.1 hfj).1
    rw [hj, Nat.zero_add] at HAT
    rw [hfn] at hq
    dsimp only at hq
    have hj1 : j < 1000 := by omega
    have hj0 : decide ((j : Int) < (0 : Int)) = false := by simp
    have hfi : (d.L.map toI)[j]? = some (toI f) := by rw [List.getElem?_map, hfj]; rfl
    obtain ⟨gb, go_, da, dc, rfl, _, _, r1, _, _, _, _, _⟩ := fils_at hf hfi
    have r1' : w.cell? ⟨gb, go_ + j * 3 + 1, none⟩ = some (.slice da f.data.length dc) := r1
    obtain ⟨fl, hfl⟩ : ∃ fl, f.data.length = fl := ⟨_, rfl⟩
    rw [hfl] at r1'
    rw [hN] at hjl
    unfold refF at hq
    dsimp only at hq
    rw [if_neg (by decide), if_neg (by decide), if_pos rfl] at hq
    have HM := Lib.hid (fun W => may_calls t W ht)
    cases hm : nmd t with
    | false =>
      rw [hm] at hq HM
      have HQ : Hid (q = 44) := Lib.hid hq.symm
      clear hm hj hfj hfi r1 r1' hfl hfn hq hf h hi hN hU HMAY HU HD b0 b1
      go_enter Try.func60, Try.ntmps60
      go_wp2_with fail
      with_reducible refine HAT.out.mono ?_
      rintro e w1 ⟨rfl, rfl⟩
      go_wp2
      go_quiet (fail)
      go_wp2_with fail
      with_reducible refine (HM.out _).mono ?_
      rintro e w2 ⟨rfl, rfl⟩
      go_wp2
      go_ret
      exact ⟨by rw [HQ.out]; rfl, _, rfl⟩
    | true =>
      rw [hm, if_neg (by decide)] at hq
      rw [hm] at HM
      have HQ : Hid (q = 0) := Lib.hid hq.symm
      clear hm hj hfj hfi r1 r1' hfl hfn hq hf h hi hN hU HMAY HU HD b0 b1
      go_enter Try.func60, Try.ntmps60
      go_wp2_with fail
      with_reducible refine HAT.out.mono ?_
      rintro e w1 ⟨rfl, rfl⟩
      go_wp2
      go_quiet (fail)
      go_wp2_with fail
      with_reducible refine (HM.out _).mono ?_
      rintro e w2 ⟨rfl, rfl⟩
      go_wp2
      go_ret
      exact ⟨by rw [HQ.out]; rfl, _, rfl⟩

set_option maxRecDepth 100000 in
set_option maxHeartbeats 4000000 in
theorem rref6_calls (s t : ByteArray) (n : Int) (b : List Nat) (w : World) {S : Nat → Prop} {B : Nat} {d : Dsk} (hd : RefD w S B d) (hu : used d.L ≤ 1073741824) (_hs : s.size ≤ 1099511627776) (_ht : t.size ≤ 1099511627776) :
    Calls Try.prog 60 #[.pointer (some ⟨B, 0, none⟩), .int .i64 6, .string s, .string t, .int .i64 n] w (Tells (.int .i64 (ref d ⟨6, s, t, n, b⟩)) w) := by
  have HAT := Lib.hid (rat_calls s w hd)
  have HMAY := Lib.hid (fun (x : ByteArray) (hx : x.size ≤ 1099511627776) => may_calls x w hx)
  have HU := Lib.hid (fun W (h : RefD W S B d) => rused_calls W h hu)
  have HD := Lib.hid hd
  obtain ⟨hi, _, lv, ta, tn, tc, Sd, St, h⟩ := hd
  have hroom0 := hi.room0
  have hroom1 := hi.room1
  have hfit := hi.fit
  have hmost := hi.most
  obtain ⟨la, lc, rfl, hf, _, _, _⟩ := h.fils
  have b0 : w.cell? ⟨B, 0, none⟩ = some (.int .i64 d.room) := (cell_of_block h.blk 0).trans rfl
  have b1 : w.cell? ⟨B, 1, none⟩ = some (.slice la d.L.length lc) := (cell_of_block h.blk 1).trans rfl
  obtain ⟨N, hN⟩ : ∃ N, d.L.length = N := ⟨_, rfl⟩
  rw [hN] at b1 hmost
  obtain ⟨U, hU⟩ : ∃ U, used d.L = U := ⟨_, rfl⟩
  rw [hU] at HU hfit hu
  obtain ⟨q, hq⟩ : ∃ q, ref d ⟨6, s, t, n, b⟩ = q := ⟨_, rfl⟩
  rw [hq]

  rw [ref_ne (by decide)] at hq
  cases hfn : fnd s d.L with
  | none =>
    rw [ixF_none hfn] at HAT
    rw [hfn] at hq
    have HQ : Hid (q = 42) := Lib.hid hq.symm
    clear hfn hq hf h hi hN hU HMAY HU HD hroom0 hroom1 hfit hmost b0 b1
    go_enter Try.func60, Try.ntmps60
    go_wp2_with fail
    with_reducible refine HAT.out.mono ?_
    rintro e w1 ⟨rfl, rfl⟩
    go_wp2
    go_ret
    exact ⟨by rw [HQ.out]; rfl, 0, rfl⟩
  | some f =>
    obtain ⟨j, hj, hfj⟩ := ixF_some (i := 0) hfn
    have hjl : j < d.L.length := (List.getElem?_eq_some_iff.1 hfj).1
    rw [hj, Nat.zero_add] at HAT
    rw [hfn] at hq
    dsimp only at hq
    have hj1 : j < 1000 := by omega
    have hj0 : decide ((j : Int) < (0 : Int)) = false := by simp
    have hfi : (d.L.map toI)[j]? = some (toI f) := by rw [List.getElem?_map, hfj]; rfl
    obtain ⟨gb, go_, da, dc, rfl, _, _, r1, _, _, _, _, _⟩ := fils_at hf hfi
    have r1' : w.cell? ⟨gb, go_ + j * 3 + 1, none⟩ = some (.slice da f.data.length dc) := r1
    obtain ⟨fl, hfl⟩ : ∃ fl, f.data.length = fl := ⟨_, rfl⟩
    rw [hfl] at r1'
    rw [hN] at hjl
    unfold refF at hq
    dsimp only at hq
    rw [if_neg (by decide), if_neg (by decide), if_neg (by decide)] at hq
    have HQ : Hid (q = 0) := Lib.hid hq.symm
    clear hj hfj hfi r1 r1' hfl hfn hq hf h hi hN hU HMAY HU HD b0 b1
    go_enter Try.func60, Try.ntmps60
    go_wp2_with fail
    with_reducible refine HAT.out.mono ?_
    rintro e w1 ⟨rfl, rfl⟩
    go_wp2
    go_quiet (fail)
    go_wp2
    go_ret
    exact ⟨by rw [HQ.out]; rfl, _, rfl⟩

theorem rref_calls (k : Nat) (hk : 1 ≤ k ∧ k ≤ 6) (s t : ByteArray) (n : Int) (b : List Nat) (w : World) {S : Nat → Prop} {B : Nat} {d : Dsk} (hd : RefD w S B d) (hu : used d.L ≤ 1073741824) (hs : s.size ≤ 1099511627776) (ht : t.size ≤ 1099511627776) (hn : k = 2 → n = (b.length : Int)) :
    Calls Try.prog 60 #[.pointer (some ⟨B, 0, none⟩), .int .i64 (k : Int), .string s, .string t, .int .i64 n] w (Tells (.int .i64 (ref d ⟨k, s, t, n, b⟩)) w) := by
  rcases (show k = 1 ∨ k = 2 ∨ k = 3 ∨ k = 4 ∨ k = 5 ∨ k = 6 by omega) with rfl | rfl | rfl | rfl | rfl | rfl
  · exact rref1_calls s t n b w hd hu hs ht
  · exact rref2_calls s t n b w hd hu hs ht (hn rfl)
  · exact rref3_calls s t n b w hd hu hs ht
  · exact rref4_calls s t n b w hd hu hs ht
  · exact rref5_calls s t n b w hd hu hs ht
  · exact rref6_calls s t n b w hd hu hs ht

end Go.Proofs.Ytfiacojgddpphaa
namespace Go.Proofs.Ytfiacojgddpphaa
open Go.RowKit Go.Lib Go.Joins

def RDoes (w : World) (S : Nat → Prop) (B : Nat) (v : Value) (d' : Dsk) (e : Ending) (w' : World) : Prop := e = .returned v ∧ RTurns w S B d' w'

theorem RTurns.after {w w1 w' : World} {S : Nat → Prop} {B : Nat} {d' : Dsk} (hk : Keeps S w w1) (h : RTurns w1 S B d' w') : RTurns w S B d' w' := by
  obtain ⟨S', h1, h2, h3⟩ := h
  exact ⟨S', h1, fresh_trans (fresh_refl S w.heap.size) h2 hk.size, hk.trans h3 (fresh_refl _ _)⟩
theorem RMoves.after {w w1 w' : World} {S : Nat → Prop} {B : Nat} {d' : Dsk} (hk : Keeps S w w1) (h : RMoves w1 S B d' w') : RMoves w S B d' w' := by
  obtain ⟨S', h1, h2, h3⟩ := h
  exact ⟨S', h1, fresh_trans (fresh_refl S w.heap.size) h2 hk.size, hk.trans h3 (fresh_refl _ _)⟩

theorem nmd_sz {x : ByteArray} (h : nmd x = true) : x.size ≤ 40 := by
  unfold nmd at h
  simp only [Bool.and_eq_true, decide_eq_true_eq] at h
  exact h.2
/-- A cell of its block. -/
theorem RefAt.own {w : World} {S : Nat → Prop} {B : Nat} {d : Dsk} {lv : Value} {ta : Option Addr} {tn tc : Nat} {Sd St : Nat → Prop} (h : RefAt w S B d lv ta tn tc Sd St) : ∀ k, lv.ownBlock = some k → k ≠ B := by
  obtain ⟨cells, ho, _⟩ := h.row
  intro k e hk
  exact other_elem_n h.blk ho (by decide) (by rw [e, hk])
theorem RHas.cell {w : World} {S : Nat → Prop} {B : Nat} {d : Dsk} {lv : Value} {ta : Option Addr} {tn tc : Nat} {Sd St : Nat → Prop} (hS : ∀ k, S k → k < w.heap.size) (h : RefAt w S B d lv ta tn tc Sd St) {i : Nat} {v : Value} {d' : Dsk}
    (hL : d'.L = d.L) (ht : d'.tr = d.tr) (hb : (w.setCell ⟨B, i, none⟩ v).heap[B]? = some (.cells #[.int .i64 d'.room, lv, .slice ta tn tc, .int .i64 d'.ops, .bool d'.down] 44 (0, 0))) :
    RHas (w.setCell ⟨B, i, none⟩ v) S B d' := by
  have hk : Keeps (One B) w (w.setCell ⟨B, i, none⟩ v) := (Keeps.refl (One B) w).setCell (p := ⟨B, i, none⟩) (.inl rfl) _
  obtain ⟨cells, ho, hfc⟩ := h.row
  refine ⟨fun k e => Nat.lt_of_lt_of_le (hS k e) hk.size, lv, ta, tn, tc, Sd, St, ?_⟩
  exact {
    blk := hb
    row := ⟨cells, by rw [hL]; exact ownsRow_keep ho hk (fun k e hkB => h.own k e hkB), by rw [hL]; exact hfc.keep hk (fun k e hkB => (h.sD k e).2.1 hkB)⟩
    tro := by rw [ht]; exact h.tro.keep hk (fun k e hkB => (h.sT k e).2.1 hkB)
    trn := by rw [ht]; exact h.trn
    sB := h.sB
    sR := h.sR
    sD := h.sD
    sT := h.sT }
theorem RefD.opsUp {w : World} {S : Nat → Prop} {B : Nat} {d : Dsk} (h : RefD w S B d) (z : Int) : RefD (w.setCell ⟨B, 3, none⟩ (.int .i64 z)) S B { d with ops := z } := by
  obtain ⟨hi, hS, lv, ta, tn, tc, Sd, St, hd⟩ := h
  exact ⟨inv_same hi z d.tr d.down, RHas.cell hS hd rfl rfl (block_setCell (i := 3) hd.blk (.int .i64 z))⟩
theorem RefD.downs {w : World} {S : Nat → Prop} {B : Nat} {d : Dsk} (h : RefD w S B d) (z : Bool) : RefD (w.setCell ⟨B, 4, none⟩ (.bool z)) S B { d with down := z } := by
  obtain ⟨hi, hS, lv, ta, tn, tc, Sd, St, hd⟩ := h
  exact ⟨inv_same hi d.ops d.tr z, RHas.cell hS hd rfl rfl (block_setCell (i := 4) hd.blk (.bool z))⟩

/-- The trouble that the search tells, from a place on. -/
def kp (l : List Tro) (o : Int) : Int × Int := match tro l o with | none => (0, 0) | some t => (t.kind, t.part)
theorem kp_drop {l : List Tro} {o : Int} {j : Nat} {t : Tro} (h : l[j]? = some t) : kp (l.drop j) o = if hits o t then (t.kind, t.part) else kp (l.drop (j + 1)) o := by
  obtain ⟨h1, rfl⟩ := List.getElem?_eq_some_iff.1 h
  rw [List.drop_eq_getElem_cons h1]
  unfold kp tro
  rw [List.find?_cons]
  cases hits o l[j] <;> rfl
theorem kp_end {l : List Tro} {o : Int} : kp (l.drop l.length) o = (0, 0) := by rw [List.drop_length]; rfl
theorem rowT_at {w : World} {S : Nat → Prop} {a : Option Addr} {l : List Tro} (h : RowT w S a l) {i : Nat} {t : Tro} (hi : l[i]? = some t) :
    ∃ b o, a = some ⟨b, o, none⟩ ∧ w.cell? ⟨b, o + i * 3, none⟩ = some (.int .i64 t.at_) ∧ w.cell? ⟨b, o + i * 3 + 1, none⟩ = some (.int .i64 t.kind) ∧ w.cell? ⟨b, o + i * 3 + 2, none⟩ = some (.int .i64 t.part) := by
  rcases h with h0 | ⟨b, o, ha, _, hc⟩
  · rw [h0] at hi; simp at hi
  · exact ⟨b, o, ha, hc i t hi⟩

theorem step_down {d : Dsk} {o : Opn} (h : d.down = true) : step d o = (45, d) := by unfold step; rw [if_pos h]
theorem step_ref {d : Dsk} {o : Opn} (h : d.down = false) (hr : ref d o ≠ 0) : step d o = (ref d o, { d with ops := d.ops + 1 }) := by
  unfold step; rw [if_neg (by rw [h]; decide), if_pos hr]
theorem step_none {d : Dsk} {o : Opn} (h : d.down = false) (hr : ref d o = 0) (ht : tro d.tr (d.ops + 1) = none) : step d o = (0, { d with ops := d.ops + 1, L := whole o d.L }) := by
  unfold step; rw [if_neg (by rw [h]; decide), if_neg (by rw [hr]; decide), ht]
theorem step_some {d : Dsk} {o : Opn} {t : Tro} (h : d.down = false) (hr : ref d o = 0) (ht : tro d.tr (d.ops + 1) = some t) : step d o = (tld t.kind, { d with ops := d.ops + 1, L := part o t.part d.L, down := decide (t.kind = 3) }) := by
  unfold step; rw [if_neg (by rw [h]; decide), if_neg (by rw [hr]; decide), ht]
theorem tro_hits {l : List Tro} {i : Int} {t : Tro} (h : tro l i = some t) : 1 ≤ t.kind ∧ t.kind ≤ 3 := by
  unfold tro at h
  have := List.find?_some h
  unfold hits at this
  simp only [Bool.and_eq_true, decide_eq_true_eq] at this
  exact ⟨this.1.2, this.2⟩

/-- Where a file of it lies. -/
structure FileAt (w : World) (B : Nat) (d : Dsk) (j : Nat) (f : Fil) (g lc : Nat) (Sd : Nat → Prop) (da : Option Addr) (dc : Nat) : Prop where
  b1 : w.cell? ⟨B, 1, none⟩ = some (.slice (some ⟨g, 0, none⟩) d.L.length lc)
  r0 : w.cell? ⟨g, j * 3, none⟩ = some (.string f.name)
  r1 : w.cell? ⟨g, j * 3 + 1, none⟩ = some (.slice da f.data.length dc)
  r2 : w.cell? ⟨g, j * 3 + 2, none⟩ = some (.int .i64 (f.safe : Int))
  row : Row w Sd da f.data
  nul : da = none → dc = 0
  fit : f.data.length ≤ dc
  most : dc ≤ maxLen
  lc : d.L.length ≤ lc
  free : ∀ i, w.frozen? ⟨g, i, none⟩ = false
  ne : B ≠ g
  gl : g < w.heap.size
  bl : B < w.heap.size
theorem RHas.file {w : World} {S : Nat → Prop} {B : Nat} {d : Dsk} (h : RHas w S B d) {j : Nat} {f : Fil} (hj : d.L[j]? = some f) :
    ∃ g lc ta tn tc Sd St da dc, RefAt w S B d (.slice (some ⟨g, 0, none⟩) d.L.length lc) ta tn tc Sd St ∧ FileAt w B d j f g lc Sd da dc := by
  obtain ⟨hS, lv, ta, tn, tc, Sd, St, h⟩ := h
  obtain ⟨cells, ho, hfc⟩ := h.row
  have hjl : j < d.L.length := (List.getElem?_eq_some_iff.1 hj).1
  obtain ⟨c0, ⟨dv, c1, ⟨da, dc, rfl, hr, hn, hft, hms⟩⟩, c2⟩ := hfc.at_ j (toI f) (by rw [List.getElem?_map, hj]; rfl)
  rcases ho.2 with ⟨_, e0⟩ | ⟨g, lc, cur, rfl, _, hg, hle, hlm, _⟩
  · omega
  · have hB : B ≠ g := fun e => other_elem_n h.blk ho (by decide) (by rw [e]; rfl)
    exact ⟨g, lc, ta, tn, tc, Sd, St, da, dc, h, (cell_of_block h.blk 1).trans rfl, (ho.cellAt (j * 3) (by omega)).trans c0, (ho.cellAt (j * 3 + 1) (by omega)).trans c1, (ho.cellAt (j * 3 + 2) (by omega)).trans c2, hr, hn, hft, hms, hle, fun i => ho.frozenAt i, hB, lt_of_block hg, lt_of_block h.blk⟩
theorem FileAt.below {w w' : World} {B : Nat} {d : Dsk} {j : Nat} {f : Fil} {g lc : Nat} {Sd : Nat → Prop} {da : Option Addr} {dc : Nat} (h : FileAt w B d j f g lc Sd da dc) (hb : Below w.heap.size w w') : FileAt w' B d j f g lc Sd da dc where
  b1 := (World.cell?_of_block (a := ⟨B, 1, none⟩) (hb.block B h.bl)).trans h.b1
  r0 := (World.cell?_of_block (a := ⟨g, j * 3, none⟩) (hb.block g h.gl)).trans h.r0
  r1 := (World.cell?_of_block (a := ⟨g, j * 3 + 1, none⟩) (hb.block g h.gl)).trans h.r1
  r2 := (World.cell?_of_block (a := ⟨g, j * 3 + 2, none⟩) (hb.block g h.gl)).trans h.r2
  row := h.row.below hb
  nul := h.nul
  fit := h.fit
  most := h.most
  lc := h.lc
  free := fun i => (World.frozen?_of_block (a := ⟨g, i, none⟩) (hb.block g h.gl)).trans (h.free i)
  ne := h.ne
  gl := Nat.lt_of_lt_of_le h.gl hb.size
  bl := Nat.lt_of_lt_of_le h.bl hb.size

/-- What the walks take for granted of an operation. -/
structure DoHyp (w : World) (S O : Nat → Prop) (B : Nat) (d : Dsk) (s t : ByteArray) (a : Option Addr) (b : List Nat) (m c : Nat) : Prop where
  disk : RefD w S B d
  sml : Sml d
  ns : s.size ≤ 1099511627776
  nt : t.size ≤ 1099511627776
  row : Row w O a b
  off : ∀ k, O k → ¬ S k
  nul : a = none → c = 0
  len : b.length = m
  cap : m ≤ c
  most : c ≤ maxLen
  few : m ≤ 1000000
  tr : d.tr.length ≤ 1048576

end Go.Proofs.Ytfiacojgddpphaa
