/-
  The walk of the statement FaultCodes: true, for every code, place and row of texts. Conditions: the listed variables are laid; code and place are ints; the texts' cells are there; the whole text is no longer than the library's Join can make.
-/
import Derived.Test.YtgncdbclpokkhaaDoorRefText
import Derived.Test.YtgncdbclpokkhaaDoorLawIs
namespace Go.Proofs.YtgncdbclpokkhaaDoor
open Go.RowKit Go.Extern.Stop Go.Stop Go.Extern

set_option maxRecDepth 100000 in
set_option maxHeartbeats 2000000 in
theorem law_codes_many (c a : Int) (sa : Option Addr) (n cap : Nat) (w : World) (ht : Tab w) (hg : Handle w) (hn : 50 < n) (hm : n ≤ 9223372036854775807) :
    Calls Tryd.prog 3 #[.int .i64 c, .int .i64 a, .slice sa n cap] w (Leaves1 (.bool true) w) := by
  have HA := Lib.hid (awake_true w ht hg)
  have hd : decide ((50 : Int) < (n : Int)) = true := by simp; omega
  go_enter Tryd.func3, Tryd.ntmps3
  go_wp2_with fail
  refine HA.out.mono ?_
  rintro e w1 ⟨rfl, hb⟩
  have HB := Lib.hid hb
  clear hb
  go_wp2_with fail
  go_ret
  exact ⟨rfl, HB.out⟩

set_option maxRecDepth 100000 in
set_option maxHeartbeats 2000000 in
theorem law_codes_ok (a : Int) (sa : Option Addr) (n cap : Nat) (ss : List ByteArray) (w : World) (ht : Tab w) (hg : Handle w) (hn : n ≤ 50) (hmk : Makes w 0 a (.slice sa n cap) ss) :
    Calls Tryd.prog 3 #[.int .i64 0, .int .i64 a, .slice sa n cap] w (Leaves1 (.bool true) w) := by
  have HA := Lib.hid (awake_true w ht hg)
  have HM := Lib.hid hmk
  have hd : decide ((50 : Int) < (n : Int)) = false := by simp; omega
  clear hmk
  go_enter Tryd.func3, Tryd.ntmps3
  go_wp2_with fail
  refine HA.out.mono ?_
  rintro e w1 ⟨rfl, hb⟩
  have HB1 := Lib.hid hb
  clear hb
  go_wp2_with fail
  refine (HM.out w1 HB1.out).mono ?_
  rintro e w2 ⟨v, rfl, hv, hb2⟩
  obtain rfl : v = .nilIface := by
    rcases hv with ⟨_, h⟩ | ⟨h, _⟩
    · exact h
    · exact absurd rfl h
  have HB2 := Lib.hid (Below.then HB1.out hb2)
  clear hv hb2
  go_wp2_with fail
  refine (code_nil w2).mono ?_
  rintro e w3 ⟨rfl, hb⟩
  have HB3 := Lib.hid (Below.then HB2.out hb)
  clear hb
  go_wp2_with fail
  refine (at_nil w3).mono ?_
  rintro e w4 ⟨rfl, hb⟩
  have HB4 := Lib.hid (Below.then HB3.out hb)
  clear hb
  go_wp2_with fail
  refine (depth_nil w4).mono ?_
  rintro e w5 ⟨rfl, hb⟩
  have HB5 := Lib.hid (Below.then HB4.out hb)
  clear hb
  go_wp2_with fail
  refine (text_nil w5).mono ?_
  rintro e w6 ⟨rfl, hb⟩
  have HB6 := Lib.hid (Below.then HB5.out hb)
  clear hb
  go_wp2_with fail
  go_ret
  exact ⟨rfl, HB6.out⟩

set_option maxRecDepth 100000 in
set_option maxHeartbeats 4000000 in
theorem law_codes (c a : Int) (sa : Option Addr) (n cap : Nat) (ss : List ByteArray) (R : ByteArray) (w : World) (ht : Tab w) (hg : Handle w) (hc : c ≠ 0) (hc0 : -9223372036854775808 ≤ c) (hc1 : c ≤ 9223372036854775807) (ha0 : -9223372036854775808 ≤ a) (ha1 : a ≤ 9223372036854775807)
    (hn : n ≤ 50) (hss : ss.length = n) (hmk : Makes w c a (.slice sa n cap) ss) (hR : ∀ w', Below w.heap.size w w' → Calls Tryd.prog 13 #[.int .i64 c, .int .i64 a, .slice sa n cap] w' (Leaves1 (.string R) w'))
    (hRt : (⟨(Lib.join (ss.map (·.data.toList) ++ [plainText c a]) [58, 32]).toArray⟩ : ByteArray) = R) (hsz : (Lib.join (ss.map (·.data.toList) ++ [plainText c a]) [58, 32]).length ≤ 140737488355328) :
    Calls Tryd.prog 3 #[.int .i64 c, .int .i64 a, .slice sa n cap] w (Leaves1 (.bool true) w) := by
  have HA := Lib.hid (awake_true w ht hg)
  have HM := Lib.hid hmk
  have hd : decide ((50 : Int) < (n : Int)) = false := by simp; omega
  have h0 : (c == 0) = false := beq_eq_false_iff_ne.2 hc
  have HN := Lib.hid hc
  have HT := Lib.hid ht
  have HG := Lib.hid hg
  have HR := Lib.hid hR
  have HRT := Lib.hid hRt
  have HSZ := Lib.hid hsz
  have HSS := Lib.hid hss
  have hls : ss.length < 1000 := by omega
  clear hc ht hg hmk hR hRt hsz hss
  go_enter Tryd.func3, Tryd.ntmps3
  go_wp2_with fail
  refine HA.out.mono ?_
  rintro e w1 ⟨rfl, hb⟩
  have HB1 := Lib.hid hb
  clear hb
  go_wp2_with fail
  refine (HM.out w1 HB1.out).mono ?_
  rintro e w2 ⟨v, rfl, hv, hb2⟩
  have hch : Chain w2 (plainV c a) ss v := by
    rcases hv with ⟨h, _⟩ | ⟨_, h⟩
    · exact absurd h HN.out
    · exact h
  have HC2 := Lib.hid hch
  have HB2 := Lib.hid (Below.then HB1.out hb2)
  clear hv hb2 hch
  go_wp2_with fail
  refine (code_chain c a ss _ w2 HN.out HC2.out (HG.out.below HB2.out)).mono ?_
  rintro e w3 ⟨rfl, hb⟩
  have HC3 := Lib.hid (HC2.out.below hb)
  have HB3 := Lib.hid (Below.then HB2.out hb)
  clear hb HC2 HB2
  go_wp2_with fail
  refine (at_chain c a ss _ w3 HN.out HC3.out (HG.out.below HB3.out)).mono ?_
  rintro e w4 ⟨rfl, hb⟩
  have HC4 := Lib.hid (HC3.out.below hb)
  have HB4 := Lib.hid (Below.then HB3.out hb)
  clear hb HC3 HB3
  go_wp2_with fail
  refine (depth_chain c a ss _ w4 HC4.out hls).mono ?_
  rintro e w5 ⟨rfl, hb⟩
  rw [HSS.out]
  have HC5 := Lib.hid (HC4.out.below hb)
  have HB5 := Lib.hid (Below.then HB4.out hb)
  clear hb HC4 HB4
  go_wp2_with fail
  refine (text_chain c a ss _ w5 hc0 hc1 ha0 ha1 (HT.out.below HB5.out) HC5.out hls HSZ.out).mono ?_
  rintro e w6 ⟨rfl, hb⟩
  rw [HRT.out]
  have HB6 := Lib.hid (Below.then HB5.out hb)
  clear hb HC5 HB5
  go_wp2_with fail
  refine (HR.out w6 HB6.out).mono ?_
  rintro e w7 ⟨rfl, hb⟩
  have HB7 := Lib.hid (Below.then HB6.out hb)
  clear hb HB6
  go_wp2_with fail
  go_ret
  exact ⟨rfl, HB7.out⟩
end Go.Proofs.YtgncdbclpokkhaaDoor
