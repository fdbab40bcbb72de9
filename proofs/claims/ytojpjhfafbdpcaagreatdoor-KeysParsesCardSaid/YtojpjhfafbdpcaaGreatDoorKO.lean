/-
  The answers that the document fixes are the program's. Condition: the tables, the library's bound and the handle are laid.
-/
import Derived.Test.YtojpjhfafbdpcaaGreatDoorKN
import Derived.Test.YtojpjhfafbdpcaaGreatDoorKJ
import Derived.Test.YtojpjhfafbdpcaaGreatDoorMAt
namespace Go.Proofs.YtojpjhfafbdpcaaGreatDoor
open Go.RowKit Go.Lib Go.Joins Go.Shelf

def awA : List UInt8 := [47, 100, 98, 32, 123, 125, 10, 47, 100, 98, 47, 101, 109, 112, 32, 123, 110, 97, 109, 101, 44, 32, 64, 105, 100, 125]
def awB : List UInt8 := [47, 100, 98, 32, 123, 125, 10, 10, 47, 120, 32, 123, 125]
def awR : List Rl := [⟨[[100, 98]], []⟩, ⟨[[100, 98], [101, 109, 112]], [[110, 97, 109, 101], [64, 105, 100]]⟩]
theorem awA_parse : parseW awA = .ok awR := by kernel_rfl
theorem awB_parse : parseW awB = .error (21, 3) := by kernel_rfl
theorem awA_emp : frontW awR [[100, 98], [101, 109, 112]] = true := by kernel_rfl
theorem awA_db : frontW awR [[100, 98]] = false := by kernel_rfl

/-- What the laws' calls ask of memory. -/
structure AwE (w : World) : Prop where
  env : KEnv w
  handle : Handle w
theorem AwE.below {w w' : World} (h : AwE w) (hb : Below w.heap.size w w') : AwE w' := ⟨h.env.below hb, cell_below hb h.handle⟩

set_option maxRecDepth 100000 in
set_option maxHeartbeats 8000000 in
theorem awake_calls (w : World) (hE : AwE w) : Calls Tryz.prog 8 #[] w (Leaves (.bool true) w) := by
  have HP1 := Lib.hid (parse_calls awA w (by decide) hE.env)
  have HP2 := Lib.hid (fun (W : World) (hb : Below w.heap.size w W) => parse_calls awB W (by decide) (hE.env.below hb))
  unfold ParseOut at HP1 HP2
  have e1 : strB awA = { data := #[47, 100, 98, 32, 123, 125, 10, 47, 100, 98, 47, 101, 109, 112, 32, 123, 110, 97, 109, 101, 44, 32, 64, 105, 100, 125] } := rfl
  have e2 : strB awB = { data := #[47, 100, 98, 32, 123, 125, 10, 10, 47, 120, 32, 123, 125] } := rfl
  rw [e1] at HP1
  rw [e2] at HP2
  have HE := Lib.hid hE
  clear hE e1 e2
  go_enter Tryz.func8, Tryz.ntmps8
  go_wp2_with fail
  with_reducible refine HP1.out.mono ?_
  rintro e w1 ⟨v, ev, rfl, hb1, ⟨l, hl, hin, rfl⟩ | ⟨c, n, hl, _⟩⟩
  case inr => rw [awA_parse] at hl; cases hl
  rw [awA_parse] at hl
  injection hl with hl
  subst hl
  have hin2 := hin.any
  obtain ⟨a, c, rfl, hlc, hcm, _⟩ := hin2.form
  have hin3 : RlsIn w1 Any (.slice a 2 c) awR := hin2
  have HB1 := Lib.hid hb1
  have HIN := Lib.hid hin3
  have HP2b := Lib.hid (HP2.out w1 hb1)
  have hlen : awR.length = 2 := rfl
  rw [hlen]
  clear hb1 hin hin2 hin3 HP1 HP2 hlc hlen
  go_wp2_with fail
  with_reducible refine HP2b.out.mono ?_
  rintro e w2 ⟨v2, ev2, rfl, hb2, ⟨l, hl, _, _⟩ | ⟨cc, n, hl, rfl, he⟩⟩
  case inl => rw [awB_parse] at hl; cases hl
  rw [awB_parse] at hl
  injection hl with hl
  injection hl with hl1 hl2
  subst hl1 hl2
  have HB2 := Lib.hid (below_then HB1.out hb2)
  have HIN2 := Lib.hid (HIN.out.below hb2)
  have HER := Lib.hid he
  clear hb2 he HP2b HIN HB1
  obtain ⟨b, o, pv, kv, rfl, c1, c2, hpv, hkv⟩ := HIN2.out.at (i := 1) (x := ⟨[[100, 98], [101, 109, 112]], [[110, 97, 109, 101], [64, 105, 100]]⟩) rfl
  obtain ⟨ka, kc, rfl, _⟩ := hkv.form
  have c3 : w2.cell? ⟨b, o + 2 + 1, none⟩ = some (.slice ka 2 kc) := c2
  have HF1 := Lib.hid (front_calls (HIN2.out.below ((Below.refl _ _).alloc (Nat.le_refl _) _)) (StrIn.made w2 [[100, 98], [101, 109, 112]] (by decide)))
  rw [awA_emp] at HF1
  have hf2 : ∀ W : World, Below w2.heap.size w2 W → Calls Tryz.prog 21 #[.slice (some ⟨b, o, none⟩) 2 c, .slice (some ⟨W.heap.size, 0, none⟩) 1 1] (W.alloc (.cells #[.string ⟨#[100, 98]⟩] 9)) (Leaves (.bool false) (W.alloc (.cells #[.string ⟨#[100, 98]⟩] 9))) := fun W hb => by
    have h := front_calls ((HIN2.out.below hb).below ((Below.refl _ _).alloc (Nat.le_refl _) _)) (StrIn.made W [[100, 98]] (by decide))
    rw [awA_db] at h
    exact h
  have HF2 := Lib.hid hf2
  have hcc : ∀ W : World, Below w2.heap.size w2 W → Calls Tryz.prog 11 #[ev2] W (Leaves1 (.int .i64 21) W) ∧ Calls Tryz.prog 12 #[ev2] W (Leaves1 (.int .i64 3) W) := fun W hb =>
    ⟨code_calls 21 3 ev2 W (HER.out.below hb) (HE.out.handle.below (below_then HB2.out hb)), at_calls 21 3 ev2 W (HER.out.below hb) (HE.out.handle.below (below_then HB2.out hb))⟩
  have HCC := Lib.hid hcc
  obtain ⟨eb, rfl⟩ : ∃ eb, ev2 = .iface 91 (.pointer (some ⟨eb, 0, none⟩)) := by
    rcases HER.out with ⟨h0, _⟩ | ⟨_, eb, h1, _⟩
    · exact absurd h0 (by decide)
    · exact ⟨eb, h1⟩
  clear c1 c2 hpv hkv hf2 hcc
  obtain ⟨W3, hW3⟩ : ∃ W3, w2.alloc (.cells #[.string ⟨#[100, 98]⟩, .string ⟨#[101, 109, 112]⟩] 9) = W3 := ⟨_, rfl⟩
  have hb3 : Below w2.heap.size w2 W3 := by rw [← hW3]; exact (Below.refl _ _).alloc (Nat.le_refl _) _
  have hF1 : Calls Tryz.prog 21 #[.slice (some ⟨b, o, none⟩) 2 c, .slice (some ⟨w2.heap.size, 0, none⟩) 2 2] W3 (Leaves (.bool true) W3) := by rw [← hW3]; exact HF1.out
  have HF1' := Lib.hid hF1
  have HB3 := Lib.hid hb3
  have HW3 := Lib.hid hW3
  clear hF1 HF1 hb3 hW3
  go_wp2_with fail
  rw [HW3.out]
  with_reducible refine HF1'.out.mono ?_
  rintro e w4 ⟨rfl, hb4⟩
  have HF2' := Lib.hid (HF2.out w4 (below_then HB3.out hb4))
  have HB4 := Lib.hid (below_then HB3.out hb4)
  obtain ⟨W5, hW5⟩ : ∃ W5, w4.alloc (.cells #[.string ⟨#[100, 98]⟩] 9) = W5 := ⟨_, rfl⟩
  have HB5 : Hid (Below w2.heap.size w2 W5) := Lib.hid (by rw [← hW5]; exact HB4.out.alloc HB4.out.size _)
  rw [hW5] at HF2'
  have HW5 := Lib.hid hW5
  clear hb4 hW5 HF1' HF2 c3
  go_wp2_with fail
  rw [HW5.out]
  with_reducible refine HF2'.out.mono ?_
  rintro e w6 ⟨rfl, hb6⟩
  have HB6 := Lib.hid (below_then HB5.out hb6)
  have HC1 := Lib.hid (HCC.out w6 HB6.out).1
  clear hb6 HF2'
  go_wp2_with fail
  with_reducible refine HC1.out.mono ?_
  rintro e w7 ⟨rfl, hb7⟩
  have HB7 := Lib.hid (below_then HB6.out hb7)
  have HC2 := Lib.hid (HCC.out w7 HB7.out).2
  clear hb7 HC1
  go_wp2_with fail
  with_reducible refine HC2.out.mono ?_
  rintro e w8 ⟨rfl, hb8⟩
  have HB8 := Lib.hid (below_then HB2.out (below_then HB7.out hb8))
  clear hb8
  go_wp2
  go_ret
  exact ⟨rfl, HB8.out⟩

end Go.Proofs.YtojpjhfafbdpcaaGreatDoor
