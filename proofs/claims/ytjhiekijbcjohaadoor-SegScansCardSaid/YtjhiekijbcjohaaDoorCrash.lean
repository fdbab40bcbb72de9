/-
  The program's Crash. Conditions: the disk lies in memory; the numbers lie in memory that isn't the disk's.
-/
import Derived.Test.YtjhiekijbcjohaaDoorCrashP
namespace Go.Proofs.YtjhiekijbcjohaaDoor
open Go.RowKit Go.Lib Go.Joins

def CrashOut (w : World) (S : Nat → Prop) (B : Nat) (d' : Dsk) (e : Ending) (w' : World) : Prop := e = .returned (.tuple #[]) ∧ Turns w S B d' w'

/-- One file behind the power's loss. -/
theorem crash_one {wr w2 : World} {S : Nat → Prop} {B : Nat} {d : Dsk} {L : List Fil} {F : Nat} {T : Option Nat} {cs : List Cel} (h : DiskAt wr S B { d with L := L } F T cs) (hs : Srt L) {c : Cel} (hc : cfnd c.f.name cs = some c) {a : Option Addr} {cap n : Nat}
    (hdv : c.dv = .slice a c.f.data.length cap) (hn : n ≤ c.f.data.length) (hk : Keeps (One c.fb) wr w2) (hb : w2.heap[c.fb]? = some (.cells #[.slice a n cap, .int .i64 (n : Int)] 69 (0, 0))) :
    DiskAt w2 S B { d with L := upd c.f.name (crF n) L } F T (cs.map (chg c.f.name (crF n) (.slice a n cap))) := by
  obtain ⟨hm, _⟩ := cfnd_some hc
  have hrow := h.row c hm
  have hfl := h.file c hm
  rw [hdv] at hrow hfl
  have hrow2 := ownsRow_keep hrow hk (fun k (e : (Value.slice a c.f.data.length cap).ownBlock = some k) (e2 : k = c.fb) => other_elem hfl hrow (by decide) (by rw [e, e2]))
  have hlen : (crF n c.f).data.length = n := by simp only [crF, List.length_take]; omega
  exact h.file_same hs hc (hk.mono (fun k _ e => .inl e)) (f' := crF n) (fun _ => rfl) (dv' := .slice a n cap) hb (by rw [hlen]; exact ownsRow_take hrow2 hn) (fun k e => by rw [hdv]; cases a <;> exact e)

theorem keep_any (fb : Nat) (a : Option Addr) (len cap n safe : Nat) (N : Int) (hN : N = (n : Int)) (w : World) (h : w.heap[fb]? = some (.cells #[.slice a len cap, .int .i64 (safe : Int)] 69 (0, 0))) (hn : n ≤ len) (hs : safe ≤ n) (hl : len ≤ cap) (hc : cap ≤ maxLen) (ha : a = none → cap = 0) :
    Calls Tryd.prog 79 #[.pointer (some ⟨fb, 0, none⟩), .int .i64 N] w fun e w' => e = .returned (.tuple #[]) ∧ Hid (Keeps (One fb) w w') ∧ w'.heap[fb]? = some (.cells #[.slice a n cap, .int .i64 (safe : Int)] 69 (0, 0)) := by
  subst hN
  refine (keep_calls fb a len cap n safe w h hn hl hc ha).mono ?_
  rintro e w' ⟨rfl, h1, h2⟩
  rw [Nat.min_eq_left hs] at h1
  exact ⟨rfl, Lib.hid h2, h1⟩

end Go.Proofs.YtjhiekijbcjohaaDoor
