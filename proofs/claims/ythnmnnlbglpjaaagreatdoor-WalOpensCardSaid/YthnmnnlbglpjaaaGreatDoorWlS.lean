/- What the laws of layer 5 make of their arguments: few writes, short rows. -/
import Derived.Test.YthnmnnlbglpjaaaGreatDoorPk5
import Derived.Test.YthnmnnlbglpjaaaGreatDoorWlN
namespace Go.Proofs.YthnmnnlbglpjaaaGreatDoor
open Go.ChangeShapes Go.WideShapes Go.ChangeAt Go.RowKit Go.Joins Go.Deep
set_option linter.unusedVariables false

set_option maxRecDepth 100000 in
theorem openWrites {H : Type} {enc : TypeId × Value → H} {W : World} {v : Value} {d : DataW H} {p : List MemPlace} {base : Nat}
    (hok : Value.okWide Tryz.prog W .any base 23 v) (h : DataW.Trod enc Tryz.prog W 0 (fun _ => true) true 23 v d p) : ∃ l, IsWrts W v l := openWrts (okWide_slice Tryz.underlying23 hok) h
def fewLg (l : Lg) : Lg := ⟨l.secs.take (min l.secs.length 300), l.pend.take (min l.pend.length 60), l.left, l.epoch, l.seq, l.used, l.dirty.take (min l.dirty.length 250)⟩
theorem few_pend (l : Lg) : (fewLg l).pend.length ≤ 60 := by
  show (l.pend.take _).length ≤ _
  rw [List.length_take]; omega
theorem few_log {w : World} {x1 x3 x5 : Option Addr} {c1 c2 c3 : Nat} {l : Lg} (h : IsLog w (.agg #[.slice x1 l.secs.length c1, .slice x3 l.pend.length c2, .int .i64 l.left, .int .i64 l.epoch, .int .i64 l.seq, .int .i64 l.used, .slice x5 l.dirty.length c3]) l)
    (i1 : IsStrs w (.slice x1 l.secs.length c1) l.secs) (i2 : IsWrts w (.slice x3 l.pend.length c2) l.pend) (i3 : IsWrts w (.slice x5 l.dirty.length c3) l.dirty) :
    IsLog w (.agg #[.slice x1 (min l.secs.length 300) c1, .slice x3 (min l.pend.length 60) c2, .int .i64 l.left, .int .i64 l.epoch, .int .i64 l.seq, .int .i64 l.used, .slice x5 (min l.dirty.length 250) c3]) (fewLg l) := by
  obtain ⟨a, m, c, e1, _, _, _, t1⟩ := i1.take
  injection e1 with e1 e2 e3
  subst e1 e2 e3
  obtain ⟨a, m, c, e1, _, _, _, t2⟩ := i2.take
  injection e1 with e1 e2 e3
  subst e1 e2 e3
  obtain ⟨a, m, c, e1, _, _, _, t3⟩ := i3.take
  injection e1 with e1 e2 e3
  subst e1 e2 e3
  exact ⟨h.1, _, _, _, rfl, t1 _ (Nat.min_le_left _ _), t2 _ (Nat.min_le_left _ _), t3 _ (Nat.min_le_left _ _)⟩
set_option maxRecDepth 100000 in
theorem short5 (a : Option Addr) (n c : Nat) (w : World) (h1 : n ≤ c) (h2 : c ≤ 9223372036854775807) : Calls Tryz.prog 9 #[.slice a n c] w fun e w' => e = .returned (.slice a (min n 45) c) ∧ Below w.heap.size w w' := by
  obtain ⟨m, hm, hm1, hm2, hm3⟩ := min_if n 45 (by omega)
  have hmm : min (n : Int) 45 = m := by omega
  rw [show min n 45 = m from by omega]
  have hmI : (m : Int) ≤ c := by omega
  have hcI : (c : Int) ≤ 9223372036854775807 := by omega
  clear hm3
  go_enter Tryz.func9, Tryz.ntmps9
  go_wp2_with fail
  go_ret
  exact ⟨rfl, Below.refl _ _⟩
end Go.Proofs.YthnmnnlbglpjaaaGreatDoor
