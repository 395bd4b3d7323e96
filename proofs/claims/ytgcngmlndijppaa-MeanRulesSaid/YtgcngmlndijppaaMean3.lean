/- Which conditions hold. -/
import Derived.Test.YtgcngmlndijppaaMean2
import Derived.BigRegion
import Derived.Laws.EntriesVeiled
namespace Go.Proofs.Ytgcngmlndijppaa
open Go.RowKit Go.ChangeShapes
set_option linter.unusedVariables false

set_option maxRecDepth 100000 in
set_option maxHeartbeats 1000000 in
theorem hold1 (u : World) (b1 b2 r : Nat) (c : Cnd) (a2 : Option Addr) (n2 c2 : Nat) (nr arch ip a0 a1 a2' a3 a4 a5 : Nat) (h1 : u.heap[b1]? = some (callO nr arch ip a0 a1 a2' a3 a4 a5)) (h2 : u.heap[b2]? = some (.cells #[.map (some r)] 55)) (R : Bool)
    (H : ∀ u', Below u.heap.size u u' → Calls Try.prog 24 #[cndV c (.slice a2 n2 c2), callV nr arch ip a0 a1 a2' a3 a4 a5, .map (some r)] u' fun e w' => e = .returned (.bool R) ∧ Below u'.heap.size u' w') :
    Calls Try.prog 33 #[cndV c (.slice a2 n2 c2), .pointer (some ⟨b1, 0, none⟩), .pointer (some ⟨b2, 0, none⟩)] u fun e w' => e = .returned (.bool R) ∧ Below u.heap.size u w' := by
  obtain ⟨kind, kids, arg, mask, sign, value⟩ := c
  unfold cndV at H ⊢
  unfold callV at H
  unfold callO at h1
  simp only [Cnd.kind, Cnd.arg, Cnd.mask, Cnd.sign, Cnd.value] at H ⊢
  have hb := fun o => (Below.refl u.heap.size u).alloc (Nat.le_refl _) o
  have e0 := fun o => below_cell (hb o) h1 0 rfl
  have e1 := fun o => below_cell (hb o) h1 1 rfl
  have e2 := fun o => below_cell (hb o) h1 2 rfl
  have e3 := fun o => below_cell (hb o) h1 3 rfl
  have e4 := fun o => below_cell (hb o) h1 4 rfl
  have e5 := fun o => below_cell (hb o) h1 5 rfl
  have e6 := fun o => below_cell (hb o) h1 6 rfl
  have e7 := fun o => below_cell (hb o) h1 7 rfl
  have e8 := fun o => below_cell (hb o) h1 8 rfl
  have m0 := fun o => below_cell (hb o) h2 0 rfl
  have HH := Lib.hid H; have HB := Lib.hid hb
  clear H h1 h2 hb
  go_enter Try.func33, Try.ntmps33
  go_wp2_with fail
  refine (HH.out _ (HB.out _)).mono ?_
  rintro e w' ⟨rfl, hb'⟩
  have HB' := Lib.hid ((HB.out _).trans (hb'.mono (HB.out _).size))
  clear hb' e0 e1 e2 e3 e4 e5 e6 e7 e8 m0
  go_wp2_with fail
  go_ret
  exact ⟨rfl, HB'.out⟩
set_option maxRecDepth 100000 in
set_option maxHeartbeats 1000000 in
theorem hold2 (u : World) (b b1 b2 : Nat) (c : Cnd) (a2 : Option Addr) (n2 c2 : Nat) (h1 : u.heap[b]? = some (.cells #[.func (.func 33) #[] #[.pointer (some ⟨b1, 0, none⟩), .pointer (some ⟨b2, 0, none⟩)]] 42)) (R : Bool)
    (H : ∀ u', Below u.heap.size u u' → Calls Try.prog 33 #[cndV c (.slice a2 n2 c2), .pointer (some ⟨b1, 0, none⟩), .pointer (some ⟨b2, 0, none⟩)] u' fun e w' => e = .returned (.bool R) ∧ Below u'.heap.size u' w') :
    Calls Try.prog 34 #[cndV c (.slice a2 n2 c2), .pointer (some ⟨b, 0, none⟩)] u fun e w' => e = .returned (.bool (!R)) ∧ Below u.heap.size u w' := by
  obtain ⟨kind, kids, arg, mask, sign, value⟩ := c
  unfold cndV at H ⊢
  simp only [Cnd.kind, Cnd.arg, Cnd.mask, Cnd.sign, Cnd.value] at H ⊢
  have hb := fun o => (Below.refl u.heap.size u).alloc (Nat.le_refl _) o
  have m0 := fun o => below_cell (hb o) h1 0 rfl
  have HH := Lib.hid H; have HB := Lib.hid hb
  clear H h1 hb
  go_enter Try.func34, Try.ntmps34
  go_wp2_with fail
  refine (HH.out _ (HB.out _)).mono ?_
  rintro e w' ⟨rfl, hb'⟩
  have HB' := Lib.hid ((HB.out _).trans (hb'.mono (HB.out _).size))
  clear hb' m0
  go_wp2_with fail
  go_ret
  exact ⟨rfl, HB'.out⟩
end Go.Proofs.Ytgcngmlndijppaa
