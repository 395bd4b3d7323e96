/- Which conditions hold. -/
import Derived.Test.YtgcngmlndijppaaMean2
import Derived.BigRegion
import Derived.Laws.EntriesVeiled
namespace Go.Proofs.Ytgcngmlndijppaa
open Go.RowKit Go.ChangeShapes
set_option linter.unusedVariables false

theorem alloc4_at (w : World) (o0 o1 o2 o3 : Obj) : let u := (((w.alloc o0).alloc o1).alloc o2).alloc o3
    u.heap[w.heap.size]? = some o0 ∧ u.heap[w.heap.size + 1]? = some o1 ∧ u.heap[w.heap.size + 1 + 1]? = some o2 ∧ u.heap[w.heap.size + 1 + 1 + 1]? = some o3 ∧ Below w.heap.size w u := by
  have h0 := heap_alloc_new w o0
  have h1 := heap_alloc_new (w.alloc o0) o1
  have h2 := heap_alloc_new ((w.alloc o0).alloc o1) o2
  have h3 := heap_alloc_new (((w.alloc o0).alloc o1).alloc o2) o3
  rw [World.size_alloc] at h1
  rw [World.size_alloc, World.size_alloc] at h2
  rw [World.size_alloc, World.size_alloc, World.size_alloc] at h3
  have b1 := (Below.refl (w.alloc o0).heap.size (w.alloc o0)).alloc (Nat.le_refl _) o1
  have b2 := (Below.refl ((w.alloc o0).alloc o1).heap.size ((w.alloc o0).alloc o1)).alloc (Nat.le_refl _) o2
  have b3 := (Below.refl (((w.alloc o0).alloc o1).alloc o2).heap.size (((w.alloc o0).alloc o1).alloc o2)).alloc (Nat.le_refl _) o3
  have b23 := b2.trans (b3.mono b2.size)
  have b123 := b1.trans (b23.mono b1.size)
  have b0 := (Below.refl w.heap.size w).alloc (Nat.le_refl _) o0
  exact ⟨(b123.block _ (lt_of_block h0)).trans h0, (b23.block _ (lt_of_block h1)).trans h1, (b3.block _ (lt_of_block h2)).trans h2, h3, b0.trans (b123.mono b0.size)⟩
theorem fines_get (l : List Cnd) (j : Nat) (h : j < l.length) (hf : fines l = true) : (l.getD j cndZ).fine = true := by
  induction l generalizing j with
  | nil => simp at h
  | cons a l ih =>
    rw [fines, Bool.and_eq_true] at hf
    cases j with
    | zero => exact hf.1
    | succ j => exact ih j (by simpa using h) hf.2
theorem any_holds (args : List Nat) (l : List Cnd) : (List.range l.length).any (fun j => (l.getD j cndZ).holds args) = anyH args l := by
  induction l with
  | nil => rfl
  | cons a l ih => rw [List.length_cons, List.range_succ_eq_map, List.any_cons, List.any_map, anyH, ← ih]; rfl
theorem any_nots (args : List Nat) (l : List Cnd) : (List.range l.length).any (fun j => !(l.getD j cndZ).holds args) = !allH args l := by
  induction l with
  | nil => rfl
  | cons a l ih =>
    rw [List.length_cons, List.range_succ_eq_map, List.any_cons, List.any_map, allH, Bool.not_and, ← ih]; rfl
theorem and_u64n (a b : Nat) (ha : a ≤ 18446744073709551615) (hb : b ≤ 18446744073709551615) : bits BinOp.and IntKind.u64 (a : Int) (b : Int) = ((a &&& b : Nat) : Int) := bits_and_u64_nat a b (by omega) (by omega)
theorem and_le64 (a b : Nat) (ha : a ≤ 18446744073709551615) : a &&& b ≤ 18446744073709551615 := Nat.le_trans Nat.and_le_left ha

/-- the cells of a call, and the call as it is passed on -/
def callV (nr arch ip a0 a1 a2 a3 a4 a5 : Nat) : Value := .agg #[.int .u32 (nr : Nat), .int .u32 (arch : Nat), .int .u64 (ip : Nat), .int .u64 (a0 : Nat), .int .u64 (a1 : Nat), .int .u64 (a2 : Nat), .int .u64 (a3 : Nat), .int .u64 (a4 : Nat), .int .u64 (a5 : Nat)]
def callO (nr arch ip a0 a1 a2 a3 a4 a5 : Nat) : Obj := .cells #[.int .u32 (nr : Nat), .int .u32 (arch : Nat), .int .u64 (ip : Nat), .int .u64 (a0 : Nat), .int .u64 (a1 : Nat), .int .u64 (a2 : Nat), .int .u64 (a3 : Nat), .int .u64 (a4 : Nat), .int .u64 (a5 : Nat)] 29
set_option maxRecDepth 100000 in
set_option maxHeartbeats 1000000 in
theorem hold1 (u : World) (b1 b2 r : Nat) (c : Cnd) (a2 : Option Addr) (n2 c2 : Nat) (nr arch ip a0 a1 a2' a3 a4 a5 : Nat) (h1 : u.heap[b1]? = some (callO nr arch ip a0 a1 a2' a3 a4 a5)) (h2 : u.heap[b2]? = some (.cells #[.map (some r)] 55)) (R : Bool)
    (H : ∀ u', Below u.heap.size u u' → Calls Try.prog 24 #[cndV c (.slice a2 n2 c2), callV nr arch ip a0 a1 a2' a3 a4 a5, .map (some r)] u' fun e w' => e = .returned (.bool R) ∧ Below u'.heap.size u' w') :
    Calls Try.prog 33 #[cndV c (.slice a2 n2 c2), .pointer (some ⟨b1, 0, none⟩), .pointer (some ⟨b2, 0, none⟩)] u fun e w' => e = .returned (.bool R) ∧ Below u.heap.size u w' := by
  obtain ⟨kind, kids, arg, mask, sign, value⟩ := c
  unfold cndV at H ⊢
  unfold callV at H
  unfold callO at h1
  simp only [Cnd.kind, Cnd.arg, Cnd.mask, Cnd.sign, Cnd.value] at H ⊢
  have hb := fun o => (Below.refl u.heap.size u).alloc (Nat.le_refl _) o
  have e0 := fun o => below_cell (hb o) h1 0 rfl
  have e1 := fun o => below_cell (hb o) h1 1 rfl
  have e2 := fun o => below_cell (hb o) h1 2 rfl
  have e3 := fun o => below_cell (hb o) h1 3 rfl
  have e4 := fun o => below_cell (hb o) h1 4 rfl
  have e5 := fun o => below_cell (hb o) h1 5 rfl
  have e6 := fun o => below_cell (hb o) h1 6 rfl
  have e7 := fun o => below_cell (hb o) h1 7 rfl
  have e8 := fun o => below_cell (hb o) h1 8 rfl
  have m0 := fun o => below_cell (hb o) h2 0 rfl
  have HH := Lib.hid H; have HB := Lib.hid hb
  clear H h1 h2 hb
  go_enter Try.func33, Try.ntmps33
  go_wp2_with fail
  refine (HH.out _ (HB.out _)).mono ?_
  rintro e w' ⟨rfl, hb'⟩
  have HB' := Lib.hid ((HB.out _).trans (hb'.mono (HB.out _).size))
  clear hb' e0 e1 e2 e3 e4 e5 e6 e7 e8 m0
  go_wp2_with fail
  go_ret
  exact ⟨rfl, HB'.out⟩
set_option maxRecDepth 100000 in
set_option maxHeartbeats 1000000 in
theorem hold2 (u : World) (b b1 b2 : Nat) (c : Cnd) (a2 : Option Addr) (n2 c2 : Nat) (h1 : u.heap[b]? = some (.cells #[.func (.func 33) #[] #[.pointer (some ⟨b1, 0, none⟩), .pointer (some ⟨b2, 0, none⟩)]] 42)) (R : Bool)
    (H : ∀ u', Below u.heap.size u u' → Calls Try.prog 33 #[cndV c (.slice a2 n2 c2), .pointer (some ⟨b1, 0, none⟩), .pointer (some ⟨b2, 0, none⟩)] u' fun e w' => e = .returned (.bool R) ∧ Below u'.heap.size u' w') :
    Calls Try.prog 34 #[cndV c (.slice a2 n2 c2), .pointer (some ⟨b, 0, none⟩)] u fun e w' => e = .returned (.bool (!R)) ∧ Below u.heap.size u w' := by
  obtain ⟨kind, kids, arg, mask, sign, value⟩ := c
  unfold cndV at H ⊢
  simp only [Cnd.kind, Cnd.arg, Cnd.mask, Cnd.sign, Cnd.value] at H ⊢
  have hb := fun o => (Below.refl u.heap.size u).alloc (Nat.le_refl _) o
  have m0 := fun o => below_cell (hb o) h1 0 rfl
  have HH := Lib.hid H; have HB := Lib.hid hb
  clear H h1 hb
  go_enter Try.func34, Try.ntmps34
  go_wp2_with fail
  refine (HH.out _ (HB.out _)).mono ?_
  rintro e w' ⟨rfl, hb'⟩
  have HB' := Lib.hid ((HB.out _).trans (hb'.mono (HB.out _).size))
  clear hb' m0
  go_wp2_with fail
  go_ret
  exact ⟨rfl, HB'.out⟩
end Go.Proofs.Ytgcngmlndijppaa
