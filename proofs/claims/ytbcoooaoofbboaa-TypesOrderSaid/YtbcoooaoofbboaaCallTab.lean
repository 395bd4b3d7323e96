/- The tables of calls. -/
import Derived.Test.YtbcoooaoofbboaaGen
import Derived.Test.YtbcoooaoofbboaaRows
namespace Go.Proofs.Ytbcoooaoofbboaa
open Go.RowKit
set_option linter.unusedVariables false

/-- names, as bytes, and numbers -/
def x86T : List (List UInt8 × Nat) := [([114, 101, 97, 100], 0), ([119, 114, 105, 116, 101], 1), ([111, 112, 101, 110], 2), ([99, 108, 111, 115, 101], 3), ([115, 116, 97, 116], 4), ([102, 115, 116, 97, 116], 5), ([108, 115, 101, 101, 107], 8), ([109, 109, 97, 112], 9), ([109, 112, 114, 111, 116, 101, 99, 116], 10), ([109, 117, 110, 109, 97, 112], 11), ([98, 114, 107], 12), ([105, 111, 99, 116, 108], 16), ([97, 99, 99, 101, 115, 115], 21), ([112, 105, 112, 101], 22), ([100, 117, 112], 32), ([103, 101, 116, 112, 105, 100], 39), ([115, 111, 99, 107, 101, 116], 41), ([99, 111, 110, 110, 101, 99, 116], 42), ([97, 99, 99, 101, 112, 116], 43), ([98, 105, 110, 100], 49), ([108, 105, 115, 116, 101, 110], 50), ([99, 108, 111, 110, 101], 56), ([102, 111, 114, 107], 57), ([101, 120, 101, 99, 118, 101], 59), ([101, 120, 105, 116], 60), ([107, 105, 108, 108], 62), ([117, 110, 97, 109, 101], 63), ([102, 99, 110, 116, 108], 72), ([112, 116, 114, 97, 99, 101], 101), ([103, 101, 116, 117, 105, 100], 102), ([109, 111, 117, 110, 116], 165), ([102, 117, 116, 101, 120], 202), ([101, 120, 105, 116, 95, 103, 114, 111, 117, 112], 231), ([111, 112, 101, 110, 97, 116], 257), ([115, 101, 99, 99, 111, 109, 112], 317)]
def armT : List (List UInt8 × Nat) := [([114, 101, 97, 100], 63), ([119, 114, 105, 116, 101], 64), ([99, 108, 111, 115, 101], 57), ([102, 115, 116, 97, 116], 80), ([108, 115, 101, 101, 107], 62), ([109, 109, 97, 112], 222), ([109, 112, 114, 111, 116, 101, 99, 116], 226), ([109, 117, 110, 109, 97, 112], 215), ([98, 114, 107], 214), ([105, 111, 99, 116, 108], 29), ([100, 117, 112], 23), ([103, 101, 116, 112, 105, 100], 172), ([115, 111, 99, 107, 101, 116], 198), ([99, 111, 110, 110, 101, 99, 116], 203), ([97, 99, 99, 101, 112, 116], 202), ([98, 105, 110, 100], 200), ([108, 105, 115, 116, 101, 110], 201), ([99, 108, 111, 110, 101], 220), ([101, 120, 101, 99, 118, 101], 221), ([101, 120, 105, 116], 93), ([107, 105, 108, 108], 129), ([117, 110, 97, 109, 101], 160), ([102, 99, 110, 116, 108], 25), ([112, 116, 114, 97, 99, 101], 117), ([103, 101, 116, 117, 105, 100], 174), ([109, 111, 117, 110, 116], 40), ([102, 117, 116, 101, 120], 98), ([101, 120, 105, 116, 95, 103, 114, 111, 117, 112], 94), ([111, 112, 101, 110, 97, 116], 56), ([115, 101, 99, 99, 111, 109, 112], 277)]
def tabV (l : List (List UInt8 × Nat)) : List Value := l.flatMap fun e => [.string ⟨e.1.toArray⟩, .int .u32 (e.2 : Nat)]

set_option maxHeartbeats 4000000 in
set_option maxRecDepth 100000 in
theorem x86_any (w : World) : Calls Try.prog 54 #[] w fun e w' => e = .returned (.slice (some ⟨w.heap.size, 0, none⟩) 35 35) ∧ w' = w.alloc (.cells (tabV x86T).toArray 83) := by
  go_enter Try.func54, Try.ntmps54
  go_big_wp2_with fail
  go_ret
  exact ⟨rfl, rfl⟩
set_option maxHeartbeats 4000000 in
set_option maxRecDepth 100000 in
theorem arm_any (w : World) : Calls Try.prog 55 #[] w fun e w' => e = .returned (.slice (some ⟨w.heap.size, 0, none⟩) 30 30) ∧ w' = w.alloc (.cells (tabV armT).toArray 83) := by
  go_enter Try.func55, Try.ntmps55
  go_big_wp2_with fail
  go_ret
  exact ⟨rfl, rfl⟩

/-- an architecture's table -/
def tabOf (arch : Int) : List (List UInt8 × Nat) := if arch = 3221225534 then x86T else if arch = 3221225655 then armT else []
/-- v is the table, in a block of its own -/
def IsTab (w : World) (v : Value) (base : Nat) (l : List (List UInt8 × Nat)) : Prop :=
  (l = [] ∧ v = .slice none 0 0) ∨ ∃ g, base ≤ g ∧ v = .slice (some ⟨g, 0, none⟩) l.length l.length ∧ w.heap[g]? = some (.cells (tabV l).toArray 83 (0, 0))
theorem tabV_name (l : List (List UInt8 × Nat)) (i : Nat) (h : i < l.length) : (tabV l)[2 * i]? = some (.string ⟨(l.getD i ([], 0)).1.toArray⟩) := by
  induction l generalizing i with
  | nil => simp at h
  | cons e l ih =>
    cases i with
    | zero => rfl
    | succ i =>
      have := ih i (by simpa using h)
      simp only [tabV, List.flatMap_cons] at this ⊢
      rw [show 2 * (i + 1) = 2 * i + 2 from by omega]
      simpa using this
theorem tabV_nr (l : List (List UInt8 × Nat)) (i : Nat) (h : i < l.length) : (tabV l)[2 * i + 1]? = some (.int .u32 ((l.getD i ([], 0)).2 : Nat)) := by
  induction l generalizing i with
  | nil => simp at h
  | cons e l ih =>
    cases i with
    | zero => rfl
    | succ i =>
      have := ih i (by simpa using h)
      simp only [tabV, List.flatMap_cons] at this ⊢
      rw [show 2 * (i + 1) + 1 = 2 * i + 1 + 2 from by omega]
      simpa using this

theorem table_any (a : Int) (w : World) (h0 : 0 ≤ a) (h1 : a ≤ 4294967295) :
    Calls Try.prog 48 #[.int .u32 a] w fun e w' => (∃ v, e = .returned v ∧ IsTab w' v w.heap.size (tabOf a)) ∧ Below w.heap.size w w' := by
  by_cases hx : a = 3221225534
  · have ht : tabOf a = x86T := by unfold tabOf; rw [if_pos hx]
    have HT := Lib.hid ht
    have hb : (a == 3221225534) = true := by simp [hx]
    clear hx ht
    go_enter Try.func48, Try.ntmps48
    go_wp2_with fail
    refine (x86_any _).mono ?_
    rintro e w1 ⟨rfl, rfl⟩
    go_wp2_with fail
    go_ret
    refine ⟨⟨_, rfl, ?_⟩, (Below.refl _ _).alloc (Nat.le_refl _) _⟩
    rw [HT.out]
    exact .inr ⟨_, Nat.le_refl _, rfl, heap_alloc_new w _⟩
  · by_cases hy : a = 3221225655
    · have ht : tabOf a = armT := by unfold tabOf; rw [if_neg hx, if_pos hy]
      have HT := Lib.hid ht
      have hb : (a == 3221225534) = false := by simp [hx]
      have hb2 : (a == 3221225655) = true := by simp [hy]
      clear hx hy ht
      go_enter Try.func48, Try.ntmps48
      go_wp2_with fail
      refine (arm_any _).mono ?_
      rintro e w1 ⟨rfl, rfl⟩
      go_wp2_with fail
      go_ret
      refine ⟨⟨_, rfl, ?_⟩, (Below.refl _ _).alloc (Nat.le_refl _) _⟩
      rw [HT.out]
      exact .inr ⟨_, Nat.le_refl _, rfl, heap_alloc_new w _⟩
    · have ht : tabOf a = [] := by unfold tabOf; rw [if_neg hx, if_neg hy]
      have HT := Lib.hid ht
      have hb : (a == 3221225534) = false := by simp [hx]
      have hb2 : (a == 3221225655) = false := by simp [hy]
      clear hx hy ht
      go_enter Try.func48, Try.ntmps48
      go_wp2_with fail
      go_ret
      refine ⟨⟨_, rfl, ?_⟩, Below.refl _ _⟩
      rw [HT.out]
      exact .inl ⟨rfl, rfl⟩
end Go.Proofs.Ytbcoooaoofbboaa
