/- The walk of VmMoves. -/
import Derived.Test.YtpdaenpcgcjmjaaVmB
namespace Go.Proofs.Ytpdaenpcgcjmjaa.lawVmMoves
open Go.RowKit
set_option linter.unusedVariables false

def prog (k n m q : Nat) : List Ins := [⟨0, 0, 0, n⟩, ⟨1, 0, 0, m⟩, ⟨2, 0, 0, q⟩, ⟨3, 0, 0, ((k + 1 : Nat) : Int)⟩, ⟨97, 0, 0, k⟩, ⟨96, 0, 0, ((k + 1 : Nat) : Int)⟩, ⟨28, 0, 0, 0⟩, ⟨22, 0, 0, 0⟩]
def C0 : List Nat := List.replicate 16 0
theorem start (k n m q : Nat) (s : ByteArray) (hs : s.size = 64) : runR (prog k n m q) s = runF (prog k n m q) s 6 ⟨n, m, C0, 2, 0, false⟩ 3 := by
  have e : runR (prog k n m q) s = runF (prog k n m q) s 8 ⟨0, 0, C0, 0, 0, false⟩ 1 := by unfold runR; rw [if_pos hs]; rfl
  have e0 : runF (prog k n m q) s 8 ⟨0, 0, C0, 0, 0, false⟩ 1 = runF (prog k n m q) s 7 ⟨n, 0, C0, 1, 0, false⟩ 2 := runF_go (m' := ⟨n, 0, C0, 1, 0, false⟩) (show 0 < 8 by omega) (known0 0 (by decide)) (stepM_at rfl rfl rfl rfl (d0 _ _ _ _) (rfl)) rfl
  have e1 : runF (prog k n m q) s 7 ⟨n, 0, C0, 1, 0, false⟩ 2 = runF (prog k n m q) s 6 ⟨n, m, C0, 2, 0, false⟩ 3 := runF_go (m' := ⟨n, m, C0, 2, 0, false⟩) (show 1 < 8 by omega) (known0 1 (by decide)) (stepM_at rfl rfl rfl rfl (d1 _ _ _ _) (rfl)) rfl
  exact e.trans (e0.trans e1)
theorem bad (k n m : Nat) (s : ByteArray) (hs : s.size = 64) : runR (prog k n m 16) s = (0, 0, 51) := by
  have e : runF (prog k n m 16) s 6 ⟨n, m, C0, 2, 0, false⟩ 3 = (0, 0, 51) := runF_bad (m' := ⟨n, m, C0, 3, 0, false⟩) (show 2 < 8 by omega) (known0 2 (by decide)) (stepM_at rfl rfl rfl rfl (d2 _ _ _ _) rfl)
  exact (start k n m 16 s hs).trans e
theorem set_get (k n m : Nat) (h : k < 15) : ((C0.set k n).set (k + 1) m).getD k 0 = n ∧ ((C0.set k n).set (k + 1) m).getD (k + 1) 0 = m := by
  have hl : C0.length = 16 := rfl
  constructor
  · rw [List.getD_eq_getElem?_getD, List.getElem?_set_ne (by omega), List.getElem?_set_self (by omega)]; rfl
  · rw [List.getD_eq_getElem?_getD, List.getElem?_set_self (by rw [List.length_set]; omega)]; rfl
theorem good (k n m : Nat) (s : ByteArray) (hs : s.size = 64) (hk : k < 15) : runR (prog k n m k) s = ((m + (4294967296 - n)) % 4294967296, 8, 0) := by
  obtain ⟨g1, g2⟩ := set_get k n m hk
  have e2 : runF (prog k n m k) s 6 ⟨n, m, C0, 2, 0, false⟩ 3 = runF (prog k n m k) s 5 ⟨n, m, C0.set k n, 3, 0, false⟩ 4 := runF_go (m' := ⟨n, m, C0.set k n, 3, 0, false⟩) (show 2 < 8 by omega) (known0 2 (by decide)) (stepM_at rfl rfl rfl rfl (d2 _ _ _ _) (if_pos (show k < 16 by omega))) rfl
  have e3 : runF (prog k n m k) s 5 ⟨n, m, C0.set k n, 3, 0, false⟩ 4 = runF (prog k n m k) s 4 ⟨n, m, ((C0.set k n).set (k + 1) m), 4, 0, false⟩ 5 := runF_go (m' := ⟨n, m, ((C0.set k n).set (k + 1) m), 4, 0, false⟩) (show 3 < 8 by omega) (known0 3 (by decide)) (stepM_at rfl rfl rfl rfl (d3 _ _ _ _) (if_pos (show k + 1 < 16 by omega))) rfl
  have e4 : runF (prog k n m k) s 4 ⟨n, m, ((C0.set k n).set (k + 1) m), 4, 0, false⟩ 5 = runF (prog k n m k) s 3 ⟨n, ((C0.set k n).set (k + 1) m).getD k 0, ((C0.set k n).set (k + 1) m), 5, 0, false⟩ 6 := runF_go (m' := ⟨n, ((C0.set k n).set (k + 1) m).getD k 0, ((C0.set k n).set (k + 1) m), 5, 0, false⟩) (show 4 < 8 by omega) (known0 97 (by decide)) (stepM_at rfl rfl rfl rfl (d97 _ _ _ _) (if_pos (show k < 16 by omega))) rfl
  rw [g1] at e4
  have e5 : runF (prog k n m k) s 3 ⟨n, n, ((C0.set k n).set (k + 1) m), 5, 0, false⟩ 6 = runF (prog k n m k) s 2 ⟨((C0.set k n).set (k + 1) m).getD (k + 1) 0, n, ((C0.set k n).set (k + 1) m), 6, 0, false⟩ 7 := runF_go (m' := ⟨((C0.set k n).set (k + 1) m).getD (k + 1) 0, n, ((C0.set k n).set (k + 1) m), 6, 0, false⟩) (show 5 < 8 by omega) (known0 96 (by decide)) (stepM_at rfl rfl rfl rfl (d96 _ _ _ _) (if_pos (show k + 1 < 16 by omega))) rfl
  rw [g2] at e5
  have e6 : runF (prog k n m k) s 2 ⟨m, n, ((C0.set k n).set (k + 1) m), 6, 0, false⟩ 7 = runF (prog k n m k) s 1 ⟨((m + (4294967296 - n)) % 4294967296), n, ((C0.set k n).set (k + 1) m), 7, 0, false⟩ 8 := runF_go (m' := ⟨((m + (4294967296 - n)) % 4294967296), n, ((C0.set k n).set (k + 1) m), 7, 0, false⟩) (show 6 < 8 by omega) (known0 28 (by decide)) (stepM_at rfl rfl rfl rfl (d28 _ _ _ _) (rfl)) rfl
  have e7 : runF (prog k n m k) s 1 ⟨((m + (4294967296 - n)) % 4294967296), n, ((C0.set k n).set (k + 1) m), 7, 0, false⟩ 8 = (((m + (4294967296 - n)) % 4294967296), 8, 0) := runF_ret (m' := ⟨((m + (4294967296 - n)) % 4294967296), n, ((C0.set k n).set (k + 1) m), 8, ((m + (4294967296 - n)) % 4294967296), true⟩) (show 7 < 8 by omega) (known0 22 (by decide)) (stepM_at rfl rfl rfl rfl (d22 _ _ _ _) rfl) rfl
  exact (start k n m k s hs).trans (e2.trans (e3.trans (e4.trans (e5.trans (e6.trans e7)))))
def pcells (k n m q : Nat) : Array Value := #[.int .i64 0, .int .i64 0, .int .i64 0, .int .u32 (n : Int), .int .i64 1, .int .i64 0, .int .i64 0, .int .u32 (m : Int), .int .i64 2, .int .i64 0, .int .i64 0, .int .u32 (q : Int), .int .i64 3, .int .i64 0, .int .i64 0, .int .u32 ((k + 1 : Nat) : Int),
  .int .i64 97, .int .i64 0, .int .i64 0, .int .u32 (k : Int), .int .i64 96, .int .i64 0, .int .i64 0, .int .u32 ((k + 1 : Nat) : Int), .int .i64 28, .int .i64 0, .int .i64 0, .int .u32 0, .int .i64 22, .int .i64 0, .int .i64 0, .int .u32 0]
theorem isProg (u : World) (g k n m q : Nat) (hk : k < 15) (hn : n ≤ 4294967295) (hm : m ≤ 4294967295) (hq : q ≤ 4294967295) (hB : u.heap[g]? = some (.cells (pcells k n m q) 35 (0, 0))) : IsInsns u (.slice (some ⟨g, 0, none⟩) 8 8) (prog k n m q) := by
  have hb := Below.refl u.heap.size u
  refine ⟨_, 8, 8, rfl, rfl, by omega, by omega, ?_, .inr ⟨g, 0, rfl, (Array.getElem?_eq_some_iff.1 hB).1, fun i hi => ?_⟩⟩
  · intro i hi
    unfold prog at hi
    simp only [List.mem_cons, List.not_mem_nil, or_false] at hi
    rcases hi with rfl | rfl | rfl | rfl | rfl | rfl | rfl | rfl <;> (unfold Ins.bounded; simp only; omega)
  · match i, hi with
    | 0, _ => exact ⟨below_cell hb hB 0 rfl, below_cell hb hB 1 rfl, below_cell hb hB 2 rfl, below_cell hb hB 3 rfl⟩
    | 1, _ => exact ⟨below_cell hb hB 4 rfl, below_cell hb hB 5 rfl, below_cell hb hB 6 rfl, below_cell hb hB 7 rfl⟩
    | 2, _ => exact ⟨below_cell hb hB 8 rfl, below_cell hb hB 9 rfl, below_cell hb hB 10 rfl, below_cell hb hB 11 rfl⟩
    | 3, _ => exact ⟨below_cell hb hB 12 rfl, below_cell hb hB 13 rfl, below_cell hb hB 14 rfl, below_cell hb hB 15 rfl⟩
    | 4, _ => exact ⟨below_cell hb hB 16 rfl, below_cell hb hB 17 rfl, below_cell hb hB 18 rfl, below_cell hb hB 19 rfl⟩
    | 5, _ => exact ⟨below_cell hb hB 20 rfl, below_cell hb hB 21 rfl, below_cell hb hB 22 rfl, below_cell hb hB 23 rfl⟩
    | 6, _ => exact ⟨below_cell hb hB 24 rfl, below_cell hb hB 25 rfl, below_cell hb hB 26 rfl, below_cell hb hB 27 rfl⟩
    | 7, _ => exact ⟨below_cell hb hB 28 rfl, below_cell hb hB 29 rfl, below_cell hb hB 30 rfl, below_cell hb hB 31 rfl⟩
    | i + 8, hh => exact absurd hh (by omega)
set_option maxRecDepth 100000 in
set_option maxHeartbeats 1000000 in
theorem walk (a0 a1 a2 : Int) (s0 : ByteArray) (w : World) (w0 : (Lit.int .u32 a0).wf = true) (w1 : (Lit.int .u32 a1).wf = true) (w2 : (Lit.int .u32 a2).wf = true) (w3 : s0.size ≤ maxLen) :
    Calls Try.prog 5 #[.int .u32 a0, .int .u32 a1, .int .u32 a2, .string s0] w fun e w' => e = .returned (.bool true) ∧ Below w.heap.size w w' := by
  obtain ⟨p0, q0⟩ := wf_u32 w0
  obtain ⟨p1, q1⟩ := wf_u32 w1
  obtain ⟨p2, q2⟩ := wf_u32 w2
  clear w0 w1 w2 w3
  obtain ⟨k0, rfl⟩ := Int.eq_ofNat_of_zero_le p0
  obtain ⟨n, rfl⟩ := Int.eq_ofNat_of_zero_le p1
  obtain ⟨m, rfl⟩ := Int.eq_ofNat_of_zero_le p2
  obtain ⟨k, hk, hk15⟩ : ∃ k : Nat, (k0 : Int) % 15 = k ∧ k < 15 := ⟨k0 % 15, by omega, by omega⟩
  have hkI : (k : Int) ≤ 14 := by omega
  go_enter Try.func5, Try.ntmps5
  go_wp2_with fail
  refine (vmRecord_any s0 w).mono ?_
  rintro e w1 ⟨rfl, rfl⟩
  generalize recOf s0 = s
  have hs5 : s.size = 64 ∨ s.size ≠ 64 := by omega
  have hB1 : (w.alloc (.cells (pcells k n m k) 35)).heap[w.heap.size]? = some (.cells (pcells k n m k) 35 (0, 0)) := heap_alloc_new w _
  have hP1 := isProg _ w.heap.size k n m k hk15 (by omega) (by omega) (by omega) hB1
  have hRun := vmRun_any (prog k n m k) _ s _ hP1 (by show 8 ≤ 1000000; omega)
  have HB1 := Lib.hid hB1
  have HRun := Lib.hid hRun
  clear hP1 hB1 hRun
  go_wp2_with fail
  refine HRun.out.mono ?_
  rintro e w2 ⟨rfl, hb2⟩
  have hB2 := (hb2.block w.heap.size (by simp)).trans HB1.out
  have hw2 : Below w.heap.size w w2 := tail1 hb2
  clear hb2 HB1 HRun
  rcases hs5 with hs | hs
  · have hr := good k n m s hs hk15
    have hr2 := bad k n m s hs
    rw [hr]
    have hsI : (s.size : Int) = 64 := by omega
    have hsub : ((m : Int) - n) % 4294967296 = (((m + (4294967296 - n)) % 4294967296 : Nat) : Int) := by omega
    generalize (m + (4294967296 - n)) % 4294967296 = q at *
    have f11 := block_frozen hB2 11
    have c11 : w2.cell? ⟨w.heap.size, 11, none⟩ = some (.int .u32 (k : Int)) := below_cell (Below.refl _ w2) hB2 11 rfl
    have hB3 := block_set hB2 11 (.int .u32 16)
    rw [show (pcells k n m k).setIfInBounds 11 (.int .u32 16) = pcells k n m 16 from rfl] at hB3
    have hP3 := isProg _ w.heap.size k n m 16 hk15 (by omega) (by omega) (by omega) hB3
    have hRun3 := vmRun_any (prog k n m 16) _ s _ hP3 (by show 8 ≤ 1000000; omega)
    rw [hr2] at hRun3
    have HRun3 := Lib.hid hRun3
    have HW3 := Lib.hid (hw2.setCell (p := ⟨w.heap.size, 11, none⟩) (Nat.le_refl _) (.int .u32 16))
    clear hr hr2 hB2 hB3 hP3 hRun3 hw2
    unfold resV at *
    go_wp2_with fail
    refine HRun3.out.mono ?_
    rintro e w4 ⟨rfl, hb4⟩
    have HW4 := Lib.hid (HW3.out.trans (hb4.mono HW3.out.size))
    clear hb4
    go_wp2_with fail
    refine (vmAlive _).mono ?_
    rintro e w5 ⟨rfl, hb5⟩
    have HW5 := Lib.hid (HW4.out.trans (hb5.mono HW4.out.size))
    clear hb5
    go_wp2_with fail
    go_ret
    exact ⟨rfl, HW5.out⟩
  · have hr : runR (prog k n m k) s = (0, 0, 52) := if_neg hs
    rw [hr]
    have hsI : (s.size : Int) ≠ 64 := by omega
    have HW2 := Lib.hid hw2
    clear hr hB2 hw2
    unfold resV
    go_wp2_with fail
    refine (vmAlive _).mono ?_
    rintro e w5 ⟨rfl, hb5⟩
    have HW5 := Lib.hid (HW2.out.trans (hb5.mono HW2.out.size))
    clear hb5
    go_wp2_with fail
    go_ret
    exact ⟨rfl, HW5.out⟩
end Go.Proofs.Ytpdaenpcgcjmjaa.lawVmMoves
