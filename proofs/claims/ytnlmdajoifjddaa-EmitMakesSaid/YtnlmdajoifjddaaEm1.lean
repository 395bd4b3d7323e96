/- emit.Size. -/
import Derived.Test.YtnlmdajoifjddaaAsm
namespace Go.Proofs.Ytnlmdajoifjddaa
open Go.RowKit
set_option linter.unusedVariables false

set_option maxRecDepth 100000 in
theorem emCount_any (o : Stp) (B n : Nat) (w : World) (hn : n ≤ 1000000) (hb : w.heap[B]? = some (.cells #[.int .i64 (n : Int)] 3 (0, 0))) :
    Calls Try.prog 20 #[o.value, .pointer (some ⟨B, 0, none⟩)] w fun e w' => e = .returned (.tuple #[]) ∧ w'.heap[B]? = some (.cells #[.int .i64 ((n + szI o.kind : Nat) : Int)] 3 (0, 0)) ∧ ∀ b0 w0, b0 ≤ B → Below b0 w0 w → Below b0 w0 w' := by
  obtain ⟨kind, k, t, f⟩ := o
  unfold Stp.value
  dsimp only
  have hlt := lt_of_block hb
  have hBne : B ≠ w.heap.size := by omega
  have hnI : (n : Int) ≤ 1000000 := by omega
  have hb2 := (Below.heap_alloc w (Obj.cells #[.int .i64 kind, .int .u32 (k : Nat), .int .i64 t, .int .i64 f] 32) B hlt).trans hb
  have q := below_cell (v := .int .i64 (n : Int)) (Below.refl _ _) hb2 0 rfl
  have fz := block_frozen hb2 0
  have hset : ∀ x : Nat, ((w.setCell ⟨B, 0, none⟩ (.int .i64 ((n : Int) + x))).alloc (Obj.cells #[.int .i64 kind, .int .u32 (k : Nat), .int .i64 t, .int .i64 f] 32)).heap[B]? = some (.cells #[.int .i64 ((n + x : Nat) : Int)] 3 (0, 0)) := fun x => by
    have := block_set hb 0 (.int .i64 ((n : Int) + x))
    refine (Below.heap_alloc _ _ B (lt_of_block this)).trans ?_
    simpa using this
  have hset2 : ∀ b0 w0 v, b0 ≤ B → Below b0 w0 w → Below b0 w0 ((w.setCell ⟨B, 0, none⟩ v).alloc (Obj.cells #[.int .i64 kind, .int .u32 (k : Nat), .int .i64 t, .int .i64 f] 32)) := fun b0 w0 v h1 h2 => (h2.setCell (p := ⟨B, 0, none⟩) h1 v).alloc (by rw [World.size_setCell]; omega) _
  have HS2 := Lib.hid hset2
  have hbel : ∀ b0 w0, b0 ≤ B → Below b0 w0 w → Below b0 w0 (w.alloc (Obj.cells #[.int .i64 kind, .int .u32 (k : Nat), .int .i64 t, .int .i64 f] 32)) := fun b0 w0 h1 h2 => h2.alloc (by omega) _
  have HS := Lib.hid hset; have HB2 := Lib.hid hb2; have HBL := Lib.hid hbel
  clear hset hset2 hb hb2 hbel
  have fin0 : ((w.alloc (Obj.cells #[.int .i64 kind, .int .u32 (k : Nat), .int .i64 t, .int .i64 f] 32))).heap[B]? = some (.cells #[.int .i64 ((n + 0 : Nat) : Int)] 3 (0, 0)) := HB2.out
  have HF0 := Lib.hid fin0
  clear fin0
  by_cases k1 : kind = 1
  · subst k1
    rw [show szI 1 = 1 from rfl]
    go_enter Try.func20, Try.ntmps20
    go_wp2_with fail
    go_end0
    exact ⟨rfl, HS.out 1, fun b0 w0 h1 h2 => HS2.out b0 w0 _ h1 h2⟩
  by_cases k2 : kind = 2
  · subst k2
    rw [show szI 2 = 1 from rfl]
    go_enter Try.func20, Try.ntmps20
    go_wp2_with fail
    go_end0
    exact ⟨rfl, HS.out 1, fun b0 w0 h1 h2 => HS2.out b0 w0 _ h1 h2⟩
  by_cases k7 : kind = 7
  · subst k7
    rw [show szI 7 = 1 from rfl]
    go_enter Try.func20, Try.ntmps20
    go_wp2_with fail
    go_end0
    exact ⟨rfl, HS.out 1, fun b0 w0 h1 h2 => HS2.out b0 w0 _ h1 h2⟩
  by_cases k8 : kind = 8
  · subst k8
    rw [show szI 8 = 1 from rfl]
    go_enter Try.func20, Try.ntmps20
    go_wp2_with fail
    go_end0
    exact ⟨rfl, HS.out 1, fun b0 w0 h1 h2 => HS2.out b0 w0 _ h1 h2⟩
  by_cases k3 : kind = 3
  · subst k3
    rw [show szI 3 = 3 from rfl]
    go_enter Try.func20, Try.ntmps20
    go_wp2_with fail
    go_end0
    exact ⟨rfl, HS.out 3, fun b0 w0 h1 h2 => HS2.out b0 w0 _ h1 h2⟩
  by_cases k4 : kind = 4
  · subst k4
    rw [show szI 4 = 3 from rfl]
    go_enter Try.func20, Try.ntmps20
    go_wp2_with fail
    go_end0
    exact ⟨rfl, HS.out 3, fun b0 w0 h1 h2 => HS2.out b0 w0 _ h1 h2⟩
  by_cases k5 : kind = 5
  · subst k5
    rw [show szI 5 = 3 from rfl]
    go_enter Try.func20, Try.ntmps20
    go_wp2_with fail
    go_end0
    exact ⟨rfl, HS.out 3, fun b0 w0 h1 h2 => HS2.out b0 w0 _ h1 h2⟩
  have e0 : szI kind = 0 := by unfold szI; rw [if_neg (by omega), if_neg (by omega)]
  rw [e0]
  have n1 : (kind == 1) = false := by rw [beq_eq_false_iff_ne]; exact k1
  have n2 : (kind == 2) = false := by rw [beq_eq_false_iff_ne]; exact k2
  have n7 : (kind == 7) = false := by rw [beq_eq_false_iff_ne]; exact k7
  have n8 : (kind == 8) = false := by rw [beq_eq_false_iff_ne]; exact k8
  have n3 : (kind == 3) = false := by rw [beq_eq_false_iff_ne]; exact k3
  have n4 : (kind == 4) = false := by rw [beq_eq_false_iff_ne]; exact k4
  have n5 : (kind == 5) = false := by rw [beq_eq_false_iff_ne]; exact k5
  clear e0 k1 k2 k7 k8 k3 k4 k5
  go_enter Try.func20, Try.ntmps20
  go_wp2_with fail
  go_end0
  exact ⟨rfl, HF0.out, HBL.out⟩
set_option maxRecDepth 100000 in
set_option maxHeartbeats 1000000 in
theorem emSize_any (l : List Stp) (v : Value) (w : World) (hl : IsOps w v l) (hN : l.length ≤ 100000) :
    Calls Try.prog 10 #[v] w fun e w' => e = .returned (.int .i64 (sizeL l : Nat)) ∧ Below w.heap.size w w' := by
  obtain ⟨a, len, cap, rfl, hlen, hcap, hcm, hbd, hnil, hat⟩ := hl
  have hlI : (len : Int) ≤ 100000 := by omega
  have hw1 := (Below.refl w.heap.size w).alloc (Nat.le_refl _) (Obj.cells #[.int .i64 0] 3)
  have hb1 := heap_alloc_new w (Obj.cells #[.int .i64 0] 3)
  have HAT := Lib.hid hat; have HLEN := Lib.hid hlen; have HW1 := Lib.hid hw1; have HB1 := Lib.hid hb1
  clear hat hlen hw1 hb1 hnil hbd
  go_enter Try.func10, Try.ntmps10
  go_wp2_with fail
  go_loopw [10] (fun z wr => ∃ j : Nat, z = .int .i64 j ∧ j ≤ len ∧ wr.heap[w.heap.size]? = some (.cells #[.int .i64 ((sizeL (l.take j) : Nat) : Int)] 3 (0, 0)) ∧ Below w.heap.size w wr) (fun z _ => len - (intOf z).toNat)
  case atStart => exact ⟨0, rfl, by omega, HB1.out, HW1.out⟩
  case round =>
    clear HW1 HB1
    obtain ⟨j, rfl, hj, hblk, hwr⟩ := hrel
    by_cases hlt : j < len
    · obtain ⟨b, off, rfl, hb, hat⟩ := HAT.out.resolve_left (by omega)
      have hi := (hat j hlt).below hwr hb
      have hjI : (j : Int) < len := by omega
      have hs : sizeL (l.take (j + 1)) = sizeL (l.take j) + szI (l.getD j stpZ).kind := by
        have := HLEN.out
        rw [List.take_succ_eq_append_getElem (by omega), sizeL_append]
        simp [sizeL, List.getD, show j < l.length by omega]
      have hle : sizeL (l.take j) ≤ 1000000 := by have := sizeL_le (l.take j); rw [List.length_take] at this; omega
      generalize sizeL (l.take j) = n at *
      generalize l.getD j stpZ = i at *
      have hc := fun u hu => emCount_any i w.heap.size n u hle hu
      obtain ⟨kind, k, t, f⟩ := i
      unfold Stp.value at hc
      obtain ⟨c0, c1, c2, c3⟩ := hi
      dsimp only at hc c0 c1 c2 c3 hs
      have HC := Lib.hid hc; have HS := Lib.hid hs
      have hb2 := (Below.heap_alloc wr (Obj.cells #[.int .i64 kind, .int .u32 (k : Nat), .int .i64 t, .int .i64 f] 32) w.heap.size (lt_of_block hblk)).trans hblk
      have hw2 := hwr.alloc hwr.size (Obj.cells #[.int .i64 kind, .int .u32 (k : Nat), .int .i64 t, .int .i64 f] 32)
      have HB2 := Lib.hid hb2; have HW2 := Lib.hid hw2
      clear hc hs hat hb2 hw2 hblk hwr
      go_wp2_with fail
      refine (HC.out _ HB2.out).mono ?_
      rintro e w3 ⟨rfl, hb3, hw3⟩
      have HB3 := Lib.hid hb3; have HW3 := Lib.hid (hw3 w.heap.size w (Nat.le_refl _) HW2.out)
      clear hb3 hw3
      go_wp2_with fail
      go_roundw
      case rel => exact ⟨j + 1, by go_num, by omega, by rw [HS.out]; exact HB3.out, HW3.out⟩
      case measure => simp [intOf]; omega
    · obtain rfl : j = len := by omega
      rw [show l.take j = l from List.take_of_length_le (by have := HLEN.out; omega)] at hblk
      have q := below_cell (v := .int .i64 (sizeL l : Nat)) (Below.refl _ wr) hblk 0 rfl
      go_wp2_with fail
      go_ret
      exact ⟨rfl, hwr⟩
end Go.Proofs.Ytnlmdajoifjddaa
