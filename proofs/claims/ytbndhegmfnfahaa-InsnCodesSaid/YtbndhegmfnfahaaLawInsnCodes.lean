/- The walk of InsnCodes. -/
import Derived.Test.YtbndhegmfnfahaaRef10G
import Derived.Test.YtbndhegmfnfahaaInsnOpen
namespace Go.Proofs.Ytbndhegmfnfahaa.lawInsnCodes
open Go.RowKit
set_option linter.unusedVariables false

theorem eqIns (i j : Ins) (h : i = j) (u : World) : (binOp .eql 55 i.value j.value).run Try.prog u = .ok (.bool true) u := by
  subst h
  obtain ⟨a, b, c, d⟩ := i
  have u3 := Try.underlying3
  have u27 := Try.underlying27
  have z3 := Try.sizeOf3
  have z27 := Try.sizeOf27
  simp only [Ins.value]
  go_simp

set_option maxRecDepth 100000 in
set_option maxHeartbeats 1000000 in
theorem walk (code : Int) (v1 : Value) (i : Ins) (s : ByteArray) (w : World) (w0 : (Lit.int .i64 code).wf = true) (w1 : IsInsn w v1 i) (w2 : s.size ≤ maxLen) :
    Calls Try.prog 12 #[.int .i64 code, v1, .string s] w fun e w' => e = .returned (.bool true) ∧ Below w.heap.size w w' := by
  obtain ⟨rfl, bi⟩ := w1
  have hp := fun u => insnPut_any i u bi
  have hq := fun u => refPut_any i u bi
  have HP := Lib.hid hp; have HQ := Lib.hid hq
  unfold maxLen at w2
  have hsI : (s.size : Int) ≤ 9223372036854775807 := by omega
  obtain ⟨m, hm, hms, hm3, hmm⟩ := min_if s.size 20 (by omega)
  have hmi : min (s.size : Int) 20 = m := by omega
  have hmI : (m : Int) ≤ s.size := by omega
  have HG := Lib.hid (fun u => insnGet_any (s.extract 0 m) u)
  have HH := Lib.hid (fun u => refGet_any (s.extract 0 m) u)
  generalize insGetI (s.extract 0 m) = x at *
  generalize insGetE (s.extract 0 m) = E at *
  generalize insPutS i = S at *
  generalize insPutE i = F at *
  clear hmm w0 w2 hp hq bi
  obtain ⟨c, t, f, k⟩ := i
  obtain ⟨xc, xt, xf, xk⟩ := x
  simp only [Ins.value] at HP HQ HG HH ⊢
  go_enter Try.func12, Try.ntmps12
  go_wp2_with fail
  generalize hW : w.alloc (.cells #[.int .i64 c, .int .i64 t, .int .i64 f, .int .u32 k] 55) = W
  have hblk : W.heap[w.heap.size]? = some (.cells #[.int .i64 c, .int .i64 t, .int .i64 f, .int .u32 k] 55 (0, 0)) := by rw [← hW]; exact heap_alloc_new w _
  have hbel : Below w.heap.size w W := by rw [← hW]; exact (Below.refl _ _).alloc (Nat.le_refl _) _
  clear hW
  have hb0 := Below.refl W.heap.size W
  have HB := Lib.hid hblk
  clear hblk
  go_loopw [21] (fun c wr => ∃ j : Nat, j ≤ 300 ∧ c = .int .i64 j ∧ Below W.heap.size W wr) (fun c _ => 300 - (intOf c).toNat)
  case atStart => exact ⟨0, by omega, rfl, hb0⟩
  case round =>
    clear hb0
    obtain ⟨j, hj, rfl, hwr⟩ := hrel
    by_cases hlt : j < 300
    · go_wp2_with fail
      refine (keep hwr (insnKnown_any _ _)).mono ?_
      rintro e w2 ⟨rfl, hw2⟩
      clear hwr
      go_wp2_with fail
      refine (refKnown_any _ _).mono ?_
      rintro e w3 ⟨rfl, rfl⟩
      generalize insKnown (j : Int) = B at *
      go_wp2_with fail
      go_roundw
      case rel => exact ⟨j + 1, by omega, by go_num, hw2⟩
      case measure => simp [intOf]; omega
    · obtain rfl : j = 300 := by omega
      rw [show ((300 : Nat) : Int) = 300 from rfl]
      have p0 := below_cell (v := .int .i64 c) hwr HB.out 0 rfl
      have p1 := below_cell (v := .int .i64 t) hwr HB.out 1 rfl
      have p2 := below_cell (v := .int .i64 f) hwr HB.out 2 rfl
      have p3 := below_cell (v := .int .u32 k) hwr HB.out 3 rfl
      go_wp2_with fail
      refine (keep hwr (HP.out _)).mono ?_
      rintro e w2 ⟨rfl, hw2⟩
      clear p0 p1 p2 p3 hwr
      have p0 := below_cell (v := .int .i64 c) hw2 HB.out 0 rfl
      have p1 := below_cell (v := .int .i64 t) hw2 HB.out 1 rfl
      have p2 := below_cell (v := .int .i64 f) hw2 HB.out 2 rfl
      have p3 := below_cell (v := .int .u32 k) hw2 HB.out 3 rfl
      go_wp2_with fail
      refine (keep hw2 (HQ.out _)).mono ?_
      rintro e w3 ⟨rfl, hw3⟩
      clear p0 p1 p2 p3 hw2
      go_wp2_with fail
      refine (keep hw3 (HG.out _)).mono ?_
      rintro e w4 ⟨rfl, hw4⟩
      clear hw3
      go_wp2_with fail
      refine (HH.out _).mono ?_
      rintro e w5 ⟨rfl, hb5⟩
      have hw5 := (hw4.alloc hw4.size (.cells #[.int .i64 xc, .int .i64 xt, .int .i64 xf, .int .u32 xk] 55)).trans (hb5.mono (by have := hw4.size; simp; omega))
      have hX : w5.heap[w4.heap.size]? = some (.cells #[.int .i64 xc, .int .i64 xt, .int .i64 xf, .int .u32 xk] 55 (0, 0)) := by
        rw [hb5.block _ (by simp)]; exact heap_alloc_new w4 _
      have hY := heap_alloc_new w5 (.cells #[.int .i64 xc, .int .i64 xt, .int .i64 xf, .int .u32 xk] 55)
      have hX2 := (heap_alloc_old w5 (.cells #[.int .i64 xc, .int .i64 xt, .int .i64 xf, .int .u32 xk] 55) (lt_of_block hX)).trans hX
      have hw6 := hw5.alloc hw5.size (.cells #[.int .i64 xc, .int .i64 xt, .int .i64 xf, .int .u32 xk] 55)
      have HX := Lib.hid hX2; have HY := Lib.hid hY
      clear hX hX2 hY hw5 hb5 hw4
      go_wp2_with fail
      generalize w5.alloc (.cells #[.int .i64 xc, .int .i64 xt, .int .i64 xf, .int .u32 xk] 55) = W6 at *
      have hb60 := Below.refl W6.heap.size W6
      refine (keep hb60 (insnAlive _)).mono ?_
      rintro e w7 ⟨rfl, hb7⟩
      clear hb60
      go_wp2_with fail
      refine (keep hb7 (insnKnown_any _ _)).mono ?_
      rintro e w8 ⟨rfl, hb8⟩
      clear hb7
      go_wp2_with fail
      refine (refKnown_any _ _).mono ?_
      rintro e w9 ⟨rfl, rfl⟩
      have p0 := below_cell (v := .int .i64 xc) hb8 HX.out 0 rfl
      have p1 := below_cell (v := .int .i64 xt) hb8 HX.out 1 rfl
      have p2 := below_cell (v := .int .i64 xf) hb8 HX.out 2 rfl
      have p3 := below_cell (v := .int .u32 xk) hb8 HX.out 3 rfl
      have q0 := below_cell (v := .int .i64 xc) hb8 HY.out 0 rfl
      have q1 := below_cell (v := .int .i64 xt) hb8 HY.out 1 rfl
      have q2 := below_cell (v := .int .i64 xf) hb8 HY.out 2 rfl
      have q3 := below_cell (v := .int .u32 xk) hb8 HY.out 3 rfl
      have heq := fun u => eqIns ⟨xc, xt, xf, xk⟩ ⟨xc, xt, xf, xk⟩ rfl u
      simp only [Ins.value] at heq
      generalize insKnown code = B at *
      go_wp2_with fail
      go_ret
      exact ⟨rfl, hbel.trans ((hw6.trans (hb8.mono hw6.size)).mono hbel.size)⟩
end Go.Proofs.Ytbndhegmfnfahaa.lawInsnCodes
