/- The walk of InsnOne. -/
import Derived.Test.YtbndhegmfnfahabInsnOpen
import Derived.Test.YtbndhegmfnfahabInsnKnown
namespace Go.Proofs.Ytbndhegmfnfahab.lawInsnOne
open Go.RowKit
set_option linter.unusedVariables false

set_option maxHeartbeats 1000000 in
theorem walk (v0 : Value) (i : Ins) (v1 : Value) (j : Ins) (w : World) (w0 : IsInsn w v0 i) (w1 : IsInsn w v1 j) :
    Calls Try.prog 4 #[v0, v1] w fun e w' => e = .returned (.bool true) ∧ Below w.heap.size w w' := by
  obtain ⟨rfl, bi⟩ := w0
  obtain ⟨rfl, bj⟩ := w1
  have hp1 := fun u => insnPut_any i u bi
  have hp2 := fun u => insnPut_any j u bj
  have HP1 := Lib.hid hp1; have HP2 := Lib.hid hp2
  clear hp1 hp2
  have hS1 : i.fits ∧ insPutS i = i.bytes ∧ insPutE i = 0 ∨ ¬ i.fits ∧ insPutS i = ⟨#[]⟩ ∧ insPutE i = 1 := by
    by_cases h : i.fits
    · exact .inl ⟨h, by unfold insPutS; rw [if_pos h], by unfold insPutE; rw [if_pos h]⟩
    · exact .inr ⟨h, by unfold insPutS; rw [if_neg h], by unfold insPutE; rw [if_neg h]⟩
  have hS2 : j.fits ∧ insPutS j = j.bytes ∧ insPutE j = 0 ∨ ¬ j.fits ∧ insPutS j = ⟨#[]⟩ ∧ insPutE j = 1 := by
    by_cases h : j.fits
    · exact .inl ⟨h, by unfold insPutS; rw [if_pos h], by unfold insPutE; rw [if_pos h]⟩
    · exact .inr ⟨h, by unfold insPutS; rw [if_neg h], by unfold insPutE; rw [if_neg h]⟩
  have hinj : i.fits → j.fits → (i.bytes = j.bytes ↔ i = j) := fun h1 h2 => ⟨fun h => Ins.bytes_inj h1 h2 bi bj h, fun h => by rw [h]⟩
  have hz1 := Ins.bytes_size i
  have hz2 := Ins.bytes_size j
  have HS1 := Lib.hid hS1; have HS2 := Lib.hid hS2; have HI := Lib.hid hinj; have HZ1 := Lib.hid hz1; have HZ2 := Lib.hid hz2
  clear hS1 hS2 hinj hz1 hz2 bi bj
  obtain ⟨S1, e1⟩ : ∃ S, insPutS i = S := ⟨_, rfl⟩
  obtain ⟨E1, e2⟩ : ∃ S, insPutE i = S := ⟨_, rfl⟩
  obtain ⟨S2, e3⟩ : ∃ S, insPutS j = S := ⟨_, rfl⟩
  obtain ⟨E2, e4⟩ : ∃ S, insPutE j = S := ⟨_, rfl⟩
  rw [e1, e2] at HP1 HS1
  rw [e3, e4] at HP2 HS2
  clear e1 e2 e3 e4
  generalize i.bytes = I at *
  generalize j.bytes = J at *
  obtain ⟨c, t, f, k⟩ := i
  obtain ⟨c', t', f', k'⟩ := j
  simp only [Ins.value] at HP1 HP2 ⊢
  go_enter Try.func4, Try.ntmps4
  go_wp2_with fail
  generalize hW : (w.alloc (.cells #[.int .i64 c, .int .i64 t, .int .i64 f, .int .u32 k] 32)).alloc (.cells #[.int .i64 c', .int .i64 t', .int .i64 f', .int .u32 k'] 32) = W
  have b1 : W.heap[w.heap.size]? = some (.cells #[.int .i64 c, .int .i64 t, .int .i64 f, .int .u32 k] 32 (0, 0)) := by rw [← hW]; exact heap_alloc2_old w _ _
  have b2 : W.heap[w.heap.size + 1]? = some (.cells #[.int .i64 c', .int .i64 t', .int .i64 f', .int .u32 k'] 32 (0, 0)) := by rw [← hW]; exact heap_alloc2_new w _ _
  have hbel : Below w.heap.size w W := by rw [← hW]; exact ((Below.refl _ _).alloc (Nat.le_refl _) _).alloc (by simp) _
  clear hW
  have hb0 := Below.refl W.heap.size W
  refine (keep hb0 (HP1.out _)).mono ?_
  rintro e w1 ⟨rfl, hb1⟩
  have x0 : w1.cell? ⟨w.heap.size + 1, 0, none⟩ = some (.int .i64 c') := below_cell hb1 b2 _ rfl
  have x1 : w1.cell? ⟨w.heap.size + 1, 1, none⟩ = some (.int .i64 t') := below_cell hb1 b2 _ rfl
  have x2 : w1.cell? ⟨w.heap.size + 1, 2, none⟩ = some (.int .i64 f') := below_cell hb1 b2 _ rfl
  have x3 : w1.cell? ⟨w.heap.size + 1, 3, none⟩ = some (.int .u32 k') := below_cell hb1 b2 _ rfl
  go_wp2_with fail
  refine (keep hb1 (HP2.out _)).mono ?_
  rintro e w2 ⟨rfl, hb2⟩
  clear hb1 x0 x1 x2 x3 HP1 HP2 hb0
  have hS1 := HS1.out
  have hS2 := HS2.out
  clear HS1 HS2
  rcases hS1 with ⟨f1, rfl, rfl⟩ | ⟨f1, rfl, rfl⟩
  · rcases hS2 with ⟨f2, rfl, rfl⟩ | ⟨f2, rfl, rfl⟩
    · have hinj := HI.out f1 f2
      clear f1 f2 HI
      have HJ := Lib.hid hinj
      clear hinj
      go_wp2_with fail
      refine (keep hb2 (insnAlive _)).mono ?_
      rintro e w3 ⟨rfl, hb3⟩
      clear hb2
      have y0 : w3.cell? ⟨w.heap.size + 1, 0, none⟩ = some (.int .i64 c') := below_cell hb3 b2 _ rfl
      have y1 : w3.cell? ⟨w.heap.size + 1, 1, none⟩ = some (.int .i64 t') := below_cell hb3 b2 _ rfl
      have y2 : w3.cell? ⟨w.heap.size + 1, 2, none⟩ = some (.int .i64 f') := below_cell hb3 b2 _ rfl
      have y3 : w3.cell? ⟨w.heap.size + 1, 3, none⟩ = some (.int .u32 k') := below_cell hb3 b2 _ rfl
      have x0 : w3.cell? ⟨w.heap.size, 0, none⟩ = some (.int .i64 c) := below_cell hb3 b1 _ rfl
      have x1 : w3.cell? ⟨w.heap.size, 1, none⟩ = some (.int .i64 t) := below_cell hb3 b1 _ rfl
      have x2 : w3.cell? ⟨w.heap.size, 2, none⟩ = some (.int .i64 f) := below_cell hb3 b1 _ rfl
      have x3 : w3.cell? ⟨w.heap.size, 3, none⟩ = some (.int .u32 k) := below_cell hb3 b1 _ rfl
      have B1 := Lib.hid b1; have B2 := Lib.hid b2
      clear b1 b2
      have z1I : (S1.size : Int) = 8 := by have := HZ1.out; omega
      have z2I : (S2.size : Int) = 8 := by have := HZ2.out; omega
      go_wp2_with fail
      all_goals go_ret
      all_goals refine ⟨?_, hbel.trans (hb3.mono hbel.size)⟩
      all_goals clear y0 y1 y2 y3 x0 x1 x2 x3 z1I z2I B1 B2 HZ1 HZ2
      all_goals first
        | (have hS : S1 = S2 := HJ.out.2 (Ins.ext_of (show c = c' from by assumption) (show t = t' from by assumption) (show f = f' from by assumption) (show k = k' from by assumption))
           subst hS
           simp
           done)
        | (have hS : S1 ≠ S2 := fun h => by
             have hh := HJ.out.1 h
             simp only [Ins.mk.injEq] at hh
             simp_all
           simp [ba_tne hS])
    · go_wp2_with fail
      refine (keep hb2 (insnAlive _)).mono ?_
      rintro e w3 ⟨rfl, hb3⟩
      go_wp2_with fail
      go_ret
      exact ⟨rfl, hbel.trans (hb3.mono hbel.size)⟩
  · rcases hS2 with ⟨f2, rfl, rfl⟩ | ⟨f2, rfl, rfl⟩
    all_goals
      go_wp2_with fail
      refine (keep hb2 (insnAlive _)).mono ?_
      rintro e w3 ⟨rfl, hb3⟩
      go_wp2_with fail
      go_ret
      exact ⟨rfl, hbel.trans (hb3.mono hbel.size)⟩
end Go.Proofs.Ytbndhegmfnfahab.lawInsnOne
