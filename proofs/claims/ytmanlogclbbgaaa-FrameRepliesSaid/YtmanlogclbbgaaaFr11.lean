/- The reference: which requests may be. -/
import Derived.Test.YtmanlogclbbgaaaFr4
namespace Go.Proofs.Ytmanlogclbbgaaa
open Go.RowKit
set_option linter.unusedVariables false
set_option linter.unusedSimpArgs false

theorem noB_iff (b : ByteArray) : b = noB ↔ b.size = 0 := ⟨fun h => by rw [h]; rfl, fun h => by
  apply ba_ext
  have := ba_len b
  rw [h] at this
  rw [List.length_eq_zero_iff.1 this]; rfl⟩
theorem tl_nil (b : ByteArray) : b.toList = [] ↔ b.size = 0 := by
  rw [ByteArray.toList_eq, ← List.length_eq_zero_iff, ba_len]
theorem isE_iff (b : ByteArray) : b.toList.isEmpty = decide (b.size = 0) := by
  rw [Bool.eq_iff_iff, List.isEmpty_iff, tl_nil, decide_eq_true_eq]
def nmd (k : Int) : Bool := decide (k ≤ 4 ∨ k = 6)
def nbd (k : Int) : Bool := decide (k = 2 ∨ k = 4 ∨ k = 6)
def bad1 (q : Asq) : Bool := decide (q.kind < 1 ∨ 8 < q.kind ∨ q.no < 0)
def bad2 (q : Asq) : Bool := (nmd q.kind && decide (q.name.size < 1 ∨ 12 < q.name.size)) || (!nmd q.kind && !decide (q.name = noB))
def bad3 (q : Asq) : Bool := (!nbd q.kind && !decide (q.no = 0)) || (!decide (q.kind = 1) && !decide (q.source = noB)) || (!decide (q.kind = 6) && !decide (q.record = noB))
def rightR (q : Asq) : Bool := !bad1 q && !bad2 q && !bad3 q && decide (q.source.size ≤ 2000)
theorem right_same (q : Asq) : rightR q = rightA q := by
  obtain ⟨kind, name, no, source, record⟩ := q
  have hz : ∀ b : ByteArray, b = noB ↔ b.size = 0 := noB_iff
  have hz2 : ∀ b : ByteArray, b = ByteArray.empty ↔ b.size = 0 := hz
  by_cases hk : 1 ≤ kind ∧ kind ≤ 8
  · have hc : kind = 1 ∨ kind = 2 ∨ kind = 3 ∨ kind = 4 ∨ kind = 5 ∨ kind = 6 ∨ kind = 7 ∨ kind = 8 := by omega
    rw [Bool.eq_iff_iff]
    rcases hc with rfl | rfl | rfl | rfl | rfl | rfl | rfl | rfl <;>
      (simp [rightR, rightA, bad1, bad2, bad3, nmd, nbd, Asq.unused, asqZ, hz]; (try simp only [hz2]); (try omega))
  · have h1 := right_bad ⟨kind, name, no, source, record⟩ hk
    rw [h1]
    unfold rightR bad1
    simp
    intro h
    omega
set_option maxRecDepth 100000 in
set_option maxHeartbeats 4000000 in
theorem refRight23 (q : Asq) (w : World) (h1 : q.name.size ≤ 9223372036854775807) (h2 : q.source.size ≤ 9223372036854775807) :
    Calls Try.prog 34 #[q.value] w fun e w' => e = .returned (.bool (rightA q)) ∧ Below w.heap.size w w' := by
  rw [← right_same]
  have HRR : Hid (rightR q = (!bad1 q && !bad2 q && !bad3 q && decide (q.source.size ≤ 2000))) := Lib.hid rfl
  have hs : (q.source.size : Int) ≤ 9223372036854775807 := by omega
  obtain ⟨kind, name, no, source, record⟩ := q
  have b0 := heap_alloc_new w (.cells #[.int .i64 kind, .string name, .int .i64 no, .string source, .string record] 23)
  have hb := (Below.refl w.heap.size w).alloc (Nat.le_refl _) (.cells #[.int .i64 kind, .string name, .int .i64 no, .string source, .string record] 23)
  have c0 := below_cell (Below.refl _ _) b0 0 rfl
  have c1 := below_cell (Below.refl _ _) b0 1 rfl
  have c2 := below_cell (Below.refl _ _) b0 2 rfl
  have c3 := below_cell (Below.refl _ _) b0 3 rfl
  have c4 := below_cell (Below.refl _ _) b0 4 rfl
  simp only at c0 c1 c2 c3 c4 hs h1 h2
  have HBE := Lib.hid hb
  clear b0 hb h1 h2
  unfold Asq.value
  go_enter Try.func34, Try.ntmps34
  have e1 : ∀ b : ByteArray, b.toList = [] ↔ b.size = 0 := tl_nil
  have E1 := Lib.hid e1
  clear e1
  go_wp2_with fail
  all_goals
    go_ret
    subst_vars
    refine ⟨?_, HBE.out⟩
    rw [HRR.out]
    have e1 := E1.out
    have e2 := noB_iff
    have e3 := isE_iff
    clear E1 HRR HBE c0 c1 c2 c3 c4 hs
    refine congrArg (fun x => Ending.returned (.bool x)) ?_
    rw [Bool.eq_iff_iff]
    simp only [bad1, bad2, bad3, nmd, nbd, e1, e2, e3, Bool.and_eq_true, Bool.or_eq_true, Bool.not_eq_true', Bool.or_eq_false_iff, Bool.and_eq_false_iff, decide_eq_true_eq, decide_eq_false_iff_not, bne_iff_ne, beq_iff_eq, Bool.not_eq_false', bne_eq_false_iff_eq, beq_eq_false_iff_ne, ne_eq, Bool.false_eq_true, iff_false, false_iff, iff_true, true_iff, true_or, or_true, true_and, and_true, not_true_eq_false, not_false_eq_true, false_or, or_false] at *
    first | omega | (simp; omega) | skip
end Go.Proofs.Ytmanlogclbbgaaa
