/- The machine's deed on a word. -/
import Derived.Test.YtnlmdajoifjddaaVm2
namespace Go.Proofs.Ytnlmdajoifjddaa
open Go.RowKit
set_option linter.unusedVariables false

set_option maxRecDepth 100000 in
set_option maxHeartbeats 400000 in
theorem vm_abs (rec : ByteArray) (n : Nat) (m : Mach) (B bi k : Nat) (c j f' : Value) (pm : Value) (w : World) (hM : IsM w B rec n m) (hs : rec.size = 64) (hk4 : k ≤ 4294967295) (hbi : bi ≠ B)
    (h1 : w.heap[bi]? = some (.cells #[c, j, f', .int .u32 (k : Int)] 44 (0, 0))) (h3 : Box w B pm (ptrTo B)) :
    Calls Try.prog 46 #[pm, .pointer (some ⟨bi, 0, none⟩)] w (DeedPost rec n m B (.abs k) w) := by
  obtain ⟨bm, rfl, hbm, c3⟩ := h3
  unfold ptrTo at c3
  have hkI : (k : Int) ≤ 4294967295 := by omega
  have ck := below_cell (Below.refl _ w) h1 3 rfl
  obtain ⟨m0, _⟩ := hM.facts
  have hWd := vmWord_any rec k w.drew hs hk4
  have hM' := Lib.hid hM
  obtain ⟨wd, wc, b, hv, hD, hbw⟩ : ∃ (wd : Nat) (wc : Int) (b : Bool), wordV4 rec k = .tuple #[.int .u32 (wd : Int), .int .i64 wc] ∧ Deed.run rec n m (.abs k) = (b, { m with a := wd }) ∧ (wc == 0) = b := by
    by_cases hok : wordOk k = true
    · exact ⟨getL (cutL rec k 4), 0, true, by unfold wordV4; rw [if_pos hok], by unfold Deed.run; simp only; rw [if_pos hok], rfl⟩
    · exact ⟨0, 51, false, by unfold wordV4; rw [if_neg hok]; rfl, by unfold Deed.run; simp only; rw [if_neg hok], rfl⟩
  rw [hv] at hWd
  have HWD := Lib.hid hWd
  have HD := Lib.hid hD
  have HS := Lib.hid (hM.setA wd)
  have hE := Lib.hid (fun (b : Nat) (hb : b ≠ B) x => Below.heap_setCell w ⟨B, 1, none⟩ x b hb)
  have f1 := block_frozen hM.blk 1
  have m1 := hM.facts.2.1
  clear hWd hv hD h1 hM
  have hwk : IntKind.i64.wrap (k : Int) = k := IntWalk.i64_in _ (by omega)
  have hwk2 : wrap64 (k : Int) = k := by unfold wrap64; omega
  go_enter Try.func46, Try.ntmps46
  go_upto_region 1 with fail
  go_region_held3 (fun u => u.cell? ⟨bm, 0, none⟩ = some (.pointer (some ⟨B, 0, none⟩)) ∧ u.cell? ⟨B, 0, none⟩ = some (.string rec) ∧ u.cell? ⟨bi, 3, none⟩ = some (.int .u32 (k : Int)))
    ((first | assumption | exact ⟨c3, m0, ck⟩))
    (first
    | (go_at_call 24; go_must (refine HWD.out.mono ?_); rintro e w5 ⟨rfl, rfl⟩)
    | fail)
  all_goals
    go_wp2_with fail
    go_ret
    refine ⟨by rw [HD.out]; rfl, by rw [HD.out]; exact ⟨HS.out.blk, HS.out.len⟩, ?_, ?_⟩
    · intro base w0 hB h
      first | exact h.drew.setCell (p := ⟨B, 1, none⟩) hB _ | exact (h.setCell (p := ⟨B, 1, none⟩) hB _).drew
    · first | rw [World.size_setCell]; exact Nat.le_refl _ | (rw [heap_drew, World.size_setCell]; exact Nat.le_refl _)
end Go.Proofs.Ytnlmdajoifjddaa
