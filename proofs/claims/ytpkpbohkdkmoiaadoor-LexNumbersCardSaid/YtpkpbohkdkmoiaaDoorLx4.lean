/- lex.sign. -/
import Derived.Test.YtpkpbohkdkmoiaaDoorLx3
import Derived.BigQuiet
import Derived.WalkMore
import Derived.Laws.Tables
namespace Go.Proofs.YtpkpbohkdkmoiaaDoor
open Go.RowKit
set_option linter.unusedVariables false

theorem sign_at (s : ByteArray) (k : Nat) (hk : k < 9) (h : ∀ j, j < k → atHead s (signsL.getD j []) = false) (h2 : atHead s (signsL.getD k []) = true) : signN s = (signsL.getD k []).length := by
  have hc : k = 0 ∨ k = 1 ∨ k = 2 ∨ k = 3 ∨ k = 4 ∨ k = 5 ∨ k = 6 ∨ k = 7 ∨ k = 8 := by omega
  have f0 := h 0; have f1 := h 1; have f2 := h 2; have f3 := h 3; have f4 := h 4; have f5 := h 5; have f6 := h 6; have f7 := h 7
  clear h hk
  rcases hc with rfl | rfl | rfl | rfl | rfl | rfl | rfl | rfl | rfl
  all_goals
    simp only [signsL, List.getD_cons_zero, List.getD_cons_succ] at *
    simp [signN, signsL, List.find?, *]
theorem sign_none (s : ByteArray) (h : ∀ j, j < 9 → atHead s (signsL.getD j []) = false) : signN s = 0 := by
  have f0 := h 0 (by omega); have f1 := h 1 (by omega); have f2 := h 2 (by omega); have f3 := h 3 (by omega); have f4 := h 4 (by omega); have f5 := h 5 (by omega); have f6 := h 6 (by omega); have f7 := h 7 (by omega); have f8 := h 8 (by omega)
  clear h
  simp only [signsL, List.getD_cons_zero, List.getD_cons_succ] at *
  simp [signN, signsL, List.find?, *]
theorem lxBuild {P : Program} {ops : Array Oper} {rest : List Oper} {o : Oper} {a : Act} {w : World} {Q : Exit → Act → World → Prop} (hg : o.guard = none) (t : TypeId) (parts : Array (Nat × Operand)) (ho : o.op = .build t parts) (cs : Array Value)
    (hf : P.built t (parts.map fun (i, x) => (i, a.eval x)).toList = some cs) (h : wpList P ops Q rest (a.put o.dst (.agg cs)) w) : wpList P ops Q (o :: rest) a w :=
  wpList_build hg t parts ho (by rw [hf]; rfl) (by rw [hf]; exact h)
theorem lxIdxS (s : ByteArray) (i : Nat) (h : i < s.size) (u : World) : Sem.run Tryd.prog (Instr.index 9 (.string s) (.int .i64 (i : Int))) u = .ok (.int .u8 (s[i].toNat : Int)) u := by
  rw [run_index_string u _ _ _ _ Tryd.underlying9]
  simp [h]
theorem belowN2 {B : Nat} {a w : World} (h : Below B a w) (n : Nat) : Below B a (w.drewN n) := ⟨h.os, h.tape, h.output, h.size, h.block⟩
set_option maxRecDepth 100000 in
set_option maxHeartbeats 4000000 in
theorem lxSign (s : ByteArray) (w : World) (h0 : 0 < s.size) (hs : s.size ≤ 1000000) :
    Calls Tryd.prog 28 #[.string s] w fun e w' => e = .returned (.int .i64 (signN s : Nat)) ∧ Below w.heap.size w w' := by
  have hsI : (s.size : Int) ≤ 1000000 := by omega
  have h0I : (0 : Int) < s.size := by omega
  obtain ⟨R, hR⟩ : ∃ R, signN s = R := ⟨_, rfl⟩
  rw [hR]
  have HR := Lib.hid hR
  have hi0 : ∀ u : World, Sem.run Tryd.prog (Instr.index 9 (.string s) (.int .i64 0)) u = .ok (.int .u8 (s[0].toNat : Int)) u := fun u => lxIdxS s 0 h0 u
  have hz0 : decide ((s.size : Int) ≤ 0) = false := decide_eq_false (by omega)
  have hz0b : (s.size = 0) = False := eq_false (by omega)
  have hz0c : ((s.size : Int) ≤ 0) = False := eq_false (by omega)
  have hz0d : (s = ByteArray.empty) = False := eq_false (fun e => by rw [e] at h0; exact absurd h0 (by decide))
  have hz0e : decide (s.size = 0) = false := decide_eq_false (by omega)
  have hz0f : decide (s = ByteArray.empty) = false := decide_eq_false (fun e => by rw [e] at h0; exact absurd h0 (by decide))
  clear hR
  go_enter Tryd.func28, Tryd.ntmps28
  go_wp2_with fail
  go_step3
  go_wp2_with fail
  go_step3
  go_wp2_with (first | (refine lxBuild rfl 69 _ rfl #[.string ⟨#[61, 61]⟩, .string ⟨#[33, 61]⟩, .string ⟨#[60, 61]⟩, .string ⟨#[62, 61]⟩, .string ⟨#[60]⟩, .string ⟨#[62]⟩, .string ⟨#[38]⟩, .string ⟨#[40]⟩, .string ⟨#[41]⟩] (by kernel_rfl) ?_))
  go_loopw [7] (fun z wr => ∃ k : Nat, z = .int .i64 k ∧ k ≤ 9 ∧ Hid (∀ j, j < k → atHead s (signsL.getD j []) = false) ∧ Hid (Below w.heap.size w wr)) (fun z _ => 9 - (intOf z).toNat)
  case atStart => exact ⟨0, rfl, by omega, Lib.hid (fun j h => by omega), Lib.hid (Below.refl _ _)⟩
  case round =>
    obtain ⟨k, rfl, hk, HA, HB⟩ := hrel
    have hkc : k = 0 ∨ k = 1 ∨ k = 2 ∨ k = 3 ∨ k = 4 ∨ k = 5 ∨ k = 6 ∨ k = 7 ∨ k = 8 ∨ k = 9 := by omega
    have hstep : ∀ m, atHead s (signsL.getD m []) = false → m = k → Hid (∀ j, j < m + 1 → atHead s (signsL.getD j []) = false) := fun m hm e => Lib.hid fun j hj => by
      subst e
      by_cases h : j = m
      · rw [h]; exact hm
      · exact HA.out j (by omega)
    generalize wr = wo at *
    rcases hkc with rfl | rfl | rfl | rfl | rfl | rfl | rfl | rfl | rfl | rfl
    · have hx := fun u : World => (show Sem.run Tryd.prog (Instr.index 69 (.agg #[.string ⟨#[61, 61]⟩, .string ⟨#[33, 61]⟩, .string ⟨#[60, 61]⟩, .string ⟨#[62, 61]⟩, .string ⟨#[60]⟩, .string ⟨#[62]⟩, .string ⟨#[38]⟩, .string ⟨#[40]⟩, .string ⟨#[41]⟩]) (.int .i64 0)) u = .ok (.string ⟨#[61, 61]⟩) u from rfl)
      rw [show ((0 : Nat) : Int) = 0 from rfl]
      go_wp2_with fail
      go_loopw [12] (fun z wr => ∃ j : Nat, z = .int .i64 j ∧ j ≤ 2 ∧ Hid (∀ m, m < j → ∃ h : m < s.size, s[m].toNat = (signsL.getD 0 []).getD m 0) ∧ Hid (Below w.heap.size w wr)) (fun z _ => 2 - (intOf z).toNat)
      case atStart => exact ⟨0, rfl, by omega, Lib.hid (fun m h => by omega), HB⟩
      case round =>
        clear HB
        obtain ⟨j, rfl, hj, HM, HB⟩ := hrel
        have hjc : j = 0 ∨ j = 1 ∨ j = 2 := by omega
        rcases hjc with rfl | rfl | rfl
        · rw [show ((0 : Nat) : Int) = 0 from rfl]
          by_cases he : s[0].toNat = 61
          · have hne : ((s[0].toNat : Int) != 61) = false := by rw [bne_eq_false_iff_eq]; omega
            have hneA : ((s[0].toNat : Int) != ((((⟨#[61, 61]⟩ : ByteArray)[0]'(by decide)).toNat : Nat) : Int)) = false := hne
            have HM2 := Lib.hid (show ∀ m, m < 0 + 1 → ∃ h : m < s.size, s[m].toNat = (signsL.getD 0 []).getD m 0 from fun m hm => by
              obtain rfl : m = 0 := by omega
              exact ⟨h0, he⟩)
            clear HM he
            go_wp2_with fail
            go_quiet (fail)
            go_wp2_with fail
            go_roundw
            case rel => exact ⟨0 + 1, by go_num, by omega, HM2, Lib.hid (by first | exact HB.out | exact belowN2 HB.out _)⟩
            case measure => simp [intOf]
          · have hne : ((s[0].toNat : Int) != 61) = true := by rw [bne_iff_ne]; omega
            have hneA : ((s[0].toNat : Int) != ((((⟨#[61, 61]⟩ : ByteArray)[0]'(by decide)).toNat : Nat) : Int)) = true := hne
            have HN := hstep 0 (by show atHead s [61, 61] = false; by_cases h1 : s.size = 1; exact head2_short s _ _ h1; rw [head2 s _ _ (by omega), Bool.and_eq_false_iff]; left; rw [beq_eq_false_iff_ne]; exact fun e => he e.symm) rfl
            clear hstep
            go_wp2_with fail
            go_quiet (fail)
            go_wp2_with fail
            go_roundw
            case rel => exact ⟨0+1, by go_num, by omega, HN, Lib.hid (by first | exact HB.out | exact belowN2 HB.out _)⟩
            case measure => simp [intOf]
        · rw [show ((1 : Nat) : Int) = 1 from rfl]
          by_cases h1 : s.size = 1
          · have hge : decide ((s.size : Int) ≤ 1) = true := decide_eq_true (by omega)
            have HN := hstep 0 (head2_short s 61 61 h1) rfl
            clear hstep
            go_wp2_with fail
            go_quiet (fail)
            go_wp2_with fail
            go_roundw
            case rel => exact ⟨0+1, by go_num, by omega, HN, Lib.hid (by first | exact HB.out | exact belowN2 HB.out _)⟩
            case measure => simp [intOf]
          · have h1s : 1 < s.size := by omega
            have h1I : (1 : Int) < s.size := by omega
            have hi1 : ∀ u : World, Sem.run Tryd.prog (Instr.index 9 (.string s) (.int .i64 1)) u = .ok (.int .u8 (s[1].toNat : Int)) u := fun u => lxIdxS s 1 h1s u
            have hz1 : decide ((s.size : Int) ≤ 1) = false := decide_eq_false (by omega)
            by_cases he : s[1].toNat = 61
            · have hne : ((s[1].toNat : Int) != 61) = false := by rw [bne_eq_false_iff_eq]; omega
              have hneA : ((s[1].toNat : Int) != ((((⟨#[61, 61]⟩ : ByteArray)[1]'(by decide)).toNat : Nat) : Int)) = false := hne
              have HM2 := Lib.hid (show ∀ m, m < 1 + 1 → ∃ h : m < s.size, s[m].toNat = (signsL.getD 0 []).getD m 0 from fun m hm => by
                by_cases e : m = 1
                · subst e; exact ⟨h1s, he⟩
                · exact HM.out m (by omega))
              clear HM he
              go_wp2_with fail
              go_quiet (fail)
              go_wp2_with fail
              go_roundw
              case rel => exact ⟨1 + 1, by go_num, by omega, HM2, Lib.hid (by first | exact HB.out | exact belowN2 HB.out _)⟩
              case measure => simp [intOf]
            · have hne : ((s[1].toNat : Int) != 61) = true := by rw [bne_iff_ne]; omega
              have hneA : ((s[1].toNat : Int) != ((((⟨#[61, 61]⟩ : ByteArray)[1]'(by decide)).toNat : Nat) : Int)) = true := hne
              have HN := hstep 0 (by show atHead s [61, 61] = false; rw [head2 s _ _ h1s, Bool.and_eq_false_iff]; right; rw [beq_eq_false_iff_ne]; exact fun e => he e.symm) rfl
              clear hstep
              go_wp2_with fail
              go_quiet (fail)
              go_wp2_with fail
              go_roundw
              case rel => exact ⟨0+1, by go_num, by omega, HN, Lib.hid (by first | exact HB.out | exact belowN2 HB.out _)⟩
              case measure => simp [intOf]
        · have hres : R = 2 := by rw [← HR.out, sign_at s 0 (by omega) HA.out (by obtain ⟨g, hg⟩ := HM.out 0 (by omega); obtain ⟨g1, hg1⟩ := HM.out 1 (by omega); show atHead s [61, 61] = true; rw [head2 s _ _ g1, Bool.and_eq_true, beq_iff_eq, beq_iff_eq]; exact ⟨hg.symm, hg1.symm⟩)]; rfl
          subst hres
          clear hstep
          go_wp2_with fail
          (try rw [Exit.noGoto_ret])
          go_ret
          exact ⟨rfl, HB.out⟩
    · have hx := fun u : World => (show Sem.run Tryd.prog (Instr.index 69 (.agg #[.string ⟨#[61, 61]⟩, .string ⟨#[33, 61]⟩, .string ⟨#[60, 61]⟩, .string ⟨#[62, 61]⟩, .string ⟨#[60]⟩, .string ⟨#[62]⟩, .string ⟨#[38]⟩, .string ⟨#[40]⟩, .string ⟨#[41]⟩]) (.int .i64 1)) u = .ok (.string ⟨#[33, 61]⟩) u from rfl)
      rw [show ((1 : Nat) : Int) = 1 from rfl]
      go_wp2_with fail
      go_loopw [12] (fun z wr => ∃ j : Nat, z = .int .i64 j ∧ j ≤ 2 ∧ Hid (∀ m, m < j → ∃ h : m < s.size, s[m].toNat = (signsL.getD 1 []).getD m 0) ∧ Hid (Below w.heap.size w wr)) (fun z _ => 2 - (intOf z).toNat)
      case atStart => exact ⟨0, rfl, by omega, Lib.hid (fun m h => by omega), HB⟩
      case round =>
        clear HB
        obtain ⟨j, rfl, hj, HM, HB⟩ := hrel
        have hjc : j = 0 ∨ j = 1 ∨ j = 2 := by omega
        rcases hjc with rfl | rfl | rfl
        · rw [show ((0 : Nat) : Int) = 0 from rfl]
          by_cases he : s[0].toNat = 33
          · have hne : ((s[0].toNat : Int) != 33) = false := by rw [bne_eq_false_iff_eq]; omega
            have hneA : ((s[0].toNat : Int) != ((((⟨#[33, 61]⟩ : ByteArray)[0]'(by decide)).toNat : Nat) : Int)) = false := hne
            have HM2 := Lib.hid (show ∀ m, m < 0 + 1 → ∃ h : m < s.size, s[m].toNat = (signsL.getD 1 []).getD m 0 from fun m hm => by
              obtain rfl : m = 0 := by omega
              exact ⟨h0, he⟩)
            clear HM he
            go_wp2_with fail
            go_quiet (fail)
            go_wp2_with fail
            go_roundw
            case rel => exact ⟨0 + 1, by go_num, by omega, HM2, Lib.hid (by first | exact HB.out | exact belowN2 HB.out _)⟩
            case measure => simp [intOf]
          · have hne : ((s[0].toNat : Int) != 33) = true := by rw [bne_iff_ne]; omega
            have hneA : ((s[0].toNat : Int) != ((((⟨#[33, 61]⟩ : ByteArray)[0]'(by decide)).toNat : Nat) : Int)) = true := hne
            have HN := hstep 1 (by show atHead s [33, 61] = false; by_cases h1 : s.size = 1; exact head2_short s _ _ h1; rw [head2 s _ _ (by omega), Bool.and_eq_false_iff]; left; rw [beq_eq_false_iff_ne]; exact fun e => he e.symm) rfl
            clear hstep
            go_wp2_with fail
            go_quiet (fail)
            go_wp2_with fail
            go_roundw
            case rel => exact ⟨1+1, by go_num, by omega, HN, Lib.hid (by first | exact HB.out | exact belowN2 HB.out _)⟩
            case measure => simp [intOf]
        · rw [show ((1 : Nat) : Int) = 1 from rfl]
          by_cases h1 : s.size = 1
          · have hge : decide ((s.size : Int) ≤ 1) = true := decide_eq_true (by omega)
            have HN := hstep 1 (head2_short s 33 61 h1) rfl
            clear hstep
            go_wp2_with fail
            go_quiet (fail)
            go_wp2_with fail
            go_roundw
            case rel => exact ⟨1+1, by go_num, by omega, HN, Lib.hid (by first | exact HB.out | exact belowN2 HB.out _)⟩
            case measure => simp [intOf]
          · have h1s : 1 < s.size := by omega
            have h1I : (1 : Int) < s.size := by omega
            have hi1 : ∀ u : World, Sem.run Tryd.prog (Instr.index 9 (.string s) (.int .i64 1)) u = .ok (.int .u8 (s[1].toNat : Int)) u := fun u => lxIdxS s 1 h1s u
            have hz1 : decide ((s.size : Int) ≤ 1) = false := decide_eq_false (by omega)
            by_cases he : s[1].toNat = 61
            · have hne : ((s[1].toNat : Int) != 61) = false := by rw [bne_eq_false_iff_eq]; omega
              have hneA : ((s[1].toNat : Int) != ((((⟨#[33, 61]⟩ : ByteArray)[1]'(by decide)).toNat : Nat) : Int)) = false := hne
              have HM2 := Lib.hid (show ∀ m, m < 1 + 1 → ∃ h : m < s.size, s[m].toNat = (signsL.getD 1 []).getD m 0 from fun m hm => by
                by_cases e : m = 1
                · subst e; exact ⟨h1s, he⟩
                · exact HM.out m (by omega))
              clear HM he
              go_wp2_with fail
              go_quiet (fail)
              go_wp2_with fail
              go_roundw
              case rel => exact ⟨1 + 1, by go_num, by omega, HM2, Lib.hid (by first | exact HB.out | exact belowN2 HB.out _)⟩
              case measure => simp [intOf]
            · have hne : ((s[1].toNat : Int) != 61) = true := by rw [bne_iff_ne]; omega
              have hneA : ((s[1].toNat : Int) != ((((⟨#[33, 61]⟩ : ByteArray)[1]'(by decide)).toNat : Nat) : Int)) = true := hne
              have HN := hstep 1 (by show atHead s [33, 61] = false; rw [head2 s _ _ h1s, Bool.and_eq_false_iff]; right; rw [beq_eq_false_iff_ne]; exact fun e => he e.symm) rfl
              clear hstep
              go_wp2_with fail
              go_quiet (fail)
              go_wp2_with fail
              go_roundw
              case rel => exact ⟨1+1, by go_num, by omega, HN, Lib.hid (by first | exact HB.out | exact belowN2 HB.out _)⟩
              case measure => simp [intOf]
        · have hres : R = 2 := by rw [← HR.out, sign_at s 1 (by omega) HA.out (by obtain ⟨g, hg⟩ := HM.out 0 (by omega); obtain ⟨g1, hg1⟩ := HM.out 1 (by omega); show atHead s [33, 61] = true; rw [head2 s _ _ g1, Bool.and_eq_true, beq_iff_eq, beq_iff_eq]; exact ⟨hg.symm, hg1.symm⟩)]; rfl
          subst hres
          clear hstep
          go_wp2_with fail
          (try rw [Exit.noGoto_ret])
          go_ret
          exact ⟨rfl, HB.out⟩
    · have hx := fun u : World => (show Sem.run Tryd.prog (Instr.index 69 (.agg #[.string ⟨#[61, 61]⟩, .string ⟨#[33, 61]⟩, .string ⟨#[60, 61]⟩, .string ⟨#[62, 61]⟩, .string ⟨#[60]⟩, .string ⟨#[62]⟩, .string ⟨#[38]⟩, .string ⟨#[40]⟩, .string ⟨#[41]⟩]) (.int .i64 2)) u = .ok (.string ⟨#[60, 61]⟩) u from rfl)
      rw [show ((2 : Nat) : Int) = 2 from rfl]
      go_wp2_with fail
      go_loopw [12] (fun z wr => ∃ j : Nat, z = .int .i64 j ∧ j ≤ 2 ∧ Hid (∀ m, m < j → ∃ h : m < s.size, s[m].toNat = (signsL.getD 2 []).getD m 0) ∧ Hid (Below w.heap.size w wr)) (fun z _ => 2 - (intOf z).toNat)
      case atStart => exact ⟨0, rfl, by omega, Lib.hid (fun m h => by omega), HB⟩
      case round =>
        clear HB
        obtain ⟨j, rfl, hj, HM, HB⟩ := hrel
        have hjc : j = 0 ∨ j = 1 ∨ j = 2 := by omega
        rcases hjc with rfl | rfl | rfl
        · rw [show ((0 : Nat) : Int) = 0 from rfl]
          by_cases he : s[0].toNat = 60
          · have hne : ((s[0].toNat : Int) != 60) = false := by rw [bne_eq_false_iff_eq]; omega
            have hneA : ((s[0].toNat : Int) != ((((⟨#[60, 61]⟩ : ByteArray)[0]'(by decide)).toNat : Nat) : Int)) = false := hne
            have HM2 := Lib.hid (show ∀ m, m < 0 + 1 → ∃ h : m < s.size, s[m].toNat = (signsL.getD 2 []).getD m 0 from fun m hm => by
              obtain rfl : m = 0 := by omega
              exact ⟨h0, he⟩)
            clear HM he
            go_wp2_with fail
            go_quiet (fail)
            go_wp2_with fail
            go_roundw
            case rel => exact ⟨0 + 1, by go_num, by omega, HM2, Lib.hid (by first | exact HB.out | exact belowN2 HB.out _)⟩
            case measure => simp [intOf]
          · have hne : ((s[0].toNat : Int) != 60) = true := by rw [bne_iff_ne]; omega
            have hneA : ((s[0].toNat : Int) != ((((⟨#[60, 61]⟩ : ByteArray)[0]'(by decide)).toNat : Nat) : Int)) = true := hne
            have HN := hstep 2 (by show atHead s [60, 61] = false; by_cases h1 : s.size = 1; exact head2_short s _ _ h1; rw [head2 s _ _ (by omega), Bool.and_eq_false_iff]; left; rw [beq_eq_false_iff_ne]; exact fun e => he e.symm) rfl
            clear hstep
            go_wp2_with fail
            go_quiet (fail)
            go_wp2_with fail
            go_roundw
            case rel => exact ⟨2+1, by go_num, by omega, HN, Lib.hid (by first | exact HB.out | exact belowN2 HB.out _)⟩
            case measure => simp [intOf]
        · rw [show ((1 : Nat) : Int) = 1 from rfl]
          by_cases h1 : s.size = 1
          · have hge : decide ((s.size : Int) ≤ 1) = true := decide_eq_true (by omega)
            have HN := hstep 2 (head2_short s 60 61 h1) rfl
            clear hstep
            go_wp2_with fail
            go_quiet (fail)
            go_wp2_with fail
            go_roundw
            case rel => exact ⟨2+1, by go_num, by omega, HN, Lib.hid (by first | exact HB.out | exact belowN2 HB.out _)⟩
            case measure => simp [intOf]
          · have h1s : 1 < s.size := by omega
            have h1I : (1 : Int) < s.size := by omega
            have hi1 : ∀ u : World, Sem.run Tryd.prog (Instr.index 9 (.string s) (.int .i64 1)) u = .ok (.int .u8 (s[1].toNat : Int)) u := fun u => lxIdxS s 1 h1s u
            have hz1 : decide ((s.size : Int) ≤ 1) = false := decide_eq_false (by omega)
            by_cases he : s[1].toNat = 61
            · have hne : ((s[1].toNat : Int) != 61) = false := by rw [bne_eq_false_iff_eq]; omega
              have hneA : ((s[1].toNat : Int) != ((((⟨#[60, 61]⟩ : ByteArray)[1]'(by decide)).toNat : Nat) : Int)) = false := hne
              have HM2 := Lib.hid (show ∀ m, m < 1 + 1 → ∃ h : m < s.size, s[m].toNat = (signsL.getD 2 []).getD m 0 from fun m hm => by
                by_cases e : m = 1
                · subst e; exact ⟨h1s, he⟩
                · exact HM.out m (by omega))
              clear HM he
              go_wp2_with fail
              go_quiet (fail)
              go_wp2_with fail
              go_roundw
              case rel => exact ⟨1 + 1, by go_num, by omega, HM2, Lib.hid (by first | exact HB.out | exact belowN2 HB.out _)⟩
              case measure => simp [intOf]
            · have hne : ((s[1].toNat : Int) != 61) = true := by rw [bne_iff_ne]; omega
              have hneA : ((s[1].toNat : Int) != ((((⟨#[60, 61]⟩ : ByteArray)[1]'(by decide)).toNat : Nat) : Int)) = true := hne
              have HN := hstep 2 (by show atHead s [60, 61] = false; rw [head2 s _ _ h1s, Bool.and_eq_false_iff]; right; rw [beq_eq_false_iff_ne]; exact fun e => he e.symm) rfl
              clear hstep
              go_wp2_with fail
              go_quiet (fail)
              go_wp2_with fail
              go_roundw
              case rel => exact ⟨2+1, by go_num, by omega, HN, Lib.hid (by first | exact HB.out | exact belowN2 HB.out _)⟩
              case measure => simp [intOf]
        · have hres : R = 2 := by rw [← HR.out, sign_at s 2 (by omega) HA.out (by obtain ⟨g, hg⟩ := HM.out 0 (by omega); obtain ⟨g1, hg1⟩ := HM.out 1 (by omega); show atHead s [60, 61] = true; rw [head2 s _ _ g1, Bool.and_eq_true, beq_iff_eq, beq_iff_eq]; exact ⟨hg.symm, hg1.symm⟩)]; rfl
          subst hres
          clear hstep
          go_wp2_with fail
          (try rw [Exit.noGoto_ret])
          go_ret
          exact ⟨rfl, HB.out⟩
    · have hx := fun u : World => (show Sem.run Tryd.prog (Instr.index 69 (.agg #[.string ⟨#[61, 61]⟩, .string ⟨#[33, 61]⟩, .string ⟨#[60, 61]⟩, .string ⟨#[62, 61]⟩, .string ⟨#[60]⟩, .string ⟨#[62]⟩, .string ⟨#[38]⟩, .string ⟨#[40]⟩, .string ⟨#[41]⟩]) (.int .i64 3)) u = .ok (.string ⟨#[62, 61]⟩) u from rfl)
      rw [show ((3 : Nat) : Int) = 3 from rfl]
      go_wp2_with fail
      go_loopw [12] (fun z wr => ∃ j : Nat, z = .int .i64 j ∧ j ≤ 2 ∧ Hid (∀ m, m < j → ∃ h : m < s.size, s[m].toNat = (signsL.getD 3 []).getD m 0) ∧ Hid (Below w.heap.size w wr)) (fun z _ => 2 - (intOf z).toNat)
      case atStart => exact ⟨0, rfl, by omega, Lib.hid (fun m h => by omega), HB⟩
      case round =>
        clear HB
        obtain ⟨j, rfl, hj, HM, HB⟩ := hrel
        have hjc : j = 0 ∨ j = 1 ∨ j = 2 := by omega
        rcases hjc with rfl | rfl | rfl
        · rw [show ((0 : Nat) : Int) = 0 from rfl]
          by_cases he : s[0].toNat = 62
          · have hne : ((s[0].toNat : Int) != 62) = false := by rw [bne_eq_false_iff_eq]; omega
            have hneA : ((s[0].toNat : Int) != ((((⟨#[62, 61]⟩ : ByteArray)[0]'(by decide)).toNat : Nat) : Int)) = false := hne
            have HM2 := Lib.hid (show ∀ m, m < 0 + 1 → ∃ h : m < s.size, s[m].toNat = (signsL.getD 3 []).getD m 0 from fun m hm => by
              obtain rfl : m = 0 := by omega
              exact ⟨h0, he⟩)
            clear HM he
            go_wp2_with fail
            go_quiet (fail)
            go_wp2_with fail
            go_roundw
            case rel => exact ⟨0 + 1, by go_num, by omega, HM2, Lib.hid (by first | exact HB.out | exact belowN2 HB.out _)⟩
            case measure => simp [intOf]
          · have hne : ((s[0].toNat : Int) != 62) = true := by rw [bne_iff_ne]; omega
            have hneA : ((s[0].toNat : Int) != ((((⟨#[62, 61]⟩ : ByteArray)[0]'(by decide)).toNat : Nat) : Int)) = true := hne
            have HN := hstep 3 (by show atHead s [62, 61] = false; by_cases h1 : s.size = 1; exact head2_short s _ _ h1; rw [head2 s _ _ (by omega), Bool.and_eq_false_iff]; left; rw [beq_eq_false_iff_ne]; exact fun e => he e.symm) rfl
            clear hstep
            go_wp2_with fail
            go_quiet (fail)
            go_wp2_with fail
            go_roundw
            case rel => exact ⟨3+1, by go_num, by omega, HN, Lib.hid (by first | exact HB.out | exact belowN2 HB.out _)⟩
            case measure => simp [intOf]
        · rw [show ((1 : Nat) : Int) = 1 from rfl]
          by_cases h1 : s.size = 1
          · have hge : decide ((s.size : Int) ≤ 1) = true := decide_eq_true (by omega)
            have HN := hstep 3 (head2_short s 62 61 h1) rfl
            clear hstep
            go_wp2_with fail
            go_quiet (fail)
            go_wp2_with fail
            go_roundw
            case rel => exact ⟨3+1, by go_num, by omega, HN, Lib.hid (by first | exact HB.out | exact belowN2 HB.out _)⟩
            case measure => simp [intOf]
          · have h1s : 1 < s.size := by omega
            have h1I : (1 : Int) < s.size := by omega
            have hi1 : ∀ u : World, Sem.run Tryd.prog (Instr.index 9 (.string s) (.int .i64 1)) u = .ok (.int .u8 (s[1].toNat : Int)) u := fun u => lxIdxS s 1 h1s u
            have hz1 : decide ((s.size : Int) ≤ 1) = false := decide_eq_false (by omega)
            by_cases he : s[1].toNat = 61
            · have hne : ((s[1].toNat : Int) != 61) = false := by rw [bne_eq_false_iff_eq]; omega
              have hneA : ((s[1].toNat : Int) != ((((⟨#[62, 61]⟩ : ByteArray)[1]'(by decide)).toNat : Nat) : Int)) = false := hne
              have HM2 := Lib.hid (show ∀ m, m < 1 + 1 → ∃ h : m < s.size, s[m].toNat = (signsL.getD 3 []).getD m 0 from fun m hm => by
                by_cases e : m = 1
                · subst e; exact ⟨h1s, he⟩
                · exact HM.out m (by omega))
              clear HM he
              go_wp2_with fail
              go_quiet (fail)
              go_wp2_with fail
              go_roundw
              case rel => exact ⟨1 + 1, by go_num, by omega, HM2, Lib.hid (by first | exact HB.out | exact belowN2 HB.out _)⟩
              case measure => simp [intOf]
            · have hne : ((s[1].toNat : Int) != 61) = true := by rw [bne_iff_ne]; omega
              have hneA : ((s[1].toNat : Int) != ((((⟨#[62, 61]⟩ : ByteArray)[1]'(by decide)).toNat : Nat) : Int)) = true := hne
              have HN := hstep 3 (by show atHead s [62, 61] = false; rw [head2 s _ _ h1s, Bool.and_eq_false_iff]; right; rw [beq_eq_false_iff_ne]; exact fun e => he e.symm) rfl
              clear hstep
              go_wp2_with fail
              go_quiet (fail)
              go_wp2_with fail
              go_roundw
              case rel => exact ⟨3+1, by go_num, by omega, HN, Lib.hid (by first | exact HB.out | exact belowN2 HB.out _)⟩
              case measure => simp [intOf]
        · have hres : R = 2 := by rw [← HR.out, sign_at s 3 (by omega) HA.out (by obtain ⟨g, hg⟩ := HM.out 0 (by omega); obtain ⟨g1, hg1⟩ := HM.out 1 (by omega); show atHead s [62, 61] = true; rw [head2 s _ _ g1, Bool.and_eq_true, beq_iff_eq, beq_iff_eq]; exact ⟨hg.symm, hg1.symm⟩)]; rfl
          subst hres
          clear hstep
          go_wp2_with fail
          (try rw [Exit.noGoto_ret])
          go_ret
          exact ⟨rfl, HB.out⟩
    · have hx := fun u : World => (show Sem.run Tryd.prog (Instr.index 69 (.agg #[.string ⟨#[61, 61]⟩, .string ⟨#[33, 61]⟩, .string ⟨#[60, 61]⟩, .string ⟨#[62, 61]⟩, .string ⟨#[60]⟩, .string ⟨#[62]⟩, .string ⟨#[38]⟩, .string ⟨#[40]⟩, .string ⟨#[41]⟩]) (.int .i64 4)) u = .ok (.string ⟨#[60]⟩) u from rfl)
      rw [show ((4 : Nat) : Int) = 4 from rfl]
      go_wp2_with fail
      go_loopw [12] (fun z wr => ∃ j : Nat, z = .int .i64 j ∧ j ≤ 1 ∧ Hid (∀ m, m < j → ∃ h : m < s.size, s[m].toNat = (signsL.getD 4 []).getD m 0) ∧ Hid (Below w.heap.size w wr)) (fun z _ => 1 - (intOf z).toNat)
      case atStart => exact ⟨0, rfl, by omega, Lib.hid (fun m h => by omega), HB⟩
      case round =>
        clear HB
        obtain ⟨j, rfl, hj, HM, HB⟩ := hrel
        have hjc : j = 0 ∨ j = 1 := by omega
        rcases hjc with rfl | rfl
        · rw [show ((0 : Nat) : Int) = 0 from rfl]
          by_cases he : s[0].toNat = 60
          · have hne : ((s[0].toNat : Int) != 60) = false := by rw [bne_eq_false_iff_eq]; omega
            have hneA : ((s[0].toNat : Int) != ((((⟨#[60]⟩ : ByteArray)[0]'(by decide)).toNat : Nat) : Int)) = false := hne
            have HM2 := Lib.hid (show ∀ m, m < 0 + 1 → ∃ h : m < s.size, s[m].toNat = (signsL.getD 4 []).getD m 0 from fun m hm => by
              obtain rfl : m = 0 := by omega
              exact ⟨h0, he⟩)
            clear HM he
            go_wp2_with fail
            go_quiet (fail)
            go_wp2_with fail
            go_roundw
            case rel => exact ⟨0 + 1, by go_num, by omega, HM2, Lib.hid (by first | exact HB.out | exact belowN2 HB.out _)⟩
            case measure => simp [intOf]
          · have hne : ((s[0].toNat : Int) != 60) = true := by rw [bne_iff_ne]; omega
            have hneA : ((s[0].toNat : Int) != ((((⟨#[60]⟩ : ByteArray)[0]'(by decide)).toNat : Nat) : Int)) = true := hne
            have HN := hstep 4 (by show atHead s [60] = false; rw [head1 s _ h0, beq_eq_false_iff_ne]; exact fun e => he e.symm) rfl
            clear hstep
            go_wp2_with fail
            go_quiet (fail)
            go_wp2_with fail
            go_roundw
            case rel => exact ⟨4+1, by go_num, by omega, HN, Lib.hid (by first | exact HB.out | exact belowN2 HB.out _)⟩
            case measure => simp [intOf]
        · have hres : R = 1 := by rw [← HR.out, sign_at s 4 (by omega) HA.out (by obtain ⟨g, hg⟩ := HM.out 0 (by omega); show atHead s [60] = true; rw [head1 s _ h0, beq_iff_eq]; exact hg.symm)]; rfl
          subst hres
          clear hstep
          go_wp2_with fail
          (try rw [Exit.noGoto_ret])
          go_ret
          exact ⟨rfl, HB.out⟩
    · have hx := fun u : World => (show Sem.run Tryd.prog (Instr.index 69 (.agg #[.string ⟨#[61, 61]⟩, .string ⟨#[33, 61]⟩, .string ⟨#[60, 61]⟩, .string ⟨#[62, 61]⟩, .string ⟨#[60]⟩, .string ⟨#[62]⟩, .string ⟨#[38]⟩, .string ⟨#[40]⟩, .string ⟨#[41]⟩]) (.int .i64 5)) u = .ok (.string ⟨#[62]⟩) u from rfl)
      rw [show ((5 : Nat) : Int) = 5 from rfl]
      go_wp2_with fail
      go_loopw [12] (fun z wr => ∃ j : Nat, z = .int .i64 j ∧ j ≤ 1 ∧ Hid (∀ m, m < j → ∃ h : m < s.size, s[m].toNat = (signsL.getD 5 []).getD m 0) ∧ Hid (Below w.heap.size w wr)) (fun z _ => 1 - (intOf z).toNat)
      case atStart => exact ⟨0, rfl, by omega, Lib.hid (fun m h => by omega), HB⟩
      case round =>
        clear HB
        obtain ⟨j, rfl, hj, HM, HB⟩ := hrel
        have hjc : j = 0 ∨ j = 1 := by omega
        rcases hjc with rfl | rfl
        · rw [show ((0 : Nat) : Int) = 0 from rfl]
          by_cases he : s[0].toNat = 62
          · have hne : ((s[0].toNat : Int) != 62) = false := by rw [bne_eq_false_iff_eq]; omega
            have hneA : ((s[0].toNat : Int) != ((((⟨#[62]⟩ : ByteArray)[0]'(by decide)).toNat : Nat) : Int)) = false := hne
            have HM2 := Lib.hid (show ∀ m, m < 0 + 1 → ∃ h : m < s.size, s[m].toNat = (signsL.getD 5 []).getD m 0 from fun m hm => by
              obtain rfl : m = 0 := by omega
              exact ⟨h0, he⟩)
            clear HM he
            go_wp2_with fail
            go_quiet (fail)
            go_wp2_with fail
            go_roundw
            case rel => exact ⟨0 + 1, by go_num, by omega, HM2, Lib.hid (by first | exact HB.out | exact belowN2 HB.out _)⟩
            case measure => simp [intOf]
          · have hne : ((s[0].toNat : Int) != 62) = true := by rw [bne_iff_ne]; omega
            have hneA : ((s[0].toNat : Int) != ((((⟨#[62]⟩ : ByteArray)[0]'(by decide)).toNat : Nat) : Int)) = true := hne
            have HN := hstep 5 (by show atHead s [62] = false; rw [head1 s _ h0, beq_eq_false_iff_ne]; exact fun e => he e.symm) rfl
            clear hstep
            go_wp2_with fail
            go_quiet (fail)
            go_wp2_with fail
            go_roundw
            case rel => exact ⟨5+1, by go_num, by omega, HN, Lib.hid (by first | exact HB.out | exact belowN2 HB.out _)⟩
            case measure => simp [intOf]
        · have hres : R = 1 := by rw [← HR.out, sign_at s 5 (by omega) HA.out (by obtain ⟨g, hg⟩ := HM.out 0 (by omega); show atHead s [62] = true; rw [head1 s _ h0, beq_iff_eq]; exact hg.symm)]; rfl
          subst hres
          clear hstep
          go_wp2_with fail
          (try rw [Exit.noGoto_ret])
          go_ret
          exact ⟨rfl, HB.out⟩
    · have hx := fun u : World => (show Sem.run Tryd.prog (Instr.index 69 (.agg #[.string ⟨#[61, 61]⟩, .string ⟨#[33, 61]⟩, .string ⟨#[60, 61]⟩, .string ⟨#[62, 61]⟩, .string ⟨#[60]⟩, .string ⟨#[62]⟩, .string ⟨#[38]⟩, .string ⟨#[40]⟩, .string ⟨#[41]⟩]) (.int .i64 6)) u = .ok (.string ⟨#[38]⟩) u from rfl)
      rw [show ((6 : Nat) : Int) = 6 from rfl]
      go_wp2_with fail
      go_loopw [12] (fun z wr => ∃ j : Nat, z = .int .i64 j ∧ j ≤ 1 ∧ Hid (∀ m, m < j → ∃ h : m < s.size, s[m].toNat = (signsL.getD 6 []).getD m 0) ∧ Hid (Below w.heap.size w wr)) (fun z _ => 1 - (intOf z).toNat)
      case atStart => exact ⟨0, rfl, by omega, Lib.hid (fun m h => by omega), HB⟩
      case round =>
        clear HB
        obtain ⟨j, rfl, hj, HM, HB⟩ := hrel
        have hjc : j = 0 ∨ j = 1 := by omega
        rcases hjc with rfl | rfl
        · rw [show ((0 : Nat) : Int) = 0 from rfl]
          by_cases he : s[0].toNat = 38
          · have hne : ((s[0].toNat : Int) != 38) = false := by rw [bne_eq_false_iff_eq]; omega
            have hneA : ((s[0].toNat : Int) != ((((⟨#[38]⟩ : ByteArray)[0]'(by decide)).toNat : Nat) : Int)) = false := hne
            have HM2 := Lib.hid (show ∀ m, m < 0 + 1 → ∃ h : m < s.size, s[m].toNat = (signsL.getD 6 []).getD m 0 from fun m hm => by
              obtain rfl : m = 0 := by omega
              exact ⟨h0, he⟩)
            clear HM he
            go_wp2_with fail
            go_quiet (fail)
            go_wp2_with fail
            go_roundw
            case rel => exact ⟨0 + 1, by go_num, by omega, HM2, Lib.hid (by first | exact HB.out | exact belowN2 HB.out _)⟩
            case measure => simp [intOf]
          · have hne : ((s[0].toNat : Int) != 38) = true := by rw [bne_iff_ne]; omega
            have hneA : ((s[0].toNat : Int) != ((((⟨#[38]⟩ : ByteArray)[0]'(by decide)).toNat : Nat) : Int)) = true := hne
            have HN := hstep 6 (by show atHead s [38] = false; rw [head1 s _ h0, beq_eq_false_iff_ne]; exact fun e => he e.symm) rfl
            clear hstep
            go_wp2_with fail
            go_quiet (fail)
            go_wp2_with fail
            go_roundw
            case rel => exact ⟨6+1, by go_num, by omega, HN, Lib.hid (by first | exact HB.out | exact belowN2 HB.out _)⟩
            case measure => simp [intOf]
        · have hres : R = 1 := by rw [← HR.out, sign_at s 6 (by omega) HA.out (by obtain ⟨g, hg⟩ := HM.out 0 (by omega); show atHead s [38] = true; rw [head1 s _ h0, beq_iff_eq]; exact hg.symm)]; rfl
          subst hres
          clear hstep
          go_wp2_with fail
          (try rw [Exit.noGoto_ret])
          go_ret
          exact ⟨rfl, HB.out⟩
    · have hx := fun u : World => (show Sem.run Tryd.prog (Instr.index 69 (.agg #[.string ⟨#[61, 61]⟩, .string ⟨#[33, 61]⟩, .string ⟨#[60, 61]⟩, .string ⟨#[62, 61]⟩, .string ⟨#[60]⟩, .string ⟨#[62]⟩, .string ⟨#[38]⟩, .string ⟨#[40]⟩, .string ⟨#[41]⟩]) (.int .i64 7)) u = .ok (.string ⟨#[40]⟩) u from rfl)
      rw [show ((7 : Nat) : Int) = 7 from rfl]
      go_wp2_with fail
      go_loopw [12] (fun z wr => ∃ j : Nat, z = .int .i64 j ∧ j ≤ 1 ∧ Hid (∀ m, m < j → ∃ h : m < s.size, s[m].toNat = (signsL.getD 7 []).getD m 0) ∧ Hid (Below w.heap.size w wr)) (fun z _ => 1 - (intOf z).toNat)
      case atStart => exact ⟨0, rfl, by omega, Lib.hid (fun m h => by omega), HB⟩
      case round =>
        clear HB
        obtain ⟨j, rfl, hj, HM, HB⟩ := hrel
        have hjc : j = 0 ∨ j = 1 := by omega
        rcases hjc with rfl | rfl
        · rw [show ((0 : Nat) : Int) = 0 from rfl]
          by_cases he : s[0].toNat = 40
          · have hne : ((s[0].toNat : Int) != 40) = false := by rw [bne_eq_false_iff_eq]; omega
            have hneA : ((s[0].toNat : Int) != ((((⟨#[40]⟩ : ByteArray)[0]'(by decide)).toNat : Nat) : Int)) = false := hne
            have HM2 := Lib.hid (show ∀ m, m < 0 + 1 → ∃ h : m < s.size, s[m].toNat = (signsL.getD 7 []).getD m 0 from fun m hm => by
              obtain rfl : m = 0 := by omega
              exact ⟨h0, he⟩)
            clear HM he
            go_wp2_with fail
            go_quiet (fail)
            go_wp2_with fail
            go_roundw
            case rel => exact ⟨0 + 1, by go_num, by omega, HM2, Lib.hid (by first | exact HB.out | exact belowN2 HB.out _)⟩
            case measure => simp [intOf]
          · have hne : ((s[0].toNat : Int) != 40) = true := by rw [bne_iff_ne]; omega
            have hneA : ((s[0].toNat : Int) != ((((⟨#[40]⟩ : ByteArray)[0]'(by decide)).toNat : Nat) : Int)) = true := hne
            have HN := hstep 7 (by show atHead s [40] = false; rw [head1 s _ h0, beq_eq_false_iff_ne]; exact fun e => he e.symm) rfl
            clear hstep
            go_wp2_with fail
            go_quiet (fail)
            go_wp2_with fail
            go_roundw
            case rel => exact ⟨7+1, by go_num, by omega, HN, Lib.hid (by first | exact HB.out | exact belowN2 HB.out _)⟩
            case measure => simp [intOf]
        · have hres : R = 1 := by rw [← HR.out, sign_at s 7 (by omega) HA.out (by obtain ⟨g, hg⟩ := HM.out 0 (by omega); show atHead s [40] = true; rw [head1 s _ h0, beq_iff_eq]; exact hg.symm)]; rfl
          subst hres
          clear hstep
          go_wp2_with fail
          (try rw [Exit.noGoto_ret])
          go_ret
          exact ⟨rfl, HB.out⟩
    · have hx := fun u : World => (show Sem.run Tryd.prog (Instr.index 69 (.agg #[.string ⟨#[61, 61]⟩, .string ⟨#[33, 61]⟩, .string ⟨#[60, 61]⟩, .string ⟨#[62, 61]⟩, .string ⟨#[60]⟩, .string ⟨#[62]⟩, .string ⟨#[38]⟩, .string ⟨#[40]⟩, .string ⟨#[41]⟩]) (.int .i64 8)) u = .ok (.string ⟨#[41]⟩) u from rfl)
      rw [show ((8 : Nat) : Int) = 8 from rfl]
      go_wp2_with fail
      go_loopw [12] (fun z wr => ∃ j : Nat, z = .int .i64 j ∧ j ≤ 1 ∧ Hid (∀ m, m < j → ∃ h : m < s.size, s[m].toNat = (signsL.getD 8 []).getD m 0) ∧ Hid (Below w.heap.size w wr)) (fun z _ => 1 - (intOf z).toNat)
      case atStart => exact ⟨0, rfl, by omega, Lib.hid (fun m h => by omega), HB⟩
      case round =>
        clear HB
        obtain ⟨j, rfl, hj, HM, HB⟩ := hrel
        have hjc : j = 0 ∨ j = 1 := by omega
        rcases hjc with rfl | rfl
        · rw [show ((0 : Nat) : Int) = 0 from rfl]
          by_cases he : s[0].toNat = 41
          · have hne : ((s[0].toNat : Int) != 41) = false := by rw [bne_eq_false_iff_eq]; omega
            have hneA : ((s[0].toNat : Int) != ((((⟨#[41]⟩ : ByteArray)[0]'(by decide)).toNat : Nat) : Int)) = false := hne
            have HM2 := Lib.hid (show ∀ m, m < 0 + 1 → ∃ h : m < s.size, s[m].toNat = (signsL.getD 8 []).getD m 0 from fun m hm => by
              obtain rfl : m = 0 := by omega
              exact ⟨h0, he⟩)
            clear HM he
            go_wp2_with fail
            go_quiet (fail)
            go_wp2_with fail
            go_roundw
            case rel => exact ⟨0 + 1, by go_num, by omega, HM2, Lib.hid (by first | exact HB.out | exact belowN2 HB.out _)⟩
            case measure => simp [intOf]
          · have hne : ((s[0].toNat : Int) != 41) = true := by rw [bne_iff_ne]; omega
            have hneA : ((s[0].toNat : Int) != ((((⟨#[41]⟩ : ByteArray)[0]'(by decide)).toNat : Nat) : Int)) = true := hne
            have HN := hstep 8 (by show atHead s [41] = false; rw [head1 s _ h0, beq_eq_false_iff_ne]; exact fun e => he e.symm) rfl
            clear hstep
            go_wp2_with fail
            go_quiet (fail)
            go_wp2_with fail
            go_roundw
            case rel => exact ⟨8+1, by go_num, by omega, HN, Lib.hid (by first | exact HB.out | exact belowN2 HB.out _)⟩
            case measure => simp [intOf]
        · have hres : R = 1 := by rw [← HR.out, sign_at s 8 (by omega) HA.out (by obtain ⟨g, hg⟩ := HM.out 0 (by omega); show atHead s [41] = true; rw [head1 s _ h0, beq_iff_eq]; exact hg.symm)]; rfl
          subst hres
          clear hstep
          go_wp2_with fail
          (try rw [Exit.noGoto_ret])
          go_ret
          exact ⟨rfl, HB.out⟩
    · have hres : R = 0 := by rw [← HR.out]; exact sign_none s HA.out
      subst hres
      clear hstep
      go_wp2_with fail
      (try rw [Exit.noGoto_ret])
      go_ret
      exact ⟨rfl, HB.out⟩
end Go.Proofs.YtpkpbohkdkmoiaaDoor
