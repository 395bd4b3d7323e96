/- slices.partitionEqualOrdered at numbers of 32 bits. -/
import Derived.Test.YtbcoooaoofbboaaSr4
namespace Go.Proofs.Ytbcoooaoofbboaa
open Go.RowKit Go.Sort
set_option linter.unusedVariables false
set_option linter.unusedSimpArgs false

set_option maxRecDepth 100000 in
set_option maxHeartbeats 8000000 in
theorem srPartE (g : Nat) (w0 : World) (d : Array Int) (n cap a b p : Nat) (wr : World) (hS : Srt w0 g d wr) (hn : d.size = n) (hap : a ≤ p) (hpb : p < b) (hb : b ≤ n) (hsz : n ≤ 1000000) :
    Calls Try.prog 63 #[.slice (some ⟨g, 0, none⟩) n cap, .int .i64 a, .int .i64 b, .int .i64 p] wr fun e w' => e = .returned (.int .i64 ((partitionEqual ltInt d a b p).1 : Nat)) ∧ Srt w0 g (partitionEqual ltInt d a b p).2 w' := by
  obtain ⟨Q, hQ⟩ : ∃ Q, partitionEqual ltInt d a b p = Q := ⟨_, rfl⟩
  rw [hQ]
  obtain ⟨b1, rfl⟩ : ∃ b1, b = b1 + 1 := ⟨b - 1, by omega⟩
  obtain ⟨dk0, hdk⟩ : ∃ dk, swp d a p = dk := ⟨_, rfl⟩
  have hQ2 : partEqLoop ltInt a (a + 1) b1 dk0 = Q := by rw [← hQ, ← hdk]; rfl
  have HQ := Lib.hid hQ2
  have HS0 := Lib.hid hS
  have HN0 := Lib.hid hn
  have HN := Lib.hid (show dk0.size = n by rw [← hdk, size_swp']; exact hn)
  have hbI : (b1 : Int) + 1 ≤ n := by omega
  have hnI : (n : Int) ≤ 1000000 := by omega
  have hapI : (a : Int) ≤ p := by omega
  clear hS hQ hn hQ2
  go_enter Try.func63, Try.ntmps63
  go_upto_region 1 with fail
  go_cut [] (fun wx => Srt w0 g (swp d a p) wx)
  case first =>
    by_cases he : a = p
    · obtain rfl := he
      have p0 := HS0.out.cell (t := a) (by rw [HN0.out]; omega)
      have f0 := HS0.out.fr a
      have k0 : (a : Int) < n := by omega
      go_region
      have hs' := (HS0.out.swp (i := a) (j := a) (by rw [HN0.out]; omega) (by rw [HN0.out]; omega)).drew
      go_wp2_with fail
      go_meet
      exact hs'
    · have he2 : ¬ p = a := fun h => he h.symm
      have p0 := HS0.out.cell (t := a) (by rw [HN0.out]; omega)
      have p1 := HS0.out.cell (t := p) (by rw [HN0.out]; omega)
      have f0 := HS0.out.fr a
      have f1 := HS0.out.fr p
      have k0 : (a : Int) < n := by omega
      have k1 : (p : Int) < n := by omega
      go_region
      have hs' := (HS0.out.swp (i := a) (j := p) (by rw [HN0.out]; omega) (by rw [HN0.out]; omega)).drew
      go_wp2_with fail
      go_meet
      exact hs'
  case rest =>
    rw [hdk] at hcut
    have HS := Lib.hid hcut
    have hab : a ≤ b1 := by omega
    have habI : (a : Int) ≤ b1 := by omega
    clear hcut hdk HS0 HN0 hpb hap hapI
    go_wp2_with fail
    go_loopw [9, 10] (fun z z2 wr => ∃ (i j : Nat) (dk : Array Int), z = .int .i64 (i : Int) ∧ z2 = .int .i64 (j : Int) ∧ a < i ∧ i ≤ j + 1 ∧ j ≤ b1 ∧ Hid (dk.size = n) ∧ Hid (Srt w0 g dk wr) ∧ Hid (partEqLoop ltInt a i j dk = Q)) (fun z z2 _ => (intOf z2).toNat + 1 - (intOf z).toNat)
    case atStart => exact ⟨a + 1, b1, dk0, by push_cast; rfl, by first | rfl | (congr 1; omega) | (push_cast; congr 1; omega), by omega, by omega, by omega, HN, HS, HQ⟩
    case round =>
      clear HN HS HQ
      obtain ⟨i0, j0, dk, rfl, rfl, hai, hij0, hjb, HN, HS, HQ⟩ := hrel
      obtain ⟨I2, hI2⟩ : ∃ I, scanUp (fun x => !ltInt dk[a]! x) dk j0 i0 = I := ⟨_, rfl⟩
      obtain ⟨J2, hJ2⟩ : ∃ J, scanDown (fun x => ltInt dk[a]! x) dk I2 j0 = J := ⟨_, rfl⟩
      have hQS : (if I2 > J2 then (I2, dk) else partEqLoop ltInt a (I2 + 1) (J2 - 1) (swp dk I2 J2)) = Q := by
        have e := partEqLoop_eq ltInt a i0 j0 dk
        rw [hI2, hJ2] at e
        rw [← HQ.out]
        exact e.symm
      have HQS := Lib.hid hQS; have HI := Lib.hid hI2; have HJ0 := Lib.hid hJ2
      clear hQS hI2 hJ2 HQ
      go_wp2_with fail
      go_loopw [9] (fun z wr => ∃ i : Nat, z = .int .i64 (i : Int) ∧ i0 ≤ i ∧ i ≤ j0 + 1 ∧ Hid (Srt w0 g dk wr) ∧ Hid (scanUp (fun x => !ltInt dk[a]! x) dk j0 i = I2)) (fun z _ => j0 + 1 - (intOf z).toNat)
      case atStart => exact ⟨i0, by (try push_cast); rfl, Nat.le_refl _, by omega, HS, HI⟩
      case round =>
        clear HS HI
        obtain ⟨i, rfl, hi0, hij, HS, HI⟩ := hrel
        by_cases hle : i ≤ j0
        · have hleI : (i : Int) ≤ j0 := by omega
          have q0 := HS.out.cell (t := i) (by rw [HN.out]; omega)
          have qa := HS.out.cell (t := a) (by rw [HN.out]; omega)
          have k0 : (i : Int) < n := by omega
          have ka : (a : Int) < n := by omega
          cases hL : ltInt dk[a]! dk[i]! with
          | true =>
            have HEQ : Hid (i = I2) := Lib.hid (by rw [← HI.out, scu_no _ _ _ _ (by show _ = false; rw [hL]; try rfl)])
            go_wp2_with fail
            go_big_quiet (first | (go_at_call 62; refine Calls.quiet_of_same (srLess _ _ _)))
            have hs' := HS.out.drewN nq
            have HST := Lib.hid hL
            clear HS HI q0 qa hL
            generalize hwq : wr.drewN nq = wq at hs' ⊢
            clear hwq nq
            have HS := Lib.hid hs'
            clear hs'
            obtain rfl := HEQ.out
            have HJ := Lib.hid (show scanDown (fun x => ltInt dk[a]! x) dk i j0 = J2 from HJ0.out)
            clear HJ0
            go_wp2_with fail
            go_loopw [10] (fun z wr => ∃ j : Nat, z = .int .i64 (j : Int) ∧ j ≤ j0 ∧ i ≤ j + 1 ∧ Hid (Srt w0 g dk wr) ∧ Hid (scanDown (fun x => ltInt dk[a]! x) dk i j = J2)) (fun z _ => (intOf z).toNat)
            case atStart => exact ⟨j0, rfl, Nat.le_refl _, by omega, HS, HJ⟩
            case round =>
              clear HS HJ
              obtain ⟨j, rfl, hj0, hij2, HS, HJ⟩ := hrel
              by_cases hle2 : i ≤ j
              · have hle2I : (i : Int) ≤ j := by omega
                have q0 := HS.out.cell (t := j) (by rw [HN.out]; omega)
                have qa := HS.out.cell (t := a) (by rw [HN.out]; omega)
                have k0 : (j : Int) < n := by omega
                have ka : (a : Int) < n := by omega
                cases hL : ltInt dk[a]! dk[j]! with
                | false =>
                  have HEQ : Hid (j = J2) := Lib.hid (by rw [← HJ.out, scd_no _ _ _ _ (by show _ = false; rw [hL]; try rfl)])
                  go_wp2_with fail
                  go_big_quiet (first | (go_at_call 62; refine Calls.quiet_of_same (srLess _ _ _)))
                  have hs' := HS.out.drewN nq
                  have HSJ := Lib.hid hL
                  clear HS HJ q0 qa hL
                  generalize hwq : wr.drewN nq = wq at hs' ⊢
                  clear hwq nq
                  have HS := Lib.hid hs'
                  clear hs'
                  obtain rfl := HEQ.out
                  have hgt : ¬ (i : Int) > j := by omega
                  have hgt' : ¬ (j : Int) < i := by omega
                  have he : ¬ i = j := by
                    intro h
                    have e1 := HST.out
                    have e2 := HSJ.out
                    rw [h, e2] at e1
                    exact absurd e1 (by simp)
                  obtain ⟨k, rfl⟩ : ∃ k, j = k + 1 := ⟨j - 1, by omega⟩
                  have hQ2 : partEqLoop ltInt a (i + 1) k (swp dk i (k + 1)) = Q := by
                    have := HQS.out
                    rw [if_neg (by omega)] at this
                    exact this
                  have HQ2 := Lib.hid hQ2
                  clear hQ2 HQS HST HSJ
                  have he2 : ¬ (k + 1) = i := fun h => he h.symm
                  have p0 := HS.out.cell (t := i) (by rw [HN.out]; omega)
                  have p1 := HS.out.cell (t := (k + 1)) (by rw [HN.out]; omega)
                  have f0 := HS.out.fr i
                  have f1 := HS.out.fr (k + 1)
                  have k0 : (i : Int) < n := by omega
                  have k1 : ((k + 1) : Int) < n := by omega
                  go_upto_region 8 with fail
                  go_region
                  have hs' := (HS.out.swp (i := i) (j := (k + 1)) (by rw [HN.out]; omega) (by rw [HN.out]; omega)).drew
                  have hn' := (size_swp' dk i (k + 1)).trans HN.out
                  clear p0 p1 f0 f1
                  have HS2 := Lib.hid hs'; have HN2 := Lib.hid hn'
                  clear hs' hn' HS
                  go_wp2_with fail
                  exact ⟨⟨i + 1, by push_cast; rfl, k, rfl, by omega, by omega, by omega, swp dk i (k + 1), HN2, HS2, HQ2⟩, by simp [intOf] <;> omega⟩
                | true =>
                  obtain ⟨k, rfl⟩ : ∃ k, j = k + 1 := ⟨j - 1, by omega⟩
                  have hle3 : (i : Int) ≤ (k : Int) + 1 := by omega
                  have k03 : (k : Int) + 1 < n := by omega
                  have HJ' := Lib.hid (show scanDown (fun x => ltInt dk[a]! x) dk i k = J2 by rw [← scd_go _ _ _ _ hle2 (by show _ = true; rw [hL]; try rfl)]; exact HJ.out)
                  go_wp2_with fail
                  go_big_quiet (first | (go_at_call 62; refine Calls.quiet_of_same (srLess _ _ _)))
                  have HS' := Lib.hid (HS.out.drewN nq)
                  clear HS HJ q0 qa hL
                  go_wp2_with fail
                  exact ⟨⟨k, by first | rfl | (congr 1; omega) | (push_cast; congr 1; omega), by omega, by omega, HS', HJ'⟩, by simp [intOf] <;> omega⟩
              · have hle2I : ¬ (i : Int) ≤ j := by omega
                have hle2D : decide ((i : Int) ≤ (j : Int)) = false := decide_eq_false hle2I
                have HEQ : Hid (j = J2) := Lib.hid (by rw [← HJ.out, scd_far _ _ _ _ (by omega)])
                go_wp2_with fail
                go_big_quiet (first | (go_at_call 62; refine Calls.quiet_of_same (srLess _ _ _)))
                have hs' := HS.out.drewN nq
                clear HS HJ
                generalize hwq : wr.drewN nq = wq at hs' ⊢
                clear hwq nq
                have HS := Lib.hid hs'
                clear hs'
                obtain rfl := HEQ.out
                have hgt : (i : Int) > j := by omega
                have hgt' : (j : Int) < i := by omega
                have HQ3 : Hid (Q = (i, dk)) := Lib.hid (by
                  have := HQS.out
                  rw [if_pos (by omega)] at this
                  exact this.symm)
                clear HQS
                have hs9 := HS.out
                clear HS
                go_wp2_with fail
                go_ret
                rw [HQ3.out]
                exact ⟨rfl, hs9⟩
          | false =>
            have HI' := Lib.hid (show scanUp (fun x => !ltInt dk[a]! x) dk j0 (i + 1) = I2 by rw [← scu_go _ _ _ _ hle (by show _ = true; rw [hL]; try rfl)]; exact HI.out)
            go_wp2_with fail
            go_big_quiet (first | (go_at_call 62; refine Calls.quiet_of_same (srLess _ _ _)))
            have HS' := Lib.hid (HS.out.drewN nq)
            clear HS HI q0 qa hL
            go_wp2_with fail
            exact ⟨⟨i + 1, by push_cast; rfl, by omega, by omega, HS', HI'⟩, by simp [intOf]; omega⟩
        · have hleI : ¬ (i : Int) ≤ j0 := by omega
          have hleD : decide ((i : Int) ≤ (j0 : Int)) = false := decide_eq_false hleI
          have HEQ : Hid (i = I2) := Lib.hid (by rw [← HI.out, scu_far _ _ _ _ (by omega)])
          go_wp2_with fail
          go_big_quiet (first | (go_at_call 62; refine Calls.quiet_of_same (srLess _ _ _)))
          have hs' := HS.out.drewN nq
          clear HS HI
          generalize hwq : wr.drewN nq = wq at hs' ⊢
          clear hwq nq
          have HS := Lib.hid hs'
          clear hs'
          obtain rfl := HEQ.out
          have HJ := Lib.hid (show scanDown (fun x => ltInt dk[a]! x) dk i j0 = J2 from HJ0.out)
          clear HJ0
          go_wp2_with fail
          go_loopw [10] (fun z wr => ∃ j : Nat, z = .int .i64 (j : Int) ∧ j ≤ j0 ∧ i ≤ j + 1 ∧ Hid (Srt w0 g dk wr) ∧ Hid (scanDown (fun x => ltInt dk[a]! x) dk i j = J2)) (fun z _ => (intOf z).toNat)
          case atStart => exact ⟨j0, rfl, Nat.le_refl _, by omega, HS, HJ⟩
          case round =>
            clear HS HJ
            obtain ⟨j, rfl, hj0, hij2, HS, HJ⟩ := hrel
            by_cases hle2 : i ≤ j
            · have hle2I : (i : Int) ≤ j := by omega
              have q0 := HS.out.cell (t := j) (by rw [HN.out]; omega)
              have qa := HS.out.cell (t := a) (by rw [HN.out]; omega)
              have k0 : (j : Int) < n := by omega
              have ka : (a : Int) < n := by omega
              cases hL : ltInt dk[a]! dk[j]! with
              | false =>
                have HEQ : Hid (j = J2) := Lib.hid (by rw [← HJ.out, scd_no _ _ _ _ (by show _ = false; rw [hL]; try rfl)])
                go_wp2_with fail
                go_big_quiet (first | (go_at_call 62; refine Calls.quiet_of_same (srLess _ _ _)))
                have hs' := HS.out.drewN nq
                have HSJ := Lib.hid hL
                clear HS HJ q0 qa hL
                generalize hwq : wr.drewN nq = wq at hs' ⊢
                clear hwq nq
                have HS := Lib.hid hs'
                clear hs'
                obtain rfl := HEQ.out
                exact absurd hle2 (by omega)
              | true =>
                obtain ⟨k, rfl⟩ : ∃ k, j = k + 1 := ⟨j - 1, by omega⟩
                have hle3 : (i : Int) ≤ (k : Int) + 1 := by omega
                have k03 : (k : Int) + 1 < n := by omega
                have HJ' := Lib.hid (show scanDown (fun x => ltInt dk[a]! x) dk i k = J2 by rw [← scd_go _ _ _ _ hle2 (by show _ = true; rw [hL]; try rfl)]; exact HJ.out)
                go_wp2_with fail
                go_big_quiet (first | (go_at_call 62; refine Calls.quiet_of_same (srLess _ _ _)))
                have HS' := Lib.hid (HS.out.drewN nq)
                clear HS HJ q0 qa hL
                go_wp2_with fail
                exact ⟨⟨k, by first | rfl | (congr 1; omega) | (push_cast; congr 1; omega), by omega, by omega, HS', HJ'⟩, by simp [intOf] <;> omega⟩
            · have hle2I : ¬ (i : Int) ≤ j := by omega
              have hle2D : decide ((i : Int) ≤ (j : Int)) = false := decide_eq_false hle2I
              have HEQ : Hid (j = J2) := Lib.hid (by rw [← HJ.out, scd_far _ _ _ _ (by omega)])
              go_wp2_with fail
              go_big_quiet (first | (go_at_call 62; refine Calls.quiet_of_same (srLess _ _ _)))
              have hs' := HS.out.drewN nq
              clear HS HJ
              generalize hwq : wr.drewN nq = wq at hs' ⊢
              clear hwq nq
              have HS := Lib.hid hs'
              clear hs'
              obtain rfl := HEQ.out
              have hgt : (i : Int) > j := by omega
              have hgt' : (j : Int) < i := by omega
              have HQ3 : Hid (Q = (i, dk)) := Lib.hid (by
                have := HQS.out
                rw [if_pos (by omega)] at this
                exact this.symm)
              clear HQS
              have hs9 := HS.out
              clear HS
              go_wp2_with fail
              go_ret
              rw [HQ3.out]
              exact ⟨rfl, hs9⟩
end Go.Proofs.Ytbcoooaoofbboaa
