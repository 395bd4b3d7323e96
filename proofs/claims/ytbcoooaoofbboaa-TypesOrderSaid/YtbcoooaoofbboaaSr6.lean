/- slices.partialInsertionSortOrdered at numbers of 32 bits. -/
import Derived.Test.YtbcoooaoofbboaaSr2
import Derived.Sort.LotA
namespace Go.Proofs.Ytbcoooaoofbboaa
open Go.RowKit Go.Sort
set_option linter.unusedVariables false
set_option linter.unusedSimpArgs false

theorem scs_end (d : Array Int) (b i : Nat) (h : b ≤ i) : scanSorted ltInt d b i = i := by unfold scanSorted; simp [show ¬ i < b by omega]
theorem scs_no (d : Array Int) (b k : Nat) (h : ltInt d[k + 1]! d[k]! = true) : scanSorted ltInt d b (k + 1) = k + 1 := by unfold scanSorted; simp [h]
theorem scs_go (d : Array Int) (b k : Nat) (hb : k + 1 < b) (h : ltInt d[k + 1]! d[k]! = false) : scanSorted ltInt d b (k + 1) = scanSorted ltInt d b (k + 1 + 1) := by conv => lhs; unfold scanSorted; simp [h, hb]
theorem shd_no (j : Nat) (d : Array Int) (h : ltInt d[j + 1]! d[j]! = false) : shiftDown ltInt (j + 1) d = d := by unfold shiftDown; simp [h]
theorem shd_go (j : Nat) (d : Array Int) (h : ltInt d[j + 1]! d[j]! = true) : shiftDown ltInt (j + 1) d = shiftDown ltInt j (swp d (j + 1) j) := by conv => lhs; unfold shiftDown; simp [h]
theorem shu_end (b j : Nat) (d : Array Int) (h : b ≤ j) : shiftUp ltInt b j d = d := by unfold shiftUp; simp [show ¬ j < b by omega]
theorem shu_no (b k : Nat) (d : Array Int) (h : ltInt d[k + 1]! d[k]! = false) : shiftUp ltInt b (k + 1) d = d := by unfold shiftUp; simp [h]
theorem shu_go (b k : Nat) (d : Array Int) (hb : k + 1 < b) (h : ltInt d[k + 1]! d[k]! = true) : shiftUp ltInt b (k + 1) d = shiftUp ltInt b (k + 1 + 1) (swp d (k + 1) k) := by conv => lhs; unfold shiftUp; simp [h, hb]
theorem size_shd : ∀ (j : Nat) (d : Array Int), (shiftDown ltInt j d).size = d.size
  | 0, d => rfl
  | j + 1, d => by
    cases h : ltInt d[j + 1]! d[j]! with
    | false => rw [shd_no j d h]
    | true => rw [shd_go j d h, size_shd j, size_swp']
theorem size_shu (b : Nat) : ∀ (m k : Nat) (d : Array Int), b - k ≤ m → (shiftUp ltInt b (k + 1) d).size = d.size
  | 0, k, d, h => by rw [shu_end _ _ _ (by omega)]
  | m + 1, k, d, h => by
    by_cases hb : k + 1 < b
    · cases h2 : ltInt d[k + 1]! d[k]! with
      | false => rw [shu_no _ _ _ h2]
      | true => rw [shu_go _ _ _ hb h2, size_shu b m (k + 1) _ (by omega), size_swp']
    · rw [shu_end _ _ _ (by omega)]
theorem scs_ge (d : Array Int) (b : Nat) : ∀ (m k : Nat), b - k ≤ m → k + 1 ≤ scanSorted ltInt d b (k + 1) ∧ (k + 1 ≤ b → scanSorted ltInt d b (k + 1) ≤ b)
  | 0, k, h => by rw [scs_end _ _ _ (by omega)]; exact ⟨Nat.le_refl _, fun h => h⟩
  | m + 1, k, h => by
    by_cases hb : k + 1 < b
    · cases h2 : ltInt d[k + 1]! d[k]! with
      | true => rw [scs_no _ _ _ h2]; exact ⟨Nat.le_refl _, fun h => h⟩
      | false =>
        rw [scs_go _ _ _ hb h2]
        have := scs_ge d b m (k + 1) (by omega)
        exact ⟨by omega, fun _ => this.2 (by omega)⟩
    · rw [scs_end _ _ _ (by omega)]; exact ⟨Nat.le_refl _, fun h => h⟩
theorem size_fixD (a i : Nat) (d : Array Int) : (fixDown ltInt a i d).size = d.size := by
  unfold fixDown
  by_cases h : i - a ≥ 2
  · rw [if_pos h, size_shd]
  · rw [if_neg h]
theorem size_fixU (b i : Nat) (d : Array Int) : (fixUp ltInt b i d).size = d.size := by
  unfold fixUp
  by_cases h : b - i ≥ 2
  · rw [if_pos h, size_shu b b i d (by omega)]
  · rw [if_neg h]
set_option maxRecDepth 100000 in
set_option maxHeartbeats 8000000 in
theorem srPins (g : Nat) (w0 : World) (d : Array Int) (n cap a b : Nat) (wr : World) (hS : Srt w0 g d wr) (hn : d.size = n) (hab : a < b) (hb : b ≤ n) (hsz : n ≤ 1000000) :
    Calls Try.prog 61 #[.slice (some ⟨g, 0, none⟩) n cap, .int .i64 a, .int .i64 b] wr fun e w' => e = .returned (.bool (partialInsertionSort ltInt d a b).2) ∧ Srt w0 g (partialInsertionSort ltInt d a b).1 w' := by
  obtain ⟨Q, hQ⟩ : ∃ Q, partialInsertionSort ltInt d a b = Q := ⟨_, rfl⟩
  rw [hQ]
  have HQ := Lib.hid (show partialIns ltInt a b 5 (a + 1) d = Q from hQ)
  have HS := Lib.hid hS
  have HN := Lib.hid hn
  have hbI : (b : Int) ≤ n := by omega
  have habI : (a : Int) < b := by omega
  have hnI : (n : Int) ≤ 1000000 := by omega
  clear hS hQ hn
  go_enter Try.func61, Try.ntmps61
  go_wp2_with fail
  go_loopw [7, 8] (fun z z2 wr => ∃ (i s : Nat) (dk : Array Int), z = .int .i64 (i : Int) ∧ z2 = .int .i64 (5 - (s : Int)) ∧ s ≤ 5 ∧ a < i ∧ i ≤ b ∧ Hid (dk.size = n) ∧ Hid (Srt w0 g dk wr) ∧ Hid (partialIns ltInt a b s i dk = Q)) (fun _ z2 _ => (5 - intOf z2).toNat)
  case atStart => exact ⟨a + 1, 5, d, by push_cast; rfl, by simp, by omega, by omega, by omega, HN, HS, HQ⟩
  case round =>
    clear HN HS HQ
    obtain ⟨i0, s, dk, rfl, rfl, hs5, hai, hib, HN, HS, HQ⟩ := hrel
    cases s with
    | zero =>
      have h0 : ¬ (5 - ((0 : Nat) : Int)) < 5 := by omega
      have HQ' := Lib.hid (show Q = (dk, false) from HQ.out.symm)
      have hs9 := HS.out
      clear HQ HS
      go_wp2_with fail
      go_ret
      rw [HQ'.out]
      exact ⟨rfl, hs9⟩
    | succ s =>
      obtain ⟨z2, hz2⟩ : ∃ z2 : Int, 5 - ((s + 1 : Nat) : Int) = z2 := ⟨_, rfl⟩
      rw [hz2]
      have hz5 : z2 < 5 := by omega
      have hz0 : 0 ≤ z2 := by omega
      have hz1 : z2 + 1 = 5 - (s : Int) := by omega
      have HZ := Lib.hid hz1
      clear hz2 hz1
      obtain ⟨I, hI⟩ : ∃ I, scanSorted ltInt dk b i0 = I := ⟨_, rfl⟩
      have hge : a < I ∧ I ≤ b := by
        obtain ⟨k, rfl⟩ : ∃ k, i0 = k + 1 := ⟨i0 - 1, by omega⟩
        have := scs_ge dk b (b - k) k (Nat.le_refl _)
        rw [hI] at this
        exact ⟨by omega, this.2 (by omega)⟩
      have hQS := partialIns_succ (lt := ltInt) a b s i0 dk
      rw [HQ.out, hI] at hQS
      have HQS := Lib.hid hQS; have HI := Lib.hid hI
      clear hQS hI HQ
      go_wp2_with fail
      go_loopw [7] (fun z wr => ∃ i : Nat, z = .int .i64 (i : Int) ∧ i0 ≤ i ∧ i ≤ b ∧ Hid (Srt w0 g dk wr) ∧ Hid (scanSorted ltInt dk b i = I)) (fun z _ => b - (intOf z).toNat)
      case atStart => exact ⟨i0, rfl, Nat.le_refl _, hib, HS, HI⟩
      case round =>
        clear HS HI
        obtain ⟨i, rfl, hi0, hib2, HS, HI⟩ := hrel
        by_cases hlt : i < b
        · obtain ⟨k, rfl⟩ : ∃ k, i = k + 1 := ⟨i - 1, by omega⟩
          have hltI : (k : Int) + 1 < b := by omega
          have q0 := HS.out.cell (t := k + 1) (by rw [HN.out]; omega)
          have q1 := HS.out.cell (t := k) (by rw [HN.out]; omega)
          have k0 : (k : Int) + 1 < n := by omega
          have k1 : (k : Int) < n := by omega
          cases hL : ltInt dk[k + 1]! dk[k]! with
          | false =>
            have HI' := Lib.hid (show scanSorted ltInt dk b (k + 1 + 1) = I by rw [← scs_go dk b k hlt hL]; exact HI.out)
            go_wp2_with fail
            go_big_quiet (first | (go_at_call 62; refine Calls.quiet_of_same (srLess _ _ _)))
            have HS' := Lib.hid (HS.out.drewN nq)
            clear HS HI q0 q1 hL
            go_wp2_with fail
            exact ⟨⟨k + 1 + 1, by push_cast; rfl, by omega, by omega, HS', HI'⟩, by simp [intOf]; omega⟩
          | true =>
            have HEQ : Hid (k + 1 = I) := Lib.hid (by rw [← HI.out, scs_no dk b k hL])
            go_wp2_with fail
            go_big_quiet (first | (go_at_call 62; refine Calls.quiet_of_same (srLess _ _ _)))
            have hs1 := HS.out.drewN nq
            clear HS HI q0 q1 hL
            generalize hwq : wr.drewN nq = wq at hs1 ⊢
            clear hwq nq
            have HS := Lib.hid hs1
            clear hs1
            generalize hki : k + 1 = i at *
            clear hki
            obtain rfl := HEQ.out
            obtain ⟨i1, rfl⟩ : ∃ i1, i = i1 + 1 := ⟨i - 1, by omega⟩
            have hibI : ¬ (i1 : Int) + 1 = (b : Int) := by omega
            have hibB : ((i1 : Int) + 1 == (b : Int)) = false := by rw [beq_eq_false_iff_ne]; omega
            have hQ2 : Q = (if b - a < 50 then (dk, false) else partialIns ltInt a b s (i1 + 1) (fixUp ltInt b (i1 + 1) (fixDown ltInt a (i1 + 1) (swp dk (i1 + 1) i1)))) := by
              have := HQS.out
              rw [if_neg (by omega)] at this
              exact this
            have HQ2 := Lib.hid hQ2
            clear HQS hQ2
            by_cases h50 : b - a < 50
            · have h50I : (b : Int) - a < 50 := by omega
              have HQ3 : Hid (Q = (dk, false)) := Lib.hid (by rw [HQ2.out, if_pos h50])
              have hs9 := HS.out
              clear HS HQ2
              go_wp2_with fail
              go_ret
              rw [HQ3.out]
              exact ⟨rfl, hs9⟩
            · have h50I : ¬ (b : Int) - a < 50 := by omega
              have HQ3 : Hid (Q = partialIns ltInt a b s (i1 + 1) (fixUp ltInt b (i1 + 1) (fixDown ltInt a (i1 + 1) (swp dk (i1 + 1) i1)))) := Lib.hid (by rw [HQ2.out, if_neg h50])
              clear HQ2
              have p0 := HS.out.cell (t := i1 + 1) (by rw [HN.out]; omega)
              have p1 := HS.out.cell (t := i1) (by rw [HN.out]; omega)
              have f0 := HS.out.fr (i1 + 1)
              have f1 := HS.out.fr i1
              have k0 : (i1 : Int) + 1 < n := by omega
              have k1 : (i1 : Int) < n := by omega
              go_upto_region 11 with fail
              go_region
              have hs' := HS.out.swp (i := i1 + 1) (j := i1) (by rw [HN.out]; omega) (by rw [HN.out]; omega)
              have hn' := (size_swp' dk (i1 + 1) i1).trans HN.out
              have HS2 := Lib.hid (hs'.drew); have HN2 := Lib.hid hn'
              clear p0 p1 f0 f1 hs' hn' HS
              clear HN
              have HS := HS2; have HN := HN2
              clear HS2 HN2
              generalize swp dk (i1 + 1) i1 = dk at HQ3 HS HN
              go_upto_if 61 with fail
              go_cut [] (fun wx => Srt w0 g (fixDown ltInt a (i1 + 1) dk) wx)
              case first =>
                by_cases h2 : i1 + 1 - a ≥ 2
                · have h2I : (2 : Int) ≤ (i1 : Int) + 1 - a := by omega
                  obtain ⟨D2, hD2⟩ : ∃ D2, fixDown ltInt a (i1 + 1) dk = D2 := ⟨_, rfl⟩
                  have HF := Lib.hid hD2
                  have HD := Lib.hid (show shiftDown ltInt i1 dk = D2 by rw [← hD2]; unfold fixDown; rw [if_pos h2]; rfl)
                  clear hD2
                  go_wp2_with fail
                  go_loopw [9] (fun z wr => ∃ (j : Nat) (dk : Array Int), z = .int .i64 (j : Int) ∧ j ≤ i1 ∧ Hid (dk.size = n) ∧ Hid (Srt w0 g dk wr) ∧ Hid (shiftDown ltInt j dk = D2)) (fun z _ => (intOf z).toNat)
                  case atStart => exact ⟨i1, dk, rfl, Nat.le_refl _, HN, HS, HD⟩
                  case round =>
                    clear HN HS HD
                    obtain ⟨j, dk, rfl, hj, HN, HS, HD⟩ := hrel
                    cases j with
                    | zero =>
                      have HD' := Lib.hid (show dk = D2 from HD.out)
                      clear HD
                      go_wp2_with fail
                      go_meet
                      rw [HF.out, ← HD'.out]; exact HS.out
                    | succ k =>
                      have hk1 : (1 : Int) ≤ (k : Int) + 1 := by omega
                      have q0 := HS.out.cell (t := k + 1) (by rw [HN.out]; omega)
                      have q1 := HS.out.cell (t := k) (by rw [HN.out]; omega)
                      have k0 : (k : Int) + 1 < n := by omega
                      have k1 : (k : Int) < n := by omega
                      cases hL : ltInt dk[k + 1]! dk[k]! with
                      | false =>
                        have HD' := Lib.hid (show dk = D2 by rw [← HD.out, shd_no k dk hL])
                        clear HD
                        go_wp2_with fail
                        go_big_quiet (first | (go_at_call 62; refine Calls.quiet_of_same (srLess _ _ _)))
                        have HS' := Lib.hid (HS.out.drewN nq)
                        clear HS q0 q1 hL
                        go_wp2_with fail
                        go_meet
                        rw [HF.out, ← HD'.out]; exact HS'.out
                      | true =>
                        have HD' := Lib.hid (show shiftDown ltInt k (swp dk (k + 1) k) = D2 by rw [← shd_go k dk hL]; exact HD.out)
                        clear HD
                        go_wp2_with fail
                        go_big_quiet (first | (go_at_call 62; refine Calls.quiet_of_same (srLess _ _ _)))
                        have hs1 := HS.out.drewN nq
                        clear HS q0 q1 hL
                        generalize hwq : wr.drewN nq = wq at hs1 ⊢
                        clear hwq nq
                        have HS := Lib.hid hs1
                        clear hs1
                        have p0 := HS.out.cell (t := k + 1) (by rw [HN.out]; omega)
                        have p1 := HS.out.cell (t := k) (by rw [HN.out]; omega)
                        have f0 := HS.out.fr (k + 1)
                        have f1 := HS.out.fr k
                        have k0 : (k : Int) + 1 < n := by omega
                        have k1 : (k : Int) < n := by omega
                        go_upto_region 17 with fail
                        go_region
                        have hs' := HS.out.swp (i := k + 1) (j := k) (by rw [HN.out]; omega) (by rw [HN.out]; omega)
                        have hn' := (size_swp' dk (k + 1) k).trans HN.out
                        have HS2 := Lib.hid (hs'.drew); have HN2 := Lib.hid hn'
                        clear p0 p1 f0 f1 hs' hn' HS
                        go_wp2_with fail
                        exact ⟨⟨k, swp dk (k + 1) k, by first | rfl | (congr 1; omega) | (push_cast; congr 1; omega), by omega, HN2, HS2, HD'⟩, by simp [intOf] <;> omega⟩
                · have h2I : ¬ (2 : Int) ≤ (i1 : Int) + 1 - a := by omega
                  have hd : fixDown ltInt a (i1 + 1) dk = dk := by unfold fixDown; rw [if_neg h2]
                  have hs9 := HS.out
                  rw [← hd] at hs9
                  clear HS hd
                  go_wp2_with fail
                  go_meet
                  exact hs9
              case rest =>
                have HS1 := Lib.hid hcut
                clear HS hcut
                have HS := HS1
                clear HS1
                have HN1 := Lib.hid ((size_fixD a (i1 + 1) dk).trans HN.out)
                clear HN
                have HN := HN1
                clear HN1
                generalize fixDown ltInt a (i1 + 1) dk = dk at HQ3 HS HN
                go_upto_if 98 with fail
                by_cases h2 : b - (i1 + 1) ≥ 2
                · have h2I : (2 : Int) ≤ (b : Int) - ((i1 : Int) + 1) := by omega
                  obtain ⟨D2, hD2⟩ : ∃ D2, fixUp ltInt b (i1 + 1) dk = D2 := ⟨_, rfl⟩
                  have HF := Lib.hid hD2
                  have HNF := Lib.hid (show D2.size = n from by rw [← hD2, size_fixU]; exact HN.out)
                  have HQ4 := Lib.hid (show partialIns ltInt a b s (i1 + 1) D2 = Q by rw [HQ3.out, HF.out])
                  have HD := Lib.hid (show shiftUp ltInt b (i1 + 1 + 1) dk = D2 by rw [← hD2]; unfold fixUp; rw [if_pos h2])
                  clear hD2
                  go_wp2_with fail
                  go_loopw [10] (fun z wr => ∃ (k : Nat) (dk : Array Int), z = .int .i64 ((k : Int) + 1) ∧ i1 + 1 ≤ k ∧ k < b ∧ Hid (dk.size = n) ∧ Hid (Srt w0 g dk wr) ∧ Hid (shiftUp ltInt b (k + 1) dk = D2)) (fun z _ => b - (intOf z).toNat)
                  case atStart => exact ⟨i1 + 1, dk, by push_cast; rfl, Nat.le_refl _, by omega, HN, HS, HD⟩
                  case round =>
                    clear HN HS HD
                    obtain ⟨k, dk, rfl, hj, hkb, HN, HS, HD⟩ := hrel
                    by_cases hlt : k + 1 < b
                    · have hltI : (k : Int) + 1 < b := by omega
                      have q0 := HS.out.cell (t := k + 1) (by rw [HN.out]; omega)
                      have q1 := HS.out.cell (t := k) (by rw [HN.out]; omega)
                      have k0 : (k : Int) + 1 < n := by omega
                      have k1 : (k : Int) < n := by omega
                      cases hL : ltInt dk[k + 1]! dk[k]! with
                      | false =>
                        have HD' := Lib.hid (show dk = D2 by rw [← HD.out, shu_no b k dk hL])
                        clear HD
                        go_wp2_with fail
                        go_big_quiet (first | (go_at_call 62; refine Calls.quiet_of_same (srLess _ _ _)))
                        have HS' := Lib.hid (HS.out.drewN nq)
                        clear HS q0 q1 hL
                        go_wp2_with fail
                        exact ⟨⟨i1 + 1, s, D2, by push_cast; rfl, by rw [HZ.out], by omega, by omega, by omega, HNF, Lib.hid (by rw [← HD'.out]; exact HS'.out), HQ4⟩, by simp [intOf]; omega⟩
                      | true =>
                        have HD' := Lib.hid (show shiftUp ltInt b (k + 1 + 1) (swp dk (k + 1) k) = D2 by rw [← shu_go b k dk hlt hL]; exact HD.out)
                        clear HD
                        go_wp2_with fail
                        go_big_quiet (first | (go_at_call 62; refine Calls.quiet_of_same (srLess _ _ _)))
                        have hs1 := HS.out.drewN nq
                        clear HS q0 q1 hL
                        generalize hwq : wr.drewN nq = wq at hs1 ⊢
                        clear hwq nq
                        have HS := Lib.hid hs1
                        clear hs1
                        have p0 := HS.out.cell (t := k + 1) (by rw [HN.out]; omega)
                        have p1 := HS.out.cell (t := k) (by rw [HN.out]; omega)
                        have f0 := HS.out.fr (k + 1)
                        have f1 := HS.out.fr k
                        have k0 : (k : Int) + 1 < n := by omega
                        have k1 : (k : Int) < n := by omega
                        go_upto_region 23 with fail
                        go_region
                        have hs' := HS.out.swp (i := k + 1) (j := k) (by rw [HN.out]; omega) (by rw [HN.out]; omega)
                        have hn' := (size_swp' dk (k + 1) k).trans HN.out
                        have HS2 := Lib.hid (hs'.drew); have HN2 := Lib.hid hn'
                        clear p0 p1 f0 f1 hs' hn' HS
                        go_wp2_with fail
                        exact ⟨⟨k + 1, swp dk (k + 1) k, by first | rfl | (push_cast; rfl) | (push_cast; congr 1; omega), by omega, by omega, HN2, HS2, HD'⟩, by simp [intOf] <;> omega⟩
                    · have hltI : ¬ (k : Int) + 1 < b := by omega
                      have HD' := Lib.hid (show dk = D2 by rw [← HD.out, shu_end b (k + 1) dk (by omega)])
                      clear HD
                      go_wp2_with fail
                      exact ⟨⟨i1 + 1, s, D2, by push_cast; rfl, by rw [HZ.out], by omega, by omega, by omega, HNF, Lib.hid (by rw [← HD'.out]; exact HS.out), HQ4⟩, by simp [intOf]; omega⟩
                · have h2I : ¬ (2 : Int) ≤ (b : Int) - ((i1 : Int) + 1) := by omega
                  have hd : fixUp ltInt b (i1 + 1) dk = dk := by unfold fixUp; rw [if_neg h2]
                  have HQ4 := Lib.hid (show partialIns ltInt a b s (i1 + 1) dk = Q by rw [HQ3.out, hd])
                  clear hd
                  go_wp2_with fail
                  exact ⟨⟨i1 + 1, s, dk, by push_cast; rfl, by rw [HZ.out], by omega, by omega, by omega, HN, HS, HQ4⟩, by simp [intOf]; omega⟩
        · have hltI : ¬ (i : Int) < b := by omega
          have hltD : decide ((i : Int) < (b : Int)) = false := decide_eq_false hltI
          have HEQ : Hid (i = I) := Lib.hid (by rw [← HI.out, scs_end dk b i (by omega)])
          go_wp2_with fail
          go_big_quiet (first | (go_at_call 62; refine Calls.quiet_of_same (srLess _ _ _)))
          have hs1 := HS.out.drewN nq
          clear HS HI
          generalize hwq : wr.drewN nq = wq at hs1 ⊢
          clear hwq nq
          have HS := Lib.hid hs1
          clear hs1
          have hib3 : i = b := by omega
          obtain rfl := HEQ.out
          obtain rfl := hib3
          -- i = b: it is done
          have hQ2 : Q = (dk, true) := by
            have := HQS.out
            rw [if_pos (by omega)] at this
            exact this
          have HQ2 := Lib.hid hQ2
          have hs9 := HS.out
          clear HS HQS hQ2
          go_wp2_with fail
          go_ret
          rw [HQ2.out]
          exact ⟨rfl, hs9⟩
end Go.Proofs.Ytbcoooaoofbboaa
