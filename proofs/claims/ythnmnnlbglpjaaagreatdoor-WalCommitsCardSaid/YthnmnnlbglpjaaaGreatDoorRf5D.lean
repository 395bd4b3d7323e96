/- The reference: may writes be? -/
import Derived.Test.YthnmnnlbglpjaaaGreatDoorRf5A
import Derived.Test.YthnmnnlbglpjaaaGreatDoorPk3
import Derived.Test.YthnmnnlbglpjaaaGreatDoorPk6
namespace Go.Proofs.YthnmnnlbglpjaaaGreatDoor
open Go.RowKit
set_option linter.unusedVariables false
set_option linter.unusedSimpArgs false

theorem allow_split (N : Nat) (xs : List Wrt) (i : Nat) (h : i < xs.length) : allowF N (xs.take i) (xs.drop i) = (((homeB N (xs.getD i wrtZ).sector && !seenB (xs.take i) (xs.getD i wrtZ).sector) && fitW (xs.getD i wrtZ).bytes) && allowF N (xs.take (i + 1)) (xs.drop (i + 1))) := by
  have e1 : xs.drop i = xs[i] :: xs.drop (i + 1) := List.drop_eq_getElem_cons h
  have e2 : xs.getD i wrtZ = xs[i] := by simp [List.getD, h]
  rw [e1, allowF_cons, e2, show xs.take i ++ [xs[i]] = xs.take (i + 1) from by rw [List.take_add_one]; simp [h]]
theorem seen_at (xs : List Wrt) (i k : Nat) (n : Int) (hk : k < i) (hi : i ≤ xs.length) (h : (xs.getD k wrtZ).sector = n) : seenB (xs.take i) n = true := by
  unfold seenB
  rw [List.any_eq_true]
  have hk' : k < (xs.take i).length := by rw [List.length_take]; omega
  refine ⟨(xs.take i)[k], List.getElem_mem hk', ?_⟩
  have hkx : k < xs.length := by omega
  rw [List.getElem_take]
  rw [show xs.getD k wrtZ = xs[k] from by simp [List.getD, hkx]] at h
  exact decide_eq_true h
theorem seen_not (xs : List Wrt) (i : Nat) (n : Int) (hi : i ≤ xs.length) (h : ∀ k, k < i → (xs.getD k wrtZ).sector ≠ n) : seenB (xs.take i) n = false := by
  unfold seenB
  rw [List.any_eq_false]
  intro y hy
  obtain ⟨k, hk, rfl⟩ := List.mem_iff_getElem.1 hy
  have hk2 : k < i := by rw [List.length_take] at hk; omega
  have hkx : k < xs.length := by omega
  have := h k hk2
  rw [show xs.getD k wrtZ = xs[k] from by simp [List.getD, hkx]] at this
  rw [List.getElem_take]
  simpa using this
set_option maxRecDepth 100000 in
set_option maxHeartbeats 1000000 in
theorem refMay (N : Nat) (wv : Value) (xs : List Wrt) (w : World) (hw : IsWrts w wv xs) :
    Calls Tryz.prog 29 #[.int .i64 N, wv] w fun e w' => e = .returned (.bool (allowL N xs)) ∧ Below w.heap.size w w' := by
  obtain ⟨ca, cc, rfl, hc1, hc2⟩ := hw.form
  have hbd : ∀ x ∈ xs, x.bounded := by obtain ⟨_, _, _, _, _, _, _, hh, _⟩ := hw; exact hh
  obtain ⟨n, hn⟩ : ∃ n, xs.length = n := ⟨_, rfl⟩
  obtain ⟨R, hR⟩ : ∃ R, allowL N xs = R := ⟨_, rfl⟩
  rw [hR]
  have HB0 : Hid (R = allowF N (xs.take 0) (xs.drop 0)) := Lib.hid hR.symm
  have HSP : Hid (∀ i, i < n → allowF N (xs.take i) (xs.drop i) = (((homeB N (xs.getD i wrtZ).sector && !seenB (xs.take i) (xs.getD i wrtZ).sector) && fitW (xs.getD i wrtZ).bytes) && allowF N (xs.take (i + 1)) (xs.drop (i + 1)))) := Lib.hid (fun i hi => allow_split N xs i (by rw [hn]; exact hi))
  have HSA : Hid (∀ i k, i ≤ n → k < i → ∀ m, (xs.getD k wrtZ).sector = m → seenB (xs.take i) m = true) := Lib.hid (fun i k hi hk m h => seen_at xs i k m hk (by omega) h)
  have HSNn : Hid (∀ i, i ≤ n → ∀ m, (∀ k, k < i → (xs.getD k wrtZ).sector ≠ m) → seenB (xs.take i) m = false) := Lib.hid (fun i hi m h => seen_not xs i m (by omega) h)
  have HEND : Hid (allowF N (xs.take n) (xs.drop n) = true) := Lib.hid (by rw [← hn, List.drop_length]; rfl)
  have HMB : Hid (∀ i, i < n → (xs.getD i wrtZ).bounded) := Lib.hid (fun i hi => hbd _ (getD_memW (by rw [hn]; exact hi)))
  have HBW : Hid (∀ u : World, Below w.heap.size w u → ∀ i : Nat, i < n → ∃ gp op, ca = some ⟨gp, op, none⟩ ∧ gp < u.heap.size ∧ u.cell? ⟨gp, op + i * 2, none⟩ = some (.int .i64 (xs.getD i wrtZ).sector) ∧ u.cell? ⟨gp, op + i * 2 + 1, none⟩ = some (.string (xs.getD i wrtZ).bytes)) := Lib.hid (by
    intro u hu i hi
    obtain ⟨a9, n9, c9, hv9, _, _, _, _, hat⟩ := hw.below hu
    injection hv9 with t1 t2 t3
    subst t1 t2 t3
    obtain ⟨gp, op, rfl, hgp, hcp⟩ := hat.resolve_left (by omega)
    exact ⟨gp, op, rfl, hgp, (hcp i (by rw [hn]; exact hi)).1, (hcp i (by rw [hn]; exact hi)).2⟩)
  rw [hn] at hc1 ⊢
  have hcI : (n : Int) ≤ cc := by omega
  have hcI2 : (cc : Int) ≤ 9223372036854775807 := by omega
  have hnI : (n : Int) ≤ 9223372036854775807 := by omega
  clear hw hbd hn hR
  go_enter Tryz.func29, Tryz.ntmps29
  go_wp2_with fail
  go_loopw [10] (fun z wr => ∃ (i : Nat), i ≤ n ∧ z = .int .i64 i ∧ Hid (R = allowF N (xs.take i) (xs.drop i)) ∧ Hid (Below w.heap.size w wr)) (fun z _ => n - (intOf z).toNat)
  case atStart => exact ⟨0, Nat.zero_le _, rfl, HB0, Lib.hid (Below.refl _ _)⟩
  case round =>
    clear HB0
    obtain ⟨i, hin, rfl, HR, HW⟩ := hrel
    by_cases hlt : i < n
    · have hiI : (i : Int) < n := by omega
      have hsp := HSP.out i hlt
      rw [← HR.out] at hsp
      obtain ⟨gp, op, hca, hgp, p0, p1⟩ := HBW.out wr HW.out i hlt
      have hmb := HMB.out i hlt
      have hss := HSNn.out i hin
      have hsa := fun k hk => HSA.out i k hin hk
      obtain ⟨Y, hY⟩ : ∃ Y, xs.getD i wrtZ = Y := ⟨_, rfl⟩
      rw [hY] at p0 p1 hsp hmb
      have hal := (Below.refl wr.heap.size wr).alloc (Nat.le_refl _) (.cells #[.int .i64 Y.sector, .string Y.bytes] 46)
      have hyx := heap_alloc_new wr (.cells #[.int .i64 Y.sector, .string Y.bytes] 46)
      have hW2 := HW.out.trans (hal.mono HW.out.size)
      have hfw : fitW Y.bytes = decide ((trimS Y.bytes).size ≤ 512) := rfl
      have hho : homeB N Y.sector = decide (53 ≤ Y.sector ∧ Y.sector < (N : Int)) := rfl
      have HIH := refHome_any (N : Int) Y.sector
      rw [← hho] at HIH
      have HIH := Lib.hid HIH
      have HTR := Lib.hid (fun u => refTrim_any Y.bytes u hmb.2)
      have hTz : (trimS Y.bytes).size ≤ 9223372036854775807 := Nat.le_trans (trimS_le _) hmb.2
      have HSPi := Lib.hid hsp; have HSSi := Lib.hid (hss Y.sector); have HSAi := Lib.hid (fun k hk => hsa k hk Y.sector)
      generalize homeB N Y.sector = ho at *
      obtain ⟨T, hT⟩ : ∃ T, trimS Y.bytes = T := ⟨_, rfl⟩
      rw [hT] at hfw hTz HTR
      generalize fitW Y.bytes = ft at *
      have HFW := Lib.hid hfw
      clear hY hsp hss hsa hmb hho hT hal hfw HW HR
      subst hca
      go_upto_region 4 with fail
      obtain ⟨E, hE⟩ : ∃ E, wr.heap.size = E := ⟨_, rfl⟩
      obtain ⟨u3, hU⟩ : ∃ u3, wr.alloc (.cells #[.int .i64 Y.sector, .string Y.bytes] 46) = u3 := ⟨_, rfl⟩
      rw [hU] at hyx hW2 ⊢
      rw [hE] at hyx
      (try rw [hE])
      have HYX := Lib.hid hyx; have HW2 := Lib.hid hW2
      have y0 := below_cell (Below.refl _ u3) hyx 0 rfl
      have y1 := below_cell (Below.refl _ u3) hyx 1 rfl
      have hTI : (T.size : Int) ≤ 9223372036854775807 := by omega
      clear hU hE hyx hW2 p0 p1 hTz
      cases ho
      · have hRf : R = false := HSPi.out.trans (by simp)
        subst hRf
        clear HSPi
        go_wp2_with (first | (go_at_call 52; refine (HIH.out _).mono ?_; rintro e u4 ⟨rfl, rfl⟩))
        go_ret
        exact ⟨rfl, HW2.out⟩
      · by_cases hfit : T.size ≤ 512
        · have hft : ft = true := HFW.out.trans (decide_eq_true hfit)
          have hnf : ¬ (512 : Int) < T.size := by omega
          subst hft
          clear HFW
          go_upto_region 7 with (first | (go_at_call 52; refine (HIH.out _).mono ?_; rintro e u4 ⟨rfl, rfl⟩) | (go_at_call 20; refine (HTR.out _).mono ?_; rintro e u4 ⟨rfl, rfl⟩))
          generalize wr = wo at *
          go_loopw [7] (fun z wr => ∃ (k : Nat), k ≤ i ∧ z = .int .i64 k ∧ Hid (∀ j, j < k → (xs.getD j wrtZ).sector ≠ Y.sector) ∧ Hid (Below u3.heap.size u3 wr)) (fun z _ => i - (intOf z).toNat)
          case atStart => exact ⟨0, Nat.zero_le _, rfl, Lib.hid (fun j hj => by omega), Lib.hid (Below.refl _ _)⟩
          case round =>
            clear y0 y1
            obtain ⟨k, hki, rfl, HNO, HW3⟩ := hrel
            have hWk := HW2.out.trans (HW3.out.mono HW2.out.size)
            by_cases hlk : k < i
            · have hkI : (k : Int) < i := by omega
              have hkn : (k : Int) < n := by omega
              obtain ⟨gp2, op2, hca2, hgp2, r0, r1⟩ := HBW.out wr hWk k (by omega)
              have hca2 : gp = gp2 ∧ op = op2 := by injection hca2 with h; injection h with h1 h2; exact ⟨h1, h2⟩
              obtain ⟨rfl, rfl⟩ := hca2
              have hyk := (HW3.out.block _ (lt_of_block HYX.out)).trans HYX.out
              have y0 := below_cell (Below.refl _ wr) hyk 0 rfl
              obtain ⟨P, hP⟩ : ∃ P, (xs.getD k wrtZ).sector = P := ⟨_, rfl⟩
              rw [hP] at r0
              have HPQ := Lib.hid hP; have HWK := Lib.hid hWk
              clear hyk hP hgp hgp2 r1 hWk
              by_cases heq : P = Y.sector
              · have hRf : R = false := HSPi.out.trans (by rw [HSAi.out k hlk (HPQ.out.trans heq)]; simp)
                subst hRf
                rw [heq] at r0
                clear heq
                go_upto_region 9 with fail
                go_quiet (fail)
                go_wp2_with fail
                go_ret
                exact ⟨rfl, belowN HWK.out _⟩
              · have hne : (P == Y.sector) = false := by simpa using heq
                go_upto_region 9 with fail
                go_quiet (fail)
                go_wp2_with fail
                go_roundw
                case rel => exact ⟨k + 1, by omega, by go_num, Lib.hid (fun j hj => by
                  by_cases hjk : j < k
                  · exact HNO.out j hjk
                  · obtain rfl : j = k := by omega
                    rw [HPQ.out]; exact heq), Lib.hid (belowN HW3.out _)⟩
                case measure => simp [intOf]; omega
            · obtain rfl : k = i := by omega
              have hnl : ¬ (k : Int) < k := by omega
              go_wp2_with fail
              go_roundw
              case rel => exact ⟨k + 1, by omega, by go_num, Lib.hid (HSPi.out.trans (by rw [HSSi.out HNO.out]; simp)), Lib.hid hWk⟩
              case measure => simp [intOf]; omega
        · have hft : ft = false := HFW.out.trans (decide_eq_false hfit)
          have hnf : (512 : Int) < T.size := by omega
          have hRf : R = false := HSPi.out.trans (by rw [hft]; simp)
          subst hRf
          clear HSPi HFW
          go_wp2_with (first | (go_at_call 52; refine (HIH.out _).mono ?_; rintro e u4 ⟨rfl, rfl⟩) | (go_at_call 20; refine (HTR.out _).mono ?_; rintro e u4 ⟨rfl, rfl⟩))
          go_ret
          exact ⟨rfl, HW2.out⟩
    · obtain rfl : i = n := by omega
      have hnl : ¬ (i : Int) < i := by omega
      have hRt : R = true := HR.out.trans HEND.out
      subst hRt
      go_wp2_with fail
      go_ret
      exact ⟨rfl, HW.out⟩
end Go.Proofs.YthnmnnlbglpjaaaGreatDoor
