/- doorwardref08.Like, of the same. -/
import Derived.Test.YtfpfcjgdihlieaaEnE
namespace Go.Proofs.Ytfpfcjgdihlieaa
open Go.ChangeShapes Go.WideShapes Go.ChangeAt Go.RowKit Go.Joins Go.Deep
set_option linter.unusedVariables false

theorem neqVr (a b c d e : Int) (u : World) : (binOp .neq 42 (.agg #[.int .i64 a, .int .i64 b, .int .i64 c, .int .i64 d, .int .i64 e]) (.agg #[.int .i64 a, .int .i64 b, .int .i64 c, .int .i64 d, .int .i64 e])).run Try.prog u = .ok (.bool false) u := by
  have u3 := Try.underlying3
  have z3 := Try.sizeOf3
  go_simp
set_option maxRecDepth 100000 in
set_option maxHeartbeats 2000000 in
theorem refLikeSame (l : List En) (va vb : Value) (w : World) (ha : IsEns w va l) (hb : IsEns w vb l) (hl100 : l.length ≤ 100000) (hv : ∀ e ∈ l, e.vers.length ≤ 100000) :
    Calls Try.prog 13 #[va, vb] w fun e' w' => e' = .returned (.bool true) ∧ Below w.heap.size w w' := by
  obtain ⟨a, n, cap, rfl, hl, hc1, hc2, hnil, hat⟩ := ha
  obtain ⟨a', n', cap', rfl, hl', hc1', hc2', hnil', hat'⟩ := hb
  obtain rfl : n' = n := by omega
  have y5 : (n' : Int) ≤ 100000 := by omega
  have HL := Lib.hid hl; have HAT := Lib.hid hat; have HAT' := Lib.hid hat'; have HV := Lib.hid hv
  clear hl hl' hat hat' hnil hnil' hl100 hv
  go_enter Try.func13, Try.ntmps13
  go_wp2_with fail
  go_loopw [16] (fun z wr => ∃ i : Nat, i ≤ n' ∧ z = .int .i64 i ∧ Hid (Below w.heap.size w wr)) (fun z _ => n' - (intOf z).toNat)
  case atStart => exact ⟨0, Nat.zero_le _, rfl, Lib.hid (Below.refl _ _)⟩
  case round =>
    obtain ⟨i, hin, rfl, HW⟩ := hrel
    by_cases hlt : i < n'
    · have hltI : (i : Int) < n' := by omega
      obtain ⟨b, off, rfl, hblt, hat⟩ := HAT.out.resolve_left (by omega)
      obtain ⟨b', off', rfl, hblt', hat'⟩ := HAT'.out.resolve_left (by omega)
      obtain ⟨hbd, va, vc, hvs, e0, e1, e2, e3⟩ := ((hat i hlt).below HW.out hblt).cell
      obtain ⟨_, va', vc', hvs', e0', e1', e2', e3'⟩ := ((hat' i hlt).below HW.out hblt').cell
      have hv6 := HV.out _ (getD_mem l i enZ (by rw [HL.out]; exact hlt))
      generalize l.getD i enZ = e at *
      obtain ⟨name, cur, nxt, vers⟩ := e
      simp only at hbd hvs e0 e1 e2 e3 hvs' e0' e1' e2' e3' hv6
      obtain ⟨m, hm⟩ : ∃ m, vers.length = m := ⟨_, rfl⟩
      rw [hm] at hvs e3 hvs' e3' hv6
      have hm6 : (m : Int) ≤ 100000 := by omega
      have HM := Lib.hid hm
      obtain ⟨wa, hwa⟩ : ∃ wa, wr.alloc (.cells #[.string name, .int .i64 cur, .int .i64 nxt, .slice va m vc] 36) = wa := ⟨_, rfl⟩
      obtain ⟨wb, hwb⟩ : ∃ wb, wa.alloc (.cells #[.string name, .int .i64 cur, .int .i64 nxt, .slice va' m vc'] 36) = wb := ⟨_, rfl⟩
      have hA : Below wr.heap.size wr wa := by rw [← hwa]; exact (Below.refl _ _).alloc (Nat.le_refl _) _
      have hA2 : wa.heap[wr.heap.size]? = some (.cells #[.string name, .int .i64 cur, .int .i64 nxt, .slice va m vc] 36 (0, 0)) := by rw [← hwa]; exact heap_alloc_new wr _
      have hB : Below wa.heap.size wa wb := by rw [← hwb]; exact (Below.refl _ _).alloc (Nat.le_refl _) _
      have hB2 : wb.heap[wa.heap.size]? = some (.cells #[.string name, .int .i64 cur, .int .i64 nxt, .slice va' m vc'] 36 (0, 0)) := by rw [← hwb]; exact heap_alloc_new wa _
      have hB3 := (hB.block _ (lt_of_block hA2)).trans hA2
      have hblr : b' < wr.heap.size := Nat.lt_of_lt_of_le hblt' HW.out.size
      have d0 := (hA.cell (p := ⟨b', off' + i * 4, none⟩) hblr).trans e0'
      have d1 := (hA.cell (p := ⟨b', off' + i * 4 + 1, none⟩) hblr).trans e1'
      have d2 := (hA.cell (p := ⟨b', off' + i * 4 + 2, none⟩) hblr).trans e2'
      have d3 := (hA.cell (p := ⟨b', off' + i * 4 + 3, none⟩) hblr).trans e3'
      have hWB := HW.out.trans ((hA.trans (hB.mono hA.size)).mono HW.out.size)
      have hV1 := hvs.below (hA.trans (hB.mono hA.size))
      have hV2 := hvs'.below (hA.trans (hB.mono hA.size))
      have HA2 := Lib.hid hwa; have HB2 := Lib.hid hwb; have HC := Lib.hid hB3; have HD := Lib.hid hB2; have HWB := Lib.hid hWB; have HV1 := Lib.hid hV1; have HV2 := Lib.hid hV2
      clear hwa hwb hA hA2 hB hB2 hB3 hWB hV1 hV2 hvs hvs' hm hat hat' e0' e1' e2' e3' hbd
      go_upto_region 6 with fail
      rw [HA2.out]
      have hsz : wr.heap.size + 1 = wa.heap.size := by rw [← HA2.out, World.size_alloc]
      clear e0 e1 e2 e3
      go_upto_region 7 with fail
      rw [HB2.out]
      (try rw [hsz])
      clear d0 d1 d2 d3 hsz HA2 HB2 HW
      obtain ⟨P, hP⟩ : ∃ P, wr.heap.size = P := ⟨_, rfl⟩
      obtain ⟨Q, hQ⟩ : ∃ Q, wa.heap.size = Q := ⟨_, rfl⟩
      rw [hP] at HC ⊢
      rw [hQ] at HD ⊢
      clear hP hQ
      have p0 := below_cell (Below.refl _ wb) HC.out 0 rfl
      have p1 := below_cell (Below.refl _ wb) HC.out 1 rfl
      have p2 := below_cell (Below.refl _ wb) HC.out 2 rfl
      have p3 := below_cell (Below.refl _ wb) HC.out 3 rfl
      have q0 := below_cell (Below.refl _ wb) HD.out 0 rfl
      have q1 := below_cell (Below.refl _ wb) HD.out 1 rfl
      have q2 := below_cell (Below.refl _ wb) HD.out 2 rfl
      have q3 := below_cell (Below.refl _ wb) HD.out 3 rfl
      have hsame : (name.toList == name.toList) = true := by simp
      go_wp2_with fail
      clear p0 p1 p2 p3 q0 q1 q2 q3 hsame
      obtain ⟨_, _, _, hvv, _, hm1, hm2, _, _, hvat⟩ := HV1.out
      injection hvv with t1 t2 t3
      subst t1 t2 t3
      obtain ⟨_, _, _, hvv', _, hm1', hm2', _, _, hvat'⟩ := HV2.out
      injection hvv' with t1 t2 t3
      subst t1 t2 t3
      have HVA := Lib.hid hvat; have HVA' := Lib.hid hvat'
      clear hvat hvat' HV1 HV2
      generalize hwo : wr = wo at *
      clear hwo
      go_loopw [56] (fun z wr => ∃ k : Nat, k ≤ m ∧ z = .int .i64 k ∧ Hid (Below wb.heap.size wb wr)) (fun z _ => m - (intOf z).toNat)
      case atStart => exact ⟨0, Nat.zero_le _, rfl, Lib.hid (Below.refl _ _)⟩
      case round =>
        obtain ⟨k, hkm, rfl, HK⟩ := hrel
        have p3 := below_cell HK.out HC.out 3 rfl
        have q3 := below_cell HK.out HD.out 3 rfl
        by_cases hk : k < m
        · have hkI : (k : Int) < m := by omega
          obtain ⟨vb, vo, rfl, hvb, hvat⟩ := HVA.out.resolve_left (by omega)
          obtain ⟨vb', vo', rfl, hvb', hvat'⟩ := HVA'.out.resolve_left (by omega)
          obtain ⟨c0, c1, c2, c3, c4⟩ := (hvat k hk).below HK.out hvb
          obtain ⟨d0, d1, d2, d3, d4⟩ := (hvat' k hk).below HK.out hvb'
          generalize vers.getD k vrZ = v at *
          obtain ⟨no, src, flt, byt, ins⟩ := v
          simp only at c0 c1 c2 c3 c4 d0 d1 d2 d3 d4
          have hne := fun u => neqVr no src flt byt ins u
          clear hvat hvat'
          go_wp2_with fail
          go_quiet (fail)
          go_wp2_with fail
          go_roundw
          case rel => exact ⟨k + 1, by omega, by go_num, Lib.hid (by first | exact HK.out | exact belowN HK.out _)⟩
          case measure => simp [intOf]; omega
        · obtain rfl : k = m := by omega
          have hnl : ¬ (k : Int) < k := by omega
          go_wp2_with fail
          go_roundw
          case rel => exact ⟨i + 1, by omega, by go_num, Lib.hid (HWB.out.trans (HK.out.mono HWB.out.size))⟩
          case measure => simp [intOf]; omega
    · obtain rfl : i = n' := by omega
      have hnl : ¬ (i : Int) < i := by omega
      go_wp2_with fail
      go_ret
      exact ⟨rfl, HW.out⟩
end Go.Proofs.Ytfpfcjgdihlieaa
