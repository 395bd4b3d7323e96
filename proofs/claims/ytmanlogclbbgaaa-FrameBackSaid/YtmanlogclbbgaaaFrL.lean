/- doorwardref23.Like, of two answers that are the same. -/
import Derived.Test.YtmanlogclbbgaaaFr26
namespace Go.Proofs.Ytmanlogclbbgaaa
open Go.RowKit Go.Joins Go.Deep
set_option linter.unusedVariables false
set_option linter.unusedSimpArgs false

theorem LnAt.cell {w : World} {b o : Nat} {e : Ln} (h : LnAt w b o e) : e.bounded ∧ ∃ A c, Reads1 encI w (.slice A e.nos.length c) e.nos ∧ w.cell? ⟨b, o, none⟩ = some (.string e.name) ∧ w.cell? ⟨b, o + 1, none⟩ = some (.int .i64 e.cur) ∧ w.cell? ⟨b, o + 2, none⟩ = some (.slice A e.nos.length c) := by
  obtain ⟨h0, k, h1, h2, h3, h4⟩ := h
  obtain ⟨a, cap, rfl, _⟩ := reads1_form h1
  exact ⟨h0, a, cap, h1, h2, h3, h4⟩
set_option maxRecDepth 100000 in
set_option maxHeartbeats 4000000 in
theorem refLikeRp (r : Rp) (va vb : Value) (w : World) (ha : IsRp w va r) (hb : IsRp w vb r) (hl : r.lines.length ≤ 100000) (hv : ∀ e ∈ r.lines, e.nos.length ≤ 100000) :
    Calls Try.prog 19 #[va, vb] w fun e w' => e = .returned (.bool true) ∧ Below w.heap.size w w' := by
  obtain ⟨hbd, ka, rfl, hka⟩ := ha
  obtain ⟨_, kb, rfl, hkb⟩ := hb
  obtain ⟨A, c, rfl, hc1, hc2⟩ := hka.form
  obtain ⟨A', c', rfl, hc1', hc2'⟩ := hkb.form
  obtain ⟨why, at_, no, source, insns, action, l⟩ := r
  simp only [Rp.val] at *
  obtain ⟨n, hn⟩ : ∃ n, l.length = n := ⟨_, rfl⟩
  rw [hn] at hka hkb hc1 hc1' hl ⊢
  obtain ⟨a, n1, cap, e1, hl1, _, _, _, hat⟩ := hka
  injection e1 with t1 t2 t3
  subst t1 t2 t3
  obtain ⟨a, n1, cap, e1, _, _, _, _, hat'⟩ := hkb
  injection e1 with t1 t2 t3
  subst t1 t2 t3
  have hnI : (n : Int) ≤ 100000 := by omega
  have HAT := Lib.hid hat; have HAT' := Lib.hid hat'; have HV := Lib.hid hv; have HL := Lib.hid hn
  have hs1 : (source.toList == source.toList) = true := by simp
  have hX : Hid (∀ u : World, u = (w.alloc (.cells #[.int .i64 why, .int .i64 at_, .int .i64 no, .string source, .int .i64 insns, .int .u32 action, .slice A n c] 37)).alloc (.cells #[.int .i64 why, .int .i64 at_, .int .i64 no, .string source, .int .i64 insns, .int .u32 action, .slice A' n c'] 37) →
      u.heap[w.heap.size]? = some (.cells #[.int .i64 why, .int .i64 at_, .int .i64 no, .string source, .int .i64 insns, .int .u32 action, .slice A n c] 37 (0, 0)) ∧ u.heap[w.heap.size + 1]? = some (.cells #[.int .i64 why, .int .i64 at_, .int .i64 no, .string source, .int .i64 insns, .int .u32 action, .slice A' n c'] 37 (0, 0)) ∧ Below w.heap.size w u) := Lib.hid (by
    rintro u rfl
    have b0 := heap_alloc_new w (.cells #[.int .i64 why, .int .i64 at_, .int .i64 no, .string source, .int .i64 insns, .int .u32 action, .slice A n c] 37)
    have e1 := heap_alloc_new (w.alloc (.cells #[.int .i64 why, .int .i64 at_, .int .i64 no, .string source, .int .i64 insns, .int .u32 action, .slice A n c] 37)) (.cells #[.int .i64 why, .int .i64 at_, .int .i64 no, .string source, .int .i64 insns, .int .u32 action, .slice A' n c'] 37)
    rw [World.size_alloc] at e1
    exact ⟨(heap_alloc_old _ _ (lt_of_block b0)).trans b0, e1, ((Below.refl w.heap.size w).alloc (Nat.le_refl _) _).alloc (by simp) _⟩)
  clear hat hat' hl hbd hv hn hl1 hc1 hc1' hc2 hc2'
  go_enter Try.func19, Try.ntmps19
  go_upto_region 1 with fail
  obtain ⟨u, hW⟩ : ∃ u, (w.alloc (.cells #[.int .i64 why, .int .i64 at_, .int .i64 no, .string source, .int .i64 insns, .int .u32 action, .slice A n c] 37)).alloc (.cells #[.int .i64 why, .int .i64 at_, .int .i64 no, .string source, .int .i64 insns, .int .u32 action, .slice A' n c'] 37) = u := ⟨_, rfl⟩
  rw [hW]
  obtain ⟨hA, hB, hb⟩ := hX.out u hW.symm
  clear hX hW
  obtain ⟨N, hNN⟩ : ∃ N, w.heap.size = N := ⟨_, rfl⟩
  obtain ⟨M, hMM⟩ : ∃ M, w.heap.size + 1 = M := ⟨_, rfl⟩
  have HN := Lib.hid hNN
  rw [hMM] at hB ⊢
  rw [hNN] at hA ⊢
  clear hNN hMM
  have c0 := below_cell (Below.refl _ u) hA 0 rfl
  have c1 := below_cell (Below.refl _ u) hA 1 rfl
  have c2 := below_cell (Below.refl _ u) hA 2 rfl
  have c3 := below_cell (Below.refl _ u) hA 3 rfl
  have c4 := below_cell (Below.refl _ u) hA 4 rfl
  have c5 := below_cell (Below.refl _ u) hA 5 rfl
  have c6 := below_cell (Below.refl _ u) hA 6 rfl
  have e0 := below_cell (Below.refl _ u) hB 0 rfl
  have e1 := below_cell (Below.refl _ u) hB 1 rfl
  have e2 := below_cell (Below.refl _ u) hB 2 rfl
  have e3 := below_cell (Below.refl _ u) hB 3 rfl
  have e4 := below_cell (Below.refl _ u) hB 4 rfl
  have e5 := below_cell (Below.refl _ u) hB 5 rfl
  have e6 := below_cell (Below.refl _ u) hB 6 rfl
  have HB := Lib.hid hB; have HBU := Lib.hid hb
  clear hB hb hA
  go_wp2_with fail
  clear c0 c1 c2 c3 c4 c5 c6 e0 e1 e2 e3 e4 e5 e6
  go_loopw [61] (fun z wr => ∃ i : Nat, i ≤ n ∧ z = .int .i64 i ∧ Hid (Below u.heap.size u wr)) (fun z _ => n - (intOf z).toNat)
  case atStart => exact ⟨0, Nat.zero_le _, rfl, Lib.hid (Below.refl _ _)⟩
  case round =>
    obtain ⟨i, hin, rfl, HW⟩ := hrel
    by_cases hlt : i < n
    · have hltI : (i : Int) < n := by omega
      obtain ⟨b, off, rfl, hblt, hat⟩ := HAT.out.resolve_left (by omega)
      obtain ⟨b', off', rfl, hblt', hat'⟩ := HAT'.out.resolve_left (by omega)
      have HWW := Lib.hid (HBU.out.trans (HW.out.mono HBU.out.size))
      obtain ⟨_, va, vc, hvs, e0, e1, e2⟩ := ((hat i hlt).below HWW.out hblt).cell
      obtain ⟨_, va', vc', hvs', e0', e1', e2'⟩ := ((hat' i hlt).below HWW.out hblt').cell
      have hbr := below_cell HW.out HB.out 6 rfl
      have hv6 := HV.out _ (List.getElem_mem (show i < l.length by rw [HL.out]; exact hlt))
      rw [show l[i]'(show i < l.length by rw [HL.out]; exact hlt) = l.getD i lnZ from by simp [List.getD, show i < l.length by rw [HL.out]; exact hlt]] at hv6
      generalize l.getD i lnZ = e at *
      obtain ⟨name, cur, nos⟩ := e
      simp only at hvs e0 e1 e2 hvs' e0' e1' e2' hv6
      obtain ⟨m, hm⟩ : ∃ m, nos.length = m := ⟨_, rfl⟩
      rw [hm] at hvs e2 hvs' e2' hv6
      have hm6 : (m : Int) ≤ 100000 := by omega
      have HM := Lib.hid hm
      obtain ⟨wa, hwa⟩ : ∃ wa, wr.alloc (.cells #[.string name, .int .i64 cur, .slice va m vc] 66) = wa := ⟨_, rfl⟩
      obtain ⟨wb, hwb⟩ : ∃ wb, wa.alloc (.cells #[.string name, .int .i64 cur, .slice va' m vc'] 66) = wb := ⟨_, rfl⟩
      have hA : Below wr.heap.size wr wa := by rw [← hwa]; exact (Below.refl _ _).alloc (Nat.le_refl _) _
      have hA2 : wa.heap[wr.heap.size]? = some (.cells #[.string name, .int .i64 cur, .slice va m vc] 66 (0, 0)) := by rw [← hwa]; exact heap_alloc_new wr _
      have hB : Below wa.heap.size wa wb := by rw [← hwb]; exact (Below.refl _ _).alloc (Nat.le_refl _) _
      have hB2 : wb.heap[wa.heap.size]? = some (.cells #[.string name, .int .i64 cur, .slice va' m vc'] 66 (0, 0)) := by rw [← hwb]; exact heap_alloc_new wa _
      have hB3 := (hB.block _ (lt_of_block hA2)).trans hA2
      have hblr : b' < wr.heap.size := Nat.lt_of_lt_of_le hblt' HWW.out.size
      have hMr : M < wr.heap.size := Nat.lt_of_lt_of_le (lt_of_block HB.out) HW.out.size
      have d0 := (hA.cell (p := ⟨b', off' + i * 3, none⟩) hblr).trans e0'
      have d1 := (hA.cell (p := ⟨b', off' + i * 3 + 1, none⟩) hblr).trans e1'
      have d2 := (hA.cell (p := ⟨b', off' + i * 3 + 2, none⟩) hblr).trans e2'
      have dbr := (hA.cell (p := ⟨M, 6, none⟩) hMr).trans hbr
      have hWB := HW.out.trans ((hA.trans (hB.mono hA.size)).mono HW.out.size)
      have hV1 := hvs.below (hA.trans (hB.mono hA.size))
      have hV2 := hvs'.below (hA.trans (hB.mono hA.size))
      have HA2 := Lib.hid hwa; have HB2 := Lib.hid hwb; have HC := Lib.hid hB3; have HD := Lib.hid hB2; have HWB := Lib.hid hWB; have HV1 := Lib.hid hV1; have HV2 := Lib.hid hV2
      clear hwa hwb hA hA2 hB hB2 hB3 hWB hV1 hV2 hvs hvs' hm hat hat' e0' e1' e2' hbr
      go_upto_region 6 with fail
      rw [HA2.out]
      have hsz : wr.heap.size + 1 = wa.heap.size := by rw [← HA2.out, World.size_alloc]
      clear e0 e1 e2
      go_upto_region 7 with fail
      rw [HB2.out]
      (try rw [hsz])
      clear d0 d1 d2 dbr hsz HA2 HB2 HW
      obtain ⟨P, hP⟩ : ∃ P, wr.heap.size = P := ⟨_, rfl⟩
      obtain ⟨Q, hQ⟩ : ∃ Q, wa.heap.size = Q := ⟨_, rfl⟩
      rw [hP] at HC ⊢
      rw [hQ] at HD ⊢
      clear hP hQ
      have p0 := below_cell (Below.refl _ wb) HC.out 0 rfl
      have p1 := below_cell (Below.refl _ wb) HC.out 1 rfl
      have p2 := below_cell (Below.refl _ wb) HC.out 2 rfl
      have q0 := below_cell (Below.refl _ wb) HD.out 0 rfl
      have q1 := below_cell (Below.refl _ wb) HD.out 1 rfl
      have q2 := below_cell (Below.refl _ wb) HD.out 2 rfl
      have hsame : (name.toList == name.toList) = true := by simp
      go_wp2_with fail
      clear p0 p1 p2 q0 q1 q2 hsame
      obtain ⟨_, _, _, hvv, hl1, hm1, hm2, hvat⟩ := HV1.out
      injection hvv with t1 t2 t3
      subst t1 t2 t3
      obtain ⟨_, _, _, hvv', _, hm1', hm2', hvat'⟩ := HV2.out
      injection hvv' with t1 t2 t3
      subst t1 t2 t3
      have HVA := Lib.hid hvat; have HVA' := Lib.hid hvat'
      clear hvat hvat' HV1 HV2 hl1
      generalize hwo : wr = wo at *
      clear hwo
      go_loopw [95] (fun z wr => ∃ k : Nat, k ≤ m ∧ z = .int .i64 k ∧ Hid (Below wb.heap.size wb wr)) (fun z _ => m - (intOf z).toNat)
      case atStart => exact ⟨0, Nat.zero_le _, rfl, Lib.hid (Below.refl _ _)⟩
      case round =>
        obtain ⟨k, hkm, rfl, HK⟩ := hrel
        have p2 := below_cell HK.out HC.out 2 rfl
        have q2 := below_cell HK.out HD.out 2 rfl
        by_cases hk : k < m
        · have hkI : (k : Int) < m := by omega
          have hkl : k < nos.length := by rw [HM.out]; exact hk
          obtain ⟨vb, vo, rfl, hvb, hvat⟩ := HVA.out.resolve_left (by omega)
          obtain ⟨vb', vo', rfl, hvb', hvat'⟩ := HVA'.out.resolve_left (by omega)
          have c0 := (HK.out.cell (p := ⟨vb, vo + k, none⟩) hvb).trans (hvat k hkl)
          have d0 := (HK.out.cell (p := ⟨vb', vo' + k, none⟩) hvb').trans (hvat' k hkl)
          unfold encI at c0 d0
          generalize nos[k] = x at *
          clear hvat hvat'
          go_wp2_with fail
          go_quiet (fail)
          go_wp2_with fail
          go_roundw
          case rel => exact ⟨k + 1, by omega, by go_num, Lib.hid (by first | exact HK.out | exact belowN HK.out _)⟩
          case measure => simp [intOf]; omega
        · obtain rfl : k = m := by omega
          have hnl : ¬ (k : Int) < k := by omega
          go_wp2_with fail
          go_roundw
          case rel => exact ⟨i + 1, by omega, by go_num, Lib.hid (HWB.out.trans (HK.out.mono HWB.out.size))⟩
          case measure => simp [intOf]; omega
    · obtain rfl : i = n := by omega
      have hnl : ¬ (i : Int) < i := by omega
      go_wp2_with fail
      go_ret
      exact ⟨rfl, HBU.out.trans (HW.out.mono HBU.out.size)⟩
end Go.Proofs.Ytmanlogclbbgaaa
