/- The reference: which answers may be. -/
import Derived.Test.YtmanlogclbbgaaaFr17
namespace Go.Proofs.Ytmanlogclbbgaaa
open Go.RowKit
set_option linter.unusedVariables false
set_option linter.unusedSimpArgs false

set_option maxRecDepth 100000 in
theorem rfLow (n : Int) (w : World) : Calls Try.prog 44 #[.int .i64 n] w fun e w' => e = .returned (.bool (!unfit n)) ∧ w = w' := by
  have HU : Hid (unfit n = (decide (n < 0) || decide (65535 < n))) := Lib.hid rfl
  by_cases h : 0 ≤ n
  · have hd : decide (0 ≤ n) = true := decide_eq_true h
    have hdd : decide (n ≤ 65535) = !decide (65535 < n) := by rw [Bool.eq_iff_iff]; simp
    have hf : decide (n < 0) = false := decide_eq_false (by omega)
    rw [hf, Bool.false_or] at HU
    have HDD := Lib.hid hdd
    clear hdd hf
    go_enter Try.func44, Try.ntmps44
    go_wp2_with fail
    go_ret
    exact ⟨by rw [HU.out, ← HDD.out]; rfl, rfl⟩
  · have h2 : n < 0 := by omega
    go_enter Try.func44, Try.ntmps44
    go_wp2_with fail
    go_ret
    exact ⟨by rw [HU.out]; simp [h2], rfl⟩
theorem any_getD {l : List Ln} {j : Nat} (hj : j < l.length) (h : badLn (l.getD j lnZ) = true) : l.any badLn = true :=
  List.any_eq_true.2 ⟨_, List.getElem_mem hj, by rwa [show l.getD j lnZ = l[j] from by simp [List.getD, hj]] at h⟩
theorem all_getD {l : List Ln} (h : ∀ i, i < l.length → badLn (l.getD i lnZ) = false) : l.any badLn = false := by
  rw [List.any_eq_false]
  intro x hx
  obtain ⟨i, hi, rfl⟩ := List.mem_iff_getElem.1 hx
  have := h i hi
  rw [show l.getD i lnZ = l[i] from by simp [List.getD, hi]] at this
  rw [this]; decide
set_option maxRecDepth 100000 in
set_option maxHeartbeats 4000000 in
theorem rfIsReply (r : Rp) (v : Value) (w : World) (h : IsRp w v r) :
    Calls Try.prog 20 #[v] w fun e w' => e = .returned (.bool (rpOk r)) ∧ Below w.heap.size w w' := by
  have HP : Hid (rpOk r = (!(unfit r.why || (unfit r.at_ || (unfit r.no || unfit r.insns))) && decide (r.source.size ≤ 2000) && decide (r.lines.length ≤ 8) && !(r.lines.any badLn))) := Lib.hid (by simp [rpOk])
  obtain ⟨hbd, k, rfl, hk⟩ := h
  obtain ⟨A, c, rfl, hc1, hc2⟩ := hk.form
  have hsz := hbd.2.2.2.1
  obtain ⟨why, at_, no, source, insns, action, l⟩ := r
  simp only [Rp.val] at *
  have HANY : Hid (∀ j, j < l.length → badLn (l.getD j lnZ) = true → l.any badLn = true) := Lib.hid (fun j hj h => any_getD hj h)
  have HALL : Hid ((∀ i, i < l.length → badLn (l.getD i lnZ) = false) → l.any badLn = false) := Lib.hid all_getD
  obtain ⟨n, hn⟩ : ∃ n, l.length = n := ⟨_, rfl⟩
  rw [hn] at HP hk hc1 HANY HALL ⊢
  have HL0 := Lib.hid (rfLow why); have HL1 := Lib.hid (rfLow at_); have HL2 := Lib.hid (rfLow no); have HL3 := Lib.hid (rfLow insns)
  have b0 := heap_alloc_new w (.cells #[.int .i64 why, .int .i64 at_, .int .i64 no, .string source, .int .i64 insns, .int .u32 action, .slice A n c] 37)
  have hb0 := (Below.refl w.heap.size w).alloc (Nat.le_refl _) (.cells #[.int .i64 why, .int .i64 at_, .int .i64 no, .string source, .int .i64 insns, .int .u32 action, .slice A n c] 37)
  obtain ⟨u0, hU⟩ : ∃ u, w.alloc (.cells #[.int .i64 why, .int .i64 at_, .int .i64 no, .string source, .int .i64 insns, .int .u32 action, .slice A n c] 37) = u := ⟨_, rfl⟩
  have HU := Lib.hid hU
  rw [hU] at b0 hb0
  have c0 := below_cell (Below.refl _ _) b0 0 rfl
  have c1 := below_cell (Below.refl _ _) b0 1 rfl
  have c2 := below_cell (Below.refl _ _) b0 2 rfl
  have c3 := below_cell (Below.refl _ _) b0 3 rfl
  have c4 := below_cell (Below.refl _ _) b0 4 rfl
  have c6 := below_cell (Below.refl _ _) b0 6 rfl
  have HK := Lib.hid hk; have HB0 := Lib.hid hb0; have HBK := Lib.hid b0
  have hnI : (source.size : Int) ≤ 9223372036854775807 := by omega
  have hmI : (n : Int) ≤ 9223372036854775807 := by omega
  clear hk hb0 b0 hbd hU hsz
  go_enter Try.func20, Try.ntmps20
  go_upto_region 1 with fail
  rw [HU.out]
  cases h0 : unfit why with
  | true =>
    rw [h0] at HL0 HP
    go_wp2_with fail
    refine (HL0.out _).mono ?_
    rintro e w2 ⟨rfl, rfl⟩
    go_wp2_with fail
    go_ret
    exact ⟨by rw [HP.out]; rfl, HB0.out⟩
  | false =>
  cases h1 : unfit at_ with
  | true =>
    rw [h0] at HL0 HP
    rw [h1] at HL1 HP
    go_wp2_with fail
    refine (HL0.out _).mono ?_
    rintro e w2 ⟨rfl, rfl⟩
    go_wp2_with fail
    refine (HL1.out _).mono ?_
    rintro e w2 ⟨rfl, rfl⟩
    go_wp2_with fail
    go_ret
    exact ⟨by rw [HP.out]; rfl, HB0.out⟩
  | false =>
  cases h2 : unfit no with
  | true =>
    rw [h0] at HL0 HP
    rw [h1] at HL1 HP
    rw [h2] at HL2 HP
    go_wp2_with fail
    refine (HL0.out _).mono ?_
    rintro e w2 ⟨rfl, rfl⟩
    go_wp2_with fail
    refine (HL1.out _).mono ?_
    rintro e w2 ⟨rfl, rfl⟩
    go_wp2_with fail
    refine (HL2.out _).mono ?_
    rintro e w2 ⟨rfl, rfl⟩
    go_wp2_with fail
    go_ret
    exact ⟨by rw [HP.out]; rfl, HB0.out⟩
  | false =>
  rw [h0] at HL0 HP
  rw [h1] at HL1 HP
  rw [h2] at HL2 HP
  cases h3 : unfit insns with
  | true =>
    rw [h3] at HL3 HP
    go_wp2_with fail
    refine (HL0.out _).mono ?_
    rintro e w2 ⟨rfl, rfl⟩
    go_wp2_with fail
    refine (HL1.out _).mono ?_
    rintro e w2 ⟨rfl, rfl⟩
    go_wp2_with fail
    refine (HL2.out _).mono ?_
    rintro e w2 ⟨rfl, rfl⟩
    go_wp2_with fail
    refine (HL3.out _).mono ?_
    rintro e w2 ⟨rfl, rfl⟩
    go_wp2_with fail
    go_ret
    exact ⟨by rw [HP.out]; rfl, HB0.out⟩
  | false =>
  rw [h3] at HL3 HP
  by_cases g1 : source.size ≤ 2000
  case neg =>
    have g1I : (2000 : Int) < source.size := by omega
    go_wp2_with fail
    refine (HL0.out _).mono ?_
    rintro e w2 ⟨rfl, rfl⟩
    go_wp2_with fail
    refine (HL1.out _).mono ?_
    rintro e w2 ⟨rfl, rfl⟩
    go_wp2_with fail
    refine (HL2.out _).mono ?_
    rintro e w2 ⟨rfl, rfl⟩
    go_wp2_with fail
    refine (HL3.out _).mono ?_
    rintro e w2 ⟨rfl, rfl⟩
    go_wp2_with fail
    go_ret
    exact ⟨by rw [HP.out]; simp [g1], HB0.out⟩
  have g1I : (source.size : Int) ≤ 2000 := by omega
  have d1 : decide ((2000 : Int) < source.size) = false := decide_eq_false (by omega)
  by_cases g2 : n ≤ 8
  case neg =>
    have g2I : (8 : Int) < n := by omega
    go_wp2_with fail
    refine (HL0.out _).mono ?_
    rintro e w2 ⟨rfl, rfl⟩
    go_wp2_with fail
    refine (HL1.out _).mono ?_
    rintro e w2 ⟨rfl, rfl⟩
    go_wp2_with fail
    refine (HL2.out _).mono ?_
    rintro e w2 ⟨rfl, rfl⟩
    go_wp2_with fail
    refine (HL3.out _).mono ?_
    rintro e w2 ⟨rfl, rfl⟩
    go_wp2_with fail
    go_ret
    exact ⟨by rw [HP.out]; simp [g2], HB0.out⟩
  have g2I : (n : Int) ≤ 8 := by omega
  have d2 : decide ((8 : Int) < n) = false := decide_eq_false (by omega)
  rw [decide_eq_true g1, decide_eq_true g2] at HP
  clear g1 g2 h0 h1 h2 h3
  go_wp2_with fail
  refine (HL0.out _).mono ?_
  rintro e w2 ⟨rfl, rfl⟩
  go_wp2_with fail
  refine (HL1.out _).mono ?_
  rintro e w2 ⟨rfl, rfl⟩
  go_wp2_with fail
  refine (HL2.out _).mono ?_
  rintro e w2 ⟨rfl, rfl⟩
  go_wp2_with fail
  refine (HL3.out _).mono ?_
  rintro e w2 ⟨rfl, rfl⟩
  go_wp2_with fail
  clear c0 c1 c2 c3 c4 c6 HL0 HL1 HL2 HL3 HBK d1 d2
  go_loopw [44] (fun z wr => ∃ j : Nat, j ≤ n ∧ z = .int .i64 j ∧ Hid (∀ i, i < j → badLn (l.getD i lnZ) = false) ∧ Hid (Below w.heap.size w wr)) (fun z _ => n - (intOf z).toNat)
  case atStart => exact ⟨0, by omega, rfl, Lib.hid (fun i hi => absurd hi (Nat.not_lt_zero i)), HB0⟩
  case round =>
    obtain ⟨j, hj, rfl, HNO, HW⟩ := hrel
    by_cases hlt : j < n
    · have hltI : (j : Int) < n := by omega
      obtain ⟨_, _, _, hv, _, _, _, _, hat⟩ := HK.out.below HW.out
      injection hv with v1 v2 v3
      subst v1 v2 v3
      obtain ⟨b, off, rfl, hb, hat⟩ := hat.resolve_left (by omega)
      have hat := hat j hlt
      have hbadj := HANY.out j hlt
      have hstep : badLn (l.getD j lnZ) = false → ∀ i, i < j + 1 → badLn (l.getD i lnZ) = false := fun h i hi => by
        by_cases e : i < j
        · exact HNO.out i e
        · obtain rfl : i = j := by omega
          exact h
      have HST := Lib.hid hstep
      have hBD : badLn (l.getD j lnZ) = (decide (40 < (l.getD j lnZ).name.size) || decide (6 < (l.getD j lnZ).nos.length) || unfit (l.getD j lnZ).cur || (l.getD j lnZ).nos.any unfit) := rfl
      obtain ⟨BB, hBB⟩ : ∃ B, badLn (l.getD j lnZ) = B := ⟨_, rfl⟩
      rw [hBB] at HST hBD hbadj
      generalize l.getD j lnZ = ln at *
      obtain ⟨lbd, k, hk, e0, e1, e2⟩ := hat
      obtain ⟨va, vc, rfl, hmc, hvc⟩ := reads1_form hk
      have hnm := lbd.1
      obtain ⟨name, cur, nos⟩ := ln
      simp only at e0 e1 e2 hk hmc hnm hBD
      obtain ⟨m, hm⟩ : ∃ m, nos.length = m := ⟨_, rfl⟩
      rw [hm] at e2 hk hmc hBD
      have HLC := Lib.hid (rfLow cur)
      have HBD := Lib.hid hBD; have HBJ := Lib.hid hbadj
      have hbn := heap_alloc_new wr (.cells #[.string name, .int .i64 cur, .slice va m vc] 66)
      have hbb := HW.out.alloc HW.out.size (.cells #[.string name, .int .i64 cur, .slice va m vc] 66)
      have hkk := hk.below ((Below.refl wr.heap.size wr).alloc (Nat.le_refl _) (.cells #[.string name, .int .i64 cur, .slice va m vc] 66))
      have HW2 := Lib.hid hbb; have HBN := Lib.hid hbn; have HKK := Lib.hid hkk
      have hnmI : (name.size : Int) ≤ 9223372036854775807 := by omega
      have hmmI : (m : Int) ≤ 9223372036854775807 := by omega
      clear hat hstep hBD hbadj lbd hk hnm hbn hbb hkk hBB HNO HW
      go_upto_region 6 with fail
      obtain ⟨wl6, hU6⟩ : ∃ u, wr.alloc (.cells #[.string name, .int .i64 cur, .slice va m vc] 66) = u := ⟨_, rfl⟩
      obtain ⟨L, hLL⟩ : ∃ L, wr.heap.size = L := ⟨_, rfl⟩
      rw [hU6] at HW2 HBN HKK ⊢
      rw [hLL] at HBN
      (try rw [hLL])
      clear hU6 hLL e0 e1 e2
      have l0 := below_cell (Below.refl _ _) HBN.out 0 rfl
      have l1 := below_cell (Below.refl _ _) HBN.out 1 rfl
      have l2 := below_cell (Below.refl _ _) HBN.out 2 rfl
      have badEnd : BB = true → Hid (rpOk ⟨why, at_, no, source, insns, action, l⟩ = false) := fun h => Lib.hid (by rw [HP.out, HBJ.out h]; simp)
      have HBE := Lib.hid badEnd
      clear badEnd
      by_cases g1 : 40 < name.size
      · have g1I : (40 : Int) < name.size := by omega
        have hbe := HBE.out (by rw [HBD.out]; simp [g1])
        go_wp2_with fail
        go_ret
        exact ⟨by rw [hbe.out]; rfl, HW2.out⟩
      have g1I : (name.size : Int) ≤ 40 := by omega
      have d1 : decide ((40 : Int) < name.size) = false := decide_eq_false (by omega)
      cases h1 : unfit cur with
      | true =>
        have hbe := HBE.out (by rw [HBD.out, h1]; simp)
        rw [h1] at HLC
        go_wp2_with fail
        refine (HLC.out _).mono ?_
        rintro e w2 ⟨rfl, rfl⟩
        go_wp2_with fail
        go_ret
        exact ⟨by rw [hbe.out]; rfl, HW2.out⟩
      | false =>
      rw [h1] at HLC HBD
      by_cases g2 : 6 < m
      · have g2I : (6 : Int) < m := by omega
        have hbe := HBE.out (by rw [HBD.out]; simp [g2])
        go_wp2_with fail
        refine (HLC.out _).mono ?_
        rintro e w2 ⟨rfl, rfl⟩
        go_wp2_with fail
        go_ret
        exact ⟨by rw [hbe.out]; rfl, HW2.out⟩
      have g2I : (m : Int) ≤ 6 := by omega
      have d2 : decide ((6 : Int) < m) = false := decide_eq_false (by omega)
      rw [decide_eq_false g1, decide_eq_false g2] at HBD
      clear g1 g2 h1
      go_wp2_with fail
      refine (HLC.out _).mono ?_
      rintro e w2 ⟨rfl, rfl⟩
      go_wp2_with fail
      clear l0 l1 l2 d1 d2 HLC
      go_loopw [67] (fun z wr => ∃ i : Nat, i ≤ m ∧ z = .int .i64 i ∧ Hid (∀ k (hk : k < nos.length), k < i → unfit nos[k] = false) ∧ wl6 = wr) (fun z _ => m - (intOf z).toNat)
      case atStart => exact ⟨0, by omega, rfl, Lib.hid (fun k hk h => absurd h (Nat.not_lt_zero k)), rfl⟩
      case round =>
        obtain ⟨i, hi, rfl, HNI, rfl⟩ := hrel
        by_cases hil : i < m
        · have hilI : (i : Int) < m := by omega
          have hilL : i < nos.length := by omega
          obtain ⟨_, _, _, hv2, _, _, _, hat2⟩ := HKK.out
          injection hv2 with y1 y2 y3
          subst y1 y2 y3
          obtain ⟨b2, off2, rfl, hb2, hat2⟩ := hat2.resolve_left (by omega)
          have hcell := hat2 i hilL
          have hcell : wl6.cell? ⟨b2, off2 + i, none⟩ = some (.int .i64 (nos[i]'hilL)) := hcell
          have hx1 : unfit (nos[i]'hilL) = true → BB = true := fun h => by
            rw [HBD.out]
            have : nos.any unfit = true := List.any_eq_true.2 ⟨_, List.getElem_mem hilL, h⟩
            rw [this]; rfl
          have hx2 : unfit (nos[i]'hilL) = false → ∀ k (hk : k < nos.length), k < i + 1 → unfit nos[k] = false := fun h k hk hki => by
            by_cases e : k < i
            · exact HNI.out k hk e
            · obtain rfl : k = i := by omega
              exact h
          generalize (nos[i]'hilL) = x at *
          have HLX := Lib.hid (rfLow x)
          have HX1 := Lib.hid hx1; have HX2 := Lib.hid hx2
          clear hx1 hx2 hat2
          cases hq : unfit x with
          | true =>
            have hbe := HBE.out (HX1.out hq)
            rw [hq] at HLX
            go_wp2_with fail
            refine (HLX.out _).mono ?_
            rintro e w3 ⟨rfl, rfl⟩
            go_wp2_with fail
            go_ret
            exact ⟨by rw [hbe.out]; rfl, HW2.out⟩
          | false =>
            have hy := Lib.hid (HX2.out hq)
            rw [hq] at HLX
            go_wp2_with fail
            refine (HLX.out _).mono ?_
            rintro e w3 ⟨rfl, rfl⟩
            go_wp2_with fail
            go_roundw
            case rel => exact ⟨i + 1, by omega, by go_num, hy, by first | trivial | rfl⟩
            case measure => simp [intOf]; omega
        · have him : i = m := by omega
          subst him
          have hany : nos.any unfit = false := by
            rw [List.any_eq_false]
            intro x hx
            obtain ⟨k, hk, rfl⟩ := List.mem_iff_getElem.1 hx
            rw [HNI.out k hk (by omega)]; decide
          have hbf : BB = false := by rw [HBD.out, hany]; rfl
          have HST2 := Lib.hid (HST.out hbf)
          have hnl : ¬ (i : Int) < i := by omega
          clear hany hbf
          go_wp2_with fail
          go_roundw
          case rel => exact ⟨j + 1, by omega, by go_num, HST2, HW2⟩
          case measure => simp [intOf]; omega
    · have hjn : j = n := by omega
      subst hjn
      have hall := HALL.out (fun i hi => HNO.out i hi)
      have hok : rpOk ⟨why, at_, no, source, insns, action, l⟩ = true := by rw [HP.out, hall]; rfl
      have HOK := Lib.hid hok
      have hnl : ¬ (j : Int) < j := by omega
      clear hall hok
      go_wp2_with fail
      go_ret
      exact ⟨by rw [HOK.out]; rfl, HW.out⟩
end Go.Proofs.Ytmanlogclbbgaaa
