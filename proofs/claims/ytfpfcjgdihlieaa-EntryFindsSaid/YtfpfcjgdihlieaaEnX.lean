/- doorwardref08.Version, Find, Rise. -/
import Derived.Test.YtfpfcjgdihlieaaEnW
import Derived.Test.YtfpfcjgdihlieaaEnF
namespace Go.Proofs.Ytfpfcjgdihlieaa
open Go.RowKit
set_option linter.unusedVariables false

set_option maxRecDepth 100000 in
set_option maxHeartbeats 1000000 in
theorem refVersion (e : En) (v : Value) (no : Int) (w : World) (h : IsEn w v e) (hl20 : e.vers.length ≤ 100000) :
    Calls Try.prog 17 #[v, .int .i64 no] w fun e' w' => e' = .returned (verVal (verIs e no)) ∧ Below w.heap.size w w' := by
  obtain ⟨hbd, k, rfl, hk⟩ := h
  obtain ⟨name, cur, nxt, vers⟩ := e
  simp only at hk hl20 ⊢
  obtain ⟨a, n, cap, rfl, hl, hc1, hc2, hvb, hnil, hat⟩ := hk
  have y5 : (n : Int) ≤ 100000 := by omega
  have hV : verIs ⟨name, cur, nxt, vers⟩ no = idxV (if no = 0 then cur else no) (vers.drop 0) 0 := rfl
  generalize verIs ⟨name, cur, nxt, vers⟩ no = R at *
  have hB := heap_alloc_new w (.cells #[.string name, .int .i64 cur, .int .i64 nxt, .slice a n cap] 36)
  have hw := (Below.refl w.heap.size w).alloc (Nat.le_refl _) (.cells #[.string name, .int .i64 cur, .int .i64 nxt, .slice a n cap] 36)
  have HV := Lib.hid hV; have HL := Lib.hid hl; have HAT := Lib.hid hat; have HB := Lib.hid hB; have HW := Lib.hid hw
  clear hV hl hat hB hw hbd hvb hl20
  go_enter Try.func17, Try.ntmps17
  go_upto_region 1 with fail
  obtain ⟨w1, hW⟩ : ∃ w1, w.alloc (.cells #[.string name, .int .i64 cur, .int .i64 nxt, .slice a n cap] 36) = w1 := ⟨_, rfl⟩
  rw [hW] at HB HW ⊢
  clear hW
  have c3 := below_cell (Below.refl _ w1) HB.out 3 rfl
  go_wp2_with fail
  clear c3
  go_loopw [11] (fun z wr => ∃ (i : Nat), i ≤ n ∧ z = .int .i64 i ∧ Hid (R = idxV (if no = 0 then cur else no) (vers.drop i) i) ∧ Hid (wr.heap[w.heap.size]? = some (.cells #[.string name, .int .i64 cur, .int .i64 nxt, .slice a n cap] 36 (0, 0))) ∧ Hid (Below w.heap.size w wr)) (fun z _ => n - (intOf z).toNat)
  case atStart => exact ⟨0, Nat.zero_le _, rfl, HV, HB, HW⟩
  case round =>
    clear HV HB HW
    obtain ⟨i, hin, rfl, HR, HB, HW⟩ := hrel
    by_cases hlt : i < n
    · have hltI : (i : Int) < n := by omega
      have hst := idxV_step (if no = 0 then cur else no) vers i (by rw [HL.out]; exact hlt)
      obtain ⟨b, off, rfl, hblt, hat⟩ := HAT.out.resolve_left (by omega)
      obtain ⟨v0, v1, v2, v3, v4⟩ := (hat i hlt).below HW.out hblt
      generalize vers.getD i vrZ = v at *
      obtain ⟨m, src, flt, byt, ins⟩ := v
      simp only at v0 v1 v2 v3 v4 hst
      have HST := Lib.hid hst
      have hn := heap_alloc_new wr (.cells #[.int .i64 m, .int .i64 src, .int .i64 flt, .int .i64 byt, .int .i64 ins] 42)
      have ho := (heap_alloc_old wr (.cells #[.int .i64 m, .int .i64 src, .int .i64 flt, .int .i64 byt, .int .i64 ins] 42) (lt_of_block HB.out)).trans HB.out
      have HN := Lib.hid hn; have HO := Lib.hid ho
      have HW2 := Lib.hid (HW.out.alloc HW.out.size (.cells #[.int .i64 m, .int .i64 src, .int .i64 flt, .int .i64 byt, .int .i64 ins] 42))
      clear hst hat hn ho HB HW
      go_upto_region 4 with fail
      obtain ⟨w2, hW⟩ : ∃ w2, wr.alloc (.cells #[.int .i64 m, .int .i64 src, .int .i64 flt, .int .i64 byt, .int .i64 ins] 42) = w2 := ⟨_, rfl⟩
      obtain ⟨V, hV⟩ : ∃ V, wr.heap.size = V := ⟨_, rfl⟩
      rw [hW] at HN HO HW2 ⊢
      rw [hV] at HN
      (try rw [hV])
      clear hW hV v0 v1 v2 v3 v4
      have q0 := below_cell (Below.refl _ w2) HN.out 0 rfl
      have p1 := below_cell (Below.refl _ w2) HO.out 1 rfl
      by_cases h0 : no = 0
      · have hf : R = if m = cur then some i else idxV (if no = 0 then cur else no) (vers.drop (i + 1)) (i + 1) := by rw [HR.out, HST.out]; rw [if_pos h0]
        have HF := Lib.hid hf
        clear hf HR HST
        subst h0
        by_cases hm0 : m = 0
        · subst hm0
          by_cases hc : (0 : Int) = cur
          · have hq : ((0 : Int) == cur) = true := by simpa using hc
            have HC := Lib.hid hc
            clear hc
            go_wp2_with fail
            go_ret2
            refine ⟨?_, HW2.out⟩
            rw [HF.out, if_pos HC.out]; rfl
          · have hq : ((0 : Int) == cur) = false := by simpa using hc
            have HF2 : Hid (R = idxV (if (0 : Int) = 0 then cur else 0) (vers.drop (i + 1)) (i + 1)) := Lib.hid (by rw [HF.out, if_neg hc])
            clear hc HF
            go_wp2_with fail
            go_roundw
            case rel => exact ⟨i + 1, by omega, by go_num, HF2, HO, HW2⟩
            case measure => simp [intOf]; omega
        · have hq0 : (m == 0) = false := by simpa using hm0
          by_cases hc : m = cur
          · have hq : (m == cur) = true := by simpa using hc
            have HC := Lib.hid hc
            clear hc hm0
            go_wp2_with fail
            go_ret2
            refine ⟨?_, HW2.out⟩
            rw [HF.out, if_pos HC.out]; rfl
          · have hq : (m == cur) = false := by simpa using hc
            have HF2 : Hid (R = idxV (if (0 : Int) = 0 then cur else 0) (vers.drop (i + 1)) (i + 1)) := Lib.hid (by rw [HF.out, if_neg hc])
            clear hc HF hm0
            go_wp2_with fail
            go_roundw
            case rel => exact ⟨i + 1, by omega, by go_num, HF2, HO, HW2⟩
            case measure => simp [intOf]; omega
      · have hf : R = if m = no then some i else idxV (if no = 0 then cur else no) (vers.drop (i + 1)) (i + 1) := by rw [HR.out, HST.out]; rw [if_neg h0]
        have HF := Lib.hid hf
        have hnz : (no == 0) = false := by simpa using h0
        have hnz' : (no != 0) = true := by simpa using h0
        clear hf HR HST h0
        by_cases hc : m = no
        · have hq : (m == no) = true := by simpa using hc
          have HC := Lib.hid hc
          clear hc
          go_wp2_with fail
          go_ret2
          refine ⟨?_, HW2.out⟩
          rw [HF.out, if_pos HC.out]; rfl
        · have hq : (m == no) = false := by simpa using hc
          have HF2 : Hid (R = idxV (if no = 0 then cur else no) (vers.drop (i + 1)) (i + 1)) := Lib.hid (by rw [HF.out, if_neg hc])
          clear hc HF
          go_wp2_with fail
          go_roundw
          case rel => exact ⟨i + 1, by omega, by go_num, HF2, HO, HW2⟩
          case measure => simp [intOf]; omega
    · have hin : i = n := by omega
      have hf : R = none := by rw [HR.out, List.drop_eq_nil_of_le (by rw [HL.out]; omega), idxV]
      have hnl : ¬ (i : Int) < n := by omega
      have HF := Lib.hid hf
      clear hf hin
      go_wp2_with fail
      go_ret2
      refine ⟨?_, HW.out⟩
      rw [HF.out]; rfl
theorem findE_step (name : ByteArray) (l : List En) (i k : Nat) (hi : i < l.length) : findE name (l.drop i) k = if (l.getD i enZ).name = name then (k, true) else if ltB (l.getD i enZ).name name then findE name (l.drop (i + 1)) (k + 1) else findE name (l.drop (i + 1)) k := by
  rw [List.drop_eq_getElem_cons hi, findE, show l.getD i enZ = l[i] from by simp [List.getD, hi]]
set_option maxRecDepth 100000 in
set_option maxHeartbeats 1000000 in
theorem refFind (l : List En) (v : Value) (name : ByteArray) (w : World) (h : IsEns w v l) (hl20 : l.length ≤ 1000) :
    Calls Try.prog 20 #[v, .string name] w fun e' w' => e' = .returned (.tuple #[.int .i64 ((findE name l 0).1 : Nat), .bool (findE name l 0).2]) ∧ Below w.heap.size w w' := by
  obtain ⟨a, n, cap, rfl, hl, hc1, hc2, hnil, hat⟩ := h
  have y5 : (n : Int) ≤ 1000 := by omega
  have hR : findE name l 0 = findE name (l.drop 0) 0 := rfl
  generalize findE name l 0 = R at *
  have HR := Lib.hid hR; have HL := Lib.hid hl; have HAT := Lib.hid hat
  clear hR hl hat hl20
  go_enter Try.func20, Try.ntmps20
  go_wp2_with fail
  go_loopw [6, 11] (fun x z wr => ∃ (i k : Nat), i ≤ n ∧ k ≤ i ∧ z = .int .i64 i ∧ x = .int .i64 k ∧ Hid (R = findE name (l.drop i) k) ∧ Hid (Below w.heap.size w wr)) (fun _ z _ => n - (intOf z).toNat)
  case atStart => exact ⟨0, 0, Nat.zero_le _, Nat.le_refl _, rfl, rfl, HR, Lib.hid (Below.refl _ _)⟩
  case round =>
    clear HR
    obtain ⟨i, k, hin, hki, rfl, rfl, HR, HW⟩ := hrel
    by_cases hlt : i < n
    · have hltI : (i : Int) < n := by omega
      have hst := findE_step name l i k (by rw [HL.out]; exact hlt)
      obtain ⟨b, off, rfl, hblt, hat⟩ := HAT.out.resolve_left (by omega)
      obtain ⟨kk, e0, e1, e2, e3, ka, kn, kc, rfl⟩ := ((hat i hlt).below HW.out hblt).cells4
      generalize l.getD i enZ = e at *
      obtain ⟨nm, cur, nxt, vers⟩ := e
      simp only at e0 e1 e2 e3 hst
      have hn := heap_alloc_new wr (.cells #[.string nm, .int .i64 cur, .int .i64 nxt, .slice ka kn kc] 36)
      have HN := Lib.hid hn; have HST := Lib.hid hst
      have HW2 := Lib.hid (HW.out.alloc HW.out.size (.cells #[.string nm, .int .i64 cur, .int .i64 nxt, .slice ka kn kc] 36))
      clear hst hat hn HW
      go_upto_region 5 with fail
      obtain ⟨w2, hW⟩ : ∃ w2, wr.alloc (.cells #[.string nm, .int .i64 cur, .int .i64 nxt, .slice ka kn kc] 36) = w2 := ⟨_, rfl⟩
      obtain ⟨V, hV⟩ : ∃ V, wr.heap.size = V := ⟨_, rfl⟩
      rw [hW] at HN HW2 ⊢
      rw [hV] at HN
      (try rw [hV])
      clear hW hV e0 e1 e2 e3
      have q0 := below_cell (Below.refl _ w2) HN.out 0 rfl
      by_cases hc : nm = name
      · have HF : Hid (R = (k, true)) := Lib.hid (by rw [HR.out, HST.out, if_pos hc])
        subst hc
        clear HST
        go_wp2_with fail
        go_ret2
        refine ⟨?_, HW2.out⟩
        rw [HF.out]; rfl
      · have hq := ba_tne hc
        have hlt2 : ltB nm name = Op.bytesLess nm.toList name.toList := rfl
        cases hb : ltB nm name with
        | true =>
          have HF : Hid (R = findE name (l.drop (i + 1)) (k + 1)) := Lib.hid (by rw [HR.out, HST.out, if_neg hc, hb, if_pos rfl])
          have hb2 : Op.bytesLess nm.toList name.toList = true := hlt2.symm.trans hb
          clear hc hlt2 hb HST
          go_wp2_with fail
          go_roundw
          case rel => exact ⟨i + 1, k + 1, by omega, by omega, by go_num, by go_num, HF, HW2⟩
          case measure => simp [intOf]; omega
        | false =>
          have HF : Hid (R = findE name (l.drop (i + 1)) k) := Lib.hid (by rw [HR.out, HST.out, if_neg hc, hb]; rfl)
          have hb2 : Op.bytesLess nm.toList name.toList = false := hlt2.symm.trans hb
          clear hc hlt2 hb HST
          go_wp2_with fail
          go_roundw
          case rel => exact ⟨i + 1, k, by omega, by omega, by go_num, rfl, HF, HW2⟩
          case measure => simp [intOf]; omega
    · have hin : i = n := by omega
      have hf : R = (k, false) := by rw [HR.out, List.drop_eq_nil_of_le (by rw [HL.out]; omega), findE]
      have hnl : ¬ (i : Int) < n := by omega
      have HF := Lib.hid hf
      clear hf hin
      go_wp2_with fail
      go_ret2
      refine ⟨?_, HW.out⟩
      rw [HF.out]; rfl
theorem rises_step (l : List En) (i : Nat) (hi : i < l.length) (p : Option ByteArray) : risesN p (l.drop i) = (headOk? p (l.getD i enZ).name && risesN (prevN l (i + 1)) (l.drop (i + 1))) := by
  rw [List.drop_eq_getElem_cons hi, risesN, show l.getD i enZ = l[i] from by simp [List.getD, hi]]
  rw [show prevN l (i + 1) = some l[i].name from by simp [prevN, hi]]
set_option maxRecDepth 100000 in
set_option maxHeartbeats 1000000 in
theorem refRise (l : List En) (v : Value) (w : World) (h : IsEns w v l) (hl20 : l.length ≤ 1000) :
    Calls Try.prog 18 #[v] w fun e' w' => e' = .returned (.bool (risesN none l)) ∧ Below w.heap.size w w' := by
  obtain ⟨a, n, cap, rfl, hl, hc1, hc2, hnil, hat⟩ := h
  have y5 : (n : Int) ≤ 1000 := by omega
  have hR : risesN none l = risesN (prevN l 0) (l.drop 0) := rfl
  generalize hr : risesN none l = r at *
  have HR := Lib.hid hR; have HL := Lib.hid hl; have HAT := Lib.hid hat
  clear hr hR hl hat hl20
  go_enter Try.func18, Try.ntmps18
  go_wp2_with fail
  go_loopw [6] (fun z wr => ∃ (i : Nat), i ≤ n ∧ z = .int .i64 i ∧ Hid (r = risesN (prevN l i) (l.drop i)) ∧ Hid (Below w.heap.size w wr)) (fun z _ => n - (intOf z).toNat)
  case atStart => exact ⟨0, Nat.zero_le _, rfl, HR, Lib.hid (Below.refl _ _)⟩
  case round =>
    clear HR
    obtain ⟨i, hin, rfl, HR, HW⟩ := hrel
    by_cases hlt : i < n
    · have hltI : (i : Int) < n := by omega
      have hst := rises_step l i (by rw [HL.out]; exact hlt) (prevN l i)
      obtain ⟨b, off, rfl, hblt, hat⟩ := HAT.out.resolve_left (by omega)
      obtain ⟨kk, e0, e1, e2, e3, ka, kn, kc, rfl⟩ := ((hat i hlt).below HW.out hblt).cells4
      have hprev : i = 0 ∨ ∃ j, i = j + 1 ∧ j < n ∧ prevN l i = some (l.getD j enZ).name ∧ wr.cell? ⟨b, off + j * 4, none⟩ = some (.string (l.getD j enZ).name) := by
        cases i with
        | zero => exact .inl rfl
        | succ j =>
          obtain ⟨_, _, _, _, f0, _⟩ := ((hat j (by omega)).below HW.out hblt).cell
          exact .inr ⟨j, rfl, by omega, rfl, f0⟩
      generalize l.getD i enZ = e at *
      obtain ⟨nm, cur, nxt, vers⟩ := e
      simp only at e0 e1 e2 e3 hst
      have HST := Lib.hid hst
      clear hst hat e1 e2 e3
      rcases hprev with h0 | ⟨j, hj, hjn, hp, hcell⟩
      · have hf : r = risesN (prevN l (i + 1)) (l.drop (i + 1)) := by rw [HR.out, HST.out, h0]; rfl
        have HF := Lib.hid hf
        clear hf HR HST
        subst h0
        have hgt : decide (0 < (0 : Int)) = false := by decide
        go_upto_region 4 with fail
        go_quiet (fail)
        go_wp2_with fail
        go_roundw
        case rel => exact ⟨0 + 1, by omega, by go_num, HF, Lib.hid (belowN HW.out _)⟩
        case measure => simp [intOf]; omega
      · have hst := HST.out
        rw [hp] at hst
        have hr0 := HR.out
        rw [hp] at hr0
        generalize (l.getD j enZ).name = pn at *
        subst hj
        have hi0 : 0 < ((j + 1 : Nat) : Int) := by omega
        have hi1 : 0 < (j : Int) + 1 := by omega
        have hs1 : IntKind.i64.wrap ((j : Int) + 1 - 1) = j := IntWalk.i64_in _ (by omega) |>.trans (by omega)
        have hs2 : (j : Int) + 1 - 1 = j := by omega
        have hjI : (j : Int) < n := by omega
        have hgd : decide (0 < (j : Int) + 1) = true := decide_eq_true (by omega)
        cases hb : ltB pn nm with
        | false =>
          have HF : Hid (r = false) := Lib.hid (by rw [hr0, hst, headOk?, hb]; rfl)
          have hle : (Op.bytesLess nm.toList pn.toList || nm.toList == pn.toList) = true := by
            cases h2 : ltB nm pn with
            | true => have : Op.bytesLess nm.toList pn.toList = true := h2; rw [this]; rfl
            | false => rw [ltB_total hb h2]; simp
          clear hst hr0 hb hp HR HST
          obtain rfl := HF.out
          clear HF
          go_upto_region 4 with fail
          go_quiet (fail)
          go_wp2_with fail
          go_ret
          exact ⟨rfl, belowN HW.out _⟩
        | true =>
          have HF : Hid (r = risesN (prevN l (j + 1 + 1)) (l.drop (j + 1 + 1))) := Lib.hid (by rw [hr0, hst, headOk?, hb]; rfl)
          have hle : (Op.bytesLess nm.toList pn.toList || nm.toList == pn.toList) = false := by
            have h2 : Op.bytesLess nm.toList pn.toList = false := ltB_asymm hb
            rw [h2, ba_tne (fun e => ltB_ne hb e.symm)]; rfl
          clear hst hr0 hb hp HR HST
          go_upto_region 4 with fail
          go_quiet (fail)
          go_wp2_with fail
          go_roundw
          case rel => exact ⟨j + 1 + 1, by omega, by go_num, HF, Lib.hid (belowN HW.out _)⟩
          case measure => simp [intOf]; omega
    · have hin : i = n := by omega
      have hf : r = true := by rw [HR.out, List.drop_eq_nil_of_le (by rw [HL.out]; omega)]; rfl
      have HF := Lib.hid hf
      have hnl : ¬ (i : Int) < n := by omega
      clear hf
      obtain rfl := HF.out
      go_wp2_with fail
      go_ret
      exact ⟨rfl, HW.out⟩
end Go.Proofs.Ytfpfcjgdihlieaa
