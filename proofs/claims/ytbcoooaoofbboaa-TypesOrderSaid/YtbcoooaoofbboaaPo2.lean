/- Policies that are too long. -/
import Derived.Test.YtbcoooaoofbboaaPo1
import Derived.Test.YtbcoooaoofbboaaCnd5T
namespace Go.Proofs.Ytbcoooaoofbboaa
open Go.RowKit Go.ChangeShapes
set_option linter.unusedVariables false

def Rul.lots (m : Rul) : Bool := decide (40 < m.cnd.testN)
def Pol.long (p : Pol) : Bool := decide (24 < p.rules.length) || p.rules.any Rul.lots
set_option maxRecDepth 100000 in
set_option maxHeartbeats 1000000 in
theorem tyLong1 (m : Rul) (v : Value) (w : World) (h : IsRul w v m) : Calls Try.prog 36 #[v] w fun e w' => e = .returned (.bool m.lots) ∧ Below w.heap.size w w' := by
  obtain ⟨hbd, ks, k, rfl, hst, hk⟩ := h
  obtain ⟨act, data, names, kind, kids, arg, mask, sign, value⟩ := m
  obtain ⟨na, nn, nc, rfl, _⟩ := id hst
  obtain ⟨ca, cn, cc, rfl, _⟩ := id hk
  have hw1 := (Below.refl w.heap.size w).alloc (Nat.le_refl _) (.cells #[.string act, .int .u64 (data : Nat), .slice na nn nc, .int .i64 kind, .slice ca cn cc, .int .i64 arg, .int .u64 (mask : Nat), .string sign, .int .u64 (value : Nat)] 46)
  have hnw := heap_alloc_new w (.cells #[.string act, .int .u64 (data : Nat), .slice na nn nc, .int .i64 kind, .slice ca cn cc, .int .i64 arg, .int .u64 (mask : Nat), .string sign, .int .u64 (value : Nat)] 46)
  have hC := tyTests_any (.mk kind kids arg mask sign value) (.agg #[.int .i64 kind, .slice ca cn cc, .int .i64 arg, .int .u64 (mask : Nat), .string sign, .int .u64 (value : Nat)]) _ ⟨hbd.2.2, _, rfl, hk.below hw1⟩
  have hl : Rul.lots ⟨act, data, names, .mk kind kids arg mask sign value⟩ = decide (40 < (Cnd.mk kind kids arg mask sign value).testN) := rfl
  rw [hl]
  generalize (Cnd.mk kind kids arg mask sign value).testN = N at *
  have HC := Lib.hid hC; have HW1 := Lib.hid hw1; have HNW := Lib.hid hnw
  clear hC hw1 hst hk hbd hl
  show Calls _ _ #[.agg #[.string act, .int .u64 (data : Nat), .slice na nn nc, .int .i64 kind, .slice ca cn cc, .int .i64 arg, .int .u64 (mask : Nat), .string sign, .int .u64 (value : Nat)]] _ _
  go_enter Try.func36, Try.ntmps36
  go_upto_region 1 with fail
  generalize w.alloc (.cells #[.string act, .int .u64 (data : Nat), .slice na nn nc, .int .i64 kind, .slice ca cn cc, .int .i64 arg, .int .u64 (mask : Nat), .string sign, .int .u64 (value : Nat)] 46) = W at *
  have y3 := below_cell (Below.refl _ _) HNW.out 3 rfl
  have y4 := below_cell (Below.refl _ _) HNW.out 4 rfl
  have y5 := below_cell (Below.refl _ _) HNW.out 5 rfl
  have y6 := below_cell (Below.refl _ _) HNW.out 6 rfl
  have y7 := below_cell (Below.refl _ _) HNW.out 7 rfl
  have y8 := below_cell (Below.refl _ _) HNW.out 8 rfl
  clear hnw HNW
  go_wp2_with fail
  refine HC.out.mono ?_
  rintro e w2 ⟨rfl, hb2⟩
  have HW2 := Lib.hid (HW1.out.trans (hb2.mono HW1.out.size))
  clear y3 y4 y5 y6 y7 y8 hb2
  go_wp2_with fail
  go_ret
  exact ⟨by simp; omega, HW2.out⟩
set_option maxRecDepth 100000 in
set_option maxHeartbeats 1000000 in
theorem idxLong (w : World) (A : Option Addr) (n c0 : Nat) (l : List Rul) (hk : IsRuls w (.slice A n c0) l) :
    Calls Try.prog 47 #[.slice A n c0, .func (.func 36) #[] #[]] w fun e w' => ((∃ j : Nat, l.any Rul.lots = true ∧ e = .returned (.int .i64 (j : Nat))) ∨ (l.any Rul.lots = false ∧ e = .returned (.int .i64 (-1)))) ∧ Below w.heap.size w w' := by
  obtain ⟨_, _, _, hv, hkn, hkc, hkm, _⟩ := id hk
  injection hv with e1 e2 e3
  subst e1 e2 e3
  have hload := fun u (hu : Below w.heap.size w u) j hj => rul_at hk hu j hj
  have hnI : (n : Int) ≤ 9223372036854775807 := by omega
  have hyes : ∀ j, j < n → (l.getD j rulZ).lots = true → l.any Rul.lots = true := fun j hj h => by
    rw [List.any_eq_true]
    exact ⟨_, List.getElem_mem (show j < l.length by omega), by rwa [show l.getD j rulZ = l[j] by simp [List.getD, show j < l.length by omega]] at h⟩
  have hnone : (∀ i, i < n → (l.getD i rulZ).lots = false) → l.any Rul.lots = false := fun h => by
    rw [List.any_eq_false]
    intro m hm
    obtain ⟨i, hi, rfl⟩ := List.mem_iff_getElem.1 hm
    have := h i (by omega)
    rw [show l.getD i rulZ = l[i] by simp [List.getD, hi]] at this
    simp [this]
  have HLOAD := Lib.hid hload; have HYES := Lib.hid hyes; have HNONE := Lib.hid hnone
  clear hload hk hkc hkm hkn hyes hnone
  generalize l.any Rul.lots = R at *
  go_enter Try.func47, Try.ntmps47
  go_wp2_with fail
  go_loopw [8] (fun z wr => ∃ j : Nat, z = .int .i64 (j : Nat) ∧ j ≤ n ∧ Hid (∀ i, i < j → (l.getD i rulZ).lots = false) ∧ Hid (Below w.heap.size w wr)) (fun z _ => n - (intOf z).toNat)
  case atStart => exact ⟨0, rfl, by omega, Lib.hid (fun i hi => absurd hi (Nat.not_lt_zero i)), Lib.hid (Below.refl _ _)⟩
  case round =>
    obtain ⟨j, rfl, hj, HNO, HWR⟩ := hrel
    by_cases hlt : j < n
    · obtain ⟨b, o, rfl, _, hat⟩ := HLOAD.out wr HWR.out j hlt
      have hjI : (j : Int) < n := by omega
      have hyes := HYES.out j hlt
      have hstep : (l.getD j rulZ).lots = false → ∀ i, i < j + 1 → (l.getD i rulZ).lots = false := fun h i hi => by
        by_cases e : i < j
        · exact HNO.out i e
        · obtain rfl : i = j := by omega
          exact h
      obtain ⟨hbd, na, nn, nc, ca, cn, cc, hst, hkc, e0, e1, e2, e3, e4, e5, e6, e7, e8⟩ := hat.cell
      generalize l.getD j rulZ = m at *
      obtain ⟨act, data, names, kind, kids, arg, mask, sign, value⟩ := m
      have hC := tyLong1 ⟨act, data, names, .mk kind kids arg mask sign value⟩ (.agg #[.string act, .int .u64 (data : Nat), .slice na nn nc, .int .i64 kind, .slice ca cn cc, .int .i64 arg, .int .u64 (mask : Nat), .string sign, .int .u64 (value : Nat)]) wr ⟨hbd, _, _, rfl, hst, hkc⟩
      generalize Rul.lots ⟨act, data, names, .mk kind kids arg mask sign value⟩ = L at *
      have HC := Lib.hid hC; have HST := Lib.hid hstep; have HY := Lib.hid hyes; have HLT := Lib.hid hlt
      clear hC hstep hyes hat hbd hst hkc hlt HNO HYES HNONE
      simp only [Cnd.kind, Cnd.arg, Cnd.mask, Cnd.sign, Cnd.value] at e0 e1 e2 e3 e4 e5 e6 e7 e8
      go_wp2_with fail
      refine HC.out.mono ?_
      rintro e w4 ⟨rfl, hb4⟩
      have HW4 := Lib.hid (HWR.out.trans (hb4.mono HWR.out.size))
      clear hb4 e0 e1 e2 e3 e4 e5 e6 e7 e8 HC
      cases L
      · have HS2 := Lib.hid (HST.out rfl)
        clear HST HY
        go_wp2_with fail
        go_roundw
        case rel => exact ⟨j + 1, by go_num, by have := HLT.out; omega, HS2, HW4⟩
        case measure => have := HLT.out; simp [intOf]; omega
      · have hR := HY.out rfl
        subst hR
        clear HST HY
        go_wp2_with fail
        go_ret
        exact ⟨by first | exact ⟨j, rfl⟩ | exact .inl ⟨j, rfl, rfl⟩ | exact ⟨j, rfl, rfl⟩, HW4.out⟩
    · obtain rfl : j = n := by omega
      have hR := HNONE.out HNO.out
      subst hR
      go_wp2_with fail
      go_ret
      exact ⟨by first | rfl | exact .inr ⟨rfl, rfl⟩, HWR.out⟩
set_option maxRecDepth 100000 in
theorem containsLong (w : World) (A : Option Addr) (n c0 : Nat) (l : List Rul) (hk : IsRuls w (.slice A n c0) l) :
    Calls Try.prog 35 #[.slice A n c0, .func (.func 36) #[] #[]] w fun e w' => e = .returned (.bool (l.any Rul.lots)) ∧ Below w.heap.size w w' := by
  have HI := Lib.hid (idxLong w A n c0 l hk)
  clear hk
  generalize l.any Rul.lots = R at *
  go_enter Try.func35, Try.ntmps35
  go_wp2_with fail
  refine HI.out.mono ?_
  rintro e w2 ⟨⟨j, rfl, rfl⟩ | ⟨rfl, rfl⟩, hb⟩
  · have hj : (0 : Int) ≤ (j : Int) := by omega
    have HB := Lib.hid hb
    clear hb
    go_wp2_with fail
    go_ret
    exact ⟨rfl, HB.out⟩
  · have HB := Lib.hid hb
    clear hb
    go_wp2_with fail
    go_ret
    exact ⟨rfl, HB.out⟩
set_option maxRecDepth 100000 in
set_option maxHeartbeats 1000000 in
theorem tyLong (p : Pol) (v : Value) (w : World) (h : IsPol w v p) : Calls Try.prog 22 #[v] w fun e w' => e = .returned (.bool p.long) ∧ Below w.heap.size w w' := by
  obtain ⟨ht1, ht2, ht3, k, rfl, hk⟩ := h
  obtain ⟨A, n, c, rfl, hl, hc1, hc2, _⟩ := id hk
  have hw1 := (Below.refl w.heap.size w).alloc (Nat.le_refl _) (.cells #[.string p.arch, .string p.dflt, .int .u64 (p.data : Nat), .slice A n c] 32)
  have hnw := heap_alloc_new w (.cells #[.string p.arch, .string p.dflt, .int .u64 (p.data : Nat), .slice A n c] 32)
  have hC := containsLong _ A n c p.rules (hk.below hw1)
  have hlg : p.long = (decide (24 < n) || p.rules.any Rul.lots) := by rw [← hl]; rfl
  rw [hlg]
  generalize p.rules.any Rul.lots = R at *
  have HC := Lib.hid hC; have HW1 := Lib.hid hw1; have HNW := Lib.hid hnw
  have hnI : (n : Int) ≤ 9223372036854775807 := by omega
  clear hC hw1 hk hlg hl hc1 hc2 ht1 ht2 ht3 hnw
  go_enter Try.func22, Try.ntmps22
  go_upto_region 1 with fail
  generalize w.alloc (.cells #[.string p.arch, .string p.dflt, .int .u64 (p.data : Nat), .slice A n c] 32) = W at *
  have y3 := below_cell (Below.refl _ _) HNW.out 3 rfl
  by_cases h24 : 24 < n
  · have h24I : (24 : Int) < n := by omega
    go_wp2_with fail
    go_ret
    exact ⟨by rw [decide_eq_true h24]; rfl, HW1.out⟩
  · have h24I : ¬ (24 : Int) < n := by omega
    have H24 := Lib.hid h24
    clear h24
    go_wp2_with fail
    refine HC.out.mono ?_
    rintro e w2 ⟨rfl, hb2⟩
    have HW2 := Lib.hid (HW1.out.trans (hb2.mono HW1.out.size))
    clear y3 hb2
    go_wp2_with fail
    go_ret
    exact ⟨by rw [decide_eq_false H24.out, Bool.false_or]; rfl, HW2.out⟩
end Go.Proofs.Ytbcoooaoofbboaa
