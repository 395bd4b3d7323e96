/- Whether one of a row of conditions is so. -/
import Derived.Test.YtgcngmlndijppaaMean1
import Derived.Test.YtgcngmlndijppaaRef16F
namespace Go.Proofs.Ytgcngmlndijppaa
open Go.RowKit Go.ChangeShapes
set_option linter.unusedVariables false

set_option maxRecDepth 100000 in
set_option maxHeartbeats 1000000 in
theorem idx_one (w : World) (A : Option Addr) (n c0 : Nat) (kids : List Cnd) (hk : IsCnds w (.slice A n c0) kids) (b1 b2 : Nat) (p : Nat → Bool)
    (hf : ∀ j, j < n → ∀ u, Below w.heap.size w u → ∀ k2, IsCnd u (cndV (kids.getD j cndZ) k2) (kids.getD j cndZ) → Calls Try.prog 33 #[cndV (kids.getD j cndZ) k2, .pointer (some ⟨b1, 0, none⟩), .pointer (some ⟨b2, 0, none⟩)] u fun e u' => e = .returned (.bool (p j)) ∧ Below u.heap.size u u') :
    Calls Try.prog 50 #[.slice A n c0, .func (.func 33) #[] #[.pointer (some ⟨b1, 0, none⟩), .pointer (some ⟨b2, 0, none⟩)]] w fun e w' => ((∃ j : Nat, j < n ∧ p j = true ∧ e = .returned (.int .i64 (j : Nat))) ∨ ((∀ j, j < n → p j = false) ∧ e = .returned (.int .i64 (-1)))) ∧ Below w.heap.size w w' := by
  obtain ⟨_, _, _, hv, hkn, hkc, hkm, _⟩ := id hk
  injection hv with e1 e2 e3
  subst e1 e2 e3
  have hload := fun u (hu : Below w.heap.size w u) j hj => kid_load hk hu rfl j hj
  have hnI : (n : Int) ≤ 9223372036854775807 := by omega
  have HF := Lib.hid hf; have HLOAD := Lib.hid hload
  clear hf hload hk hkc hkm hkn
  go_enter Try.func50, Try.ntmps50
  go_wp2_with fail
  go_loopw [8] (fun z wr => ∃ j : Nat, z = .int .i64 (j : Nat) ∧ j ≤ n ∧ (∀ i, i < j → p i = false) ∧ Below w.heap.size w wr) (fun z _ => n - (intOf z).toNat)
  case atStart => exact ⟨0, rfl, by omega, fun i hi => absurd hi (Nat.not_lt_zero i), Below.refl _ _⟩
  case round =>
    obtain ⟨j, rfl, hj, hno, hwr⟩ := hrel
    have HNO := Lib.hid hno
    clear hno
    by_cases hlt : j < n
    · obtain ⟨b, o, k2, rfl, ⟨a2, n2, c2, rfl⟩, hI, hcell⟩ := HLOAD.out wr hwr j hlt
      have hjI : (j : Int) < n := by omega
      have hcall := HF.out j hlt wr hwr _ hI
      have hstep : p j = false → ∀ i, i < j + 1 → p i = false := fun h i hi => by
        by_cases e : i < j
        · exact HNO.out i e
        · obtain rfl : i = j := by omega
          exact h
      have HC := Lib.hid hcall; have HW := Lib.hid hwr; have HST := Lib.hid hstep
      generalize hpj : p j = pj at *
      have HPJ := Lib.hid hpj
      have e0 := hcell 0 _ rfl
      have e1 := hcell 1 _ rfl
      have e2 := hcell 2 _ rfl
      have e3 := hcell 3 _ rfl
      have e4 := hcell 4 _ rfl
      have e5 := hcell 5 _ rfl
      rw [Nat.add_zero] at e0
      clear hcall hI hcell hstep hpj
      generalize kids.getD j cndZ = cc at *
      obtain ⟨kind2, kids2, arg2, mask2, sign2, value2⟩ := cc
      unfold cndV at HC
      simp only [Cnd.kind, Cnd.arg, Cnd.mask, Cnd.sign, Cnd.value] at e0 e1 e2 e3 e4 e5 HC
      go_wp2_with fail
      refine HC.out.mono ?_
      rintro e w4 ⟨rfl, hb4⟩
      have HW4 := Lib.hid (HW.out.trans (hb4.mono HW.out.size))
      clear hb4 e0 e1 e2 e3 e4 e5 HC hwr
      cases pj
      · have h2 := HST.out rfl
        have HS2 := Lib.hid h2
        clear h2 HST
        go_wp2_with fail
        go_roundw
        case rel => exact ⟨j + 1, by go_num, by omega, HS2.out, HW4.out⟩
        case measure => simp [intOf]; omega
      · go_wp2_with fail
        go_ret
        exact ⟨.inl ⟨j, hlt, HPJ.out, rfl⟩, HW4.out⟩
    · obtain rfl : j = n := by omega
      go_wp2_with fail
      go_ret
      exact ⟨.inr ⟨HNO.out, rfl⟩, hwr⟩
set_option maxRecDepth 100000 in
theorem contains_one (w : World) (A : Option Addr) (n c0 : Nat) (kids : List Cnd) (hk : IsCnds w (.slice A n c0) kids) (b1 b2 : Nat) (p : Nat → Bool)
    (hf : ∀ j, j < n → ∀ u, Below w.heap.size w u → ∀ k2, IsCnd u (cndV (kids.getD j cndZ) k2) (kids.getD j cndZ) → Calls Try.prog 33 #[cndV (kids.getD j cndZ) k2, .pointer (some ⟨b1, 0, none⟩), .pointer (some ⟨b2, 0, none⟩)] u fun e u' => e = .returned (.bool (p j)) ∧ Below u.heap.size u u') :
    Calls Try.prog 35 #[.slice A n c0, .func (.func 33) #[] #[.pointer (some ⟨b1, 0, none⟩), .pointer (some ⟨b2, 0, none⟩)]] w fun e w' => e = .returned (.bool ((List.range n).any p)) ∧ Below w.heap.size w w' := by
  have hI := idx_one w A n c0 kids hk b1 b2 p hf
  have HI := Lib.hid hI
  clear hI hf hk
  go_enter Try.func35, Try.ntmps35
  go_wp2_with fail
  refine HI.out.mono ?_
  rintro e w2 ⟨h, hb2⟩
  have HB2 := Lib.hid hb2
  clear hb2
  rcases h with ⟨j, hj, hp, rfl⟩ | ⟨hno, rfl⟩
  · have ha : (List.range n).any p = true := List.any_eq_true.2 ⟨j, List.mem_range.2 hj, hp⟩
    have HAA := Lib.hid ha
    have hj0 : (0 : Int) ≤ j := by omega
    clear ha hj hp HI
    go_wp2_with fail
    go_ret
    exact ⟨by rw [HAA.out]; rfl, HB2.out⟩
  · have ha : (List.range n).any p = false := by
      rw [List.any_eq_false]
      exact fun i hi => by rw [hno i (List.mem_range.1 hi)]; decide
    have HAA := Lib.hid ha
    clear ha hno HI
    go_wp2_with fail
    go_ret
    exact ⟨by rw [HAA.out]; rfl, HB2.out⟩
set_option maxRecDepth 100000 in
set_option maxHeartbeats 1000000 in
theorem idx_not (w : World) (A : Option Addr) (n c0 : Nat) (kids : List Cnd) (hk : IsCnds w (.slice A n c0) kids) (b1 : Nat) (p : Nat → Bool)
    (hf : ∀ j, j < n → ∀ u, Below w.heap.size w u → ∀ k2, IsCnd u (cndV (kids.getD j cndZ) k2) (kids.getD j cndZ) → Calls Try.prog 34 #[cndV (kids.getD j cndZ) k2, .pointer (some ⟨b1, 0, none⟩)] u fun e u' => e = .returned (.bool (p j)) ∧ Below u.heap.size u u') :
    Calls Try.prog 50 #[.slice A n c0, .func (.func 34) #[] #[.pointer (some ⟨b1, 0, none⟩)]] w fun e w' => ((∃ j : Nat, j < n ∧ p j = true ∧ e = .returned (.int .i64 (j : Nat))) ∨ ((∀ j, j < n → p j = false) ∧ e = .returned (.int .i64 (-1)))) ∧ Below w.heap.size w w' := by
  obtain ⟨_, _, _, hv, hkn, hkc, hkm, _⟩ := id hk
  injection hv with e1 e2 e3
  subst e1 e2 e3
  have hload := fun u (hu : Below w.heap.size w u) j hj => kid_load hk hu rfl j hj
  have hnI : (n : Int) ≤ 9223372036854775807 := by omega
  have HF := Lib.hid hf; have HLOAD := Lib.hid hload
  clear hf hload hk hkc hkm hkn
  go_enter Try.func50, Try.ntmps50
  go_wp2_with fail
  go_loopw [8] (fun z wr => ∃ j : Nat, z = .int .i64 (j : Nat) ∧ j ≤ n ∧ (∀ i, i < j → p i = false) ∧ Below w.heap.size w wr) (fun z _ => n - (intOf z).toNat)
  case atStart => exact ⟨0, rfl, by omega, fun i hi => absurd hi (Nat.not_lt_zero i), Below.refl _ _⟩
  case round =>
    obtain ⟨j, rfl, hj, hno, hwr⟩ := hrel
    have HNO := Lib.hid hno
    clear hno
    by_cases hlt : j < n
    · obtain ⟨b, o, k2, rfl, ⟨a2, n2, c2, rfl⟩, hI, hcell⟩ := HLOAD.out wr hwr j hlt
      have hjI : (j : Int) < n := by omega
      have hcall := HF.out j hlt wr hwr _ hI
      have hstep : p j = false → ∀ i, i < j + 1 → p i = false := fun h i hi => by
        by_cases e : i < j
        · exact HNO.out i e
        · obtain rfl : i = j := by omega
          exact h
      have HC := Lib.hid hcall; have HW := Lib.hid hwr; have HST := Lib.hid hstep
      generalize hpj : p j = pj at *
      have HPJ := Lib.hid hpj
      have e0 := hcell 0 _ rfl
      have e1 := hcell 1 _ rfl
      have e2 := hcell 2 _ rfl
      have e3 := hcell 3 _ rfl
      have e4 := hcell 4 _ rfl
      have e5 := hcell 5 _ rfl
      rw [Nat.add_zero] at e0
      clear hcall hI hcell hstep hpj
      generalize kids.getD j cndZ = cc at *
      obtain ⟨kind2, kids2, arg2, mask2, sign2, value2⟩ := cc
      unfold cndV at HC
      simp only [Cnd.kind, Cnd.arg, Cnd.mask, Cnd.sign, Cnd.value] at e0 e1 e2 e3 e4 e5 HC
      go_wp2_with fail
      refine HC.out.mono ?_
      rintro e w4 ⟨rfl, hb4⟩
      have HW4 := Lib.hid (HW.out.trans (hb4.mono HW.out.size))
      clear hb4 e0 e1 e2 e3 e4 e5 HC hwr
      cases pj
      · have h2 := HST.out rfl
        have HS2 := Lib.hid h2
        clear h2 HST
        go_wp2_with fail
        go_roundw
        case rel => exact ⟨j + 1, by go_num, by omega, HS2.out, HW4.out⟩
        case measure => simp [intOf]; omega
      · go_wp2_with fail
        go_ret
        exact ⟨.inl ⟨j, hlt, HPJ.out, rfl⟩, HW4.out⟩
    · obtain rfl : j = n := by omega
      go_wp2_with fail
      go_ret
      exact ⟨.inr ⟨HNO.out, rfl⟩, hwr⟩
set_option maxRecDepth 100000 in
theorem contains_not (w : World) (A : Option Addr) (n c0 : Nat) (kids : List Cnd) (hk : IsCnds w (.slice A n c0) kids) (b1 : Nat) (p : Nat → Bool)
    (hf : ∀ j, j < n → ∀ u, Below w.heap.size w u → ∀ k2, IsCnd u (cndV (kids.getD j cndZ) k2) (kids.getD j cndZ) → Calls Try.prog 34 #[cndV (kids.getD j cndZ) k2, .pointer (some ⟨b1, 0, none⟩)] u fun e u' => e = .returned (.bool (p j)) ∧ Below u.heap.size u u') :
    Calls Try.prog 35 #[.slice A n c0, .func (.func 34) #[] #[.pointer (some ⟨b1, 0, none⟩)]] w fun e w' => e = .returned (.bool ((List.range n).any p)) ∧ Below w.heap.size w w' := by
  have hI := idx_not w A n c0 kids hk b1 p hf
  have HI := Lib.hid hI
  clear hI hf hk
  go_enter Try.func35, Try.ntmps35
  go_wp2_with fail
  refine HI.out.mono ?_
  rintro e w2 ⟨h, hb2⟩
  have HB2 := Lib.hid hb2
  clear hb2
  rcases h with ⟨j, hj, hp, rfl⟩ | ⟨hno, rfl⟩
  · have ha : (List.range n).any p = true := List.any_eq_true.2 ⟨j, List.mem_range.2 hj, hp⟩
    have HAA := Lib.hid ha
    have hj0 : (0 : Int) ≤ j := by omega
    clear ha hj hp HI
    go_wp2_with fail
    go_ret
    exact ⟨by rw [HAA.out]; rfl, HB2.out⟩
  · have ha : (List.range n).any p = false := by
      rw [List.any_eq_false]
      exact fun i hi => by rw [hno i (List.mem_range.1 hi)]; decide
    have HAA := Lib.hid ha
    clear ha hno HI
    go_wp2_with fail
    go_ret
    exact ⟨by rw [HAA.out]; rfl, HB2.out⟩
end Go.Proofs.Ytgcngmlndijppaa
