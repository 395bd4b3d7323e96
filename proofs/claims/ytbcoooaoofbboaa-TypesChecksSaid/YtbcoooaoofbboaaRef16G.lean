/- The reference of layer 16: tests. -/
import Derived.Test.YtbcoooaoofbboaaRef16R
namespace Go.Proofs.Ytbcoooaoofbboaa
open Go.RowKit Go.ChangeShapes
set_option linter.unusedVariables false

theorem testss_take (l : List Cnd) : ∀ j, j < l.length → testss (l.take (j + 1)) = testss (l.take j) + (l.getD j cndZ).tests := by
  induction l with
  | nil => intro j h; simp at h
  | cons a l ih =>
    intro j h
    cases j with
    | zero => simp [testss]
    | succ j =>
      rw [List.take_succ_cons, testss, ih j (by simpa using h), List.take_succ_cons, testss, Nat.add_assoc]
      rfl
mutual
theorem tests_size : ∀ c : Cnd, c.tests ≤ c.size
  | .mk k kids _ _ _ _ => by
    rw [Cnd.tests, Cnd.size]
    have := testss_sizes kids
    split <;> omega
theorem testss_sizes : ∀ l : List Cnd, testss l ≤ sizes l
  | [] => Nat.le_refl _
  | k :: ks => by rw [testss, sizes]; have := tests_size k; have := testss_sizes ks; omega
end
theorem testss_take_le (l : List Cnd) (j : Nat) : testss (l.take j) ≤ sizes l := by
  have h1 := testss_app (l.take j) (l.drop j)
  rw [List.take_append_drop] at h1
  have := testss_sizes l
  omega
set_option maxRecDepth 100000 in
set_option maxHeartbeats 4000000 in
theorem refTests16r : ∀ (N : Nat), N ≤ 1000 → ∀ (c : Cnd), c.size ≤ N → ∀ (v : Value) (w : World), IsCnd w v c → Calls Try.prog 21 #[v] w fun e w' => e = .returned (.int .i64 (c.tests : Nat)) ∧ Below w.heap.size w w' := by
  intro N
  induction N with
  | zero => intro _ c h; rw [c.size_eq] at h; omega
  | succ N ih =>
    intro hN c hsz v w h
    obtain ⟨hb, k, rfl, hk⟩ := h
    obtain ⟨ka, kn, kc, rfl, hkn, hkc, hkm, _⟩ := id hk
    have hw1 := (Below.refl w.heap.size w).alloc (Nat.le_refl _) (.cells (c.cells (.slice ka kn kc)).toArray 25)
    have hnw := heap_alloc_new w (.cells (c.cells (.slice ka kn kc)).toArray 25)
    have hT := c.tests_eq
    rw [c.size_eq] at hsz
    have hkid : ∀ j, j < kn → (c.kids.getD j cndZ).size ≤ N := fun j hj => by
      have := size_kid c.kids j (by omega)
      omega
    have hload := fun u (hu : Below w.heap.size w u) j hj => kid_load hk hu rfl j hj
    have htake := fun j hj => testss_take c.kids j hj
    have hle := fun j => Nat.le_trans (testss_take_le c.kids j) (show sizes c.kids ≤ 1000 by omega)
    have hknI : (kn : Int) ≤ 9223372036854775807 := by omega
    have hT4 : c.kind = 4 → c.tests = 1 := fun h => by rw [hT, if_pos h]
    have hTn : c.kind ≠ 4 → c.tests = testss c.kids := fun h => by rw [hT, if_neg h]
    obtain ⟨R, hR⟩ : ∃ R, c.tests = R := ⟨_, rfl⟩
    rw [hR] at hT4 hTn ⊢
    have HT4 := Lib.hid hT4; have HTN := Lib.hid hTn; have HKID := Lib.hid hkid; have HLOAD := Lib.hid hload; have HTAKE := Lib.hid htake; have HLE := Lib.hid hle; have HKN := Lib.hid hkn
    clear hb hk hsz hkid hload htake hle hkc hkm hR hkn hT hT4 hTn
    have hih := ih (by omega)
    have HIH := Lib.hid hih
    clear ih hih hN
    show Calls _ _ #[.agg #[.int .i64 c.kind, .slice ka kn kc, .int .i64 c.arg, .int .u64 (c.mask : Nat), .string c.sign, .int .u64 (c.value : Nat)]] _ _
    obtain ⟨kind, kids, arg, mask, sign, value⟩ := c
    simp only [Cnd.cells, Cnd.kind, Cnd.arg, Cnd.mask, Cnd.sign, Cnd.value, Cnd.kids] at *
    have HW1 := Lib.hid hw1; have HNW := Lib.hid hnw
    clear hw1 hnw
    by_cases k4 : kind = 4
    · have h := HT4.out k4
      have E := Lib.hid h
      subst k4
      clear h HT4 HTN
      go_enter Try.func21, Try.ntmps21
      go_wp2_with fail
      go_ret
      exact ⟨by rw [E.out]; rfl, HW1.out⟩
    · have h := HTN.out k4
      have E := Lib.hid h
      have b4 : (kind == 4) = false := by rw [beq_eq_false_iff_ne]; exact k4
      clear h HT4 HTN k4 HNW
      go_enter Try.func21, Try.ntmps21
      go_wp2_with fail
      go_loopw [3, 12] (fun s z wr => ∃ j : Nat, z = .int .i64 (j : Nat) ∧ s = .int .i64 ((testss (kids.take j) : Nat) : Int) ∧ j ≤ kn ∧ Below w.heap.size w wr) (fun _ z _ => kn - (intOf z).toNat)
      case atStart => exact ⟨0, rfl, rfl, by omega, HW1.out⟩
      case round =>
        obtain ⟨j, rfl, rfl, hj, hwr⟩ := hrel
        by_cases hlt : j < kn
        · obtain ⟨b, o, k2, rfl, ⟨a2, n2, c2, rfl⟩, hI, hcell⟩ := HLOAD.out wr hwr j hlt
          have hjI : (j : Int) < kn := by omega
          have hsz := HKID.out j hlt
          have htk := HTAKE.out j (by have := HKN.out; omega)
          have hle1 := HLE.out j
          have hle2 := HLE.out (j + 1)
          rw [htk] at hle2
          generalize kids.getD j cndZ = cc at *
          have hw3 := (Below.refl wr.heap.size wr).alloc (Nat.le_refl _) (.cells (cc.cells (.slice a2 n2 c2)).toArray 25)
          have hnw3 := heap_alloc_new wr (.cells (cc.cells (.slice a2 n2 c2)).toArray 25)
          have hcall := HIH.out cc hsz _ _ (hI.below hw3)
          obtain ⟨fr, hfr⟩ : ∃ fr, cc.tests = fr := ⟨_, rfl⟩
          rw [hfr] at hcall htk hle2
          obtain ⟨T, hTT⟩ : ∃ T, testss (kids.take j) = T := ⟨_, rfl⟩
          rw [hTT] at htk hle1 hle2 ⊢
          have hle1I : (T : Int) ≤ 1000 := by omega
          have hle2I : (T : Int) + fr ≤ 1000 := by omega
          have hle3I : (fr : Int) ≤ 1000 := by omega
          have HC := Lib.hid hcall; have HW3 := Lib.hid (hwr.trans (hw3.mono hwr.size)); have HTK := Lib.hid htk
          have e0 := hcell 0 _ rfl
          have e1 := hcell 1 _ rfl
          have e2 := hcell 2 _ rfl
          have e3 := hcell 3 _ rfl
          have e4 := hcell 4 _ rfl
          have e5 := hcell 5 _ rfl
          rw [Nat.add_zero] at e0
          clear hsz htk hcall hw3 hI hcell hfr hwr hle1 hle2 hTT
          obtain ⟨kind2, kids2, arg2, mask2, sign2, value2⟩ := cc
          simp only [Cnd.cells, Cnd.kind, Cnd.arg, Cnd.mask, Cnd.sign, Cnd.value] at e0 e1 e2 e3 e4 e5 HC HW3 hnw3
          have q0 := below_cell (Below.refl _ _) hnw3 0 rfl
          have q1 := below_cell (Below.refl _ _) hnw3 1 rfl
          have q2 := below_cell (Below.refl _ _) hnw3 2 rfl
          have q3 := below_cell (Below.refl _ _) hnw3 3 rfl
          have q4 := below_cell (Below.refl _ _) hnw3 4 rfl
          have q5 := below_cell (Below.refl _ _) hnw3 5 rfl
          clear hnw3
          go_wp2_with fail
          refine HC.out.mono ?_
          rintro e w4 ⟨rfl, hb4⟩
          have HW4 := Lib.hid (HW3.out.trans (hb4.mono HW3.out.size))
          clear hb4 q0 q1 q2 q3 q4 q5 e0 e1 e2 e3 e4 e5 HC
          go_wp2_with fail
          go_roundw
          case rel => exact ⟨j + 1, by go_num, by rw [HTK.out]; go_num, by omega, HW4.out⟩
          case measure => simp [intOf]; omega
        · obtain rfl : j = kn := by omega
          rw [List.take_of_length_le (by have := HKN.out; omega)]
          go_wp2_with fail
          go_ret
          exact ⟨by rw [E.out]; rfl, hwr⟩
set_option maxRecDepth 100000 in
set_option maxHeartbeats 1000000 in
theorem refTests16 (c : Cnd) (v : Value) (w : World) (h : IsCnd w v c) : Calls Try.prog 13 #[v] w fun e w' => e = .returned (.int .i64 (c.testN : Nat)) ∧ Below w.heap.size w w' := by
  obtain ⟨hb, k, rfl, hk⟩ := id h
  have hw1 := (Below.refl w.heap.size w).alloc (Nat.le_refl _) (.cells #[.int .i64 c.kind, k, .int .i64 c.arg, .int .u64 (c.mask : Nat), .string c.sign, .int .u64 (c.value : Nat)] 25)
  have hnw := heap_alloc_new w (.cells #[.int .i64 c.kind, k, .int .i64 c.arg, .int .u64 (c.mask : Nat), .string c.sign, .int .u64 (c.value : Nat)] 25)
  have hM := refRight16 c _ _ (h.below hw1)
  have hF := fun (hs : c.size ≤ 1000) u (hu : Below w.heap.size w u) => refTests16r 1000 (Nat.le_refl _) c hs _ u (h.below hu)
  have hR : c.testN = if c.right then c.tests else 0 := rfl
  have hsz : c.right = true → c.size ≤ 1000 := fun h => by
    unfold Cnd.right at h
    simp only [Bool.and_eq_true, decide_eq_true_eq] at h
    omega
  obtain ⟨ka, kn, kc, rfl, _⟩ := hk
  have HM := Lib.hid hM; have HF := Lib.hid hF; have HW1 := Lib.hid hw1; have HR := Lib.hid hR; have HNW := Lib.hid hnw
  clear hM hF hw1 h hb hR hnw
  show Calls _ _ #[.agg #[.int .i64 c.kind, .slice ka kn kc, .int .i64 c.arg, .int .u64 (c.mask : Nat), .string c.sign, .int .u64 (c.value : Nat)]] _ _
  go_enter Try.func13, Try.ntmps13
  go_wp2_with fail
  refine HM.out.mono ?_
  rintro e w2 ⟨rfl, hb2⟩
  have hnw2 := (hb2.block _ (lt_of_block HNW.out)).trans HNW.out
  have q0 := below_cell (Below.refl _ _) hnw2 0 rfl
  have q1 := below_cell (Below.refl _ _) hnw2 1 rfl
  have q2 := below_cell (Below.refl _ _) hnw2 2 rfl
  have q3 := below_cell (Below.refl _ _) hnw2 3 rfl
  have q4 := below_cell (Below.refl _ _) hnw2 4 rfl
  have q5 := below_cell (Below.refl _ _) hnw2 5 rfl
  have HW2 := Lib.hid (HW1.out.trans (hb2.mono HW1.out.size))
  clear hb2 hnw2 HM HNW
  cases hr : c.right
  · have hz : c.testN = 0 := by rw [HR.out, hr]; rfl
    have HZ := Lib.hid hz
    clear hz HR HF hsz hr
    go_wp2_with fail
    go_ret
    exact ⟨by rw [HZ.out]; rfl, HW2.out⟩
  · have hF2 := HF.out (hsz hr) _ HW2.out
    have hz : c.testN = c.tests := by rw [HR.out, hr]; rfl
    rw [← hz] at hF2
    have HF2 := Lib.hid hF2
    clear hz HR HF hsz hr hF2
    go_wp2_with fail
    refine HF2.out.mono ?_
    rintro e w3 ⟨rfl, hb3⟩
    have HW3 := Lib.hid (HW2.out.trans (hb3.mono HW2.out.size))
    clear hb3
    go_wp2_with fail
    go_ret
    exact ⟨rfl, HW3.out⟩
end Go.Proofs.Ytbcoooaoofbboaa
