/- Which conditions may be: the count. -/
import Derived.Test.YtbcoooaoofbboaaCnd4
namespace Go.Proofs.Ytbcoooaoofbboaa
open Go.RowKit Go.ChangeShapes Go.Deep
set_option linter.unusedVariables false

set_option maxRecDepth 100000 in
theorem tyUnseen_any (W0 u : World) (c : Cnd) (k : Value) (hb : c.bounded) (hk : IsCnds W0 k c.kids) (hbel : Below W0.heap.size W0 u) :
    Calls Try.prog 32 #[cndV c k] u fun e u' => ∃ V, e = .returned (.func (.func 44) #[] #[.pointer (some ⟨V, 0, none⟩)]) ∧ Left W0 u' V [c] := by
  obtain ⟨ka, kn, kc, rfl, hkn, hk1, hk2, hk3⟩ := hk
  have hk : IsCnds W0 (.slice ka kn kc) c.kids := ⟨ka, kn, kc, rfl, hkn, hk1, hk2, hk3⟩
  have h1 := (Below.refl u.heap.size u).alloc (Nat.le_refl _) (.cells (c.cells (.slice ka kn kc)).toArray 25)
  have hL : Left W0 (((u.alloc (.cells (c.cells (.slice ka kn kc)).toArray 25)).alloc (.cells (c.cells (.slice ka kn kc)).toArray 25)).alloc (.cells #[.slice (some ⟨u.heap.size + 1, 0, none⟩) 1 1] 22)) (u.heap.size + 2) [c] := by
    refine ⟨.slice (some ⟨u.heap.size + 1, 0, none⟩) 1 1, [.slice ka kn kc], ?_, by have := hbel.size; omega, ⟨hb, hk, trivial⟩, ?_, ?_⟩
    · have := heap_alloc_new ((u.alloc (.cells (c.cells (.slice ka kn kc)).toArray 25)).alloc (.cells (c.cells (.slice ka kn kc)).toArray 25)) (.cells #[.slice (some ⟨u.heap.size + 1, 0, none⟩) 1 1] 22)
      rwa [World.size_alloc, World.size_alloc] at this
    · have := (World.ownsRow_lit (base := W0.heap.size) (e := 25) (size := 6) (u.alloc (.cells (c.cells (.slice ka kn kc)).toArray 25)) (c.cells (.slice ka kn kc)).toArray 1 (by simp; have := hbel.size; omega) (by unfold maxLen; omega) rfl).alloc (.cells #[.slice (some ⟨u.heap.size + 1, 0, none⟩) 1 1] 22)
      rw [World.size_alloc] at this
      simpa [cndCells] using this
    · exact ((hbel.alloc hbel.size _).alloc (by simp; have := hbel.size; omega) _).alloc (by simp; have := hbel.size; omega) _
  have hnw := heap_alloc_new u (.cells (c.cells (.slice ka kn kc)).toArray 25)
  have HL := Lib.hid hL
  obtain ⟨kind, kids, arg, mask, sign, value⟩ := c
  clear hL hk hbel hk1 hk2 hk3 hb hkn
  unfold cndV
  simp only [Cnd.cells, Cnd.kind, Cnd.arg, Cnd.mask, Cnd.sign, Cnd.value] at hnw HL h1 ⊢
  go_enter Try.func32, Try.ntmps32
  go_wp2_with fail
  go_ret
  exact ⟨_, rfl, HL.out⟩
theorem cntF_stop (f : Nat) (t : Nat) : cntF f [] t = (t, true) := by cases f <;> rfl
theorem cntF_last (f : Nat) (st : List Cnd) (t : Nat) (h : st.length ≠ 0) (ha : (st.getD (st.length - 1) cndZ).alone = true) :
    cntF (f + 1) st t = cntF f (st.take (st.length - 1) ++ (st.getD (st.length - 1) cndZ).kids) (t + tst (st.getD (st.length - 1) cndZ).kind) := by
  rw [cntF, if_neg h, if_pos ha]
theorem cntF_bad (f : Nat) (st : List Cnd) (t : Nat) (h : st.length ≠ 0) (ha : f = 0 ∨ (st.getD (st.length - 1) cndZ).alone = false) : cntF f st t = (0, false) := by
  cases f with
  | zero => rw [cntF, if_neg h]
  | succ f => rw [cntF, if_neg h, if_neg (by rw [ha.resolve_left (by omega)]; decide)]
set_option maxRecDepth 100000 in
set_option maxHeartbeats 4000000 in
theorem tyCount_any (c : Cnd) (v : Value) (w : World) (h : IsCnd w v c) :
    Calls Try.prog 19 #[v] w fun e w' => e = .returned (.tuple #[.int .i64 (c.testN : Nat), .bool c.right]) ∧ Below w.heap.size w w' := by
  obtain ⟨hb, k, rfl, hk⟩ := h
  have hcf := count_eq c
  have hw1 := (Below.refl w.heap.size w).alloc (Nat.le_refl _) (.cells #[.int .i64 c.kind, k, .int .i64 c.arg, .int .u64 (c.mask : Nat), .string c.sign, .int .u64 (c.value : Nat)] 25)
  have hu := tyUnseen_any w _ c k hb hk hw1
  have HU := Lib.hid hu; have HCF := Lib.hid hcf
  obtain ⟨ka, kn, kc, rfl, _⟩ := hk
  clear hu hcf hw1 hb
  show Calls _ _ #[.agg #[.int .i64 c.kind, .slice ka kn kc, .int .i64 c.arg, .int .u64 (c.mask : Nat), .string c.sign, .int .u64 (c.value : Nat)]] _ _
  obtain ⟨T, hT⟩ : ∃ T, c.testN = T := ⟨_, rfl⟩
  obtain ⟨R, hR⟩ : ∃ R, c.right = R := ⟨_, rfl⟩
  rw [hT, hR] at HCF ⊢
  clear hT hR
  obtain ⟨kind, kids, arg, mask, sign, value⟩ := c
  unfold cndV at HU
  simp only [Cnd.kind, Cnd.arg, Cnd.mask, Cnd.sign, Cnd.value] at HU ⊢
  go_enter Try.func19, Try.ntmps19
  go_wp2_with fail
  refine HU.out.mono ?_
  rintro e w2 ⟨V, rfl, hL⟩
  have HL2 := Lib.hid hL
  clear hL HU
  go_wp2_with fail
  go_loopw [5, 6] (fun t n wr => ∃ (f : Nat) (st : List Cnd) (tt : Nat), t = .int .i64 (tt : Nat) ∧ n = .int .i64 (101 - (f : Int)) ∧ f ≤ 100 ∧ tt ≤ 100 - f ∧ st.length ≤ 1 + (100 - f) * 100 ∧ cntF f st tt = (T, R) ∧ Left w wr V st) (fun _ n _ => (102 - intOf n).toNat)
  case atStart => exact ⟨100, _, 0, rfl, rfl, by omega, by omega, by simp, HCF.out, HL2.out⟩
  case round =>
    obtain ⟨f, st, tt, rfl, rfl, hf, htt, hst, hcf, hL⟩ := hrel
    have hnx := tyNext_any w wr V st hL (by omega)
    have HNX := Lib.hid hnx; have HC := Lib.hid hcf; have HST := Lib.hid hst
    have hfI : (f : Int) ≤ 100 := by omega
    have hf0 : (0 : Int) ≤ f := by omega
    clear hnx hcf hL hst
    go_wp2_with fail
    refine HNX.out.mono ?_
    intro e w3 hp
    unfold NextPost at hp
    by_cases h0 : st.length = 0
    · rw [if_pos h0] at hp
      obtain ⟨rfl, hL3⟩ := hp
      obtain rfl := List.eq_nil_of_length_eq_zero h0
      have hc := HC.out
      rw [cntF_stop] at hc
      obtain ⟨_, _, _, _, _, _, hb3⟩ := hL3
      have HB3 := Lib.hid hb3; have HCC := Lib.hid hc
      clear hc hb3 h0 HC
      unfold zeroCnd
      go_wp2_with fail
      go_ret2
      have hc := HCC.out
      injection hc with e1 e2
      subst e1 e2
      exact ⟨rfl, HB3.out.alloc HB3.out.size _⟩
    · rw [if_neg h0] at hp
      obtain ⟨k2, hk2, rfl, hb2, hL3⟩ := hp
      have hbad := fun ha => cntF_bad f st tt h0 ha
      have hlast := fun f' ha => cntF_last f' st tt h0 ha
      have hal := alone_V (st.getD (st.length - 1) cndZ)
      have hfew := alone_few (st.getD (st.length - 1) cndZ)
      have htl : (st.take (st.length - 1)).length ≤ (100 - f) * 100 := by rw [List.length_take]; have := HST.out; omega
      rw [HC.out] at hbad
      generalize st.take (st.length - 1) = st' at *
      generalize st.getD (st.length - 1) cndZ = cc at *
      obtain ⟨_, _, _, _, _, _, hb3⟩ := id hL3
      have HB3 := Lib.hid hb3; have HL3 := Lib.hid hL3; have HBAD := Lib.hid hbad; have HLAST := Lib.hid hlast; have HFEW := Lib.hid hfew; have HTL := Lib.hid htl
      have hlen : cc.kids.length ≤ 9223372036854775807 := by obtain ⟨_, n2, c2, _, h1, h2, h3, _⟩ := hk2; omega
      obtain ⟨ka2, kn2, kc2, rfl, hkn2, _⟩ := hk2
      have ha2 := fun u => tyAlone_any cc.kind cc.arg cc.mask cc.sign cc.value ka2 kn2 kc2 (by omega) u
      rw [hkn2] at hal
      rw [← hal] at ha2
      have HA2 := Lib.hid ha2
      obtain ⟨al, hale⟩ : ∃ b, cc.alone = b := ⟨_, rfl⟩
      rw [hale] at HA2 HBAD HLAST HFEW
      have HC0 := HC
      clear hb3 hL3 hbad hlast hfew htl hlen ha2 hal hale HC HNX HST h0
      obtain ⟨kind2, kids2, arg2, mask2, sign2, value2⟩ := cc
      unfold cndV
      simp only [Cnd.kind, Cnd.arg, Cnd.mask, Cnd.sign, Cnd.value, Cnd.kids] at HA2 HLAST HFEW HL3 hkn2 ⊢
      go_upto_region 6 with fail
      have hnw := heap_alloc_new w3 (.cells #[.int .i64 kind2, .slice ka2 kn2 kc2, .int .i64 arg2, .int .u64 (mask2 : Nat), .string sign2, .int .u64 (value2 : Nat)] 25)
      have hwa := (Below.refl w3.heap.size w3).alloc (Nat.le_refl _) (.cells #[.int .i64 kind2, .slice ka2 kn2 kc2, .int .i64 arg2, .int .u64 (mask2 : Nat), .string sign2, .int .u64 (value2 : Nat)] 25)
      generalize w3.alloc (.cells #[.int .i64 kind2, .slice ka2 kn2 kc2, .int .i64 arg2, .int .u64 (mask2 : Nat), .string sign2, .int .u64 (value2 : Nat)] 25) = wa at *
      have q0 := below_cell (Below.refl _ _) hnw 0 rfl
      have q1 := below_cell (Below.refl _ _) hnw 1 rfl
      have q2 := below_cell (Below.refl _ _) hnw 2 rfl
      have q3 := below_cell (Below.refl _ _) hnw 3 rfl
      have q4 := below_cell (Below.refl _ _) hnw 4 rfl
      have q5 := below_cell (Below.refl _ _) hnw 5 rfl
      have HNW := Lib.hid hnw; have HWA := Lib.hid hwa; have HBA := Lib.hid (HB3.out.trans (hwa.mono HB3.out.size))
      clear hnw hwa
      cases f with
      | zero =>
        have hb := HBAD.out (.inl rfl)
        have HBB := Lib.hid hb
        clear hb HLAST HA2
        go_wp2_with fail
        go_ret2
        have hc := HBB.out
        injection hc with e1 e2
        subst e1 e2
        exact ⟨rfl, HBA.out⟩
      | succ f =>
        have hf1 : ¬ (100 : Int) < 101 - ((f + 1 : Nat) : Int) := by omega
        go_wp2_with fail
        refine (HA2.out _).mono ?_
        rintro e w4 ⟨rfl, hb4⟩
        have p0 := below_cell hb4 HNW.out 0 rfl
        have HB4 := Lib.hid (HBA.out.trans (hb4.mono HBA.out.size)); have HX4 := Lib.hid (HWA.out.trans (hb4.mono HWA.out.size))
        clear hb4 q0 q1 q2 q3 q4 q5 HA2
        cases al
        · have hb := HBAD.out (.inr rfl)
          have HBB := Lib.hid hb
          clear hb HLAST
          go_wp2_with fail
          go_ret2
          have hc := HBB.out
          injection hc with e1 e2
          subst e1 e2
          exact ⟨rfl, HB4.out⟩
        · have hl := HLAST.out f rfl
          have HLL := Lib.hid hl
          clear hl HBAD HLAST
          by_cases h4 : kind2 = 4
          · subst h4
            have hpu : pushed kids2 = kids2 := pushed_few (HFEW.out rfl)
            have hL4 : Left w w4 V (st' ++ kids2) := by rw [← hpu]; exact HL3.out.below HX4.out
            have hst4 : (st' ++ kids2).length ≤ 1 + (100 - f) * 100 := by rw [List.length_append]; have := HTL.out; have := HFEW.out rfl; omega
            have hcc := HLL.out
            rw [show tst 4 = 1 from rfl, HC0.out] at hcc
            have HL4 := Lib.hid hL4; have HST4 := Lib.hid hst4; have HCC := Lib.hid hcc
            clear hpu hL4 hst4 hcc
            go_wp2_with fail
            go_roundw
            case rel => exact ⟨f, st' ++ kids2, tt + 1, by go_num, by go_num, by omega, by omega, HST4.out, HCC.out.symm, HL4.out⟩
            case measure => simp [intOf]; omega
          · have h4b : (kind2 == 4) = false := by rw [beq_eq_false_iff_ne]; exact h4
            have H4 := Lib.hid h4
            have hpu : pushed kids2 = kids2 := pushed_few (HFEW.out rfl)
            have hL4 : Left w w4 V (st' ++ kids2) := by rw [← hpu]; exact HL3.out.below HX4.out
            have hst4 : (st' ++ kids2).length ≤ 1 + (100 - f) * 100 := by rw [List.length_append]; have := HTL.out; have := HFEW.out rfl; omega
            have hcc := HLL.out
            rw [show tst kind2 = 0 from if_neg h4, HC0.out] at hcc
            have HL4 := Lib.hid hL4; have HST4 := Lib.hid hst4; have HCC := Lib.hid hcc
            clear hpu hL4 hst4 hcc h4
            go_wp2_with fail
            go_roundw
            case rel => exact ⟨f, st' ++ kids2, tt, rfl, by go_num, by omega, by omega, HST4.out, HCC.out.symm, HL4.out⟩
            case measure => simp [intOf]; omega
set_option maxRecDepth 100000 in
theorem tyRight_any (c : Cnd) (v : Value) (w : World) (h : IsCnd w v c) : Calls Try.prog 10 #[v] w fun e w' => e = .returned (.bool c.right) ∧ Below w.heap.size w w' := by
  obtain ⟨hb, k, rfl, hk⟩ := id h
  have hw1 := (Below.refl w.heap.size w).alloc (Nat.le_refl _) (.cells #[.int .i64 c.kind, k, .int .i64 c.arg, .int .u64 (c.mask : Nat), .string c.sign, .int .u64 (c.value : Nat)] 25)
  have hC := tyCount_any c _ _ (h.below hw1)
  have HC := Lib.hid hC; have HW1 := Lib.hid hw1
  obtain ⟨ka, kn, kc, rfl, _⟩ := hk
  clear hC hw1 h hb
  show Calls _ _ #[.agg #[.int .i64 c.kind, .slice ka kn kc, .int .i64 c.arg, .int .u64 (c.mask : Nat), .string c.sign, .int .u64 (c.value : Nat)]] _ _
  go_enter Try.func10, Try.ntmps10
  go_wp2_with fail
  refine HC.out.mono ?_
  rintro e w2 ⟨rfl, hb2⟩
  have HW2 := Lib.hid (HW1.out.trans (hb2.mono HW1.out.size))
  clear hb2
  go_wp2_with fail
  go_ret
  exact ⟨rfl, HW2.out⟩
end Go.Proofs.Ytbcoooaoofbboaa
