/- The walk of TreeNumbers. -/
import Derived.Test.YtcejhfpdajbdcaaTn3
import Derived.Test.YtcejhfpdajbdcaaTn4
import Derived.Test.YtcejhfpdajbdcaaTn5
import Derived.Outline
import Derived.BigQuiet
namespace Go.Proofs.Ytcejhfpdajbdcaa.lawTreeNumbers
open Go.RowKit
set_option linter.unusedVariables false
set_option linter.unusedSimpArgs false

theorem flat_bound (l : List Mtc) (n : Nat) (hl : l.length = n) (h : ∀ i, i < n → (l.getD i mtcZ).nrs.length ≤ 60) : (flatN l).length ≤ 60 * n := by
  have key : ∀ j, j ≤ n → (flatN (l.take j)).length ≤ 60 * j := fun j => by
    induction j with
    | zero => intro _; simp [flatN]
    | succ j ih =>
      intro hj
      rw [flatN_take l j (by omega), List.length_append]
      have := ih (by omega)
      have := h j (by omega)
      omega
  have := key n (Nat.le_refl _)
  rwa [← hl, List.take_length, hl] at this
set_option maxRecDepth 100000 in
set_option maxHeartbeats 4000000 in
theorem walk (v0 : Value) (t : Typ) (n0 : Int) (w : World) (w0 : IsTyp w v0 t) (wn : (Lit.int .i64 n0).wf = true) :
    Calls Try.prog 3 #[v0, .int .i64 n0] w fun e w' => e = .returned (.bool true) ∧ Below w.heap.size w w' := by
  have hwn := wf_i64 wn
  obtain ⟨ht1, ht2, k, rfl, hk⟩ := id w0
  obtain ⟨A, n, c, rfl, hl, hc1, hc2, _⟩ := id hk
  have hmt := fun u (hu : Below w.heap.size w u) j hj => typ_at hk hu j hj
  have hnI : (n : Int) ≤ 9223372036854775807 := by omega
  have hnw := heap_alloc_new w (.cells #[.int .u32 (t.arch : Nat), .int .u32 (t.dflt : Nat), .slice A n c] 25)
  have hw1 := (Below.refl w.heap.size w).alloc (Nat.le_refl _) (.cells #[.int .u32 (t.arch : Nat), .int .u32 (t.dflt : Nat), .slice A n c] 25)
  have HTP := Lib.hid w0; have HL := Lib.hid hl; have HMT := Lib.hid hmt; have HD1 := Lib.hid (fun u => tmDeep n0 u hwn); have HD2 := Lib.hid (fun u => refDeep n0 u hwn)
  have HAL := Lib.hid (fun u => tnAlive u)
  obtain ⟨B, hB⟩ : ∃ B, w.heap.size = B := ⟨_, rfl⟩
  have HBQ := Lib.hid hB
  rw [hB] at hnw
  clear hmt hl hk hc1 hc2 ht1 ht2 hwn wn w0
  go_enter Try.func3, Try.ntmps3
  go_upto_region 1 with fail
  (try rw [HBQ.out])
  obtain ⟨u, hU⟩ : ∃ u, w.alloc (.cells #[.int .u32 (t.arch : Nat), .int .u32 (t.dflt : Nat), .slice A n c] 25) = u := ⟨_, rfl⟩
  rw [hU] at hw1 hnw ⊢
  have HW1 := Lib.hid hw1; have HN1 := Lib.hid hnw
  have y2 := below_cell (Below.refl _ u) hnw 2 rfl
  clear hU hw1 hnw hB
  by_cases h30 : n ≤ 30
  rotate_left
  · have h30I : (30 : Int) < n := by omega
    go_wp2_with (first | (go_at_call 8; refine (HAL.out _).mono ?_; rintro e w5 ⟨rfl, hb5⟩))
    first
    | (go_ret; exact ⟨rfl, HW1.out.trans (hb5.mono HW1.out.size)⟩)
    | (refine bodyPost_ret (results_tmp rfl _ _ _) rfl ?_; exact ⟨rfl, HW1.out.trans (hb5.mono HW1.out.size)⟩)
  · have h30I : ¬ (30 : Int) < n := by omega
    go_upto_region 4 with fail
    clear y2
    go_loopw [18] (fun z wr => ∃ j : Nat, z = .int .i64 (j : Nat) ∧ j ≤ n ∧ Hid (∀ i, i < j → (t.rules.getD i mtcZ).nrs.length ≤ 60) ∧ Hid (Below w.heap.size w wr) ∧ Hid (wr.heap[B]? = some (.cells #[.int .u32 (t.arch : Nat), .int .u32 (t.dflt : Nat), .slice A n c] 25 (0, 0)))) (fun z _ => n - (intOf z).toNat)
    case atStart => exact ⟨0, rfl, by omega, Lib.hid (fun i hi => absurd hi (by omega)), HW1, HN1⟩
    case round =>
      clear HW1 HN1
      obtain ⟨j, rfl, hj, HEV, HWR, HKB⟩ := hrel
      by_cases hlt : j < n
      · obtain ⟨b, off, rfl, hat⟩ := HMT.out wr HWR.out j hlt
        obtain ⟨_, hbd, ka, kn, kc, ca, cn, cc, hu, hkc, e0, e1, e2, e3, e4, e5, e6, e7⟩ := hat.cell
        have hjI : (j : Int) < n := by omega
        have hkn : (t.rules.getD j mtcZ).nrs.length = kn := by obtain ⟨_, _, _, hv, h1, _⟩ := hu; injection hv with _ q2 _; rw [h1, q2]
        have hnext : kn ≤ 60 → ∀ i, i < j + 1 → (t.rules.getD i mtcZ).nrs.length ≤ 60 := fun h i hi => by
          by_cases e : i < j
          · exact HEV.out i e
          · obtain rfl : i = j := by omega
            rw [hkn]; exact h
        have HNX := Lib.hid hnext
        clear hnext hkn HEV
        generalize t.rules.getD j mtcZ = m at *
        obtain ⟨nrs, cd, act⟩ := m
        simp only at hu e0 e1 e2 e3 e4 e5 e6 e7
        have HLT := Lib.hid hlt
        clear hu hat hbd hkc hlt
        obtain ⟨kind, kids, arg, mask, sign, value⟩ := cd
        simp only [Cnd.kind, Cnd.arg, Cnd.mask, Cnd.sign, Cnd.value] at e1 e3 e4 e5 e6
        go_upto_region 6 with fail
        have hn7 := heap_alloc_new wr (.cells #[.slice ka kn kc, .int .i64 kind, .slice ca cn cc, .int .i64 arg, .int .u64 (mask : Nat), .string sign, .int .u64 (value : Nat), .int .u32 (act : Nat)] 33)
        have hy7 := (Below.refl wr.heap.size wr).alloc (Nat.le_refl _) (.cells #[.slice ka kn kc, .int .i64 kind, .slice ca cn cc, .int .i64 arg, .int .u64 (mask : Nat), .string sign, .int .u64 (value : Nat), .int .u32 (act : Nat)] 33)
        generalize wr.alloc (.cells #[.slice ka kn kc, .int .i64 kind, .slice ca cn cc, .int .i64 arg, .int .u64 (mask : Nat), .string sign, .int .u64 (value : Nat), .int .u32 (act : Nat)] 33) = w7 at *
        have HB7 := Lib.hid (HWR.out.trans (hy7.mono HWR.out.size))
        have HK7 := Lib.hid ((hy7.block _ (lt_of_block HKB.out)).trans HKB.out)
        generalize wr.heap.size = b7 at *
        have y0 := below_cell (Below.refl _ w7) hn7 0 rfl
        clear e0 e1 e2 e3 e4 e5 e6 e7 hn7 hy7 HWR HKB
        by_cases h60 : kn ≤ 60
        · have h60I : ¬ (60 : Int) < kn := by omega
          go_wp2_with fail
          go_roundw
          case rel => exact ⟨j + 1, by go_num, by have := HLT.out; omega, Lib.hid (HNX.out h60), HB7, HK7⟩
          case measure => have := HLT.out; simp [intOf]; omega
        · have h60I : (60 : Int) < kn := by omega
          go_wp2_with (first | (go_at_call 8; refine (HAL.out _).mono ?_; rintro e w5 ⟨rfl, hb5⟩))
          first
          | (go_ret; exact ⟨rfl, HB7.out.trans (hb5.mono HB7.out.size)⟩)
          | (refine bodyPost_ret (results_tmp rfl _ _ _) rfl ?_; exact ⟨rfl, HB7.out.trans (hb5.mono HB7.out.size)⟩)
      · obtain rfl : j = n := by omega
        have hjj : ¬ (j : Int) < j := by omega
        have hfl : (flatN t.rules).length ≤ 1000000 := by
          have := flat_bound t.rules j HL.out HEV.out
          omega
        have HNA := Lib.hid (fun u (hu : Below w.heap.size w u) => tmNumbers _ t u (HTP.out.below hu) hfl)
        have HNB := Lib.hid (fun u (hu : Below w.heap.size w u) => refNumbers20 _ t u (HTP.out.below hu) hfl)
        have hll : (nrsU (flatN t.rules)).length ≤ 1000000 := Nat.le_trans (nrsU_len _) hfl
        generalize nrsU (flatN t.rules) = L at *
        obtain ⟨m, hm⟩ : ∃ m, L.length = m := ⟨_, rfl⟩
        rw [hm] at hll
        have HM := Lib.hid hm
        have x0 := below_cell (Below.refl _ wr) HKB.out 0 rfl
        have x1 := below_cell (Below.refl _ wr) HKB.out 1 rfl
        have x2 := below_cell (Below.refl _ wr) HKB.out 2 rfl
        have hmI : (m : Int) ≤ 1000000 := by omega
        clear hfl HEV HL HMT hm hll
        go_upto_region 9 with fail
        go_cut [7, 8] (fun s7 s8 wx => ∃ A1 c1 A2 c2, s7 = .slice A1 m c1 ∧ s8 = .slice A2 m c2 ∧ Hid (IsU32s wx (.slice A1 m c1) L) ∧ Hid (IsU32s wx (.slice A2 m c2) L) ∧ Hid (Below w.heap.size w wx))
        case first =>
          have HBD := Lib.hid HWR.out.drew
          have HKD := Lib.hid (show wr.drew.heap[B]? = _ from HKB.out)
          go_region_with (first
            | (go_at_call 9; refine (HNA.out _ HBD.out).mono ?_; rintro e w5 ⟨⟨v5, rfl, h5⟩, hb5⟩; have hB5 := HBD.out.trans (hb5.mono HBD.out.size); have hK5 := (hb5.block _ (lt_of_block HKD.out)).trans HKD.out; have t0 := below_cell (Below.refl _ w5) hK5 0 rfl; have t1 := below_cell (Below.refl _ w5) hK5 1 rfl; have t2 := below_cell (Below.refl _ w5) hK5 2 rfl; have HB5 := Lib.hid hB5; have H5 := Lib.hid h5; clear hB5 h5 hb5)
            | (go_at_call 10; refine (HNB.out _ HB5.out).mono ?_; rintro e w6 ⟨⟨v6, rfl, h6⟩, hb6⟩; have HB6 := Lib.hid (HB5.out.trans (hb6.mono HB5.out.size)); have H6 := Lib.hid h6; have H56 := Lib.hid (H5.out.below hb6); clear h6 hb6)
            | fail)
          all_goals
            obtain ⟨A1, k1, c1, rfl, hk1, _⟩ := id H56.out
            obtain ⟨A2, k2, c2, rfl, hk2, _⟩ := id H6.out
            have hk1' := hk1.symm.trans HM.out
            have hk2' := hk2.symm.trans HM.out
            clear hk1 hk2
            subst hk1'
            clear HNA HNB HTP HWR HKB x0 x1 x2
            have hk3 := hk2'
            clear hk2'
            subst hk3
            go_wp2_with fail
            go_meet
            exact ⟨A1, c1, A2, c2, rfl, rfl, H56, H6, HB6⟩
        case rest =>
        obtain ⟨A1, c1, A2, c2, rfl, rfl, H1, H2, HB⟩ := hcut
        clear HNA HNB HTP HWR HKB x0 x1 x2
        go_upto_region 13 with fail
        go_loopw [39] (fun z wr => ∃ i : Nat, z = .int .i64 (i : Nat) ∧ i ≤ m ∧ Hid (Below wc.heap.size wc wr)) (fun z _ => m - (intOf z).toNat)
        case atStart => exact ⟨0, rfl, by omega, Lib.hid (Below.refl _ _)⟩
        case round =>
          obtain ⟨i, rfl, hi, HR⟩ := hrel
          by_cases hit : i < m
          · have hiI : (i : Int) < m := by omega
            obtain ⟨b1, o1, rfl, e1, _, _⟩ := u32_at H1.out HR.out i hit
            obtain ⟨b2, o2, rfl, e2, _, _⟩ := u32_at H2.out HR.out i hit
            generalize L.getD i 0 = X at *
            have hi0 : (0 : Int) ≤ i := by omega
            have HIT := Lib.hid hit
            clear hit
            go_upto_region 15 with fail
            go_quiet (fail)
            go_wp2_with fail
            go_roundw
            case rel => exact ⟨i + 1, by go_num, by have := HIT.out; omega, Lib.hid (by first | exact HR.out | exact belowN HR.out _)⟩
            case measure => have := HIT.out; simp [intOf]; omega
          · obtain rfl : i = m := by omega
            have hii : ¬ (i : Int) < i := by omega
            have HBR := Lib.hid (HB.out.trans (HR.out.mono HB.out.size))
            clear HB HR
            go_wp2_with (first
              | (go_at_call 8; refine (HAL.out _).mono ?_; rintro e w5 ⟨rfl, hb5⟩)
              | (go_at_call 11; refine (HD1.out _).mono ?_; rintro e w8 ⟨rfl, rfl⟩)
              | (go_at_call 12; refine (HD2.out _).mono ?_; rintro e w9 ⟨rfl, rfl⟩))
            go_ret
            exact ⟨rfl, HBR.out.trans (hb5.mono HBR.out.size)⟩
end Go.Proofs.Ytcejhfpdajbdcaa.lawTreeNumbers
