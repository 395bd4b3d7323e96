/- doorwardref07.Load. -/
import Derived.Test.YtimiooiaohfelaaDoorBd3
namespace Go.Proofs.YtimiooiaohfelaaDoor
open Go.RowKit
set_option linter.unusedVariables false
set_option linter.unusedSimpArgs false

theorem dirty_mono {N : Nat} : ∀ {p : Int} {l : List Wrt}, dirtyB N p l = true → (∀ x ∈ l, p < x.sector) ∧ ∀ i j, i < j → j < l.length → (l.getD i wrtZ).sector < (l.getD j wrtZ).sector
  | _, [], _ => ⟨fun x hx => absurd hx (by simp), fun i j _ hj => absurd hj (by simp)⟩
  | p, y :: l, h => by
    unfold dirtyB at h
    rw [Bool.and_eq_true, Bool.and_eq_true, Bool.and_eq_true, decide_eq_true_eq] at h
    obtain ⟨h1, h2⟩ := dirty_mono h.2
    refine ⟨fun x hx => ?_, fun i j hij hj => ?_⟩
    · rcases List.mem_cons.1 hx with rfl | hx
      · exact h.1.1.2
      · exact Int.lt_trans h.1.1.2 (h1 x hx)
    · cases j with
      | zero => omega
      | succ j =>
        have hjl : j < l.length := by simpa using hj
        cases i with
        | zero =>
          rw [List.getD_cons_zero, List.getD_cons_succ, show l.getD j wrtZ = l[j] from by simp [List.getD, hjl]]
          exact h1 _ (List.getElem_mem hjl)
        | succ i => rw [List.getD_cons_succ, List.getD_cons_succ]; exact h2 i j (by omega) hjl
def SeenAt (W : World) (S K : Nat) (ss : List Nat) : Prop := ∃ sn : List Bool, W.heap[S]? = some (.cells (sn.map Value.bool).toArray 4 (0, 0)) ∧ sn.length = K ∧ ∀ j, j < K → sn.getD j false = ss.contains j
theorem SeenAt.cell {W : World} {S K : Nat} {ss : List Nat} (h : SeenAt W S K ss) {j : Nat} (hj : j < K) : W.cell? ⟨S, j, none⟩ = some (.bool (ss.contains j)) ∧ W.frozen? ⟨S, j, none⟩ = false := by
  obtain ⟨sn, h1, h2, h3⟩ := h
  refine ⟨?_, block_frozen h1 j⟩
  rw [cell_of_row _ _ _ _ _ _ h1, ← h3 j hj]
  simp [List.getD, show j < sn.length by omega]
theorem SeenAt.old {W W' : World} {S K : Nat} {ss : List Nat} (h : SeenAt W S K ss) (hb : ∀ cs, W.heap[S]? = some (.cells cs 4 (0, 0)) → W'.heap[S]? = some (.cells cs 4 (0, 0))) : SeenAt W' S K ss := by
  obtain ⟨sn, h1, h2⟩ := h
  exact ⟨sn, hb _ h1, h2⟩
theorem SeenAt.lt {W : World} {S K : Nat} {ss : List Nat} (h : SeenAt W S K ss) : S < W.heap.size := by obtain ⟨sn, h1, _⟩ := h; exact lt_of_block h1
theorem SeenAt.put {W : World} {S K : Nat} {ss : List Nat} (h : SeenAt W S K ss) {j : Nat} (hj : j < K) : SeenAt (W.setCell ⟨S, j, none⟩ (.bool true)) S K (ss ++ [j]) := by
  obtain ⟨sn, h1, h2, h3⟩ := h
  refine ⟨sn.set j true, ?_, by rw [List.length_set]; exact h2, fun i hi => ?_⟩
  · have := block_set h1 j (.bool true)
    rw [arr_set] at this
    exact this
  · by_cases hij : j = i
    · subst hij
      simp [List.getD, show j < sn.length by omega]
    · rw [show (sn.set j true).getD i false = sn.getD i false from by simp [List.getD, List.getElem?_set, hij], h3 i hi]
      simp [show ¬ i = j from fun e => hij e.symm]
set_option maxRecDepth 100000 in
set_option maxHeartbeats 8000000 in
theorem refLoad7 (v : Value) (l : Lg) (n : Int) (w : World) (h : IsLog w v l) (hn : i64ok n) :
    Calls Tryd.prog 6 #[v, .int .i64 n] w (LoadPost l n w) := by
  obtain ⟨i0, hi, hz0, hz1, hz2⟩ := info_parts infoInt
  obtain ⟨x1, x2, x3, x4, x5, x6, rfl, _⟩ := id h.form
  obtain ⟨B, hB⟩ : ∃ B, w.heap.size = B := ⟨_, rfl⟩
  have hR := Lib.hid (fun u (hu : Below w.heap.size w u) => refRight5_any _ l u (h.below hu))
  have HIS := Lib.hid h
  obtain ⟨K, hK⟩ : ∃ K, l.secs.length = K := ⟨_, rfl⟩
  have HKK := Lib.hid hK
  rw [hK] at hR HIS ⊢
  have hbk := heap_alloc_new w (.cells #[.slice x1 K x2, .slice x3 l.pend.length x4, .int .i64 l.left, .int .i64 l.epoch, .int .i64 l.seq, .int .i64 l.used, .slice x5 l.dirty.length x6] 29)
  have hal := (Below.refl w.heap.size w).alloc (Nat.le_refl _) (.cells #[.slice x1 K x2, .slice x3 l.pend.length x4, .int .i64 l.left, .int .i64 l.epoch, .int .i64 l.seq, .int .i64 l.used, .slice x5 l.dirty.length x6] 29)
  rw [hB] at hbk
  have HBK := Lib.hid hbk; have HAL := Lib.hid hal; have HBQ := Lib.hid hB
  have HIN := Lib.hid hn
  clear h hbk hal hB hn hK
  go_enter Tryd.func6, Tryd.ntmps6
  go_upto_region 1 with fail
  (try rw [HBQ.out])
  obtain ⟨u, hU⟩ : ∃ u, w.alloc (.cells #[.slice x1 K x2, .slice x3 l.pend.length x4, .int .i64 l.left, .int .i64 l.epoch, .int .i64 l.seq, .int .i64 l.used, .slice x5 l.dirty.length x6] 29) = u := ⟨_, rfl⟩
  rw [hU] at HBK HAL ⊢
  clear hU
  have d0 := below_cell (Below.refl _ u) HBK.out 0 rfl
  have d1 := below_cell (Below.refl _ u) HBK.out 1 rfl
  have d2 := below_cell (Below.refl _ u) HBK.out 2 rfl
  have d3 := below_cell (Below.refl _ u) HBK.out 3 rfl
  have d4 := below_cell (Below.refl _ u) HBK.out 4 rfl
  have d5 := below_cell (Below.refl _ u) HBK.out 5 rfl
  have d6 := below_cell (Below.refl _ u) HBK.out 6 rfl
  by_cases hr : rightL l = true
  rotate_left
  · have hr' : rightL l = false := by simpa using hr
    have hRu := hR.out u HAL.out
    rw [hr'] at hRu
    have HRU := Lib.hid hRu
    have hpost : ∀ w', Below w.heap.size w w' → LoadPost l n w (.returned (.tuple #[.string ⟨#[]⟩, .slice none 0 0, .int .i64 1])) w' := fun w' hb => by
      refine ⟨⟨.slice none 0 0, ?_, ?_⟩, hb⟩
      · unfold ldD ldE ldO; rw [if_neg hr, if_neg hr]; rfl
      · unfold ldD ldO; rw [if_neg hr]; exact nats_nil w'
    have HPO := Lib.hid hpost
    clear hRu hpost hr hr'
    go_wp2_with (first | (go_at_call 12; refine HRU.out.mono ?_; rintro e w1 ⟨rfl, hb⟩))
    refine bodyPost_ret (results_tmp3 rfl _ _ _) rfl ?_
    exact HPO.out _ (HAL.out.trans (hb.mono HAL.out.size))
  · have hRu := hR.out u HAL.out
    rw [hr] at hRu
    have HRU := Lib.hid hRu; have HRR := Lib.hid hr
    obtain ⟨R, hRR⟩ : ∃ R, ldF l 41 n ⟨#[]⟩ [] = R := ⟨_, rfl⟩
    have HRE := Lib.hid hRR
    have hK256 : K ≤ 256 := by rw [← HKK.out]; exact (right_dirty hr).2.1
    have hmono := (dirty_mono (right_dirty hr).1).2
    have HT := Lib.hid (fun (u : World) (x : Nat) (hu : Below w.heap.size w u) (hx : x < K) => refTells5_any _ l x u (HIS.out.below hu) (by rw [HKK.out]; exact hx) hmono)
    have HSZ := Lib.hid (fun x : Int => tellsW_512 hr x)
    have hmk := make_bools K (by omega)
    have hKI : (K : Int) ≤ 256 := by omega
    clear hRu hr hRR hmono
    go_upto_region 5 with (first | (go_at_call 12; refine HRU.out.mono ?_; rintro e w1 ⟨rfl, hb⟩))
    have hn2 := heap_alloc_new w1 (.cells #[] 3)
    have ha2 := (Below.refl w1.heap.size w1).alloc (Nat.le_refl _) (.cells #[] 3)
    have hb12 : Below u.heap.size u (w1.alloc (.cells #[] 3)) := hb.trans (ha2.mono hb.size)
    obtain ⟨G0, hG0⟩ : ∃ G0, w1.heap.size = G0 := ⟨_, rfl⟩
    have hG0w : w.heap.size ≤ G0 := by rw [← hG0]; exact Nat.le_trans HAL.out.size hb.size
    rw [hG0] at hn2
    (try rw [hG0])
    obtain ⟨w2, hW2⟩ : ∃ w2, w1.alloc (.cells #[] 3) = w2 := ⟨_, rfl⟩
    rw [hW2] at hn2 hb12 ⊢
    have hk2 := (hb12.block _ (lt_of_block HBK.out)).trans HBK.out
    have hb2 := HAL.out.trans (hb12.mono HAL.out.size)
    have hown2 : w2.ownsRow w.heap.size 3 1 (.slice (some ⟨G0, 0, none⟩) 0 0) 0 [] := ⟨rfl, .inr ⟨G0, 0, #[], rfl, hG0w, hn2, by omega, by unfold maxLen; omega, rfl, rfl⟩⟩
    have HK2 := Lib.hid hk2; have HB2 := Lib.hid hb2; have HO2 := Lib.hid hown2
    clear hn2 ha2 hb12 hG0 hG0w hW2 hk2 hb2 hown2 hb HBK HAL d0 d1 d2 d3 d4 d5 d6 HRU
    have d0 := below_cell (Below.refl _ w2) HK2.out 0 rfl
    go_upto_region 6 with fail
    have hn3 := heap_alloc_new w2 (.cells ((newK K 0).map Value.bool).toArray 4)
    have ha3 := (Below.refl w2.heap.size w2).alloc (Nat.le_refl _) (.cells ((newK K 0).map Value.bool).toArray 4)
    obtain ⟨S, hS⟩ : ∃ S, w2.heap.size = S := ⟨_, rfl⟩
    have hSB : B < S := by rw [← hS]; exact lt_of_block HK2.out
    have hSw : w.heap.size ≤ S := by rw [← hS]; exact HB2.out.size
    rw [hS] at hn3
    (try rw [hS])
    obtain ⟨w3, hW3⟩ : ∃ w3, w2.alloc (.cells ((newK K 0).map Value.bool).toArray 4) = w3 := ⟨_, rfl⟩
    rw [hW3] at hn3 ha3 ⊢
    have HK1 := Lib.hid ((ha3.block _ (lt_of_block HK2.out)).trans HK2.out)
    have HB1 := Lib.hid (HB2.out.trans (ha3.mono HB2.out.size))
    have HO1 := Lib.hid (own_keep2 HO2.out ha3)
    have HSN := Lib.hid (show SeenAt w3 S K [] from ⟨newK K 0, hn3, newK_len K 0, fun j hj => by simp [newK, List.getD, hj]⟩)
    have HSB := Lib.hid hSB; have HSW := Lib.hid hSw
    clear hn3 ha3 hS hSB hSw hW3 HK2 HB2 HO2 d0 hmk
    go_wp2_with fail
    go_loopw [7, 8, 10] (fun z7 z8 z9 wr => ∃ (d : ByteArray) (A : Option Addr) (c : Nat) (ss : List Nat) (x : Int), z7 = .string d ∧ z8 = .slice A ss.length c ∧ z9 = .int .i64 x ∧ ss.length ≤ 40 ∧ d.size ≤ 500 * ss.length ∧ Hid (i64ok x) ∧ Hid (wr.ownsRow w.heap.size 3 1 (.slice A ss.length c) ss.length (ss.map natV)) ∧ Hid (ldF l (41 - ss.length) x d ss = R) ∧ Hid (Below w.heap.size w wr) ∧ Hid (wr.heap[B]? = some (.cells #[.slice x1 K x2, .slice x3 l.pend.length x4, .int .i64 l.left, .int .i64 l.epoch, .int .i64 l.seq, .int .i64 l.used, .slice x5 l.dirty.length x6] 29 (0, 0))) ∧ Hid (SeenAt wr S K ss)) (fun _ z8 _ _ => 41 - lenV z8)
    case atStart => exact ⟨⟨#[]⟩, some ⟨G0, 0, none⟩, 0, [], n, rfl, rfl, rfl, by simp, by simp [ByteArray.size], HIN, HO1, HRE, HB1, HK1, HSN⟩
    case round =>
      clear HIN HB1 HK1 HO1 HSN
      obtain ⟨d, A, c, ss, x, rfl, rfl, rfl, hs40, hds, HIX, HO, HL, HB1, HK1, HSN⟩ := hrel
      obtain ⟨m, hm⟩ : ∃ m, ss.length = m := ⟨_, rfl⟩
      rw [hm] at HO HL hs40 hds ⊢
      have d0 := below_cell (Below.refl _ wr) HK1.out 0 rfl
      have d1 := below_cell (Below.refl _ wr) HK1.out 1 rfl
      have d2 := below_cell (Below.refl _ wr) HK1.out 2 rfl
      have d3 := below_cell (Below.refl _ wr) HK1.out 3 rfl
      have d4 := below_cell (Below.refl _ wr) HK1.out 4 rfl
      have d5 := below_cell (Below.refl _ wr) HK1.out 5 rfl
      have d6 := below_cell (Below.refl _ wr) HK1.out 6 rfl
      have hmI : (m : Int) ≤ 40 := by omega
      have hbb := HB1.out
      by_cases h54 : 54 ≤ x
      rotate_left
      · have hst : stepP l x ss = false := by unfold stepP fitP; rw [decide_eq_false (by omega)]; rfl
        have HN := Lib.hid (show R = none by rw [← HL.out]; exact ldF_no hst _ _)
        have h54I : x < 54 := by omega
        clear hst HL HO hm
        go_wp2_with fail
        refine bodyPost_ret (results_tmp3 rfl _ _ _) rfl ?_
        exact load_no HRR.out (HRE.out.trans HN.out) hbb
      · obtain ⟨X, rfl⟩ : ∃ X : Nat, x = X := ⟨x.toNat, by omega⟩
        have h54I : ¬ (X : Int) < 54 := by omega
        by_cases hxK : X < K
        rotate_left
        · have hst : stepP l (X : Int) ss = false := by
            unfold stepP
            cases hf : fitP l (X : Int) with
            | false => rfl
            | true =>
              have := (fit_facts hf).2.2.1
              rw [HKK.out] at this
              omega
          have HN := Lib.hid (show R = none by rw [← HL.out]; exact ldF_no hst _ _)
          have hxI : (K : Int) ≤ X := by omega
          have hxN : K ≤ X := by omega
          clear hst HL HO hm
          go_wp2_with fail
          refine bodyPost_ret (results_tmp3 rfl _ _ _) rfl ?_
          exact load_no HRR.out (HRE.out.trans HN.out) hbb
        · have hxI : ¬ (K : Int) ≤ X := by omega
          have hxN : ¬ K ≤ X := by omega
          have hxI2 : (X : Int) < K := by omega
          obtain ⟨hsc, hsf⟩ := HSN.out.cell hxK
          cases hct : ss.contains X with
          | true =>
            have hst : stepP l (X : Int) ss = false := by
              unfold stepP
              rw [Int.toNat_natCast, hct]
              simp
            have HN := Lib.hid (show R = none by rw [← HL.out]; exact ldF_no hst _ _)
            rw [hct] at hsc
            clear hst HL HO hm hct
            go_wp2_with fail
            refine bodyPost_ret (results_tmp3 rfl _ _ _) rfl ?_
            exact load_no HRR.out (HRE.out.trans HN.out) hbb
          | false =>
            rw [hct] at hsc
            by_cases h40 : m = 40
            · have hst : stepP l (X : Int) ss = false := by
                unfold stepP
                rw [hm, decide_eq_false (show ¬ m ≠ 40 by omega), Bool.and_false]
              have HN := Lib.hid (show R = none by rw [← HL.out]; exact ldF_no hst _ _)
              clear hst HL HO hm hct
              subst h40
              go_wp2_with fail
              refine bodyPost_ret (results_tmp3 rfl _ _ _) rfl ?_
              exact load_no HRR.out (HRE.out.trans HN.out) hbb
            · have h40I : ¬ (m : Int) = 40 := by omega
              have h40B : ((m : Int) == 40) = false := by rw [beq_eq_false_iff_ne]; omega
              have h40N : (m == 40) = false := by rw [beq_eq_false_iff_ne]; exact h40
              have hfit : fitP l (X : Int) = isP (tellsW l X) := by
                unfold fitP readWE homeB
                rw [if_pos HRR.out, decide_eq_true (show (53 : Int) ≤ X ∧ (X : Int) < (l.secs.length : Int) from ⟨by omega, by rw [HKK.out]; omega⟩), if_pos rfl, decide_eq_true (show (0 : Int) = 0 ∧ (54 : Int) ≤ X from ⟨rfl, by omega⟩), Bool.true_and]
              have htl := HT.out _ X HB1.out hxK
              have hpt := fun u => refPart7 (tellsW l X) u (HSZ.out X)
              have hnx : nextP (tellsW l X) ≤ 65535 := nextP_le _ (HSZ.out X)
              obtain ⟨BP, hBP⟩ : ∃ BP, bodyP (tellsW l (X : Int)) = BP := ⟨_, rfl⟩
              obtain ⟨N, hN⟩ : ∃ N, nextP (tellsW l (X : Int)) = N := ⟨_, rfl⟩
              obtain ⟨T, hT⟩ : ∃ T, tellsW l (X : Int) = T := ⟨_, rfl⟩
              cases hf : isP (tellsW l (X : Int)) with
              | false =>
                have hst : stepP l (X : Int) ss = false := by unfold stepP; rw [hfit, hf]; rfl
                have HN := Lib.hid (show R = none by rw [← HL.out]; exact ldF_no hst _ _)
                unfold RPart at hpt
                rw [hf] at hpt
                rw [hT] at hpt htl
                have HPT := Lib.hid hpt; have HTL := Lib.hid htl
                clear hst HL HO hm hct hpt htl hBP hN hT hf hfit hnx
                go_wp2_with (first | (go_at_call 14; refine HTL.out.mono ?_; rintro e w4 ⟨rfl, hb4⟩) | (go_at_call 13; refine (HPT.out _).mono ?_; rintro e w5 ⟨⟨pa, pb, rfl, _⟩, hb5⟩))
                have hbb2 := hbb.trans ((hb4.trans (hb5.mono hb4.size)).mono hbb.size)
                refine bodyPost_ret (results_tmp3 rfl _ _ _) rfl ?_
                exact load_no HRR.out (HRE.out.trans HN.out) hbb2
              | true =>
                have hst : stepP l (X : Int) ss = !(decide (BP.size = 0) && decide (0 < m)) := by
                  unfold stepP
                  rw [hfit, hf, hBP, hm, Int.toNat_natCast, hct, decide_eq_true h40]
                  simp
                have hgo0 : ∀ f, stepP l (X : Int) ss = true → ldF l (f + 1) X d ss = if N = 0 then some (d ++ BP, ss ++ [X]) else ldF l f (N : Int) (d ++ BP) (ss ++ [X]) := fun f h => by
                  by_cases hz : N = 0
                  · rw [if_pos hz, ldF_end h (by rw [hN]; exact hz), hBP]; rfl
                  · rw [if_neg hz, ldF_go h (by rw [hN]; exact hz), hBP, hN]; rfl
                have hbz5 : BP.size ≤ 500 := by rw [← hBP]; exact (fit_facts (hfit.trans hf)).2.2.2.2.1
                unfold RPart at hpt
                rw [hf, hBP, hN] at hpt
                rw [hN] at hnx
                rw [hT] at hpt htl
                have HPT := Lib.hid hpt; have HTL := Lib.hid htl
                have HST := Lib.hid hst; have HGO := Lib.hid hgo0
                clear hpt htl hst hgo0 hf hBP hN hT hfit hct
                have hnI : (N : Int) ≤ 65535 := by omega
                have hm0 : d.size ≤ 20000 := by omega
                go_upto_region 10 with (first | (go_at_call 14; refine HTL.out.mono ?_; rintro e w4 ⟨rfl, hb4⟩) | (go_at_call 13; refine (HPT.out _).mono ?_; rintro e w5 ⟨⟨pa, pb, rfl, hpab⟩, hb5⟩; obtain ⟨e1, e2⟩ := hpab (by trivial); subst e1; have e3 := e2.symm; clear e2; subst e3; clear hpab))
                have hbb2 := hbb.trans ((hb4.trans (hb5.mono hb4.size)).mono hbb.size)
                have hb45 := hb4.trans (hb5.mono hb4.size)
                have HO2 := Lib.hid (own_keep2 HO.out hb45)
                have HK2 := Lib.hid ((hb45.block _ (lt_of_block HK1.out)).trans HK1.out)
                have HS2 := Lib.hid (HSN.out.old (W' := w5) (fun cs hc => (hb45.block _ (lt_of_block hc)).trans hc))
                have HBB := Lib.hid hbb2
                clear hb4 hb5 hb45 hbb hbb2 HO HK1 HB1 HSN HPT HTL d0 d1 d2 d3 d4 d5 d6 hsc hsf
                by_cases hemp : BP.size = 0 ∧ 0 < m
                · have hno : R = none := by
                    rw [← HL.out]
                    refine ldF_no ?_ _ _
                    rw [HST.out, decide_eq_true hemp.1, decide_eq_true hemp.2]; rfl
                  have HN := Lib.hid hno
                  have hpb : BP.toList.isEmpty = true := by rw [empL]; exact decide_eq_true hemp.1
                  have hpb2 : (BP.toList == []) = true := by rw [← hpb]; cases BP.toList <;> rfl
                  have hm0I : (0 : Int) < m := by omega
                  have hm0N : 0 < m := hemp.2
                  have hbb := HBB.out
                  clear hno hemp hm
                  go_wp2_with fail
                  refine bodyPost_ret (results_tmp3 rfl _ _ _) rfl ?_
                  exact load_no HRR.out (HRE.out.trans HN.out) hbb
                · have hE : (decide (BP.size = 0) && decide (0 < m)) = false := by
                    rw [← Bool.decide_and]; exact decide_eq_false hemp
                  rw [hE] at HST
                  have HST2 := Lib.hid (show stepP l (X : Int) ss = true from HST.out)
                  clear HST
                  obtain ⟨bE, hbE⟩ : ∃ bE, BP.toList.isEmpty = bE := ⟨_, rfl⟩
                  have hpb2 : (BP.toList == []) = bE := by rw [← hbE]; cases BP.toList <;> rfl
                  have hme : bE = true → ¬ 0 < m := fun h1 h2 => hemp ⟨by
                    rw [h1, empL] at hbE
                    exact of_decide_eq_true hbE, h2⟩
                  clear hemp hE
                  have hg := HGO.out (40 - m) HST2.out
                  rw [show 40 - m + 1 = 41 - m by omega, HL.out] at hg
                  have HG := Lib.hid hg
                  have hadd := add_run (P := Tryd.prog) d BP _ rfl (by omega)
                  have hds2 : (d ++ BP).size ≤ 500 * (m + 1) := by rw [ByteArray.size_append]; omega
                  generalize d ++ BP = D2 at hadd HG hds2
                  clear hg HGO HST2 HL
                  go_cut [65] (fun s13 wx => s13 = .bool false ∧ wx = w5)
                  case first =>
                    by_cases hm0 : 0 < m
                    · have hm0I : (0 : Int) < m := by omega
                      cases bE with
                      | true => exact absurd hm0 (hme rfl)
                      | false =>
                        go_wp2_with fail
                        go_meet
                        exact ⟨rfl, rfl⟩
                    · have hm0I : ¬ (0 : Int) < m := by omega
                      cases bE with
                      | true =>
                        go_wp2_with fail
                        go_meet
                        exact ⟨by first | rfl | simp, rfl⟩
                      | false =>
                        go_wp2_with fail
                        go_meet
                        exact ⟨rfl, rfl⟩
                  case rest =>
                    obtain ⟨rfl, ew⟩ := hcut
                    have ew' := ew.symm
                    clear ew
                    subst ew'
                    clear hme hpb2 hbE
                    obtain ⟨hsc, hsf⟩ := HS2.out.cell hxK
                    obtain ⟨snq, hq1, hq2⟩ := id HS2.out
                    have hmm := HS2.out.put hxK
                    have hkB : (w5.setCell ⟨S, X, none⟩ (.bool true)).heap[B]? = some (.cells #[.slice x1 K x2, .slice x3 l.pend.length x4, .int .i64 l.left, .int .i64 l.epoch, .int .i64 l.seq, .int .i64 l.used, .slice x5 l.dirty.length x6] 29 (0, 0)) :=
                      (Below.heap_setCell w5 ⟨S, X, none⟩ (.bool true) B (by have := HSB.out; show B ≠ S; omega)).trans HK2.out
                    have hbS : Below w.heap.size w (w5.setCell ⟨S, X, none⟩ (.bool true)) := HBB.out.setCell (p := ⟨S, X, none⟩) HSW.out (.bool true)
                    have hoS := own_setCell HO2.out hq1 (by decide) X (.bool true)
                    clear hq1 hq2 snq
                    go_upto_region 13 with fail
                    obtain ⟨w7, hW7⟩ : ∃ w7, w5.setCell ⟨S, X, none⟩ (.bool true) = w7 := ⟨_, rfl⟩
                    rw [hW7] at hmm hkB hbS hoS ⊢
                    have HO3 := Lib.hid hoS; have HK3 := Lib.hid hkB; have HB3 := Lib.hid hbS; have HS3 := Lib.hid hmm
                    clear hW7 hmm hkB hbS hoS
                    go_wp2_with (first
                      | (at_builtin; go_must (refine wpList_push2 _ _ 31 3 (.int .i64 (X : Nat)) HO3.out HB3.out (Nat.le_refl _) Tryd.underlying31 hi hz0 hz1 hz2 rfl rfl rfl rfl rfl rfl ?c1 ?_)))
                    case c1 => omega
                    intro v' w6 hown4 hbel4 hkeep
                    have hk4 := hkeep B _ _ HK3.out (by decide)
                    have hs4 := HS3.out.old (W' := w6) (fun cs hc => hkeep S _ _ hc (by decide))
                    have hmap : ss.map natV ++ [.int .i64 (X : Nat)] = (ss ++ [X]).map natV := by simp [natV]
                    rw [hmap] at hown4
                    obtain ⟨A4, c4, rfl, _, _⟩ := own_form1 hown4
                    have HO4 := Lib.hid hown4; have HB4 := Lib.hid hbel4; have HK4 := Lib.hid hk4; have HS4 := Lib.hid hs4
                    have hlen : (ss ++ [X]).length = m + 1 := by rw [List.length_append, hm]; rfl
                    have HLEN := Lib.hid hlen
                    clear hkeep hk4 hs4 hown4 hbel4 hmap hlen HO2 HK2 HBB HS2 HO3 HK3 HB3 HS3 hm
                    by_cases hz : N = 0
                    · rw [if_pos hz] at HG
                      subst hz
                      go_wp2_with fail
                      refine bodyPost_ret (results_tmp3 rfl _ _ _) rfl ?_
                      exact load_yes HRR.out (HRE.out.trans HG.out) (own_reads1 HO4.out HLEN.out) HB4.out
                    · rw [if_neg hz] at HG
                      have hzB : ((N : Int) == 0) = false := by simpa using hz
                      have hzC : ((N : Int) != 0) = true := by simpa using hz
                      have hzN : (N == 0) = false := by simpa using hz
                      have hzM : (N != 0) = true := by simpa using hz
                      go_wp2_with fail
                      exact ⟨⟨D2, A4, c4, ss ++ [X], (N : Int), rfl, by rw [HLEN.out], rfl, by rw [HLEN.out]; omega, by rw [HLEN.out]; exact hds2, Lib.hid (by constructor <;> omega), Lib.hid (by rw [HLEN.out]; exact HO4.out), Lib.hid (by rw [HLEN.out, show 41 - (m + 1) = 40 - m by omega]; exact HG.out.symm), HB4, HK4, HS4⟩, by simp [lenV]; omega⟩
end Go.Proofs.YtimiooiaohfelaaDoor
