/- doorwardref08.Right and what it calls. -/
import Derived.Test.YtfpfcjgdihlieaaEnR
namespace Go.Proofs.Ytfpfcjgdihlieaa
open Go.RowKit
set_option linter.unusedVariables false

theorem sec_false {n : Int} (h : secOk n = false) : n < 54 ∨ (54 ≤ n ∧ 255 < n) := by
  unfold secOk at h; simp only [decide_eq_false_iff_not] at h; omega
theorem sec_true {n : Int} (h : secOk n = true) : 54 ≤ n ∧ n ≤ 255 := by
  unfold secOk at h; simpa only [decide_eq_true_eq] using h
set_option maxRecDepth 100000 in
set_option maxHeartbeats 1000000 in
theorem refIsVer (v : Vr) (w : World) : Calls Try.prog 43 #[v.val] w fun e w' => e = .returned (.bool (verOk v)) ∧ Below w.heap.size w w' := by
  have hw := ver_ways v
  unfold Vr.val
  generalize verOk v = r at *
  obtain ⟨no, src, flt, byt, ins⟩ := v
  simp only at hw ⊢
  have hw2 : (r = false ∧ no < 1) ∨ (1 ≤ no ∧ r = false ∧ 65534 < no) ∨ (1 ≤ no ∧ no ≤ 65534 ∧ r = false ∧ src < 54) ∨ (1 ≤ no ∧ no ≤ 65534 ∧ 54 ≤ src ∧ r = false ∧ 255 < src) ∨
      (1 ≤ no ∧ no ≤ 65534 ∧ 54 ≤ src ∧ src ≤ 255 ∧ r = false ∧ flt < 54) ∨ (1 ≤ no ∧ no ≤ 65534 ∧ 54 ≤ src ∧ src ≤ 255 ∧ 54 ≤ flt ∧ r = false ∧ 255 < flt) ∨
      (1 ≤ no ∧ no ≤ 65534 ∧ 54 ≤ src ∧ src ≤ 255 ∧ 54 ≤ flt ∧ flt ≤ 255 ∧ ((src != flt) = false ∧ r = false ∨ (src != flt) = true ∧ byt < 0 ∧ r = false ∨ (src != flt) = true ∧ 0 ≤ byt ∧ 2000 < byt ∧ r = false ∨ (src != flt) = true ∧ 0 ≤ byt ∧ byt ≤ 2000 ∧ ins < 1 ∧ r = false ∨ (src != flt) = true ∧ 0 ≤ byt ∧ byt ≤ 2000 ∧ 1 ≤ ins ∧ 4096 < ins ∧ r = false ∨ (src != flt) = true ∧ 0 ≤ byt ∧ byt ≤ 2000 ∧ 1 ≤ ins ∧ ins ≤ 4096 ∧ r = true)) := by
    rcases hw with ⟨hr, g1⟩ | ⟨g1, hr, g2⟩ | ⟨g1, g2, hr, hs⟩ | ⟨g1, g2, hs, hr, hf⟩ | ⟨g1, g2, hs, hf, hr, g5⟩ | ⟨g1, g2, hs, hf, g5, hr, g6⟩ | ⟨g1, g2, hs, hf, g5, g6, hr, g7⟩ | ⟨g1, g2, hs, hf, g5, g6, g7, hr, g8⟩ | ⟨g1, g2, hs, hf, g5, g6, g7, g8, hr, g9⟩ | ⟨g1, g2, hs, hf, g5, g6, g7, g8, g9, hr⟩
    · exact .inl ⟨hr, by omega⟩
    · exact .inr (.inl ⟨g1, hr, by omega⟩)
    · rcases sec_false hs with h | ⟨h1, h2⟩
      · exact .inr (.inr (.inl ⟨g1, g2, hr, h⟩))
      · exact .inr (.inr (.inr (.inl ⟨g1, g2, h1, hr, h2⟩)))
    · obtain ⟨s1, s2⟩ := sec_true hs
      rcases sec_false hf with h | ⟨h1, h2⟩
      · exact .inr (.inr (.inr (.inr (.inl ⟨g1, g2, s1, s2, hr, h⟩))))
      · exact .inr (.inr (.inr (.inr (.inr (.inl ⟨g1, g2, s1, s2, h1, hr, h2⟩)))))
    all_goals
      obtain ⟨s1, s2⟩ := sec_true hs
      obtain ⟨f1, f2⟩ := sec_true hf
      refine .inr (.inr (.inr (.inr (.inr (.inr ⟨g1, g2, s1, s2, f1, f2, ?_⟩)))))
    · exact .inl ⟨g5, hr⟩
    · exact .inr (.inl ⟨g5, by omega, hr⟩)
    · exact .inr (.inr (.inl ⟨g5, g6, by omega, hr⟩))
    · exact .inr (.inr (.inr (.inl ⟨g5, g6, g7, by omega, hr⟩)))
    · exact .inr (.inr (.inr (.inr (.inl ⟨g5, g6, g7, g8, by omega, hr⟩))))
    · exact .inr (.inr (.inr (.inr (.inr ⟨g5, g6, g7, g8, g9, hr⟩))))
  clear hw
  rcases hw2 with ⟨hr, g1⟩ | ⟨g1, hr, g2⟩ | ⟨g1, g2, hr, g3⟩ | ⟨g1, g2, g3, hr, g4⟩ | ⟨g1, g2, g3, g4, hr, g5⟩ | ⟨g1, g2, g3, g4, g5, hr, g6⟩ | ⟨g1, g2, g3, g4, g5, g6, ⟨g7, hr⟩ | ⟨g7, g8, hr⟩ | ⟨g7, g8, g9, hr⟩ | ⟨g7, g8, g9, g10, hr⟩ | ⟨g7, g8, g9, g10, g11, hr⟩ | ⟨g7, g8, g9, g10, g11, hr⟩⟩
  all_goals
    subst hr
    go_enter Try.func43, Try.ntmps43
    go_wp2_with fail
    go_ret
    refine ⟨?_, (Below.refl _ _).alloc (Nat.le_refl _) _⟩
    first | rfl | (show Ending.returned (.bool (decide (ins ≤ 4096))) = _; rw [decide_eq_false (by omega)])
theorem refIsVer_is (no src flt byt ins : Int) (r : Bool) (h : verOk ⟨no, src, flt, byt, ins⟩ = r) (w : World) : Calls Try.prog 43 #[.agg #[.int .i64 no, .int .i64 src, .int .i64 flt, .int .i64 byt, .int .i64 ins]] w fun e w' => e = .returned (.bool r) ∧ Below w.heap.size w w' := h ▸ refIsVer ⟨no, src, flt, byt, ins⟩ w
def prevV (l : List Vr) (i : Nat) : Option Int := if i = 0 then none else some (l.getD (i - 1) vrZ).no
def headV? : Option Int → Int → Bool
  | none, _ => true
  | some n, m => decide (n < m)
theorem verR_step (cur nxt : Int) (l : List Vr) (i : Nat) (hi : i < l.length) (p : Option Int) (c : Bool) :
    verLoopR cur nxt p c (l.drop i) = (verOk (l.getD i vrZ) && decide ((l.getD i vrZ).no < nxt) && headV? p (l.getD i vrZ).no && verLoopR cur nxt (prevV l (i + 1)) (c || decide ((l.getD i vrZ).no = cur)) (l.drop (i + 1))) := by
  rw [List.drop_eq_getElem_cons hi, show l.getD i vrZ = l[i] from by simp [List.getD, hi], show prevV l (i + 1) = some l[i].no from by simp [prevV, hi]]
  cases p <;> rfl
set_option maxRecDepth 100000 in
set_option maxHeartbeats 2000000 in
theorem refIsEntry (e : En) (v : Value) (w : World) (h : IsEn w v e) : Calls Try.prog 29 #[v] w fun e' w' => e' = .returned (.bool (entOk e)) ∧ Below w.heap.size w w' := by
  obtain ⟨⟨hb0, hb1, hb2⟩, k, rfl, a, n, cap, rfl, hl, hc1, hc2, hbd, hnil, hat⟩ := h
  obtain ⟨name, cur, nxt, vers⟩ := e
  simp only at hb0 hb1 hb2 hl hbd hat ⊢
  unfold i64ok at hb1 hb2
  rw [← entOkR_eq]
  have hE : entOkR ⟨name, cur, nxt, vers⟩ = (decide (1 ≤ name.size ∧ name.size ≤ 12 ∧ 1 ≤ vers.length ∧ vers.length ≤ 6 ∧ nxt ≤ 65535) && verLoopR cur nxt none false vers) := rfl
  generalize entOkR ⟨name, cur, nxt, vers⟩ = r at *
  rw [hl] at hE
  have hB := heap_alloc_new w (.cells #[.string name, .int .i64 cur, .int .i64 nxt, .slice a n cap] 36)
  have hw := (Below.refl w.heap.size w).alloc (Nat.le_refl _) (.cells #[.string name, .int .i64 cur, .int .i64 nxt, .slice a n cap] 36)
  by_cases hz : 1 ≤ name.size ∧ name.size ≤ 12 ∧ 1 ≤ n ∧ n ≤ 6 ∧ nxt ≤ 65535
  case neg =>
    rw [decide_eq_false hz, Bool.false_and] at hE
    subst hE
    have hz' : ((name.size : Int) < 1) ∨ (¬ ((name.size : Int) < 1) ∧ 12 < (name.size : Int)) ∨ (¬ ((name.size : Int) < 1) ∧ ¬ 12 < (name.size : Int) ∧ (n : Int) < 1) ∨ (¬ ((name.size : Int) < 1) ∧ ¬ 12 < (name.size : Int) ∧ ¬ (n : Int) < 1 ∧ 6 < (n : Int)) ∨ (¬ ((name.size : Int) < 1) ∧ ¬ 12 < (name.size : Int) ∧ ¬ (n : Int) < 1 ∧ ¬ 6 < (n : Int) ∧ 65535 < nxt) := by omega
    clear hz hat hbd hl hB
    rcases hz' with z1 | ⟨z1, z2⟩ | ⟨z1, z2, z3⟩ | ⟨z1, z2, z3, z4⟩ | ⟨z1, z2, z3, z4, z5⟩
    all_goals
      go_enter Try.func29, Try.ntmps29
      go_wp2_with fail
      go_ret
      exact ⟨rfl, hw⟩
  obtain ⟨z1, z2, z3, z4, z5⟩ := hz
  rw [decide_eq_true ⟨z1, z2, z3, z4, z5⟩, Bool.true_and] at hE
  have hE0 : r = verLoopR cur nxt (prevV vers 0) false (vers.drop 0) := hE
  obtain ⟨b, off, rfl, hblt, hat⟩ := hat.resolve_left (by omega)
  have y1 : ¬ ((name.size : Int) < 1) := by omega
  have y2 : ¬ 12 < (name.size : Int) := by omega
  have y3 : ¬ (n : Int) < 1 := by omega
  have y4 : ¬ 6 < (n : Int) := by omega
  have y5 : (n : Int) ≤ 6 := by omega
  have y6 : ¬ 65535 < nxt := by omega
  have HE := Lib.hid hE0; have HL := Lib.hid hl; have HAT := Lib.hid hat; have HBD := Lib.hid hbd; have HB := Lib.hid hB; have HW := Lib.hid hw
  clear hE hE0 hl hat hbd hB hw z1 z2 z3 z4 z5
  go_enter Try.func29, Try.ntmps29
  go_upto_region 3 with fail
  obtain ⟨w1, hW⟩ : ∃ w1, w.alloc (.cells #[.string name, .int .i64 cur, .int .i64 nxt, .slice (some ⟨b, off, none⟩) n cap] 36) = w1 := ⟨_, rfl⟩
  rw [hW] at HB HW ⊢
  clear hW
  have c3 := below_cell (Below.refl _ w1) HB.out 3 rfl
  go_wp2_with fail
  clear c3
  go_loopw [3, 36] (fun y z wr => ∃ (i : Nat) (c : Bool), i ≤ n ∧ z = .int .i64 i ∧ y = .bool c ∧ Hid (r = verLoopR cur nxt (prevV vers i) c (vers.drop i)) ∧ Hid (wr.heap[w.heap.size]? = some (.cells #[.string name, .int .i64 cur, .int .i64 nxt, .slice (some ⟨b, off, none⟩) n cap] 36 (0, 0))) ∧ Hid (Below w.heap.size w wr)) (fun _ z _ => n - (intOf z).toNat)
  case atStart => exact ⟨0, false, Nat.zero_le _, rfl, rfl, HE, HB, HW⟩
  case round =>
    clear HE HB HW
    obtain ⟨i, c, hin, rfl, rfl, HE, HB, HW⟩ := hrel
    by_cases hlt : i < n
    · have hltI : (i : Int) < n := by omega
      have hd := verR_step cur nxt vers i (by rw [HL.out]; exact hlt) (prevV vers i) c
      obtain ⟨v0, v1, v2, v3, v4⟩ := (HAT.out i hlt).below HW.out hblt
      obtain ⟨b0, b1, b2, b3, b4⟩ := HBD.out _ (getD_mem vers i vrZ (by rw [HL.out]; exact hlt))
      have hprev : i = 0 ∨ ∃ j, i = j + 1 ∧ j < n ∧ prevV vers i = some (vers.getD j vrZ).no ∧ wr.cell? ⟨b, off + j * 5, none⟩ = some (.int .i64 (vers.getD j vrZ).no) := by
        cases i with
        | zero => exact .inl rfl
        | succ j =>
          obtain ⟨f0, _⟩ := (HAT.out j (by omega)).below HW.out hblt
          exact .inr ⟨j, rfl, by omega, rfl, f0⟩
      have HP := Lib.hid hprev
      clear hprev
      generalize vers.getD i vrZ = v at *
      obtain ⟨no, src, flt, byt, ins⟩ := v
      unfold i64ok at b0 b1 b2 b3 b4
      simp only at hd v0 v1 v2 v3 v4 b0 b1 b2 b3 b4
      generalize hr : verOk ⟨no, src, flt, byt, ins⟩ = ok at *
      have HR := Lib.hid hr; have HD := Lib.hid hd
      have hn := heap_alloc_new wr (.cells #[.int .i64 no, .int .i64 src, .int .i64 flt, .int .i64 byt, .int .i64 ins] 42)
      have ho := (heap_alloc_old wr (.cells #[.int .i64 no, .int .i64 src, .int .i64 flt, .int .i64 byt, .int .i64 ins] 42) (lt_of_block HB.out)).trans HB.out
      have hal := (Below.refl wr.heap.size wr).alloc (Nat.le_refl _) (.cells #[.int .i64 no, .int .i64 src, .int .i64 flt, .int .i64 byt, .int .i64 ins] 42)
      have HN := Lib.hid hn; have HO := Lib.hid ho; have HAL := Lib.hid hal
      clear hr hd hn ho hal HB
      have hblr : b < wr.heap.size := Nat.lt_of_lt_of_le hblt HW.out.size
      go_upto_region 7 with fail
      obtain ⟨w2, hW⟩ : ∃ w2, wr.alloc (.cells #[.int .i64 no, .int .i64 src, .int .i64 flt, .int .i64 byt, .int .i64 ins] 42) = w2 := ⟨_, rfl⟩
      obtain ⟨V, hV⟩ : ∃ V, wr.heap.size = V := ⟨_, rfl⟩
      rw [hW] at HN HO HAL ⊢
      rw [hV] at HN
      (try rw [hV])
      clear hW hV v0 v1 v2 v3 v4
      have q0 := keep_at HN.out 0 rfl
      have q1 := keep_at HN.out 1 rfl
      have q2 := keep_at HN.out 2 rfl
      have q3 := keep_at HN.out 3 rfl
      have q4 := keep_at HN.out 4 rfl
      have p0 := keep_at HO.out 0 rfl
      have p1 := keep_at HO.out 1 rfl
      have p2 := keep_at HO.out 2 rfl
      have p3 := keep_at HO.out 3 rfl
      have hc : ∀ x : KeepT w2, Calls Try.prog 43 #[.agg #[.int .i64 no, .int .i64 src, .int .i64 flt, .int .i64 byt, .int .i64 ins]] x.val fun e w' => e = .returned (.bool ok) ∧ Below x.val.heap.size x.val w' :=
        fun x => refIsVer_is no src flt byt ins ok HR.out x.val
      have HC := Lib.hid hc
      clear hc
      have hfin : ∀ x : KeepT w2, x.val.heap[w.heap.size]? = some (.cells #[.string name, .int .i64 cur, .int .i64 nxt, .slice (some ⟨b, off, none⟩) n cap] 36 (0, 0)) ∧ x.val.heap[V]? = some (.cells #[.int .i64 no, .int .i64 src, .int .i64 flt, .int .i64 byt, .int .i64 ins] 42 (0, 0)) ∧ Below w.heap.size w x.val :=
        fun x => ⟨(x.below.block _ (lt_of_block HO.out)).trans HO.out, (x.below.block _ (lt_of_block HN.out)).trans HN.out, (HW.out.trans (HAL.out.mono HW.out.size)).trans (x.below.mono (Nat.le_trans HW.out.size HAL.out.size))⟩
      have HX := Lib.hid hfin
      clear hfin
      by_cases hbad : ok = false ∨ nxt ≤ no
      · have hf : r = false := by
          rw [HE.out, HD.out]
          rcases hbad with h | h
          · rw [h]; rfl
          · rw [decide_eq_false (show ¬ no < nxt by omega)]; simp
        subst hf
        clear HP HE HD
        cases ok with
        | false =>
          clear hbad
          refine wp_region_keep (w0 := w2) (by kernel_rfl) (by kernel_rfl) (Below.refl _ _) ?_
          repeat (go_big_quiet_step ((go_at_call 43; exact keepCall (HC.out _))))
          refine wpQuiet_nil ?_
          intro _ hw'
          obtain ⟨x, rfl⟩ := hw'
          go_wp2_with fail
          go_ret
          exact ⟨rfl, (HX.out x).2.2⟩
        | true =>
          have hge : nxt ≤ no := hbad.resolve_left (by decide)
          clear hbad
          refine wp_region_keep (w0 := w2) (by kernel_rfl) (by kernel_rfl) (Below.refl _ _) ?_
          repeat (go_big_quiet_step ((go_at_call 43; exact keepCall (HC.out _))))
          refine wpQuiet_nil ?_
          intro _ hw'
          obtain ⟨x, rfl⟩ := hw'
          go_wp2_with fail
          go_ret
          exact ⟨rfl, (HX.out x).2.2⟩
      · have hok : ok = true := by cases ok with | true => rfl | false => exact absurd (.inl rfl) hbad
        have hlt2 : no < nxt := by omega
        subst hok
        clear hbad
        have hge : decide (nxt ≤ no) = false := decide_eq_false (by omega)
        rcases HP.out with h0 | ⟨j, hj, hjn, hp, hcell⟩
        · have hf : r = verLoopR cur nxt (prevV vers (i + 1)) (c || decide (no = cur)) (vers.drop (i + 1)) := by rw [HE.out, HD.out, h0, decide_eq_true hlt2]; rfl
          have HF := Lib.hid hf
          clear HP hf HE HD
          subst h0
          refine wp_region_keep (w0 := w2) (by kernel_rfl) (by kernel_rfl) (Below.refl _ _) ?_
          repeat (go_big_quiet_step ((go_at_call 43; exact keepCall (HC.out _))))
          refine wpQuiet_nil ?_
          intro _ hw'
          obtain ⟨x, rfl⟩ := hw'
          cases c with
          | true =>
            go_wp2_with fail
            go_roundw
            case rel => exact ⟨0 + 1, true, by omega, by go_num, rfl, HF, Lib.hid (HX.out x).1, Lib.hid (HX.out x).2.2⟩
            case measure => simp [intOf]; omega
          | false =>
            by_cases hcur : no = cur
            · have hq : (no == cur) = true := by simpa using hcur
              rw [decide_eq_true hcur] at HF
              have HCU := Lib.hid hcur
              clear hcur
              go_wp2_with fail
              go_roundw
              case rel => exact ⟨0 + 1, true, by omega, by go_num, rfl, HF, Lib.hid (HX.out x).1, Lib.hid (HX.out x).2.2⟩
              case measure => simp [intOf]; omega
            · have hq : (no == cur) = false := by simpa using hcur
              rw [decide_eq_false hcur] at HF
              clear hcur
              go_wp2_with fail
              go_roundw
              case rel => exact ⟨0 + 1, false, by omega, by go_num, rfl, HF, Lib.hid (HX.out x).1, Lib.hid (HX.out x).2.2⟩
              case measure => simp [intOf]; omega
        · have hst := HD.out
          rw [hp] at hst
          have hr0 := HE.out
          rw [hp] at hr0
          generalize (vers.getD j vrZ).no = pn at *
          have hpc : ∀ x : KeepT w2, x.val.cell? ⟨b, off + j * 5, none⟩ = some (.int .i64 pn) := fun x => (x.below.cell (p := ⟨b, off + j * 5, none⟩) (Nat.lt_of_lt_of_le hblr HAL.out.size)).trans ((HAL.out.cell (p := ⟨b, off + j * 5, none⟩) hblr).trans hcell)
          subst hj
          have hi0 : 0 < ((j + 1 : Nat) : Int) := by omega
          have hi1 : 0 < (j : Int) + 1 := by omega
          have hs1 : IntKind.i64.wrap ((j : Int) + 1 - 1) = j := IntWalk.i64_in _ (by omega) |>.trans (by omega)
          have hs2 : (j : Int) + 1 - 1 = j := by omega
          have hjI : (j : Int) < n := by omega
          clear hcell HP HD hp HE
          by_cases hbb : no ≤ pn
          · have hf : r = false := by rw [hr0, hst, headV?, decide_eq_false (show ¬ pn < no by omega)]; simp
            clear hr0
            subst hf
            clear hst
            refine wp_region_keep (w0 := w2) (by kernel_rfl) (by kernel_rfl) (Below.refl _ _) ?_
            repeat (go_big_quiet_step ((go_at_call 43; exact keepCall (HC.out _))))
            refine wpQuiet_nil ?_
            intro _ hw'
            obtain ⟨x, rfl⟩ := hw'
            go_wp2_with fail
            go_ret
            exact ⟨rfl, (HX.out x).2.2⟩
          · have hf : r = verLoopR cur nxt (prevV vers (j + 1 + 1)) (c || decide (no = cur)) (vers.drop (j + 1 + 1)) := by rw [hr0, hst, headV?, decide_eq_true hlt2, decide_eq_true (show pn < no by omega)]; rfl
            have HF := Lib.hid hf
            have hgp : decide (no ≤ pn) = false := decide_eq_false hbb
            clear hf hst hr0
            refine wp_region_keep (w0 := w2) (by kernel_rfl) (by kernel_rfl) (Below.refl _ _) ?_
            repeat (go_big_quiet_step ((go_at_call 43; exact keepCall (HC.out _))))
            refine wpQuiet_nil ?_
            intro _ hw'
            obtain ⟨x, rfl⟩ := hw'
            cases c with
            | true =>
              go_wp2_with fail
              go_roundw
              case rel => exact ⟨j + 1 + 1, true, by omega, by go_num, rfl, HF, Lib.hid (HX.out x).1, Lib.hid (HX.out x).2.2⟩
              case measure => simp [intOf]; omega
            | false =>
              by_cases hcur : no = cur
              · have hq : (no == cur) = true := by simpa using hcur
                rw [decide_eq_true hcur] at HF
                have HCU := Lib.hid hcur
                clear hcur
                go_wp2_with fail
                go_roundw
                case rel => exact ⟨j + 1 + 1, true, by omega, by go_num, rfl, HF, Lib.hid (HX.out x).1, Lib.hid (HX.out x).2.2⟩
                case measure => simp [intOf]; omega
              · have hq : (no == cur) = false := by simpa using hcur
                rw [decide_eq_false hcur] at HF
                clear hcur
                go_wp2_with fail
                go_roundw
                case rel => exact ⟨j + 1 + 1, false, by omega, by go_num, rfl, HF, Lib.hid (HX.out x).1, Lib.hid (HX.out x).2.2⟩
                case measure => simp [intOf]; omega
    · have hin : i = n := by omega
      have hd : vers.drop i = [] := List.drop_eq_nil_of_le (by rw [HL.out]; omega)
      rw [hd] at HE
      have HF : Hid (r = c) := Lib.hid HE.out
      have hnl : ¬ (i : Int) < n := by omega
      clear HE hd hin
      obtain rfl := HF.out
      clear HF
      go_wp2_with fail
      go_ret
      exact ⟨rfl, HW.out⟩
theorem refIsEntry_is (name : ByteArray) (cur nxt : Int) (vers : List Vr) (k : Value) (r : Bool) (h : entOk ⟨name, cur, nxt, vers⟩ = r) (w : World) (hk : IsVrs w k vers) (hb : (⟨name, cur, nxt, vers⟩ : En).bounded) :
    Calls Try.prog 29 #[.agg #[.string name, .int .i64 cur, .int .i64 nxt, k]] w fun e w' => e = .returned (.bool r) ∧ Below w.heap.size w w' := h ▸ refIsEntry ⟨name, cur, nxt, vers⟩ _ w ⟨hb, k, rfl, hk⟩
end Go.Proofs.Ytfpfcjgdihlieaa
