/- The walk of WalNews. -/
import Derived.Test.YthnmnnlbglpjaaaDoorPk5
import Derived.Test.YthnmnnlbglpjaaaDoorPk4
import Derived.Test.YthnmnnlbglpjaaaDoorPk6
import Derived.Outline
namespace Go.Proofs.YthnmnnlbglpjaaaDoor.lawWalNews
open Go.RowKit
set_option linter.unusedVariables false
set_option linter.unusedSimpArgs false

def fewLg (l : Lg) : Lg := ⟨l.secs.take (min l.secs.length 300), l.pend.take (min l.pend.length 60), l.left, l.epoch, l.seq, l.used, l.dirty.take (min l.dirty.length 250)⟩
theorem newLg_right (k : Nat) (h : 64 ≤ k ∧ k ≤ 256) : rightL (newLg k) = true := by
  have hin : (64 : Int) ≤ k ∧ (k : Int) ≤ 256 := by omega
  unfold newLg
  rw [if_pos hin, Int.toNat_natCast, rightL_eq]
  have hfit : fitsB newS = true := by
    have h1 := super_lay 1
    have h2 : trimS newS = newS := trimS_twice _
    exact decide_eq_true ⟨by rw [← h2]; exact h1, h2⟩
  have h0 : fitsB ⟨#[]⟩ = true := decide_eq_true ⟨by show 0 ≤ 512; omega, by decide⟩
  have hall : ((List.replicate k (⟨#[]⟩ : ByteArray)).set 0 newS).all fitsB = true := List.all_eq_true.2 (fun x hx => by
    rcases List.mem_or_eq_of_mem_set hx with h | rfl
    · rw [List.eq_of_mem_replicate h]; exact h0
    · exact hfit)
  have hlen : ((List.replicate k (⟨#[]⟩ : ByteArray)).set 0 newS).length = k := by simp
  have e1 : rightD (Lg.dsk ⟨(List.replicate k ⟨#[]⟩).set 0 newS, [], -1, 1, 0, 0, []⟩) = true := by
    show (decide (1 ≤ ((List.replicate k (⟨#[]⟩ : ByteArray)).set 0 newS).length ∧ ((List.replicate k (⟨#[]⟩ : ByteArray)).set 0 newS).length ≤ 256) && ((List.replicate k (⟨#[]⟩ : ByteArray)).set 0 newS).all fitsB && [].all _) = true
    rw [hall, hlen, decide_eq_true (by omega)]; rfl
  rw [e1]
  show (true && decide (64 ≤ ((List.replicate k (⟨#[]⟩ : ByteArray)).set 0 newS).length) && numsB _ && true) = true
  rw [hlen, decide_eq_true h.1]
  rfl
set_option maxRecDepth 100000 in
set_option maxHeartbeats 900000 in
theorem walk (n0 : Int) (v0 : Value) (l0 : Lg) (s0 : Int) (w : World) (wn : (Lit.int .i64 n0).wf = true) (w0 : IsLog w v0 l0) (ws : (Lit.int .i64 s0).wf = true) :
    Calls Tryd.prog 3 #[.int .i64 n0, v0, .int .i64 s0] w fun e w' => e = .returned (.bool true) ∧ Below w.heap.size w w' := by
  have hwn := wf_i64 wn
  obtain ⟨x1, c1, x3, c2, x5, c3, rfl, h1, h2, h3, i1, i2, i3⟩ := id w0.form
  have HF := Lib.hid (fun u => few5_cells x1 x3 x5 l0.secs.length c1 l0.pend.length c2 l0.dirty.length c3 _ _ _ l0.left l0.epoch l0.seq l0.used u h1 h2 h3 rfl rfl rfl)
  obtain ⟨a, m, c, e1, g1, g2, g3, t1⟩ := i1.take
  injection e1 with e1 e2 e3
  subst e1 e2 e3
  obtain ⟨a, m, c, e1, _, _, _, t2⟩ := i2.take
  injection e1 with e1 e2 e3
  subst e1 e2 e3
  obtain ⟨a, m, c, e1, _, _, _, t3⟩ := i3.take
  injection e1 with e1 e2 e3
  subst e1 e2 e3
  have hL : IsLog w (.agg #[.slice x1 (min l0.secs.length 300) c1, .slice x3 (min l0.pend.length 60) c2, .int .i64 l0.left, .int .i64 l0.epoch, .int .i64 l0.seq, .int .i64 l0.used, .slice x5 (min l0.dirty.length 250) c3]) (fewLg l0) :=
    ⟨w0.1, _, _, _, rfl, t1 _ (Nat.min_le_left _ _), t2 _ (Nat.min_le_left _ _), t3 _ (Nat.min_le_left _ _)⟩
  have hp : (fewLg l0).pend.length ≤ 1000000 := by
    show (l0.pend.take _).length ≤ _
    rw [List.length_take]; omega
  have hs1 : (fewLg l0).secs.length = min l0.secs.length 300 := by
    show (l0.secs.take _).length = _
    rw [List.length_take]; omega
  have hel : (fewLg l0).left = l0.left ∧ (fewLg l0).epoch = l0.epoch ∧ (fewLg l0).seq = l0.seq ∧ (fewLg l0).used = l0.used := ⟨rfl, rfl, rfl, rfl⟩
  clear t1 t2 t3 i1 i2 i3 h1 h2 h3 g1 g2 g3 w0
  generalize fewLg l0 = L at *
  generalize l0.secs.length = N1 at *
  generalize l0.pend.length = N2 at *
  generalize l0.dirty.length = N3 at *
  generalize min N1 300 = m1 at *
  generalize min N2 60 = m2 at *
  generalize min N3 250 = m3 at *
  obtain ⟨lf, hlf⟩ : ∃ x, l0.left = x := ⟨_, rfl⟩
  obtain ⟨ep, hep⟩ : ∃ x, l0.epoch = x := ⟨_, rfl⟩
  obtain ⟨sq, hsq⟩ : ∃ x, l0.seq = x := ⟨_, rfl⟩
  obtain ⟨us, hus⟩ : ∃ x, l0.used = x := ⟨_, rfl⟩
  rw [hlf, hep, hsq, hus] at HF hL
  (try rw [hlf, hep, hsq, hus])
  have HL := Lib.hid hL; have HP := Lib.hid hp; have HS1 := Lib.hid hs1
  obtain ⟨B, hB⟩ : ∃ B, w.heap.size = B := ⟨_, rfl⟩
  have hblk := heap_alloc_new w (.cells #[.slice x1 N1 c1, .slice x3 N2 c2, .int .i64 lf, .int .i64 ep, .int .i64 sq, .int .i64 us, .slice x5 N3 c3] 29)
  have hal := (Below.refl w.heap.size w).alloc (Nat.le_refl _) (.cells #[.slice x1 N1 c1, .slice x3 N2 c2, .int .i64 lf, .int .i64 ep, .int .i64 sq, .int .i64 us, .slice x5 N3 c3] 29)
  rw [hB] at hblk
  have HBK := Lib.hid hblk; have HAL := Lib.hid hal; have HBQ := Lib.hid hB
  clear hL hp hs1 hel hlf hep hsq hus hblk hal hB wn ws
  go_enter Tryd.func3, Tryd.ntmps3
  go_upto_region 1 with fail
  rw [HBQ.out]
  obtain ⟨u, hU⟩ : ∃ u, w.alloc (.cells #[.slice x1 N1 c1, .slice x3 N2 c2, .int .i64 lf, .int .i64 ep, .int .i64 sq, .int .i64 us, .slice x5 N3 c3] 29) = u := ⟨_, rfl⟩
  rw [hU] at HBK HAL ⊢
  clear hU
  have d0 := below_cell (Below.refl _ u) HBK.out 0 rfl
  have d1 := below_cell (Below.refl _ u) HBK.out 1 rfl
  have d2 := below_cell (Below.refl _ u) HBK.out 2 rfl
  have d3 := below_cell (Below.refl _ u) HBK.out 3 rfl
  have d4 := below_cell (Below.refl _ u) HBK.out 4 rfl
  have d5 := below_cell (Below.refl _ u) HBK.out 5 rfl
  have d6 := below_cell (Below.refl _ u) HBK.out 6 rfl
  go_upto_region 2 with (first
    | (go_at_call 5; refine (HF.out _).mono ?_; rintro e u1 ⟨rfl, hb1⟩; have hbk1 := (hb1.block _ (lt_of_block HBK.out)).trans HBK.out; have HS := Lib.hid (setRow_heap u1 B _ #[.slice x1 m1 c1, .slice x3 m2 c2, .int .i64 lf, .int .i64 ep, .int .i64 sq, .int .i64 us, .slice x5 m3 c3] _ _ hbk1))
    | (refine wpList_store_row rfl 29 _ _ rfl B #[.slice x1 m1 c1, .slice x3 m2 c2, .int .i64 lf, .int .i64 ep, .int .i64 sq, .int .i64 us, .slice x5 m3 c3] rfl rfl 29 _ hbk1 (by kernel_rfl) rfl (by simp [Value.oneCell']) ?_))
  have hbu := below_setRow (HAL.out.trans (hb1.mono HAL.out.size)) (show w.heap.size ≤ B by rw [HBQ.out]; exact Nat.le_refl _) #[.slice x1 m1 c1, .slice x3 m2 c2, .int .i64 lf, .int .i64 ep, .int .i64 sq, .int .i64 us, .slice x5 m3 c3]
  obtain ⟨u2, hU⟩ : ∃ u2, u1.setRow B #[.slice x1 m1 c1, .slice x3 m2 c2, .int .i64 lf, .int .i64 ep, .int .i64 sq, .int .i64 us, .slice x5 m3 c3] = u2 := ⟨_, rfl⟩
  rw [hU] at HS hbu ⊢
  have HB2 := Lib.hid hbu
  have HN := Lib.hid (wlNew n0 u2 hwn)
  clear hU hbk1 hb1 hbu d0 d1 d2 d3 d4 d5 d6 HF HBK HAL
  go_upto_region 3 with (first | (go_at_call 6; refine HN.out.mono ?_; rintro e u3 ⟨vx, rfl, hlx, hb3⟩; obtain ⟨y1, y2, y3, y4, y5, y6, rfl, _⟩ := id hlx.form))
  have hal := (Below.refl u3.heap.size u3).alloc (Nat.le_refl _) (.cells #[.slice y1 (newLg n0).secs.length y2, .slice y3 (newLg n0).pend.length y4, .int .i64 (newLg n0).left, .int .i64 (newLg n0).epoch, .int .i64 (newLg n0).seq, .int .i64 (newLg n0).used, .slice y5 (newLg n0).dirty.length y6] 29)
  have hn := heap_alloc_new u3 (.cells #[.slice y1 (newLg n0).secs.length y2, .slice y3 (newLg n0).pend.length y4, .int .i64 (newLg n0).left, .int .i64 (newLg n0).epoch, .int .i64 (newLg n0).seq, .int .i64 (newLg n0).used, .slice y5 (newLg n0).dirty.length y6] 29)
  have hbB := (hal.block _ (lt_of_block ((hb3.block _ (lt_of_block HS.out)).trans HS.out))).trans ((hb3.block _ (lt_of_block HS.out)).trans HS.out)
  have hb4 := (HB2.out.trans (hb3.mono HB2.out.size)).trans (hal.mono (HB2.out.trans (hb3.mono HB2.out.size)).size)
  have hlx4 := hlx.below hal
  obtain ⟨C, hC⟩ : ∃ C, u3.heap.size = C := ⟨_, rfl⟩
  obtain ⟨u4, hU⟩ : ∃ u4, u3.alloc (.cells #[.slice y1 (newLg n0).secs.length y2, .slice y3 (newLg n0).pend.length y4, .int .i64 (newLg n0).left, .int .i64 (newLg n0).epoch, .int .i64 (newLg n0).seq, .int .i64 (newLg n0).used, .slice y5 (newLg n0).dirty.length y6] 29) = u4 := ⟨_, rfl⟩
  rw [hU] at hn hbB hb4 hlx4 ⊢
  rw [hC] at hn
  (try rw [hC])
  have HC := Lib.hid hn; have HB := Lib.hid hbB; have HB4 := Lib.hid hb4; have HX := Lib.hid hlx4
  have HNX : Hid (newLg n0 = newLg n0) := Lib.hid rfl
  have HNR : Hid (64 ≤ n0 ∧ n0 ≤ 256 → rightL (newLg n0) = true ∧ ((newLg n0).secs.length : Int) = n0 ∧ (newLg n0).epoch = 1 ∧ (newLg n0).left = -1 ∧ newE n0 = 0) := Lib.hid (fun h => by
    obtain ⟨k, rfl⟩ : ∃ k : Nat, n0 = k := ⟨n0.toNat, by omega⟩
    refine ⟨newLg_right k (by omega), ?_, ?_, ?_, if_pos h⟩ <;> (unfold newLg; rw [if_pos h]; try rfl)
    simp)
  have HNB : Hid (¬ (64 ≤ n0 ∧ n0 ≤ 256) → newLg n0 = zeroL ∧ newE n0 = 1) := Lib.hid (fun h => ⟨if_neg h, if_neg h⟩)
  generalize newLg n0 = X at *
  generalize newE n0 = XE at *
  have HRD := Lib.hid (wlRead _ L s0 u4 (HL.out.below HB4.out) HP.out)
  clear hU hC hal hn hbB hb4 hlx hlx4 hb3 HN HS HB2
  have d0 := below_cell (Below.refl _ u4) HB.out 0 rfl
  have d1 := below_cell (Below.refl _ u4) HB.out 1 rfl
  have d2 := below_cell (Below.refl _ u4) HB.out 2 rfl
  have d3 := below_cell (Below.refl _ u4) HB.out 3 rfl
  have d4 := below_cell (Below.refl _ u4) HB.out 4 rfl
  have d5 := below_cell (Below.refl _ u4) HB.out 5 rfl
  have d6 := below_cell (Below.refl _ u4) HB.out 6 rfl
  have e0 := below_cell (Below.refl _ u4) HC.out 0 rfl
  have e1 := below_cell (Below.refl _ u4) HC.out 1 rfl
  have e2 := below_cell (Below.refl _ u4) HC.out 2 rfl
  have e3 := below_cell (Below.refl _ u4) HC.out 3 rfl
  have e4 := below_cell (Below.refl _ u4) HC.out 4 rfl
  have e5 := below_cell (Below.refl _ u4) HC.out 5 rfl
  have e6 := below_cell (Below.refl _ u4) HC.out 6 rfl
  go_upto_region 4 with (first | (go_at_call 7; refine HRD.out.mono ?_; rintro e u5 ⟨rfl, hb5⟩))
  have HB5 := Lib.hid ((hb5.block _ (lt_of_block HB.out)).trans HB.out)
  have HC5 := Lib.hid ((hb5.block _ (lt_of_block HC.out)).trans HC.out)
  have HW5 := Lib.hid (HB4.out.trans (hb5.mono HB4.out.size))
  have HX5 := Lib.hid (HX.out.below hb5)
  have HRE : Hid (readWE L s0 = if rightL L = true then (if homeB L.secs.length s0 = true then 0 else 20) else 1) := Lib.hid rfl
  have HRS : Hid (readWS L s0 = if readWE L s0 = 0 then tellsW L s0 else ⟨#[]⟩) := Lib.hid rfl
  generalize readWE L s0 = RE at *
  generalize readWS L s0 = RS at *
  clear hb5 HB HC HB4 HX d0 d1 d2 d3 d4 d5 d6 e0 e1 e2 e3 e4 e5 e6 HRD
  have e0 := below_cell (Below.refl _ u5) HC5.out 0 rfl
  have e1 := below_cell (Below.refl _ u5) HC5.out 1 rfl
  have e2 := below_cell (Below.refl _ u5) HC5.out 2 rfl
  have e3 := below_cell (Below.refl _ u5) HC5.out 3 rfl
  have e4 := below_cell (Below.refl _ u5) HC5.out 4 rfl
  have e5 := below_cell (Below.refl _ u5) HC5.out 5 rfl
  have e6 := below_cell (Below.refl _ u5) HC5.out 6 rfl
  have bad : ¬ (64 ≤ n0 ∧ n0 ≤ 256) → Hid (XE = 1 ∧ ((((decide (X.left = zeroL.left ∧ X.dsk = zeroL.dsk) && decide (X.epoch = zeroL.epoch)) && decide (X.seq = zeroL.seq)) && decide (X.used = zeroL.used)) && decide (X.dirty = zeroL.dirty)) = true) := fun h => Lib.hid (by
    obtain ⟨g1, g2⟩ := HNB.out h
    exact ⟨g2, by rw [g1]; simp⟩)
  rcases (show (64 ≤ n0 ∧ n0 ≤ 256) ∨ n0 < 64 ∨ (¬ n0 < 64 ∧ 256 < n0) by omega) with hin | h64 | h256
  case' inr.inl =>
    obtain ⟨rfl, hlk⟩ := (bad (by omega)).out
    have HLK := refLike5_any _ _ X zeroL u5 HX5.out (zero_log _)
    rw [hlk] at HLK
    have HLK := Lib.hid HLK
    clear bad HNR HNB hlk
    go_upto_region 9 with (first | (go_at_call 8; refine HLK.out.mono ?_; rintro e u6 ⟨rfl, hb6⟩))
  case' inr.inr =>
    obtain ⟨rfl, hlk⟩ := (bad (by omega)).out
    have HLK := refLike5_any _ _ X zeroL u5 HX5.out (zero_log _)
    rw [hlk] at HLK
    have HLK := Lib.hid HLK
    obtain ⟨hn1, h256⟩ := h256
    clear bad HNR HNB hlk
    go_upto_region 9 with (first | (go_at_call 8; refine HLK.out.mono ?_; rintro e u6 ⟨rfl, hb6⟩))
  case' inl =>
    obtain ⟨hXR, hXn, hXe, hXl, rfl⟩ := HNR.out hin
    obtain ⟨h64, h256⟩ := hin
    have HRX := wlRight _ X u5 HX5.out
    rw [hXR, hXl, hXe] at HRX
    have HRX := Lib.hid HRX
    rw [hXl] at e2
    rw [hXe] at e3
    have hn1 : ¬ n0 < 64 := by omega
    have hn2 : ¬ 256 < n0 := by omega
    clear bad HNR HNB hXR hXl hXe HNX
    go_upto_region 9 with (first | (go_at_call 9; refine HRX.out.mono ?_; rintro e u6 ⟨rfl, hb6⟩))
  all_goals
    have HB6 := Lib.hid ((hb6.block _ (lt_of_block HB5.out)).trans HB5.out)
    have HW6 := Lib.hid (HW5.out.trans (hb6.mono HW5.out.size))
    clear hb6 HB5 HC5 HW5 HX5 e0 e1 e2 e3 e4 e5 e6
    have hRx := Lib.hid (fun x : KeepT u6 => keepCall (wlRight _ L x.val (HL.out.below (HW6.out.trans (x.below.mono HW6.out.size)))))
    have hRy := Lib.hid (fun x : KeepT u6 => keepCall (refRight5_any _ L x.val (HL.out.below (HW6.out.trans (x.below.mono HW6.out.size)))))
    obtain ⟨rl, hrl⟩ : ∃ rl, rightL L = rl := ⟨_, rfl⟩
    rw [hrl] at hRx hRy HRE
    have hne : (rl != rl) = false := by cases rl <;> rfl
    have HRL := Lib.hid hrl
    clear hrl
    have q0 := keep_at HB6.out 0 rfl
    have q1 := keep_at HB6.out 1 rfl
    have q2 := keep_at HB6.out 2 rfl
    have q3 := keep_at HB6.out 3 rfl
    have q4 := keep_at HB6.out 4 rfl
    have q5 := keep_at HB6.out 5 rfl
    have q6 := keep_at HB6.out 6 rfl
    refine wp_region_keep (w0 := u6) (by kernel_rfl) (by kernel_rfl) (Below.refl _ _) ?_
    repeat (go_big_quiet_step ((first | (go_at_call 11; exact keepCall (wlAlive _)) | (go_at_call 9; exact hRx.out _) | (go_at_call 10; exact hRy.out _))))
    refine wpQuiet_nil ?_
    intro _ hw'
    obtain ⟨x, rfl⟩ := hw'
    have HB7 := Lib.hid ((x.below.block _ (lt_of_block HB6.out)).trans HB6.out)
    have HW7 := Lib.hid (HW6.out.trans (x.below.mono HW6.out.size))
    have HL7 := Lib.hid (HL.out.below HW7.out)
    generalize x.val = u7 at *
    clear q0 q1 q2 q3 q4 q5 q6 hRx hRy HB6 HW6
    have d0 := below_cell (Below.refl _ u7) HB7.out 0 rfl
    have d1 := below_cell (Below.refl _ u7) HB7.out 1 rfl
    have d2 := below_cell (Below.refl _ u7) HB7.out 2 rfl
    have d3 := below_cell (Below.refl _ u7) HB7.out 3 rfl
    have d4 := below_cell (Below.refl _ u7) HB7.out 4 rfl
    have d5 := below_cell (Below.refl _ u7) HB7.out 5 rfl
    have d6 := below_cell (Below.refl _ u7) HB7.out 6 rfl
    have HR7 := refRight5_any _ L u7 HL7.out
    rw [HRL.out] at HR7
    have HR7 := Lib.hid HR7
    go_upto_region 11 with fail
    cases rl
    · have hRE : RE = 1 := HRE.out.trans (if_neg (by decide))
      have hRS := HRS.out
      rw [hRE, if_neg (by decide)] at hRS
      subst hRE hRS
      clear HRE HRS
      go_wp2_with (first | (go_at_call 10; refine HR7.out.mono ?_; rintro e u8 ⟨rfl, hb8⟩))
      go_ret
      exact ⟨rfl, HW7.out.trans (hb8.mono HW7.out.size)⟩
    · go_upto_region 13 with (first | (go_at_call 10; refine HR7.out.mono ?_; rintro e u8 ⟨rfl, hb8⟩))
      have HB8 := Lib.hid ((hb8.block _ (lt_of_block HB7.out)).trans HB7.out)
      have HW8 := Lib.hid (HW7.out.trans (hb8.mono HW7.out.size))
      have HL8 := Lib.hid (HL.out.below HW8.out)
      clear d0 d1 d2 d3 d4 d5 d6 HB7 HW7 HL7 HR7 hb8
      have d0 := below_cell (Below.refl _ u8) HB8.out 0 rfl
      have d1 := below_cell (Below.refl _ u8) HB8.out 1 rfl
      have d2 := below_cell (Below.refl _ u8) HB8.out 2 rfl
      have d3 := below_cell (Below.refl _ u8) HB8.out 3 rfl
      have d4 := below_cell (Below.refl _ u8) HB8.out 4 rfl
      have d5 := below_cell (Below.refl _ u8) HB8.out 5 rfl
      have d6 := below_cell (Below.refl _ u8) HB8.out 6 rfl
      have hre := HRE.out.trans (if_pos (by first | trivial | rfl))
      rw [HS1.out] at hre
      have HIH := refHome_any (m1 : Int) s0 u8
      have hho : homeB m1 s0 = decide (53 ≤ s0 ∧ s0 < (m1 : Int)) := rfl
      rw [← hho] at HIH
      obtain ⟨ho, hhe⟩ : ∃ ho, homeB m1 s0 = ho := ⟨_, rfl⟩
      rw [hhe] at hre HIH
      have HIH := Lib.hid HIH; have HHE := Lib.hid hhe
      clear hho hhe HRE
      cases ho
      · rw [if_neg (by decide)] at hre
        have hRS := HRS.out
        rw [hre, if_neg (by decide)] at hRS
        subst hre hRS
        clear HRS
        go_wp2_with (first | (go_at_call 12; refine HIH.out.mono ?_; rintro e u9 ⟨rfl, rfl⟩))
        go_ret
        exact ⟨rfl, HW8.out⟩
      · rw [if_pos rfl] at hre
        have hRS := HRS.out
        rw [hre, if_pos rfl] at hRS
        subst hre
        obtain ⟨b1, b2, b3⟩ := right_dirty HRL.out
        rw [HS1.out] at b2
        obtain ⟨t1, t2, _⟩ := home_bnd HHE.out b2
        obtain ⟨k, rfl⟩ : ∃ k : Nat, s0 = k := ⟨s0.toNat, by omega⟩
        have HT := refTells5_any _ L k u8 HL8.out (by rw [HS1.out]; omega) (dirty_rises b1)
        rw [← hRS] at HT
        have HT := Lib.hid HT
        clear HRS hRS b1 b2 b3 t1 t2
        go_wp2_with (first | (go_at_call 12; refine HIH.out.mono ?_; rintro e u9 ⟨rfl, rfl⟩) | (go_at_call 13; refine HT.out.mono ?_; rintro e u9 ⟨rfl, hb9⟩))
        go_ret
        exact ⟨rfl, HW8.out.trans (hb9.mono HW8.out.size)⟩
end Go.Proofs.YthnmnnlbglpjaaaDoor.lawWalNews
