/- The reference: does a transaction stand at a place? -/
import Derived.Deep.RegionHeld
import Derived.Test.YthnmnnlbglpjaaaGreatDoorWo3
import Derived.Test.YthnmnnlbglpjaaaGreatDoorPkF
import Derived.Test.YthnmnnlbglpjaaaGreatDoorPk6
import Derived.Test.YthnmnnlbglpjaaaGreatDoorQTail
import Derived.Test.YthnmnnlbglpjaaaGreatDoorPk5
namespace Go.Proofs.YthnmnnlbglpjaaaGreatDoor
open Go.RowKit
set_option linter.unusedVariables false
set_option linter.unusedSimpArgs false

theorem ordL_skip {P : Program} {ops : Array Oper} {md : Region.Mode} {C : World → Prop} {late : Nat → Bool} {R : Exit → Act → World → Prop} {i : Nat} {oi : Oper} {f : Nat} {D : Array Bool} {a : Act} (hi : ops[i]? = some oi) (hsel : Region.noSelect ops = true) (hl : late i = false)
    (hf : Region.free md ops D i = true) (hr : (Region.ready md ops D).contains i = true) (hR : ∀ c a w, R (.panic c) (a.put oi.dst undef) w → R (.panic c) a w)
    (hg : Region.wanted oi (yielded ops a.tmps) = false) (h : ordL P md ops C late R f (D.setIfInBounds i true) (a.put oi.dst undef)) : ordL P md ops C late R (f + 1) D a :=
  ordL_first hi hsel hl hR f D a (Region.free_spec hi hf) (by simpa using hr) (.inr ⟨hg, rfl⟩) (.inr (.inr ⟨hg, rfl⟩)) h
theorem reads_apart {w w' : World} {tv : Value} {l : List Int} (h : Reads1 encI w tv l) {g : Nat} {t : TypeId} {fr : Nat × Nat} (hg : w.heap[g]? = some (.cells #[.int .i64 0, .int .i64 0, .slice none 0 0] t fr)) (hl : ∀ x ∈ l, 53 ≤ x)
    (hs : w.heap.size ≤ w'.heap.size) (hk : ∀ b, b ≠ g → w'.heap[b]? = w.heap[b]?) : Reads1 encI w' tv l := by
  obtain ⟨a, len, cap, rfl, rfl, h1, h2, hat⟩ := h
  refine ⟨a, _, cap, rfl, rfl, h1, h2, ?_⟩
  by_cases h0 : l.length = 0
  · exact .inl h0
  · obtain ⟨b, off, rfl, hb, hc⟩ := hat.resolve_left h0
    have hne : b ≠ g := by
      intro e
      subst e
      have h3 := hc 0 (by omega)
      have h4 := hl (l[0]'(by omega)) (List.getElem_mem _)
      rw [cell_of_row _ _ _ _ _ _ hg] at h3
      generalize l[0] = T at h3 h4
      rcases off with _ | _ | _ | k
      · simp [encI] at h3; omega
      · simp [encI] at h3; omega
      · simp [encI] at h3
      · simp at h3
    exact .inr ⟨b, off, rfl, Nat.lt_of_lt_of_le hb hs, fun i hi => (World.cell?_of_block (a := ⟨b, off + i, none⟩) (hk b hne)).trans (hc i hi)⟩
theorem cell_set3 (y : World) {g b : Nat} (hb : b ≠ g) (v0 v1 v2 : Value) (j : Nat) : (set3 y g v0 v1 v2).cell? ⟨b, j, none⟩ = y.cell? ⟨b, j, none⟩ := by
  unfold set3
  rw [World.cell?_setCell_other _ _ _ _ (by intro h; injection h with h1; exact hb h1.symm), World.cell?_setCell_other _ _ _ _ (by intro h; injection h with h1; exact hb h1.symm), World.cell?_setCell_other _ _ _ _ (by intro h; injection h with h1; exact hb h1.symm)]
set_option maxRecDepth 100000 in
set_option maxHeartbeats 9000000 in
theorem refStand (v : Value) (l : Lg) (w : World) (h : IsLog w v l) (hz : ∀ s ∈ l.secs, s.size ≤ 2000) (hN1 : 64 ≤ l.secs.length) (hN2 : l.secs.length ≤ 256) (hs : 0 ≤ l.seq ∧ l.seq < 6) (hu : 0 ≤ l.used ∧ l.used ≤ 40) :
    Calls Tryz.prog 48 #[v] w fun e w' => ∃ v', (∃ z0 z1 z2 z3 z4, v' = .agg #[.int .i64 z0, .int .i64 z1, .slice z2 z3 z4]) ∧ e = .returned (.tuple #[v', .bool (decide (StandP l))]) ∧ (decide (StandP l) = true → IsHd w' v' (headV (headS l))) ∧ Below w.heap.size w w' := by
  obtain ⟨x1, x2, x3, x4, x5, x6, rfl, ⟨g1, g2⟩, ⟨_, _⟩, ⟨_, _⟩, hSS, _⟩ := id h.form
  have hC0 : ∀ b : Bool, (StandP l ↔ b = true) → decide (StandP l) = b := fun b hb => by cases b; exact decide_eq_false (fun h => absurd (hb.1 h) (by decide)); exact decide_eq_true (hb.2 rfl)
  have hSP : StandP l ↔ headE (headS l) = 0 ∧ (headV (headS l)).epoch = l.epoch ∧ (headV (headS l)).seq = l.seq ∧ (∀ t ∈ (headV (headS l)).tgt, t < l.secs.length) ∧ l.used + (headV (headS l)).tgt.length ≤ 40 ∧
    commitE (comS5 l) = 0 ∧ commitV (comS5 l) = l.epoch ∧ commitW (comS5 l) = l.seq := Iff.rfl
  obtain ⟨Q, hQ⟩ : ∃ Q : Nat, l.seq = Q := ⟨l.seq.toNat, by omega⟩
  have hQt : l.seq.toNat = Q := by omega
  have hHS : headS l = l.secs.getD (1 + Q) ⟨#[]⟩ := by unfold headS; rw [hQt]
  have hCS : comS5 l = l.secs.getD (7 + Q) ⟨#[]⟩ := by unfold comS5; rw [hQt]
  have hsz : ∀ k, k < l.secs.length → (l.secs.getD k ⟨#[]⟩).size ≤ 2000 := fun k hk => by
    rw [show l.secs.getD k ⟨#[]⟩ = l.secs[k] from by simp [List.getD, hk]]
    exact hz _ (List.getElem_mem hk)
  have hRH := fun u => ref4ReadHead_x (headS l) u (by rw [hHS]; exact hsz _ (by omega))
  have hRC := fun u => ref4ReadCommit_any (comS5 l) u (by rw [hCS]; exact hsz _ (by omega))
  have HSE : Hid (∀ u : World, Below w.heap.size w u → ∀ k : Nat, k < l.secs.length → ∃ b off, x1 = some ⟨b, off, none⟩ ∧ b < u.heap.size ∧ u.cell? ⟨b, off + k, none⟩ = some (.string (l.secs.getD k ⟨#[]⟩))) := Lib.hid (by
    intro u hu k hk
    obtain ⟨a9, n9, c9, hv9, _, _, _, _, hat9⟩ := hSS.below hu
    injection hv9 with t1 t2 t3
    subst t1 t2 t3
    obtain ⟨b, off, rfl, hbb, hc⟩ := hat9.resolve_left (by omega)
    exact ⟨b, off, rfl, hbb, hc k hk⟩)
  have hRH : ∀ u, _ := fun u => (by have := hRH u; rw [(refV_eq (headS l)).1, (refV_eq (headS l)).2] at this; exact this)
  have hTG := @head_tgt (headS l)
  obtain ⟨S1, hS1⟩ : ∃ S, headS l = S := ⟨_, rfl⟩
  obtain ⟨S2, hS2⟩ : ∃ S, comS5 l = S := ⟨_, rfl⟩
  rw [hS1] at hHS hRH hSP hTG
  (try rw [hS1])
  rw [hS2] at hCS hRC hSP
  obtain ⟨R, hR⟩ : ∃ R, decide (StandP l) = R := ⟨_, rfl⟩
  have hCT : ∀ b : Bool, (StandP l ↔ b = true) → R = b := fun b hb => hR.symm.trans (hC0 b hb)
  clear hC0
  rw [hR]
  obtain ⟨HV, hHV⟩ : ∃ V, headV S1 = V := ⟨_, rfl⟩
  rw [hHV] at hRH hSP hTG
  (try rw [hHV])
  obtain ⟨HEr, hHE⟩ : ∃ V, headE S1 = V := ⟨_, rfl⟩
  rw [hHE] at hRH hSP hTG
  obtain ⟨cV, hcV⟩ : ∃ V, commitV S2 = V := ⟨_, rfl⟩
  obtain ⟨cW, hcW⟩ : ∃ V, commitW S2 = V := ⟨_, rfl⟩
  obtain ⟨cE, hcE⟩ : ∃ V, commitE S2 = V := ⟨_, rfl⟩
  rw [hcV, hcW, hcE] at hRC hSP
  have hblk := heap_alloc_new w (.cells #[.slice x1 l.secs.length x2, .slice x3 l.pend.length x4, .int .i64 l.left, .int .i64 l.epoch, .int .i64 l.seq, .int .i64 l.used, .slice x5 l.dirty.length x6] 29)
  have hal := (Below.refl w.heap.size w).alloc (Nat.le_refl _) (.cells #[.slice x1 l.secs.length x2, .slice x3 l.pend.length x4, .int .i64 l.left, .int .i64 l.epoch, .int .i64 l.seq, .int .i64 l.used, .slice x5 l.dirty.length x6] 29)
  obtain ⟨N, hNN⟩ : ∃ N, l.secs.length = N := ⟨_, rfl⟩
  obtain ⟨ep, hep⟩ : ∃ x, l.epoch = x := ⟨_, rfl⟩
  obtain ⟨us, hus⟩ : ∃ x, l.used = x := ⟨_, rfl⟩
  rw [hNN, hep, hus, hQ] at hSP hblk hal
  rw [hNN] at HSE g1 hN1 hN2
  rw [hus] at hu
  (try rw [hNN, hep, hus, hQ])
  obtain ⟨B, hB⟩ : ∃ B, w.heap.size = B := ⟨_, rfl⟩
  rw [hB] at hblk
  have hQ6 : Q < 6 := by omega
  have hQI : (Q : Int) ≤ 5 := by omega
  have hq1 : 1 + (Q : Int) = ((1 + Q : Nat) : Int) := by omega
  have hq7 : 7 + (Q : Int) = ((7 + Q : Nat) : Int) := by omega
  have hk1 : ((1 + Q : Nat) : Int) < N := by omega
  have hk7 : ((7 + Q : Nat) : Int) < N := by omega
  have hk1' : ((1 + Q : Nat) : Int) ≤ 60 := by omega
  have hk7' : ((7 + Q : Nat) : Int) ≤ 60 := by omega
  have HE1 := Lib.hid (fun u hu => HSE.out u hu (1 + Q) (by omega))
  have HE7 := Lib.hid (fun u hu => HSE.out u hu (7 + Q) (by omega))
  rw [← hHS] at HE1
  rw [← hCS] at HE7
  generalize 1 + Q = K1 at *
  generalize 7 + Q = K7 at *
  have HCT := Lib.hid hCT; have HSP := Lib.hid hSP; have HRH := Lib.hid hRH; have HRC := Lib.hid hRC; have HTG := Lib.hid hTG; have HBK := Lib.hid hblk; have HAL := Lib.hid hal; have HBQ := Lib.hid hB
  have hNx : (N : Int) ≤ x2 := by omega
  have hx2 : (x2 : Int) ≤ 9223372036854775807 := by omega
  have hNI : (N : Int) ≤ 256 := by omega
  clear h hz hSS hCT hSP hQ hQt hHS hCS hsz hRH hRC HSE hTG hS1 hS2 hR hHV hHE hcV hcW hcE hblk hal hNN hep hus hB hs
  have HX : Hid (∀ u : World, u.heap[B]? = some (.cells #[.slice x1 N x2, .slice x3 l.pend.length x4, .int .i64 l.left, .int .i64 ep, .int .i64 Q, .int .i64 us, .slice x5 l.dirty.length x6] 29 (0, 0)) → Below w.heap.size w u → u.heap.size = B + 1 → (u.alloc (.cells #[.int .i64 0, .int .i64 0, .slice none 0 0] 67)).heap[B]? = some (.cells #[.slice x1 N x2, .slice x3 l.pend.length x4, .int .i64 l.left, .int .i64 ep, .int .i64 Q, .int .i64 us, .slice x5 l.dirty.length x6] 29 (0, 0)) ∧ (u.alloc (.cells #[.int .i64 0, .int .i64 0, .slice none 0 0] 67)).heap[B + 1]? = some (.cells #[.int .i64 0, .int .i64 0, .slice none 0 0] 67 (0, 0)) ∧ Below w.heap.size w (u.alloc (.cells #[.int .i64 0, .int .i64 0, .slice none 0 0] 67))) := Lib.hid (by
    intro u h1 h2 h3
    have e1 := heap_alloc_new u (.cells #[.int .i64 0, .int .i64 0, .slice none 0 0] 67)
    rw [h3] at e1
    exact ⟨(heap_alloc_old _ _ (lt_of_block h1)).trans h1, e1, h2.alloc h2.size _⟩)
  have HWZ : Hid ((w.alloc (.cells #[.slice x1 N x2, .slice x3 l.pend.length x4, .int .i64 l.left, .int .i64 ep, .int .i64 Q, .int .i64 us, .slice x5 l.dirty.length x6] 29)).heap.size = B + 1) := Lib.hid (by rw [World.size_alloc, HBQ.out])
  go_enter Tryz.func48, Tryz.ntmps48
  go_upto_region 1 with fail
  (try rw [HBQ.out])
  have HX2 := HX.out _ HBK.out HAL.out HWZ.out
  obtain ⟨u, hU⟩ : ∃ u, (w.alloc (.cells #[.slice x1 N x2, .slice x3 l.pend.length x4, .int .i64 l.left, .int .i64 ep, .int .i64 Q, .int .i64 us, .slice x5 l.dirty.length x6] 29)).alloc (.cells #[.int .i64 0, .int .i64 0, .slice none 0 0] 67) = u := ⟨_, rfl⟩
  rw [hU] at HX2 ⊢
  obtain ⟨hbk, hrx, hbw⟩ := HX2
  have HBKb := Lib.hid hbk; have HRX1 := Lib.hid hrx; have HALb := Lib.hid hbw
  clear hU hbk hrx hbw HX HWZ HBK HAL
  obtain ⟨b, off, rfl, _, p1⟩ := HE1.out u HALb.out
  have b0 := below_cell (Below.refl _ u) HBKb.out 0 rfl
  have b4 := below_cell (Below.refl _ u) HBKb.out 4 rfl
  go_upto_region 2 with (first | (go_at_call 80; refine (HRH.out _).mono ?_; rintro e u1 ⟨hv, rfl, ⟨tv, rfl, hrt⟩, hb1⟩; obtain ⟨ta, tc, rfl, ht1, ht2, _⟩ := reads1_form hrt))
  have hal2 := (Below.refl u1.heap.size u1).alloc (Nat.le_refl _) (.cells #[.int .i64 HV.epoch, .int .i64 HV.seq, .slice ta HV.tgt.length tc] 67)
  have hn2 := heap_alloc_new u1 (.cells #[.int .i64 HV.epoch, .int .i64 HV.seq, .slice ta HV.tgt.length tc] 67)
  have hbB := (hal2.block _ (lt_of_block ((hb1.block _ (lt_of_block HBKb.out)).trans HBKb.out))).trans ((hb1.block _ (lt_of_block HBKb.out)).trans HBKb.out)
  have hbR := (hal2.block _ (lt_of_block ((hb1.block _ (lt_of_block HRX1.out)).trans HRX1.out))).trans ((hb1.block _ (lt_of_block HRX1.out)).trans HRX1.out)
  have hrt2 := hrt.below hal2
  have hw2 := (HALb.out.trans (hb1.mono HALb.out.size)).trans (hal2.mono (HALb.out.trans (hb1.mono HALb.out.size)).size)
  obtain ⟨H, hH⟩ : ∃ H, u1.heap.size = H := ⟨_, rfl⟩
  obtain ⟨u2, hU⟩ : ∃ u2, u1.alloc (.cells #[.int .i64 HV.epoch, .int .i64 HV.seq, .slice ta HV.tgt.length tc] 67) = u2 := ⟨_, rfl⟩
  rw [hU] at hn2 hbB hbR hrt2 hw2 ⊢
  rw [hH] at hn2
  (try rw [hH])
  have HHX := Lib.hid hn2; have HB2 := Lib.hid hbB; have HRX := Lib.hid hbR; have HRT := Lib.hid hrt2; have HW2 := Lib.hid hw2
  have HHL := Lib.hid (show B + 1 < H by rw [← hH]; exact lt_of_block ((hb1.block _ (lt_of_block HRX1.out)).trans HRX1.out))
  clear hU hH hal2 hn2 hbB hbR hrt2 hw2 hrt hb1 b0 b4 p1 HBKb HALb HRH HE1 HRX1
  have b3 := below_cell (Below.refl _ u2) HB2.out 3 rfl
  have b4 := below_cell (Below.refl _ u2) HB2.out 4 rfl
  have b5 := below_cell (Below.refl _ u2) HB2.out 5 rfl
  have h0 := below_cell (Below.refl _ u2) HHX.out 0 rfl
  have h1 := below_cell (Below.refl _ u2) HHX.out 1 rfl
  have h2 := below_cell (Below.refl _ u2) HHX.out 2 rfl
  by_cases hA : HEr = 0
  rotate_left
  · have hR0 : R = false := HCT.out false ⟨fun h => absurd h (fun h => hA (HSP.out.1 h).1), fun h => absurd h (by decide)⟩
    have hA2 : (HEr != 0) = true := by simpa using hA
    have hA3 : (HEr == 0) = false := by simpa using hA
    have HR0 := Lib.hid hR0
    have hst := HRX.out
    have hs3 := set3_block hst (.int .i64 HV.epoch) (.int .i64 HV.seq) (.slice ta HV.tgt.length tc); have hf3 := set3_below HW2.out (show w.heap.size ≤ B + 1 by rw [HBQ.out]; omega) (.int .i64 HV.epoch) (.int .i64 HV.seq) (.slice ta HV.tgt.length tc); unfold set3 at hs3 hf3
    have HS' := Lib.hid hs3; have HF' := Lib.hid hf3; have r0 := below_cell (Below.refl _ u2) hst 0 rfl; have r1 := below_cell (Below.refl _ u2) hst 1 rfl; have r2 := below_cell (Below.refl _ u2) hst 2 rfl; have f0 := block_frozen hst 0; have f1 := block_frozen hst 1; have f2 := block_frozen hst 2
    clear hs3 hf3 hst
    clear hR0
    go_wp2_with fail
    refine bodyPost_ret (results_row_tmp rfl _ _ (B + 1) _ _ _ _ rfl HS'.out Tryz.underlying67 rfl (by kernel_rfl)) rfl (by exact ⟨_, ⟨_, _, _, _, _, rfl⟩, by rw [HR0.out]; rfl, fun h => by rw [HR0.out] at h; exact absurd h (by decide), HF'.out⟩)
  subst hA
  by_cases hBq : HV.epoch = ep
  rotate_left
  · have hR0 : R = false := HCT.out false ⟨fun h => absurd h (fun h => hBq (HSP.out.1 h).2.1), fun h => absurd h (by decide)⟩
    have hA2 : (HV.epoch != ep) = true := by simpa using hBq
    have hA3 : (HV.epoch == ep) = false := by simpa using hBq
    have HR0 := Lib.hid hR0
    have hst := HRX.out
    have hs3 := set3_block hst (.int .i64 HV.epoch) (.int .i64 HV.seq) (.slice ta HV.tgt.length tc); have hf3 := set3_below HW2.out (show w.heap.size ≤ B + 1 by rw [HBQ.out]; omega) (.int .i64 HV.epoch) (.int .i64 HV.seq) (.slice ta HV.tgt.length tc); unfold set3 at hs3 hf3
    have HS' := Lib.hid hs3; have HF' := Lib.hid hf3; have r0 := below_cell (Below.refl _ u2) hst 0 rfl; have r1 := below_cell (Below.refl _ u2) hst 1 rfl; have r2 := below_cell (Below.refl _ u2) hst 2 rfl; have f0 := block_frozen hst 0; have f1 := block_frozen hst 1; have f2 := block_frozen hst 2
    clear hs3 hf3 hst
    clear hR0
    go_wp2_with fail
    refine bodyPost_ret (results_row_tmp rfl _ _ (B + 1) _ _ _ _ rfl HS'.out Tryz.underlying67 rfl (by kernel_rfl)) rfl (by exact ⟨_, ⟨_, _, _, _, _, rfl⟩, by rw [HR0.out]; rfl, fun h => by rw [HR0.out] at h; exact absurd h (by decide), HF'.out⟩)
  by_cases hCq : HV.seq = (Q : Int)
  rotate_left
  · have hR0 : R = false := HCT.out false ⟨fun h => absurd h (fun h => hCq (HSP.out.1 h).2.2.1), fun h => absurd h (by decide)⟩
    have hA2 : (HV.seq != (Q : Int)) = true := by simpa using hCq
    have hA3 : (HV.seq == (Q : Int)) = false := by simpa using hCq
    have hA4 : (HV.epoch != ep) = false := by simpa using hBq
    clear hBq
    have HR0 := Lib.hid hR0
    have hst := HRX.out
    have hs3 := set3_block hst (.int .i64 HV.epoch) (.int .i64 HV.seq) (.slice ta HV.tgt.length tc); have hf3 := set3_below HW2.out (show w.heap.size ≤ B + 1 by rw [HBQ.out]; omega) (.int .i64 HV.epoch) (.int .i64 HV.seq) (.slice ta HV.tgt.length tc); unfold set3 at hs3 hf3
    have HS' := Lib.hid hs3; have HF' := Lib.hid hf3; have r0 := below_cell (Below.refl _ u2) hst 0 rfl; have r1 := below_cell (Below.refl _ u2) hst 1 rfl; have r2 := below_cell (Below.refl _ u2) hst 2 rfl; have f0 := block_frozen hst 0; have f1 := block_frozen hst 1; have f2 := block_frozen hst 2
    clear hs3 hf3 hst
    clear hR0
    go_wp2_with fail
    refine bodyPost_ret (results_row_tmp rfl _ _ (B + 1) _ _ _ _ rfl HS'.out Tryz.underlying67 rfl (by kernel_rfl)) rfl (by exact ⟨_, ⟨_, _, _, _, _, rfl⟩, by rw [HR0.out]; rfl, fun h => by rw [HR0.out] at h; exact absurd h (by decide), HF'.out⟩)
  subst hBq
  rw [hCq] at h1
  have HCQ := Lib.hid hCq
  clear hCq
  have hok := HTG.out rfl
  unfold okT at hok
  obtain ⟨k1, k2, k3, _⟩ := of_decide_eq_true hok
  have HK3 := Lib.hid k3
  obtain ⟨n, hn⟩ : ∃ n, HV.tgt.length = n := ⟨_, rfl⟩
  have hRT := HRT.out
  have hHX := HHX.out
  rw [hn] at hRT hHX k1 k2 h2
  rw [HCQ.out] at hHX
  have HHX2 := Lib.hid hHX; have HRT2 := Lib.hid hRT; have HN := Lib.hid hn
  obtain ⟨ta', tc', hva, htc1, htc2, hat⟩ := reads1_form hRT
  rw [hn] at hva htc1 hat
  injection hva with e1 _ e3
  subst e1 e3
  have HAT := Lib.hid (hat u2 (Below.refl _ _))
  have hnI : (n : Int) ≤ 40 := by omega
  have hnc : (n : Int) ≤ tc := by omega
  have htcI : (tc : Int) ≤ 9223372036854775807 := by omega
  have hwu : wrap64 (us + (n : Int)) = us + n := IntWalk.wrap64_in _ ⟨by omega, by omega⟩
  clear hok k3 hn hRT hHX hat HRT HHX
  by_cases hE : 40 < us + (n : Int)
  · skip
    have hR0 : R = false := HCT.out false ⟨fun h => absurd h (fun h => absurd (HSP.out.1 h).2.2.2.2.1 (by have := HN.out; omega)), fun h => absurd h (by decide)⟩
    have HR0 := Lib.hid hR0
    have hst := HRX.out
    have hs3 := set3_block hst (.int .i64 HV.epoch) (.int .i64 (Q : Int)) (.slice ta n tc); have hf3 := set3_below HW2.out (show w.heap.size ≤ B + 1 by rw [HBQ.out]; omega) (.int .i64 HV.epoch) (.int .i64 (Q : Int)) (.slice ta n tc); unfold set3 at hs3 hf3
    have HS' := Lib.hid hs3; have HF' := Lib.hid hf3; have r0 := below_cell (Below.refl _ u2) hst 0 rfl; have r1 := below_cell (Below.refl _ u2) hst 1 rfl; have r2 := below_cell (Below.refl _ u2) hst 2 rfl; have f0 := block_frozen hst 0; have f1 := block_frozen hst 1; have f2 := block_frozen hst 2
    clear hs3 hf3 hst hR0
    go_wp2_with fail
    refine bodyPost_ret (results_row_tmp rfl _ _ (B + 1) _ _ _ _ rfl HS'.out Tryz.underlying67 rfl (by kernel_rfl)) rfl (by exact ⟨_, ⟨_, _, _, _, _, rfl⟩, by rw [HR0.out]; rfl, fun h => by rw [HR0.out] at h; exact absurd h (by decide), HF'.out⟩)
  have HEE := Lib.hid hE
  go_upto_region 5 with fail
  clear hwu hE
  go_loop [7, 53] (fun z7 z53 => ∃ j : Nat, j ≤ n ∧ z53 = .int .i64 j ∧ Hid (∀ i, i < j → HV.tgt.getD i 0 < (N : Int))) (fun _ z53 => n - (intOf z53).toNat)
  case atStart => exact ⟨0, Nat.zero_le _, rfl, Lib.hid (fun i hi => by omega)⟩
  case round =>
    obtain ⟨j, hjn, rfl, HJ⟩ := hrel
    by_cases hlt : j < n
    · have hjI : (j : Int) < n := by omega
      obtain ⟨tb, tof, rfl, _, p0⟩ := HAT.out j hlt
      have hT53 : 53 ≤ HV.tgt.getD j 0 := (HK3.out _ (by have : j < HV.tgt.length := by rw [HN.out]; exact hlt
                                                         simp [List.getD, this])).1
      have hmem : HV.tgt.getD j 0 ∈ HV.tgt := by have : j < HV.tgt.length := by rw [HN.out]; exact hlt
                                                 simp [List.getD, this]
      obtain ⟨T, hT⟩ : ∃ T, HV.tgt.getD j 0 = T := ⟨_, rfl⟩
      rw [hT] at p0 hT53 hmem
      have HT := Lib.hid hT; have HMEM := Lib.hid hmem
      clear hT hmem
      have b0 := below_cell (Below.refl _ u2) HB2.out 0 rfl
      by_cases hTN : T < (N : Int)
      · have HIH := Lib.hid (fun u => refHome_any (N : Int) T u)
        rw [decide_eq_true ⟨hT53, hTN⟩] at HIH
        go_wp2_with (first | (go_at_call 52; refine (HIH.out _).mono ?_; rintro e u4 ⟨rfl, rfl⟩) | fail)
        go_round
        case rel => exact ⟨j + 1, by omega, by go_num, Lib.hid (fun i hi => by
          by_cases hij : i < j
          · exact HJ.out i hij
          · have : i = j := by omega
            subst this
            rw [HT.out]; exact hTN)⟩
        case measure => simp [intOf]; omega
      · have HIH := Lib.hid (fun u => refHome_any (N : Int) T u)
        rw [decide_eq_false (fun h => hTN h.2)] at HIH
        have hR0 : R = false := HCT.out false ⟨fun h => absurd h (fun h => hTN ((HSP.out.1 h).2.2.2.1 T HMEM.out)), fun h => absurd h (by decide)⟩
        have HR0 := Lib.hid hR0
        have hst := HRX.out
        have hs3 := set3_block hst (.int .i64 HV.epoch) (.int .i64 (Q : Int)) (.slice (some ⟨tb, tof, none⟩) n tc); have hf3 := set3_below HW2.out (show w.heap.size ≤ B + 1 by rw [HBQ.out]; omega) (.int .i64 HV.epoch) (.int .i64 (Q : Int)) (.slice (some ⟨tb, tof, none⟩) n tc); unfold set3 at hs3 hf3
        have HS' := Lib.hid hs3; have HF' := Lib.hid hf3; have r0 := below_cell (Below.refl _ u2) hst 0 rfl; have r1 := below_cell (Below.refl _ u2) hst 1 rfl; have r2 := below_cell (Below.refl _ u2) hst 2 rfl; have f0 := block_frozen hst 0; have f1 := block_frozen hst 1; have f2 := block_frozen hst 2
        clear hs3 hf3 hst hR0
        go_wp2_with (first | (go_at_call 52; refine (HIH.out _).mono ?_; rintro e u4 ⟨rfl, rfl⟩) | fail)
        refine bodyPost_ret (results_row_tmp rfl _ _ (B + 1) _ _ _ _ rfl HS'.out Tryz.underlying67 rfl (by kernel_rfl)) rfl (by exact ⟨_, ⟨_, _, _, _, _, rfl⟩, by rw [HR0.out]; rfl, fun h => by rw [HR0.out] at h; exact absurd h (by decide), HF'.out⟩)
    · have hjn' : j = n := by omega
      subst hjn'
      have hnl : ¬ (j : Int) < j := by omega
      obtain ⟨b9, off9, he9, _, p7⟩ := HE7.out u2 HW2.out
      have he9 : b = b9 ∧ off = off9 := by injection he9 with he; injection he with h1 h2; exact ⟨h1, h2⟩
      obtain ⟨rfl, rfl⟩ := he9
      have b0 := below_cell (Below.refl _ u2) HB2.out 0 rfl
      go_upto_region 11 with (first | (go_at_call 81; refine (HRC.out _).mono ?_; rintro e wc ⟨rfl, hb4⟩) | fail)
      have HB4 := Lib.hid ((hb4.block _ (lt_of_block HB2.out)).trans HB2.out)
      have HH4 := Lib.hid ((hb4.block _ (lt_of_block HHX2.out)).trans HHX2.out)
      have HR4 := Lib.hid (HRT2.out.below hb4)
      have HX4 := Lib.hid ((hb4.block _ (lt_of_block HRX.out)).trans HRX.out)
      have HW := Lib.hid (HW2.out.trans (hb4.mono HW2.out.size))
      clear hb4 b0 b3 b4 b5 h0 h1 h2 p7 HB2 HHX2 HRT2 HRX HW2 HAT
      have k3 := keep_at HB4.out 3 rfl
      have k4 := keep_at HB4.out 4 rfl
      have q0 := keep_at HH4.out 0 rfl
      have q1 := keep_at HH4.out 1 rfl
      have q2 := keep_at HH4.out 2 rfl
      have HFIN : Hid (∀ (W : World) (c : Bool), R = c → (StandP l → W.heap[B + 1]? = some (.cells #[.int .i64 HV.epoch, .int .i64 (Q : Int), .slice ta j tc] 67 (0, 0))) → True) := Lib.hid (fun _ _ _ _ => trivial)
      clear HFIN
      have HALL := Lib.hid (show ∀ t ∈ HV.tgt, t < (N : Int) from fun t ht => by
        obtain ⟨i, hi, rfl⟩ := List.mem_iff_getElem.1 ht
        have := HJ.out i (by rw [← HN.out]; exact hi)
        rwa [show HV.tgt.getD i 0 = HV.tgt[i] from by simp [List.getD, hi]] at this)
      obtain ⟨c, hc⟩ : ∃ c : Bool, decide (cE = 0 ∧ cV = HV.epoch ∧ cW = (Q : Int)) = c := ⟨_, rfl⟩
      have hRc : R = c := HCT.out c ⟨fun h => by
          rw [← hc]; exact decide_eq_true ⟨(HSP.out.1 h).2.2.2.2.2.1, (HSP.out.1 h).2.2.2.2.2.2.1, (HSP.out.1 h).2.2.2.2.2.2.2⟩,
        fun h => by
          rw [← hc] at h
          obtain ⟨g1, g2, g3⟩ := of_decide_eq_true h
          exact HSP.out.2 ⟨(by first | trivial | rfl), (by first | trivial | rfl), HCQ.out, HALL.out, by have := HN.out; have := HEE.out; omega, g1, g2, g3⟩⟩
      have HRc := Lib.hid hRc
      have hcs : (cE = 0 ∧ cV = HV.epoch ∧ cW = (Q : Int) ∧ c = true) ∨ (cE ≠ 0 ∧ c = false) ∨ (cE = 0 ∧ cV ≠ HV.epoch ∧ c = false) ∨ (cE = 0 ∧ cV = HV.epoch ∧ cW ≠ (Q : Int) ∧ c = false) := by
        by_cases g1 : cE = 0
        · by_cases g2 : cV = HV.epoch
          · by_cases g3 : cW = (Q : Int)
            · exact .inl ⟨g1, g2, g3, by rw [← hc]; exact decide_eq_true ⟨g1, g2, g3⟩⟩
            · exact .inr (.inr (.inr ⟨g1, g2, g3, by rw [← hc]; exact decide_eq_false (fun h => g3 h.2.2)⟩))
          · exact .inr (.inr (.inl ⟨g1, g2, by rw [← hc]; exact decide_eq_false (fun h => g2 h.2.1)⟩))
        · exact .inr (.inl ⟨g1, by rw [← hc]; exact decide_eq_false (fun h => g1 h.1)⟩)
      clear hc hRc HALL HSP HCT HEE HJ
      rcases hcs with ⟨g1, g2, g3, rfl⟩ | ⟨g1, rfl⟩ | ⟨g1, g2, rfl⟩ | ⟨g1, g2, g3, rfl⟩
      · subst g1 g2 g3
        have g1b : ((0 : Int) == 0) = true := by rfl
        have hbd := (Below.refl wc.heap.size wc).drew
        refine wp_region_held_drew (S := fun u => Below w.heap.size w u ∧ u.cell? ⟨B, 3, none⟩ = some (.int .i64 HV.epoch) ∧ u.cell? ⟨B, 4, none⟩ = some (.int .i64 (Q : Int)) ∧ u.cell? ⟨H, 0, none⟩ = some (.int .i64 HV.epoch) ∧ u.cell? ⟨H, 1, none⟩ = some (.int .i64 (Q : Int)) ∧ u.cell? ⟨H, 2, none⟩ = some (.slice ta j tc)) (by kernel_rfl) ⟨HW.out.trans (hbd.mono HW.out.size), below_cell hbd HB4.out 3 rfl, below_cell hbd HB4.out 4 rfl, below_cell hbd HH4.out 0 rfl, below_cell hbd HH4.out 1 rfl, below_cell hbd HH4.out 2 rfl⟩ (fun hS => ?_)
        obtain ⟨y, hWd⟩ : ∃ y, wc.drew = y := ⟨_, rfl⟩
        rw [hWd] at hS hbd ⊢
        have HBD := Lib.hid hbd
        clear hWd hbd
        refine wpAnyH_take (i := 0) (v := (.agg #[.int .i64 HV.epoch, .int .i64 (Q : Int), .slice ta j tc])) rfl (by kernel_rfl) (by kernel_rfl) (by kernel_rfl) (fun _ _ _ h => h) (Or.inl ⟨by rfl, fun w hSw => ?_⟩) (by assumption) ?_
        · obtain ⟨_, s0, s1, s2, s3, s4⟩ := hSw
          go_simp
        try simp only [Act.put, List.setIfInBounds_toArray, List.set_cons_zero, List.set_cons_succ]
        refine wpAnyH_ready (rs := [1]) (by kernel_rfl) (by simp) ?_
        refine AllReadyH.cons rfl (fun K hK => ?_) AllReadyH.nil
        go_simp
        refine hK.out _ _ (hS) (fun hS => ?_)
        clear hK K
        try simp only [Act.put, List.setIfInBounds_toArray, List.set_cons_zero, List.set_cons_succ]
        refine wpAnyH_ready (rs := [2]) (by kernel_rfl) (by simp) ?_
        refine AllReadyH.cons rfl (fun K hK => ?_) AllReadyH.nil
        go_simp
        refine hK.out _ _ (hS) (fun hS => ?_)
        clear hK K
        try simp only [Act.put, List.setIfInBounds_toArray, List.set_cons_zero, List.set_cons_succ]
        refine wpAnyH_ready (rs := [3]) (by kernel_rfl) (by simp) ?_
        refine AllReadyH.cons rfl (fun K hK => ?_) AllReadyH.nil
        go_simp
        refine hK.out _ _ (hS) (fun hS => ?_)
        clear hK K
        try simp only [Act.put, List.setIfInBounds_toArray, List.set_cons_zero, List.set_cons_succ]
        refine wpAnyH_take (i := 5) (v := (.pointer (some ⟨B, 3, none⟩))) rfl (by kernel_rfl) (by kernel_rfl) (by kernel_rfl) (fun _ _ _ h => h) (Or.inl ⟨by rfl, fun w hSw => ?_⟩) (by assumption) ?_
        · clear hSw; go_simp
        try simp only [Act.put, List.setIfInBounds_toArray, List.set_cons_zero, List.set_cons_succ]
        refine wpAnyH_take (i := 6) (v := (.int .i64 HV.epoch)) rfl (by kernel_rfl) (by kernel_rfl) (by kernel_rfl) (fun _ _ _ h => h) (Or.inl ⟨by rfl, fun w hSw => ?_⟩) (by assumption) ?_
        · obtain ⟨_, s0, s1, s2, s3, s4⟩ := hSw
          go_simp
        try simp only [Act.put, List.setIfInBounds_toArray, List.set_cons_zero, List.set_cons_succ]
        refine wpAnyH_ready (rs := [4]) (by kernel_rfl) (by simp) ?_
        refine AllReadyH.cons rfl (fun K hK => ?_) AllReadyH.nil
        go_simp
        refine hK.out _ _ (hS) (fun hS => ?_)
        clear hK K
        try simp only [Act.put, List.setIfInBounds_toArray, List.set_cons_zero, List.set_cons_succ]
        refine wpAnyH_ready (rs := [7]) (by kernel_rfl) (by simp) ?_
        refine AllReadyH.cons rfl (fun K hK => ?_) AllReadyH.nil
        go_simp
        refine hK.out _ _ (hS) (fun hS => ?_)
        clear hK K
        try simp only [Act.put, List.setIfInBounds_toArray, List.set_cons_zero, List.set_cons_succ]
        refine wpAnyH_ready (rs := [8]) (by kernel_rfl) (by simp) ?_
        refine AllReadyH.cons rfl (fun K hK => ?_) AllReadyH.nil
        go_simp
        refine hK.out _ _ (hS) (fun hS => ?_)
        clear hK K
        try simp only [Act.put, List.setIfInBounds_toArray, List.set_cons_zero, List.set_cons_succ]
        refine wpAnyH_ready (rs := [9]) (by kernel_rfl) (by simp) ?_
        refine AllReadyH.cons rfl (fun K hK => ?_) AllReadyH.nil
        go_simp
        refine hK.out _ _ (hS) (fun hS => ?_)
        clear hK K
        try simp only [Act.put, List.setIfInBounds_toArray, List.set_cons_zero, List.set_cons_succ]
        refine wpAnyH_take (i := 11) (v := (.pointer (some ⟨B, 4, none⟩))) rfl (by kernel_rfl) (by kernel_rfl) (by kernel_rfl) (fun _ _ _ h => h) (Or.inl ⟨by rfl, fun w hSw => ?_⟩) (by assumption) ?_
        · clear hSw; go_simp
        try simp only [Act.put, List.setIfInBounds_toArray, List.set_cons_zero, List.set_cons_succ]
        refine wpAnyH_take (i := 12) (v := (.int .i64 (Q : Int))) rfl (by kernel_rfl) (by kernel_rfl) (by kernel_rfl) (fun _ _ _ h => h) (Or.inl ⟨by rfl, fun w hSw => ?_⟩) (by assumption) ?_
        · obtain ⟨_, s0, s1, s2, s3, s4⟩ := hSw
          go_simp
        try simp only [Act.put, List.setIfInBounds_toArray, List.set_cons_zero, List.set_cons_succ]
        refine wpAnyH_take (i := 10) (v := (.int .i64 (Q : Int))) rfl (by kernel_rfl) (by kernel_rfl) (by kernel_rfl) (fun _ _ _ h => h) (Or.inl ⟨by rfl, fun w hSw => ?_⟩) (by assumption) ?_
        · clear hSw; go_simp
        try simp only [Act.put, List.setIfInBounds_toArray, List.set_cons_zero, List.set_cons_succ]
        refine wpAnyH_take (i := 13) (v := (.bool true)) rfl (by kernel_rfl) (by kernel_rfl) (by kernel_rfl) (fun _ _ _ h => h) (Or.inl ⟨by rfl, fun w hSw => ?_⟩) (by assumption) ?_
        · clear hSw; go_simp
        try simp only [Act.put, List.setIfInBounds_toArray, List.set_cons_zero, List.set_cons_succ]
        refine wpAnyH_take (i := 14) (v := (.bool true)) rfl (by kernel_rfl) (by kernel_rfl) (by kernel_rfl) (fun _ _ _ h => h) (Or.inl ⟨by rfl, fun w hSw => ?_⟩) (by assumption) ?_
        · clear hSw; go_simp
        try simp only [Act.put, List.setIfInBounds_toArray, List.set_cons_zero, List.set_cons_succ]
        have hst := (HBD.out.block _ (lt_of_block HX4.out)).trans HX4.out
        have hwx := hS.1
        have hrx := HR4.out.below HBD.out
        have hra := reads_apart (w' := set3 y (B + 1) (.int .i64 HV.epoch) (.int .i64 (Q : Int)) (.slice ta j tc)) hrx hst (fun t ht => (HK3.out t ht).1) (by rw [set3_size]; exact Nat.le_refl _) (fun b hb => set3_other _ _ _ _ _ _ hb)
        have hs3 := set3_block hst (.int .i64 HV.epoch) (.int .i64 (Q : Int)) (.slice ta j tc)
        have hf3 := set3_below hwx (show w.heap.size ≤ B + 1 by rw [HBQ.out]; omega) (.int .i64 HV.epoch) (.int .i64 (Q : Int)) (.slice ta j tc)
        have hS3 : (fun u : World => Below w.heap.size w u ∧ u.cell? ⟨B, 3, none⟩ = some (.int .i64 HV.epoch) ∧ u.cell? ⟨B, 4, none⟩ = some (.int .i64 (Q : Int)) ∧ u.cell? ⟨H, 0, none⟩ = some (.int .i64 HV.epoch) ∧ u.cell? ⟨H, 1, none⟩ = some (.int .i64 (Q : Int)) ∧ u.cell? ⟨H, 2, none⟩ = some (.slice ta j tc)) (set3 y (B + 1) (.int .i64 HV.epoch) (.int .i64 (Q : Int)) (.slice ta j tc)) := ⟨hf3, (cell_set3 y (b := B) (by omega) _ _ _ 3).trans hS.2.1, (cell_set3 y (b := B) (by omega) _ _ _ 4).trans hS.2.2.1, (cell_set3 y (b := H) (by have := HHL.out; omega) _ _ _ 0).trans hS.2.2.2.1, (cell_set3 y (b := H) (by have := HHL.out; omega) _ _ _ 1).trans hS.2.2.2.2.1, (cell_set3 y (b := H) (by have := HHL.out; omega) _ _ _ 2).trans hS.2.2.2.2.2⟩
        unfold set3 at hra hs3 hf3 hS3
        have HRA := Lib.hid hra; have HS' := Lib.hid hs3; have HF' := Lib.hid hf3; have HS3 := Lib.hid hS3
        have r0 := below_cell (Below.refl _ y) hst 0 rfl; have r1 := below_cell (Below.refl _ y) hst 1 rfl; have r2 := below_cell (Below.refl _ y) hst 2 rfl; have f0 := block_frozen hst 0; have f1 := block_frozen hst 1; have f2 := block_frozen hst 2
        clear hra hs3 hf3 hS3 hwx hrx hst
        refine wpAnyH_ready (rs := [15]) (by kernel_rfl) (by simp) ?_
        refine AllReadyH.cons rfl (fun K hK => ?_) AllReadyH.nil
        go_simp
        refine hK.out _ _ (HS3.out) (fun hS => ?_)
        clear hK K
        try simp only [Act.put, List.setIfInBounds_toArray, List.set_cons_zero, List.set_cons_succ]
        refine wpAnyH_ready (rs := [16]) (by kernel_rfl) (by simp) ?_
        refine AllReadyH.cons rfl (fun K hK => ?_) AllReadyH.nil
        go_simp
        refine hK.out _ _ (hS) (fun hS => ?_)
        clear hK K
        try simp only [Act.put, List.setIfInBounds_toArray, List.set_cons_zero, List.set_cons_succ]
        refine wpAnyH_done (by kernel_rfl) ?_ _
        go_wp2_with fail
        refine bodyPost_ret (results_row_tmp rfl _ _ (B + 1) _ _ _ _ rfl HS'.out Tryz.underlying67 rfl (by kernel_rfl)) rfl (by exact ⟨_, ⟨_, _, _, _, _, rfl⟩, by rw [HRc.out]; rfl, fun _ => ⟨_, by rw [HCQ.out], HRA.out⟩, HF'.out⟩)
      · have g1b : (cE == 0) = false := by simpa using g1
        have hbd := (Below.refl wc.heap.size wc).drew
        refine wp_region_held_drew (S := fun u => Below w.heap.size w u ∧ u.cell? ⟨B, 3, none⟩ = some (.int .i64 HV.epoch) ∧ u.cell? ⟨B, 4, none⟩ = some (.int .i64 (Q : Int)) ∧ u.cell? ⟨H, 0, none⟩ = some (.int .i64 HV.epoch) ∧ u.cell? ⟨H, 1, none⟩ = some (.int .i64 (Q : Int)) ∧ u.cell? ⟨H, 2, none⟩ = some (.slice ta j tc)) (by kernel_rfl) ⟨HW.out.trans (hbd.mono HW.out.size), below_cell hbd HB4.out 3 rfl, below_cell hbd HB4.out 4 rfl, below_cell hbd HH4.out 0 rfl, below_cell hbd HH4.out 1 rfl, below_cell hbd HH4.out 2 rfl⟩ (fun hS => ?_)
        obtain ⟨y, hWd⟩ : ∃ y, wc.drew = y := ⟨_, rfl⟩
        rw [hWd] at hS hbd ⊢
        have HBD := Lib.hid hbd
        clear hWd hbd
        refine wpAnyH_take (i := 0) (v := (.agg #[.int .i64 HV.epoch, .int .i64 (Q : Int), .slice ta j tc])) rfl (by kernel_rfl) (by kernel_rfl) (by kernel_rfl) (fun _ _ _ h => h) (Or.inl ⟨by rfl, fun w hSw => ?_⟩) (by assumption) ?_
        · obtain ⟨_, s0, s1, s2, s3, s4⟩ := hSw
          go_simp
        try simp only [Act.put, List.setIfInBounds_toArray, List.set_cons_zero, List.set_cons_succ]
        refine wpAnyH_ready (rs := [1]) (by kernel_rfl) (by simp) ?_
        refine AllReadyH.cons rfl (fun K hK => ?_) AllReadyH.nil
        go_simp
        refine hK.out _ _ (hS) (fun hS => ?_)
        clear hK K
        try simp only [Act.put, List.setIfInBounds_toArray, List.set_cons_zero, List.set_cons_succ]
        refine wpAnyH_ready (rs := [2]) (by kernel_rfl) (by simp) ?_
        refine AllReadyH.cons rfl (fun K hK => ?_) AllReadyH.nil
        go_simp
        refine hK.out _ _ (hS) (fun hS => ?_)
        clear hK K
        try simp only [Act.put, List.setIfInBounds_toArray, List.set_cons_zero, List.set_cons_succ]
        refine wpAnyH_ready (rs := [3]) (by kernel_rfl) (by simp) ?_
        refine AllReadyH.cons rfl (fun K hK => ?_) AllReadyH.nil
        go_simp
        refine hK.out _ _ (hS) (fun hS => ?_)
        clear hK K
        try simp only [Act.put, List.setIfInBounds_toArray, List.set_cons_zero, List.set_cons_succ]
        refine wpAnyH_take (i := 4) (v := undef) rfl (by kernel_rfl) (by kernel_rfl) (by kernel_rfl) (fun _ _ _ h => h) (Or.inr ⟨by rfl, rfl⟩) (by assumption) ?_
        try simp only [Act.put, List.setIfInBounds_toArray, List.set_cons_zero, List.set_cons_succ]
        refine wpAnyH_take (i := 5) (v := undef) rfl (by kernel_rfl) (by kernel_rfl) (by kernel_rfl) (fun _ _ _ h => h) (Or.inr ⟨by rfl, rfl⟩) (by assumption) ?_
        try simp only [Act.put, List.setIfInBounds_toArray, List.set_cons_zero, List.set_cons_succ]
        refine wpAnyH_take (i := 6) (v := undef) rfl (by kernel_rfl) (by kernel_rfl) (by kernel_rfl) (fun _ _ _ h => h) (Or.inr ⟨by rfl, rfl⟩) (by assumption) ?_
        try simp only [Act.put, List.setIfInBounds_toArray, List.set_cons_zero, List.set_cons_succ]
        refine wpAnyH_take (i := 7) (v := undef) rfl (by kernel_rfl) (by kernel_rfl) (by kernel_rfl) (fun _ _ _ h => h) (Or.inr ⟨by rfl, rfl⟩) (by assumption) ?_
        try simp only [Act.put, List.setIfInBounds_toArray, List.set_cons_zero, List.set_cons_succ]
        refine wpAnyH_ready (rs := [8]) (by kernel_rfl) (by simp) ?_
        refine AllReadyH.cons rfl (fun K hK => ?_) AllReadyH.nil
        go_simp
        refine hK.out _ _ (hS) (fun hS => ?_)
        clear hK K
        try simp only [Act.put, List.setIfInBounds_toArray, List.set_cons_zero, List.set_cons_succ]
        refine wpAnyH_ready (rs := [9]) (by kernel_rfl) (by simp) ?_
        refine AllReadyH.cons rfl (fun K hK => ?_) AllReadyH.nil
        go_simp
        refine hK.out _ _ (hS) (fun hS => ?_)
        clear hK K
        try simp only [Act.put, List.setIfInBounds_toArray, List.set_cons_zero, List.set_cons_succ]
        refine wpAnyH_take (i := 10) (v := undef) rfl (by kernel_rfl) (by kernel_rfl) (by kernel_rfl) (fun _ _ _ h => h) (Or.inr ⟨by rfl, rfl⟩) (by assumption) ?_
        try simp only [Act.put, List.setIfInBounds_toArray, List.set_cons_zero, List.set_cons_succ]
        refine wpAnyH_take (i := 11) (v := undef) rfl (by kernel_rfl) (by kernel_rfl) (by kernel_rfl) (fun _ _ _ h => h) (Or.inr ⟨by rfl, rfl⟩) (by assumption) ?_
        try simp only [Act.put, List.setIfInBounds_toArray, List.set_cons_zero, List.set_cons_succ]
        refine wpAnyH_take (i := 12) (v := undef) rfl (by kernel_rfl) (by kernel_rfl) (by kernel_rfl) (fun _ _ _ h => h) (Or.inr ⟨by rfl, rfl⟩) (by assumption) ?_
        try simp only [Act.put, List.setIfInBounds_toArray, List.set_cons_zero, List.set_cons_succ]
        refine wpAnyH_take (i := 13) (v := undef) rfl (by kernel_rfl) (by kernel_rfl) (by kernel_rfl) (fun _ _ _ h => h) (Or.inr ⟨by rfl, rfl⟩) (by assumption) ?_
        try simp only [Act.put, List.setIfInBounds_toArray, List.set_cons_zero, List.set_cons_succ]
        refine wpAnyH_take (i := 14) (v := (.bool false)) rfl (by kernel_rfl) (by kernel_rfl) (by kernel_rfl) (fun _ _ _ h => h) (Or.inl ⟨by rfl, fun w hSw => ?_⟩) (by assumption) ?_
        · clear hSw; go_simp
        try simp only [Act.put, List.setIfInBounds_toArray, List.set_cons_zero, List.set_cons_succ]
        have hst := (HBD.out.block _ (lt_of_block HX4.out)).trans HX4.out
        have hwx := hS.1
        have hrx := HR4.out.below HBD.out
        have hra := reads_apart (w' := set3 y (B + 1) (.int .i64 HV.epoch) (.int .i64 (Q : Int)) (.slice ta j tc)) hrx hst (fun t ht => (HK3.out t ht).1) (by rw [set3_size]; exact Nat.le_refl _) (fun b hb => set3_other _ _ _ _ _ _ hb)
        have hs3 := set3_block hst (.int .i64 HV.epoch) (.int .i64 (Q : Int)) (.slice ta j tc)
        have hf3 := set3_below hwx (show w.heap.size ≤ B + 1 by rw [HBQ.out]; omega) (.int .i64 HV.epoch) (.int .i64 (Q : Int)) (.slice ta j tc)
        have hS3 : (fun u : World => Below w.heap.size w u ∧ u.cell? ⟨B, 3, none⟩ = some (.int .i64 HV.epoch) ∧ u.cell? ⟨B, 4, none⟩ = some (.int .i64 (Q : Int)) ∧ u.cell? ⟨H, 0, none⟩ = some (.int .i64 HV.epoch) ∧ u.cell? ⟨H, 1, none⟩ = some (.int .i64 (Q : Int)) ∧ u.cell? ⟨H, 2, none⟩ = some (.slice ta j tc)) (set3 y (B + 1) (.int .i64 HV.epoch) (.int .i64 (Q : Int)) (.slice ta j tc)) := ⟨hf3, (cell_set3 y (b := B) (by omega) _ _ _ 3).trans hS.2.1, (cell_set3 y (b := B) (by omega) _ _ _ 4).trans hS.2.2.1, (cell_set3 y (b := H) (by have := HHL.out; omega) _ _ _ 0).trans hS.2.2.2.1, (cell_set3 y (b := H) (by have := HHL.out; omega) _ _ _ 1).trans hS.2.2.2.2.1, (cell_set3 y (b := H) (by have := HHL.out; omega) _ _ _ 2).trans hS.2.2.2.2.2⟩
        unfold set3 at hra hs3 hf3 hS3
        have HRA := Lib.hid hra; have HS' := Lib.hid hs3; have HF' := Lib.hid hf3; have HS3 := Lib.hid hS3
        have r0 := below_cell (Below.refl _ y) hst 0 rfl; have r1 := below_cell (Below.refl _ y) hst 1 rfl; have r2 := below_cell (Below.refl _ y) hst 2 rfl; have f0 := block_frozen hst 0; have f1 := block_frozen hst 1; have f2 := block_frozen hst 2
        clear hra hs3 hf3 hS3 hwx hrx hst
        refine wpAnyH_ready (rs := [15]) (by kernel_rfl) (by simp) ?_
        refine AllReadyH.cons rfl (fun K hK => ?_) AllReadyH.nil
        go_simp
        refine hK.out _ _ (HS3.out) (fun hS => ?_)
        clear hK K
        try simp only [Act.put, List.setIfInBounds_toArray, List.set_cons_zero, List.set_cons_succ]
        refine wpAnyH_ready (rs := [16]) (by kernel_rfl) (by simp) ?_
        refine AllReadyH.cons rfl (fun K hK => ?_) AllReadyH.nil
        go_simp
        refine hK.out _ _ (hS) (fun hS => ?_)
        clear hK K
        try simp only [Act.put, List.setIfInBounds_toArray, List.set_cons_zero, List.set_cons_succ]
        refine wpAnyH_done (by kernel_rfl) ?_ _
        go_wp2_with fail
        refine bodyPost_ret (results_row_tmp rfl _ _ (B + 1) _ _ _ _ rfl HS'.out Tryz.underlying67 rfl (by kernel_rfl)) rfl (by exact ⟨_, ⟨_, _, _, _, _, rfl⟩, by rw [HRc.out]; rfl, fun _ => ⟨_, by rw [HCQ.out], HRA.out⟩, HF'.out⟩)
      · subst g1
        have g2b : (cV == HV.epoch) = false := by simpa using g2
        have hbd := (Below.refl wc.heap.size wc).drew
        refine wp_region_held_drew (S := fun u => Below w.heap.size w u ∧ u.cell? ⟨B, 3, none⟩ = some (.int .i64 HV.epoch) ∧ u.cell? ⟨B, 4, none⟩ = some (.int .i64 (Q : Int)) ∧ u.cell? ⟨H, 0, none⟩ = some (.int .i64 HV.epoch) ∧ u.cell? ⟨H, 1, none⟩ = some (.int .i64 (Q : Int)) ∧ u.cell? ⟨H, 2, none⟩ = some (.slice ta j tc)) (by kernel_rfl) ⟨HW.out.trans (hbd.mono HW.out.size), below_cell hbd HB4.out 3 rfl, below_cell hbd HB4.out 4 rfl, below_cell hbd HH4.out 0 rfl, below_cell hbd HH4.out 1 rfl, below_cell hbd HH4.out 2 rfl⟩ (fun hS => ?_)
        obtain ⟨y, hWd⟩ : ∃ y, wc.drew = y := ⟨_, rfl⟩
        rw [hWd] at hS hbd ⊢
        have HBD := Lib.hid hbd
        clear hWd hbd
        refine wpAnyH_take (i := 0) (v := (.agg #[.int .i64 HV.epoch, .int .i64 (Q : Int), .slice ta j tc])) rfl (by kernel_rfl) (by kernel_rfl) (by kernel_rfl) (fun _ _ _ h => h) (Or.inl ⟨by rfl, fun w hSw => ?_⟩) (by assumption) ?_
        · obtain ⟨_, s0, s1, s2, s3, s4⟩ := hSw
          go_simp
        try simp only [Act.put, List.setIfInBounds_toArray, List.set_cons_zero, List.set_cons_succ]
        refine wpAnyH_ready (rs := [1]) (by kernel_rfl) (by simp) ?_
        refine AllReadyH.cons rfl (fun K hK => ?_) AllReadyH.nil
        go_simp
        refine hK.out _ _ (hS) (fun hS => ?_)
        clear hK K
        try simp only [Act.put, List.setIfInBounds_toArray, List.set_cons_zero, List.set_cons_succ]
        refine wpAnyH_ready (rs := [2]) (by kernel_rfl) (by simp) ?_
        refine AllReadyH.cons rfl (fun K hK => ?_) AllReadyH.nil
        go_simp
        refine hK.out _ _ (hS) (fun hS => ?_)
        clear hK K
        try simp only [Act.put, List.setIfInBounds_toArray, List.set_cons_zero, List.set_cons_succ]
        refine wpAnyH_ready (rs := [3]) (by kernel_rfl) (by simp) ?_
        refine AllReadyH.cons rfl (fun K hK => ?_) AllReadyH.nil
        go_simp
        refine hK.out _ _ (hS) (fun hS => ?_)
        clear hK K
        try simp only [Act.put, List.setIfInBounds_toArray, List.set_cons_zero, List.set_cons_succ]
        refine wpAnyH_take (i := 5) (v := (.pointer (some ⟨B, 3, none⟩))) rfl (by kernel_rfl) (by kernel_rfl) (by kernel_rfl) (fun _ _ _ h => h) (Or.inl ⟨by rfl, fun w hSw => ?_⟩) (by assumption) ?_
        · clear hSw; go_simp
        try simp only [Act.put, List.setIfInBounds_toArray, List.set_cons_zero, List.set_cons_succ]
        refine wpAnyH_take (i := 6) (v := (.int .i64 HV.epoch)) rfl (by kernel_rfl) (by kernel_rfl) (by kernel_rfl) (fun _ _ _ h => h) (Or.inl ⟨by rfl, fun w hSw => ?_⟩) (by assumption) ?_
        · obtain ⟨_, s0, s1, s2, s3, s4⟩ := hSw
          go_simp
        try simp only [Act.put, List.setIfInBounds_toArray, List.set_cons_zero, List.set_cons_succ]
        refine wpAnyH_ready (rs := [4]) (by kernel_rfl) (by simp) ?_
        refine AllReadyH.cons rfl (fun K hK => ?_) AllReadyH.nil
        go_simp
        refine hK.out _ _ (hS) (fun hS => ?_)
        clear hK K
        try simp only [Act.put, List.setIfInBounds_toArray, List.set_cons_zero, List.set_cons_succ]
        refine wpAnyH_ready (rs := [7]) (by kernel_rfl) (by simp) ?_
        refine AllReadyH.cons rfl (fun K hK => ?_) AllReadyH.nil
        go_simp
        refine hK.out _ _ (hS) (fun hS => ?_)
        clear hK K
        try simp only [Act.put, List.setIfInBounds_toArray, List.set_cons_zero, List.set_cons_succ]
        refine wpAnyH_ready (rs := [8]) (by kernel_rfl) (by simp) ?_
        refine AllReadyH.cons rfl (fun K hK => ?_) AllReadyH.nil
        go_simp
        refine hK.out _ _ (hS) (fun hS => ?_)
        clear hK K
        try simp only [Act.put, List.setIfInBounds_toArray, List.set_cons_zero, List.set_cons_succ]
        refine wpAnyH_ready (rs := [9]) (by kernel_rfl) (by simp) ?_
        refine AllReadyH.cons rfl (fun K hK => ?_) AllReadyH.nil
        go_simp
        refine hK.out _ _ (hS) (fun hS => ?_)
        clear hK K
        try simp only [Act.put, List.setIfInBounds_toArray, List.set_cons_zero, List.set_cons_succ]
        refine wpAnyH_take (i := 10) (v := undef) rfl (by kernel_rfl) (by kernel_rfl) (by kernel_rfl) (fun _ _ _ h => h) (Or.inr ⟨by rfl, rfl⟩) (by assumption) ?_
        try simp only [Act.put, List.setIfInBounds_toArray, List.set_cons_zero, List.set_cons_succ]
        refine wpAnyH_take (i := 11) (v := undef) rfl (by kernel_rfl) (by kernel_rfl) (by kernel_rfl) (fun _ _ _ h => h) (Or.inr ⟨by rfl, rfl⟩) (by assumption) ?_
        try simp only [Act.put, List.setIfInBounds_toArray, List.set_cons_zero, List.set_cons_succ]
        refine wpAnyH_take (i := 12) (v := undef) rfl (by kernel_rfl) (by kernel_rfl) (by kernel_rfl) (fun _ _ _ h => h) (Or.inr ⟨by rfl, rfl⟩) (by assumption) ?_
        try simp only [Act.put, List.setIfInBounds_toArray, List.set_cons_zero, List.set_cons_succ]
        refine wpAnyH_take (i := 13) (v := undef) rfl (by kernel_rfl) (by kernel_rfl) (by kernel_rfl) (fun _ _ _ h => h) (Or.inr ⟨by rfl, rfl⟩) (by assumption) ?_
        try simp only [Act.put, List.setIfInBounds_toArray, List.set_cons_zero, List.set_cons_succ]
        refine wpAnyH_take (i := 14) (v := (.bool false)) rfl (by kernel_rfl) (by kernel_rfl) (by kernel_rfl) (fun _ _ _ h => h) (Or.inl ⟨by rfl, fun w hSw => ?_⟩) (by assumption) ?_
        · clear hSw; go_simp
        try simp only [Act.put, List.setIfInBounds_toArray, List.set_cons_zero, List.set_cons_succ]
        have hst := (HBD.out.block _ (lt_of_block HX4.out)).trans HX4.out
        have hwx := hS.1
        have hrx := HR4.out.below HBD.out
        have hra := reads_apart (w' := set3 y (B + 1) (.int .i64 HV.epoch) (.int .i64 (Q : Int)) (.slice ta j tc)) hrx hst (fun t ht => (HK3.out t ht).1) (by rw [set3_size]; exact Nat.le_refl _) (fun b hb => set3_other _ _ _ _ _ _ hb)
        have hs3 := set3_block hst (.int .i64 HV.epoch) (.int .i64 (Q : Int)) (.slice ta j tc)
        have hf3 := set3_below hwx (show w.heap.size ≤ B + 1 by rw [HBQ.out]; omega) (.int .i64 HV.epoch) (.int .i64 (Q : Int)) (.slice ta j tc)
        have hS3 : (fun u : World => Below w.heap.size w u ∧ u.cell? ⟨B, 3, none⟩ = some (.int .i64 HV.epoch) ∧ u.cell? ⟨B, 4, none⟩ = some (.int .i64 (Q : Int)) ∧ u.cell? ⟨H, 0, none⟩ = some (.int .i64 HV.epoch) ∧ u.cell? ⟨H, 1, none⟩ = some (.int .i64 (Q : Int)) ∧ u.cell? ⟨H, 2, none⟩ = some (.slice ta j tc)) (set3 y (B + 1) (.int .i64 HV.epoch) (.int .i64 (Q : Int)) (.slice ta j tc)) := ⟨hf3, (cell_set3 y (b := B) (by omega) _ _ _ 3).trans hS.2.1, (cell_set3 y (b := B) (by omega) _ _ _ 4).trans hS.2.2.1, (cell_set3 y (b := H) (by have := HHL.out; omega) _ _ _ 0).trans hS.2.2.2.1, (cell_set3 y (b := H) (by have := HHL.out; omega) _ _ _ 1).trans hS.2.2.2.2.1, (cell_set3 y (b := H) (by have := HHL.out; omega) _ _ _ 2).trans hS.2.2.2.2.2⟩
        unfold set3 at hra hs3 hf3 hS3
        have HRA := Lib.hid hra; have HS' := Lib.hid hs3; have HF' := Lib.hid hf3; have HS3 := Lib.hid hS3
        have r0 := below_cell (Below.refl _ y) hst 0 rfl; have r1 := below_cell (Below.refl _ y) hst 1 rfl; have r2 := below_cell (Below.refl _ y) hst 2 rfl; have f0 := block_frozen hst 0; have f1 := block_frozen hst 1; have f2 := block_frozen hst 2
        clear hra hs3 hf3 hS3 hwx hrx hst
        refine wpAnyH_ready (rs := [15]) (by kernel_rfl) (by simp) ?_
        refine AllReadyH.cons rfl (fun K hK => ?_) AllReadyH.nil
        go_simp
        refine hK.out _ _ (HS3.out) (fun hS => ?_)
        clear hK K
        try simp only [Act.put, List.setIfInBounds_toArray, List.set_cons_zero, List.set_cons_succ]
        refine wpAnyH_ready (rs := [16]) (by kernel_rfl) (by simp) ?_
        refine AllReadyH.cons rfl (fun K hK => ?_) AllReadyH.nil
        go_simp
        refine hK.out _ _ (hS) (fun hS => ?_)
        clear hK K
        try simp only [Act.put, List.setIfInBounds_toArray, List.set_cons_zero, List.set_cons_succ]
        refine wpAnyH_done (by kernel_rfl) ?_ _
        go_wp2_with fail
        refine bodyPost_ret (results_row_tmp rfl _ _ (B + 1) _ _ _ _ rfl HS'.out Tryz.underlying67 rfl (by kernel_rfl)) rfl (by exact ⟨_, ⟨_, _, _, _, _, rfl⟩, by rw [HRc.out]; rfl, fun _ => ⟨_, by rw [HCQ.out], HRA.out⟩, HF'.out⟩)
      · subst g1 g2
        have g3b : (cW == (Q : Int)) = false := by simpa using g3
        have hbd := (Below.refl wc.heap.size wc).drew
        refine wp_region_held_drew (S := fun u => Below w.heap.size w u ∧ u.cell? ⟨B, 3, none⟩ = some (.int .i64 HV.epoch) ∧ u.cell? ⟨B, 4, none⟩ = some (.int .i64 (Q : Int)) ∧ u.cell? ⟨H, 0, none⟩ = some (.int .i64 HV.epoch) ∧ u.cell? ⟨H, 1, none⟩ = some (.int .i64 (Q : Int)) ∧ u.cell? ⟨H, 2, none⟩ = some (.slice ta j tc)) (by kernel_rfl) ⟨HW.out.trans (hbd.mono HW.out.size), below_cell hbd HB4.out 3 rfl, below_cell hbd HB4.out 4 rfl, below_cell hbd HH4.out 0 rfl, below_cell hbd HH4.out 1 rfl, below_cell hbd HH4.out 2 rfl⟩ (fun hS => ?_)
        obtain ⟨y, hWd⟩ : ∃ y, wc.drew = y := ⟨_, rfl⟩
        rw [hWd] at hS hbd ⊢
        have HBD := Lib.hid hbd
        clear hWd hbd
        refine wpAnyH_take (i := 0) (v := (.agg #[.int .i64 HV.epoch, .int .i64 (Q : Int), .slice ta j tc])) rfl (by kernel_rfl) (by kernel_rfl) (by kernel_rfl) (fun _ _ _ h => h) (Or.inl ⟨by rfl, fun w hSw => ?_⟩) (by assumption) ?_
        · obtain ⟨_, s0, s1, s2, s3, s4⟩ := hSw
          go_simp
        try simp only [Act.put, List.setIfInBounds_toArray, List.set_cons_zero, List.set_cons_succ]
        refine wpAnyH_ready (rs := [1]) (by kernel_rfl) (by simp) ?_
        refine AllReadyH.cons rfl (fun K hK => ?_) AllReadyH.nil
        go_simp
        refine hK.out _ _ (hS) (fun hS => ?_)
        clear hK K
        try simp only [Act.put, List.setIfInBounds_toArray, List.set_cons_zero, List.set_cons_succ]
        refine wpAnyH_ready (rs := [2]) (by kernel_rfl) (by simp) ?_
        refine AllReadyH.cons rfl (fun K hK => ?_) AllReadyH.nil
        go_simp
        refine hK.out _ _ (hS) (fun hS => ?_)
        clear hK K
        try simp only [Act.put, List.setIfInBounds_toArray, List.set_cons_zero, List.set_cons_succ]
        refine wpAnyH_ready (rs := [3]) (by kernel_rfl) (by simp) ?_
        refine AllReadyH.cons rfl (fun K hK => ?_) AllReadyH.nil
        go_simp
        refine hK.out _ _ (hS) (fun hS => ?_)
        clear hK K
        try simp only [Act.put, List.setIfInBounds_toArray, List.set_cons_zero, List.set_cons_succ]
        refine wpAnyH_take (i := 5) (v := (.pointer (some ⟨B, 3, none⟩))) rfl (by kernel_rfl) (by kernel_rfl) (by kernel_rfl) (fun _ _ _ h => h) (Or.inl ⟨by rfl, fun w hSw => ?_⟩) (by assumption) ?_
        · clear hSw; go_simp
        try simp only [Act.put, List.setIfInBounds_toArray, List.set_cons_zero, List.set_cons_succ]
        refine wpAnyH_take (i := 6) (v := (.int .i64 HV.epoch)) rfl (by kernel_rfl) (by kernel_rfl) (by kernel_rfl) (fun _ _ _ h => h) (Or.inl ⟨by rfl, fun w hSw => ?_⟩) (by assumption) ?_
        · obtain ⟨_, s0, s1, s2, s3, s4⟩ := hSw
          go_simp
        try simp only [Act.put, List.setIfInBounds_toArray, List.set_cons_zero, List.set_cons_succ]
        refine wpAnyH_ready (rs := [4]) (by kernel_rfl) (by simp) ?_
        refine AllReadyH.cons rfl (fun K hK => ?_) AllReadyH.nil
        go_simp
        refine hK.out _ _ (hS) (fun hS => ?_)
        clear hK K
        try simp only [Act.put, List.setIfInBounds_toArray, List.set_cons_zero, List.set_cons_succ]
        refine wpAnyH_ready (rs := [7]) (by kernel_rfl) (by simp) ?_
        refine AllReadyH.cons rfl (fun K hK => ?_) AllReadyH.nil
        go_simp
        refine hK.out _ _ (hS) (fun hS => ?_)
        clear hK K
        try simp only [Act.put, List.setIfInBounds_toArray, List.set_cons_zero, List.set_cons_succ]
        refine wpAnyH_ready (rs := [8]) (by kernel_rfl) (by simp) ?_
        refine AllReadyH.cons rfl (fun K hK => ?_) AllReadyH.nil
        go_simp
        refine hK.out _ _ (hS) (fun hS => ?_)
        clear hK K
        try simp only [Act.put, List.setIfInBounds_toArray, List.set_cons_zero, List.set_cons_succ]
        refine wpAnyH_ready (rs := [9]) (by kernel_rfl) (by simp) ?_
        refine AllReadyH.cons rfl (fun K hK => ?_) AllReadyH.nil
        go_simp
        refine hK.out _ _ (hS) (fun hS => ?_)
        clear hK K
        try simp only [Act.put, List.setIfInBounds_toArray, List.set_cons_zero, List.set_cons_succ]
        refine wpAnyH_take (i := 11) (v := (.pointer (some ⟨B, 4, none⟩))) rfl (by kernel_rfl) (by kernel_rfl) (by kernel_rfl) (fun _ _ _ h => h) (Or.inl ⟨by rfl, fun w hSw => ?_⟩) (by assumption) ?_
        · clear hSw; go_simp
        try simp only [Act.put, List.setIfInBounds_toArray, List.set_cons_zero, List.set_cons_succ]
        refine wpAnyH_take (i := 12) (v := (.int .i64 (Q : Int))) rfl (by kernel_rfl) (by kernel_rfl) (by kernel_rfl) (fun _ _ _ h => h) (Or.inl ⟨by rfl, fun w hSw => ?_⟩) (by assumption) ?_
        · obtain ⟨_, s0, s1, s2, s3, s4⟩ := hSw
          go_simp
        try simp only [Act.put, List.setIfInBounds_toArray, List.set_cons_zero, List.set_cons_succ]
        refine wpAnyH_take (i := 10) (v := (.int .i64 cW)) rfl (by kernel_rfl) (by kernel_rfl) (by kernel_rfl) (fun _ _ _ h => h) (Or.inl ⟨by rfl, fun w hSw => ?_⟩) (by assumption) ?_
        · clear hSw; go_simp
        try simp only [Act.put, List.setIfInBounds_toArray, List.set_cons_zero, List.set_cons_succ]
        refine wpAnyH_take (i := 13) (v := (.bool false)) rfl (by kernel_rfl) (by kernel_rfl) (by kernel_rfl) (fun _ _ _ h => h) (Or.inl ⟨by rfl, fun w hSw => ?_⟩) (by assumption) ?_
        · clear hSw; go_simp
        try simp only [Act.put, List.setIfInBounds_toArray, List.set_cons_zero, List.set_cons_succ]
        refine wpAnyH_take (i := 14) (v := (.bool false)) rfl (by kernel_rfl) (by kernel_rfl) (by kernel_rfl) (fun _ _ _ h => h) (Or.inl ⟨by rfl, fun w hSw => ?_⟩) (by assumption) ?_
        · clear hSw; go_simp
        try simp only [Act.put, List.setIfInBounds_toArray, List.set_cons_zero, List.set_cons_succ]
        have hst := (HBD.out.block _ (lt_of_block HX4.out)).trans HX4.out
        have hwx := hS.1
        have hrx := HR4.out.below HBD.out
        have hra := reads_apart (w' := set3 y (B + 1) (.int .i64 HV.epoch) (.int .i64 (Q : Int)) (.slice ta j tc)) hrx hst (fun t ht => (HK3.out t ht).1) (by rw [set3_size]; exact Nat.le_refl _) (fun b hb => set3_other _ _ _ _ _ _ hb)
        have hs3 := set3_block hst (.int .i64 HV.epoch) (.int .i64 (Q : Int)) (.slice ta j tc)
        have hf3 := set3_below hwx (show w.heap.size ≤ B + 1 by rw [HBQ.out]; omega) (.int .i64 HV.epoch) (.int .i64 (Q : Int)) (.slice ta j tc)
        have hS3 : (fun u : World => Below w.heap.size w u ∧ u.cell? ⟨B, 3, none⟩ = some (.int .i64 HV.epoch) ∧ u.cell? ⟨B, 4, none⟩ = some (.int .i64 (Q : Int)) ∧ u.cell? ⟨H, 0, none⟩ = some (.int .i64 HV.epoch) ∧ u.cell? ⟨H, 1, none⟩ = some (.int .i64 (Q : Int)) ∧ u.cell? ⟨H, 2, none⟩ = some (.slice ta j tc)) (set3 y (B + 1) (.int .i64 HV.epoch) (.int .i64 (Q : Int)) (.slice ta j tc)) := ⟨hf3, (cell_set3 y (b := B) (by omega) _ _ _ 3).trans hS.2.1, (cell_set3 y (b := B) (by omega) _ _ _ 4).trans hS.2.2.1, (cell_set3 y (b := H) (by have := HHL.out; omega) _ _ _ 0).trans hS.2.2.2.1, (cell_set3 y (b := H) (by have := HHL.out; omega) _ _ _ 1).trans hS.2.2.2.2.1, (cell_set3 y (b := H) (by have := HHL.out; omega) _ _ _ 2).trans hS.2.2.2.2.2⟩
        unfold set3 at hra hs3 hf3 hS3
        have HRA := Lib.hid hra; have HS' := Lib.hid hs3; have HF' := Lib.hid hf3; have HS3 := Lib.hid hS3
        have r0 := below_cell (Below.refl _ y) hst 0 rfl; have r1 := below_cell (Below.refl _ y) hst 1 rfl; have r2 := below_cell (Below.refl _ y) hst 2 rfl; have f0 := block_frozen hst 0; have f1 := block_frozen hst 1; have f2 := block_frozen hst 2
        clear hra hs3 hf3 hS3 hwx hrx hst
        refine wpAnyH_ready (rs := [15]) (by kernel_rfl) (by simp) ?_
        refine AllReadyH.cons rfl (fun K hK => ?_) AllReadyH.nil
        go_simp
        refine hK.out _ _ (HS3.out) (fun hS => ?_)
        clear hK K
        try simp only [Act.put, List.setIfInBounds_toArray, List.set_cons_zero, List.set_cons_succ]
        refine wpAnyH_ready (rs := [16]) (by kernel_rfl) (by simp) ?_
        refine AllReadyH.cons rfl (fun K hK => ?_) AllReadyH.nil
        go_simp
        refine hK.out _ _ (hS) (fun hS => ?_)
        clear hK K
        try simp only [Act.put, List.setIfInBounds_toArray, List.set_cons_zero, List.set_cons_succ]
        refine wpAnyH_done (by kernel_rfl) ?_ _
        go_wp2_with fail
        refine bodyPost_ret (results_row_tmp rfl _ _ (B + 1) _ _ _ _ rfl HS'.out Tryz.underlying67 rfl (by kernel_rfl)) rfl (by exact ⟨_, ⟨_, _, _, _, _, rfl⟩, by rw [HRc.out]; rfl, fun _ => ⟨_, by rw [HCQ.out], HRA.out⟩, HF'.out⟩)
end Go.Proofs.YthnmnnlbglpjaaaGreatDoor
