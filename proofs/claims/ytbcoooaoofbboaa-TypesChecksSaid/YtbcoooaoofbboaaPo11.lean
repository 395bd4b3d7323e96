/- The reference's checking of a policy. -/
import Derived.Test.YtbcoooaoofbboaaPo6
import Derived.Test.YtbcoooaoofbboaaPo10
import Derived.Test.YtbcoooaoofbboaaRef13Q
import Derived.Test.YtbcoooaoofbboaaRef13A
import Derived.Test.YtbcoooaoofbboaaRef16G
import Derived.Outline
namespace Go.Proofs.Ytbcoooaoofbboaa
open Go.RowKit Go.ChangeShapes Go.Sort
set_option linter.unusedVariables false
set_option linter.unusedSimpArgs false

/-- what the rules' slices read as hangs on blocks below old and from lo on alone, and not on block b -/
def AwayB (old lo : Nat) (w : World) (b : Option Nat) (l : List Mtc) (vs : List (Value × Value)) : Prop :=
  ∀ w'' : World, w.heap.size ≤ w''.heap.size → (∀ k, (k < old ∨ lo ≤ k) → k < w.heap.size → b ≠ some k → w''.heap[k]? = w.heap[k]?) → VsOk w'' l vs
theorem AwayB.ok {old lo : Nat} {w : World} {b : Option Nat} {l : List Mtc} {vs : List (Value × Value)} (h : AwayB old lo w b l vs) : VsOk w l vs := h w (Nat.le_refl _) fun _ _ _ _ => rfl
theorem AwayB.below {old lo : Nat} {w w' : World} {b : Option Nat} {l : List Mtc} {vs : List (Value × Value)} (h : AwayB old lo w b l vs) (hb : Below w.heap.size w w') : AwayB old lo w' b l vs :=
  fun w'' hs hk => h w'' (Nat.le_trans hb.size hs) fun k hlo hlt hne => (hk k hlo (Nat.lt_of_lt_of_le hlt hb.size) hne).trans (hb.block k hlt)
theorem AwayB.set {old lo : Nat} {w : World} {b : Option Nat} {l : List Mtc} {vs : List (Value × Value)} (h : AwayB old lo w b l vs) (g o : Nat) (x : Value) (hg : g < lo) (hg2 : old ≤ g) : AwayB old lo (w.setCell ⟨g, o, none⟩ x) b l vs :=
  fun w'' hs hk => h w'' (by simpa [World.setCell] using hs) fun k hlo hlt hne => (hk k hlo (by simpa [World.setCell] using hlt) hne).trans (Below.heap_setCell _ _ _ _ (show k ≠ g by omega))
theorem AwayB.grown {old lo : Nat} {w w' : World} {b b' : Option Nat} {l : List Mtc} {vs : List (Value × Value)} (h : AwayB old lo w b l vs) (g : w.grownBy w' b) (hb : b' = b ∨ b' = some w.heap.size) : AwayB old lo w' b' l vs := fun w'' hs hk => by
  refine h w'' (Nat.le_trans g.size hs) fun k hlo hlt hne => ?_
  refine (hk k hlo (Nat.lt_of_lt_of_le hlt g.size) ?_).trans (g.block k hlt (fun e => hne e.symm))
  rcases hb with rfl | rfl
  · exact hne
  · intro e; injection e with e; omega
theorem cnds_old {w0 w : World} {v : Value} {l : List Cnd} (h : IsCnds w0 v l) (hs : w0.heap.size ≤ w.heap.size) (hk : ∀ k, k < w0.heap.size → w.heap[k]? = w0.heap[k]?) : IsCnds w v l := by
  have hi : ∀ (l : List Cnd) (b o : Nat), b < w0.heap.size → KidsAt w0 l b o → KidsAt w l b o := by
    have hone : ∀ (N : Nat) (c : Cnd), c.size ≤ N → ∀ b o, b < w0.heap.size → CndAt w0 c b o → CndAt w c b o := by
      intro N
      induction N with
      | zero => intro c hc; rw [c.size_eq] at hc; omega
      | succ N ih =>
        intro c hc b o hb hat
        obtain ⟨hbd, k, h1, a, len, cap, rfl, q1, q2, q3, q4, q5⟩ := (cndAt_iff _ _ _ _).1 hat
        refine (cndAt_iff _ _ _ _).2 ⟨hbd, _, fun j u hj => (cell_of_heap (hk b hb)).trans (h1 j u hj), a, len, cap, rfl, q1, q2, q3, q4, q5.imp id ?_⟩
        rintro ⟨b', o', e, hb', hkk⟩
        refine ⟨b', o', e, Nat.lt_of_lt_of_le hb' hs, kidsAt_of w _ _ _ fun i hi => ih _ ?_ _ _ hb' (kidsAt_get w0 _ _ _ i hkk hi)⟩
        have := sizes_kid c.kids i hi
        have := c.size_eq
        omega
    exact fun l b o hb hk => kidsAt_of w _ _ _ fun i hi => hone _ _ (Nat.le_refl _) _ _ hb (kidsAt_get w0 _ _ _ i hk hi)
  obtain ⟨a, len, cap, rfl, h1, h2, h3, h4, h5⟩ := h
  refine ⟨a, len, cap, rfl, h1, h2, h3, h4, h5.imp id ?_⟩
  rintro ⟨b, o, e, hlt, hkk⟩
  exact ⟨b, o, e, Nat.lt_of_lt_of_le hlt hs, hi l b o hlt hkk⟩
/-- a rule whose numbers are new and whose condition is old -/
theorem AwayB.snoc {lo : Nat} {wo w0 w : World} {b : Option Nat} {l : List Mtc} {vs : List (Value × Value)} (h : AwayB wo.heap.size lo w b l vs) (how : Below wo.heap.size wo w) (hlo : lo ≤ w0.heap.size) (hb : ∀ k, b = some k → k < w0.heap.size ∧ wo.heap.size ≤ k) (m : Mtc) (ks k : Value) (h1 : m.act ≤ 4294967295) (h2 : m.cnd.bounded)
    (hks : ∃ g n c, ks = .slice (some ⟨g, 0, none⟩) n c ∧ w0.heap.size ≤ g) (hu : IsU32s w ks m.nrs) (hk : IsCnds wo k m.cnd.kids) : AwayB wo.heap.size lo w b (l ++ [m]) (vs ++ [(ks, k)]) := fun w'' hs hkk => by
  refine (h w'' hs hkk).app ⟨rfl, fun i hi => ?_⟩
  obtain rfl : i = 0 := by simpa using hi
  obtain ⟨g, n, c, rfl, hg⟩ := hks
  have hne : ∀ j, w0.heap.size ≤ j → b ≠ some j := fun j hj e => by have := (hb j e).1; omega
  refine ⟨h1, h2, ?_, ?_⟩
  · by_cases hlt : g < w.heap.size
    · exact u32_move hu (hkk g (.inr (by omega)) hlt (hne g hg)) hs
    · obtain ⟨_, _, _, hv, q1, q2, q3, q4, q5, q6⟩ := hu
      injection hv with e1 e2 e3
      subst e1 e2 e3
      refine ⟨_, _, _, rfl, q1, q2, q3, q4, q5, q6.imp id ?_⟩
      rintro ⟨b2, o2, e, hb2, _⟩
      injection e with e
      injection e with e1 e2
      subst e1
      exact absurd hb2 hlt
  · exact cnds_old hk (Nat.le_trans how.size hs) fun j hj => (hkk j (.inl hj) (Nat.lt_of_lt_of_le hj how.size) (fun e => by have := (hb j e).2; omega)).trans (how.block j hj)
theorem lots_yes (l : List Rul) (i : Nat) (hi : i < l.length) (h : (l.getD i rulZ).lots = true) : l.any Rul.lots = true := by
  rw [List.any_eq_true]
  exact ⟨_, List.getElem_mem hi, by rwa [show l.getD i rulZ = l[i] by simp [List.getD, hi]] at h⟩
theorem lots_no (l : List Rul) (n : Nat) (hn : l.length = n) (h : ∀ i, i < n → (l.getD i rulZ).lots = false) : l.any Rul.lots = false := by
  rw [List.any_eq_false]
  intro m hm
  obtain ⟨i, hi, rfl⟩ := List.mem_iff_getElem.1 hm
  have := h i (by omega)
  rw [show l.getD i rulZ = l[i] by simp [List.getD, hi]] at this
  simp [this]
set_option maxRecDepth 100000 in
set_option maxHeartbeats 16000000 in
theorem refCheck (p : Pol) (v : Value) (w : World) (h : IsPol w v p) (hnm : ∀ m ∈ p.rules, m.names.length ≤ 500) :
    Calls Try.prog 16 #[v] w fun e w' => CheckPost p e w' ∧ Below w.heap.size w w' := by
  obtain ⟨iM, hi, hz0, hz1, hz2⟩ := info_parts infoMtcP
  obtain ⟨ht1, ht2, ht3, k, rfl, hk⟩ := h
  obtain ⟨A, n, c, rfl, hl, hc1, hc2, _⟩ := id hk
  have HA := Lib.hid (fun u => refArch_any p.arch u)
  have HC := Lib.hid (fun u => refAction_any p.dflt (p.data : Int) u (by omega) (by omega))
  have hp0 : ∀ e w', p.err ≠ 0 → e = .returned (.tuple #[.agg #[.int .u32 0, .int .u32 0, .slice none 0 0], .int .i64 p.err]) → CheckPost p e w' := fun e w' h1 h2 => by unfold CheckPost; rw [if_neg h1]; exact h2
  have hp1 : ∀ k e w', p.err = 0 → e = .returned (.tuple #[.agg #[.int .u32 (p.typ.arch : Nat), .int .u32 (p.typ.dflt : Nat), k], .int .i64 0]) → IsMtcs w' k p.typ.rules → CheckPost p e w' := fun k e w' h1 h2 h3 => by unfold CheckPost; rw [if_pos h1]; exact ⟨k, h2, h3⟩
  have herr : p.err = if (decide (24 < n) || p.rules.any Rul.lots) = true then 2 else match archOf p.arch, actRes p.dflt (p.data : Int) with
    | some a, some _ => if p.rules.all (Rul.ok a) = true then 0 else 63
    | _, _ => 63 := by rw [← hl]; rfl
  have htyp : p.typ = ⟨(archOf p.arch).getD 0, (actRes p.dflt (p.data : Int)).getD 0, p.rules.map (Rul.mtc ((archOf p.arch).getD 0))⟩ := rfl
  have hal := arch_le p.arch
  generalize CheckPost p = CP at *
  generalize p.err = ER at *
  generalize p.typ = TY at *
  have hw1 := ((Below.refl w.heap.size w).alloc (Nat.le_refl _) (.cells #[.string p.arch, .string p.dflt, .int .u64 (p.data : Nat), .slice A n c] 32)).alloc (by simp) (.cells #[.int .u32 0, .int .u32 0, .slice none 0 0] 38)
  have hB := (heap_alloc_old (w.alloc (.cells #[.string p.arch, .string p.dflt, .int .u64 (p.data : Nat), .slice A n c] 32)) (.cells #[.int .u32 0, .int .u32 0, .slice none 0 0] 38) (r := w.heap.size) (by simp)).trans (heap_alloc_new w (.cells #[.string p.arch, .string p.dflt, .int .u64 (p.data : Nat), .slice A n c] 32))
  have hR := heap_alloc_new (w.alloc (.cells #[.string p.arch, .string p.dflt, .int .u64 (p.data : Nat), .slice A n c] 32)) (.cells #[.int .u32 0, .int .u32 0, .slice none 0 0] 38)
  rw [World.size_alloc] at hR
  have HP0 := Lib.hid hp0; have HP1 := Lib.hid hp1; have HER := Lib.hid herr; have HTY := Lib.hid htyp; have HK := Lib.hid hk; have HL := Lib.hid hl; have HAL := Lib.hid hal
  have HNM := Lib.hid (show ∀ j, j < n → (p.rules.getD j rulZ).names.length ≤ 500 from fun j hj => hnm _ (by rw [show p.rules.getD j rulZ = p.rules[j] by simp [List.getD, show j < p.rules.length by omega]]; exact List.getElem_mem _))
  have hnI : (n : Int) ≤ 9223372036854775807 := by omega
  clear hp0 hp1 herr htyp hk hl hc1 hc2 ht1 ht2 ht3 hnm hal
  go_enter Try.func16, Try.ntmps16
  go_upto_region 1 with fail
  obtain ⟨W, hW⟩ : ∃ W, (w.alloc (.cells #[.string p.arch, .string p.dflt, .int .u64 (p.data : Nat), .slice A n c] 32)).alloc (.cells #[.int .u32 0, .int .u32 0, .slice none 0 0] 38) = W := ⟨_, rfl⟩
  rw [hW] at hw1 hB hR ⊢
  obtain ⟨B, hBB⟩ : ∃ B, w.heap.size = B := ⟨_, rfl⟩
  rw [hBB] at hB hR
  (try rw [hBB])
  have HB := Lib.hid hB; have HR := Lib.hid hR; have HW1 := Lib.hid hw1; have HBB := Lib.hid hBB
  clear hW hw1 hB hR hBB
  have q3 := below_cell (Below.refl _ W) HB.out 3 rfl
  have hWW := Below.refl W.heap.size W
  by_cases hn24 : 24 < n
  · have h24I : (24 : Int) < n := by omega
    have HERX := Lib.hid (show ER = 2 from by rw [HER.out, decide_eq_true hn24]; rfl)
    clear HER hn24
    go_upto_region 2 with fail
    clear q3
    have z0 := below_cell hWW HR.out 0 rfl
    have z1 := below_cell hWW HR.out 1 rfl
    have z2 := below_cell hWW HR.out 2 rfl
    have hRz := (hWW.block _ (lt_of_block HR.out)).trans HR.out
    have f0 := block_frozen hRz 0
    have f1 := block_frozen hRz 1
    have f2 := block_frozen hRz 2
    have HRZ := Lib.hid hRz; have HBZ := Lib.hid (HW1.out.trans (hWW.mono HW1.out.size))
    clear hRz
    go_wp2_with fail
    exact bodyPost_ret (results_row_tmp rfl _ _ (B + 1) 38 #[.int .u32 0, .int .u32 0, .slice none 0 0] (0, 0) _ rfl (set3_block HRZ.out _ _ _) Try.underlying38 rfl (by kernel_rfl)) rfl ⟨HP0.out _ _ (by rw [HERX.out]; decide) (by rw [HERX.out]; rfl), set3_below HBZ.out (by have := HBB.out; omega) _ _ _⟩
  · have h24I : ¬ (24 : Int) < n := by omega
    have her := HER.out
    rw [decide_eq_false hn24, Bool.false_or] at her
    have HER2 := Lib.hid her
    have HMT := Lib.hid (fun u (hu : Below W.heap.size W u) j hj => rul_at (HK.out.below HW1.out) hu j hj)
    clear her HER
    go_upto_region 4 with fail
    clear q3
    go_loopw [28] (fun z wr => ∃ j : Nat, z = .int .i64 (j : Nat) ∧ j ≤ n ∧ Hid (∀ i, i < j → (p.rules.getD i rulZ).lots = false) ∧ Hid (Below W.heap.size W wr)) (fun z _ => n - (intOf z).toNat)
    case atStart => exact ⟨0, rfl, Nat.zero_le _, Lib.hid (fun i hi => absurd hi (Nat.not_lt_zero i)), Lib.hid (Below.refl _ _)⟩
    case round =>
      obtain ⟨j, rfl, hj, HEV, HWR⟩ := hrel
      by_cases hlt : j < n
      · obtain ⟨b, off, rfl, _, hat⟩ := HMT.out wr HWR.out j hlt
        have hjI : (j : Int) < n := by omega
        have hyes := lots_yes p.rules j (by rw [HL.out]; exact hlt)
        have hstep : (p.rules.getD j rulZ).lots = false → ∀ i, i < j + 1 → (p.rules.getD i rulZ).lots = false := fun h i hi => by
          by_cases e : i < j
          · exact HEV.out i e
          · obtain rfl : i = j := by omega
            exact h
        obtain ⟨hbd, na, nn, nc, ca, cn, cc, hst, hkc, e0, e1, e2, e3, e4, e5, e6, e7, e8⟩ := hat.cell
        have hlot : (p.rules.getD j rulZ).lots = decide (40 < (p.rules.getD j rulZ).cnd.testN) := rfl
        generalize (p.rules.getD j rulZ).lots = LT at *
        generalize p.rules.getD j rulZ = m at *
        obtain ⟨act, data, names, kind, kids, arg, mask, sign, value⟩ := m
        simp only [Cnd.kind, Cnd.arg, Cnd.mask, Cnd.sign, Cnd.value, Cnd.kids] at e0 e1 e2 e3 e4 e5 e6 e7 e8 hkc hlot
        have hTe := fun u (hu : Below wr.heap.size wr u) => refTests16 (.mk kind kids arg mask sign value) (.agg #[.int .i64 kind, .slice ca cn cc, .int .i64 arg, .int .u64 (mask : Nat), .string sign, .int .u64 (value : Nat)]) u ⟨hbd.2.2, _, rfl, hkc.below hu⟩
        generalize (Cnd.mk kind kids arg mask sign value).testN = TN at *
        have HTE := Lib.hid hTe; have HYES := Lib.hid hyes; have HSTP := Lib.hid hstep; have HLT := Lib.hid hlt; have HLO := Lib.hid hlot
        clear hTe hyes hstep hlt hlot hat hbd hst hkc HEV
        go_upto_region 6 with fail
        have hn7 := heap_alloc_new wr (.cells #[.string act, .int .u64 (data : Nat), .slice na nn nc, .int .i64 kind, .slice ca cn cc, .int .i64 arg, .int .u64 (mask : Nat), .string sign, .int .u64 (value : Nat)] 46)
        have hy7 := (Below.refl wr.heap.size wr).alloc (Nat.le_refl _) (.cells #[.string act, .int .u64 (data : Nat), .slice na nn nc, .int .i64 kind, .slice ca cn cc, .int .i64 arg, .int .u64 (mask : Nat), .string sign, .int .u64 (value : Nat)] 46)
        obtain ⟨w7, hw7⟩ : ∃ w7, wr.alloc (.cells #[.string act, .int .u64 (data : Nat), .slice na nn nc, .int .i64 kind, .slice ca cn cc, .int .i64 arg, .int .u64 (mask : Nat), .string sign, .int .u64 (value : Nat)] 46) = w7 := ⟨_, rfl⟩
        obtain ⟨b7, hb7⟩ : ∃ b7, wr.heap.size = b7 := ⟨_, rfl⟩
        rw [hw7] at hn7 hy7 ⊢
        rw [hb7] at hn7
        (try rw [hb7])
        have HY7 := Lib.hid hy7
        have y3 := below_cell (Below.refl _ w7) hn7 3 rfl
        have y4 := below_cell (Below.refl _ w7) hn7 4 rfl
        have y5 := below_cell (Below.refl _ w7) hn7 5 rfl
        have y6 := below_cell (Below.refl _ w7) hn7 6 rfl
        have y7 := below_cell (Below.refl _ w7) hn7 7 rfl
        have y8 := below_cell (Below.refl _ w7) hn7 8 rfl
        clear hn7 hy7 hw7 hb7 e0 e1 e2 e3 e4 e5 e6 e7 e8
        by_cases h40 : 40 < TN
        · have h40I : (40 : Int) < TN := by omega
          have HERX := Lib.hid (show ER = 2 from by rw [HER2.out, HYES.out (by rw [HLO.out, decide_eq_true h40])]; rfl)
          clear HER2 h40
          go_upto_region 7 with (first | (go_at_call 13; refine (HTE.out _ HY7.out).mono ?_; rintro e w8 ⟨rfl, hb8⟩; have HB8 := Lib.hid (HWR.out.trans ((HY7.out.trans (hb8.mono HY7.out.size)).mono HWR.out.size))))
          clear y3 y4 y5 y6 y7 y8 hb8
          have z0 := below_cell HB8.out HR.out 0 rfl
          have z1 := below_cell HB8.out HR.out 1 rfl
          have z2 := below_cell HB8.out HR.out 2 rfl
          have hRz := (HB8.out.block _ (lt_of_block HR.out)).trans HR.out
          have f0 := block_frozen hRz 0
          have f1 := block_frozen hRz 1
          have f2 := block_frozen hRz 2
          have HRZ := Lib.hid hRz; have HBZ := Lib.hid (HW1.out.trans (HB8.out.mono HW1.out.size))
          clear hRz
          go_wp2_with fail
          exact bodyPost_ret (results_row_tmp rfl _ _ (B + 1) 38 #[.int .u32 0, .int .u32 0, .slice none 0 0] (0, 0) _ rfl (set3_block HRZ.out _ _ _) Try.underlying38 rfl (by kernel_rfl)) rfl ⟨HP0.out _ _ (by rw [HERX.out]; decide) (by rw [HERX.out]; rfl), set3_below HBZ.out (by have := HBB.out; omega) _ _ _⟩
        · have h40I : ¬ (40 : Int) < TN := by omega
          have HE8 := Lib.hid (HSTP.out (by rw [HLO.out, decide_eq_false h40]))
          clear h40
          go_wp2_with (first | (go_at_call 13; refine (HTE.out _ HY7.out).mono ?_; rintro e w8 ⟨rfl, hb8⟩; have HB8 := Lib.hid (HWR.out.trans ((HY7.out.trans (hb8.mono HY7.out.size)).mono HWR.out.size))))
          go_roundw
          case rel => exact ⟨j + 1, by go_num, by have := HLT.out; omega, HE8, HB8⟩
          case measure => have := HLT.out; simp [intOf]; omega
      · obtain rfl : j = n := by omega
        have HER3 := Lib.hid (show ER = match archOf p.arch, actRes p.dflt (p.data : Int) with
          | some a, some _ => if p.rules.all (Rul.ok a) = true then 0 else 63
          | _, _ => 63 from by rw [HER2.out, lots_no p.rules j HL.out HEV.out]; rfl)
        have hj24 : j ≤ 24 := by omega
        clear HER2 HEV hlt
        have r0 := below_cell HWR.out HB.out 0 rfl
        have r1 := below_cell HWR.out HB.out 1 rfl
        have r2 := below_cell HWR.out HB.out 2 rfl
        unfold archV at HA
        generalize archOf p.arch = AO at *
        generalize actRes p.dflt (p.data : Int) = RO at *
        go_upto_region 11 with (first
          | (go_at_call 26; refine (HA.out _).mono ?_; rintro e w3 ⟨rfl, rfl⟩)
          | (go_at_call 27; refine (HC.out _).mono ?_; rintro e w4 ⟨rfl, rfl⟩))
        clear r0 r1 r2 HA HC
        cases AO with
        | none =>
          have HERX := Lib.hid (show ER = 63 from HER3.out)
          clear HER3
          go_upto_region 12 with fail
          have z0 := below_cell HWR.out HR.out 0 rfl
          have z1 := below_cell HWR.out HR.out 1 rfl
          have z2 := below_cell HWR.out HR.out 2 rfl
          have hRz := (HWR.out.block _ (lt_of_block HR.out)).trans HR.out
          have f0 := block_frozen hRz 0
          have f1 := block_frozen hRz 1
          have f2 := block_frozen hRz 2
          have HRZ := Lib.hid hRz; have HBZ := Lib.hid (HW1.out.trans (HWR.out.mono HW1.out.size))
          clear hRz
          go_wp2_with fail
          exact bodyPost_ret (results_row_tmp rfl _ _ (B + 1) 38 #[.int .u32 0, .int .u32 0, .slice none 0 0] (0, 0) _ rfl (set3_block HRZ.out _ _ _) Try.underlying38 rfl (by kernel_rfl)) rfl ⟨HP0.out _ _ (by rw [HERX.out]; decide) (by rw [HERX.out]; rfl), set3_below HBZ.out (by have := HBB.out; omega) _ _ _⟩
        | some aN =>
          cases RO with
          | none =>
            have HERX := Lib.hid (show ER = 63 from HER3.out)
            clear HER3
            go_upto_region 12 with fail
            have z0 := below_cell HWR.out HR.out 0 rfl
            have z1 := below_cell HWR.out HR.out 1 rfl
            have z2 := below_cell HWR.out HR.out 2 rfl
            have hRz := (HWR.out.block _ (lt_of_block HR.out)).trans HR.out
            have f0 := block_frozen hRz 0
            have f1 := block_frozen hRz 1
            have f2 := block_frozen hRz 2
            have HRZ := Lib.hid hRz; have HBZ := Lib.hid (HW1.out.trans (HWR.out.mono HW1.out.size))
            clear hRz
            go_wp2_with fail
            exact bodyPost_ret (results_row_tmp rfl _ _ (B + 1) 38 #[.int .u32 0, .int .u32 0, .slice none 0 0] (0, 0) _ rfl (set3_block HRZ.out _ _ _) Try.underlying38 rfl (by kernel_rfl)) rfl ⟨HP0.out _ _ (by rw [HERX.out]; decide) (by rw [HERX.out]; rfl), set3_below HBZ.out (by have := HBB.out; omega) _ _ _⟩
          | some dN =>
            simp only [Option.getD_some, Option.isSome_some] at HTY HAL ⊢
            have hn5 := heap_alloc_new wr (.cells #[.int .u32 (aN : Nat), .int .u32 (dN : Nat), .slice none 0 0] 38)
            have hy5 := (Below.refl wr.heap.size wr).alloc (Nat.le_refl _) (.cells #[.int .u32 (aN : Nat), .int .u32 (dN : Nat), .slice none 0 0] 38)
            go_upto_region 14 with fail
            obtain ⟨w5, hw5⟩ : ∃ w5, wr.alloc (.cells #[.int .u32 (aN : Nat), .int .u32 (dN : Nat), .slice none 0 0] 38) = w5 := ⟨_, rfl⟩
            obtain ⟨Tb, hTb⟩ : ∃ Tb, wr.heap.size = Tb := ⟨_, rfl⟩
            have hs5 : w5.heap.size = Tb + 1 := by rw [← hw5, ← hTb]; simp
            have hTW : W.heap.size ≤ Tb := by rw [← hTb]; exact HWR.out.size
            rw [hw5] at hn5 hy5 ⊢
            rw [hTb] at hn5
            (try rw [hTb])
            have HB5 := Lib.hid (HWR.out.trans (hy5.mono HWR.out.size)); have HN5 := Lib.hid hn5; have HTW := Lib.hid hTW; have HS5 := Lib.hid hs5
            clear hn5 hy5 hw5 hTb hs5 hTW HWR
            have r3 := below_cell HB5.out HB.out 3 rfl
            go_upto_region 15 with fail
            clear r3
            have HER4 := Lib.hid (show ER = if p.rules.all (Rul.ok aN) = true then 0 else 63 from HER3.out)
            clear HER3
            go_loopw [65] (fun z wr => ∃ (q : Nat) (A3 : Option Addr) (c3 : Nat), z = .int .i64 (q : Nat) ∧ q ≤ j ∧ Hid (∀ i, i < q → (p.rules.getD i rulZ).ok aN = true) ∧ Hid (wr.heap[Tb]? = some (.cells #[.int .u32 (aN : Nat), .int .u32 (dN : Nat), .slice A3 q c3] 38 (0, 0))) ∧ Hid (∃ vs, wr.ownsRow (Tb + 1) 49 8 (.slice A3 q c3) q (mtcsCells ((p.rules.take q).map (Rul.mtc aN)) vs) ∧ AwayB w.heap.size (Tb + 1) wr (Value.slice A3 q c3).ownBlock ((p.rules.take q).map (Rul.mtc aN)) vs) ∧ Hid (Below W.heap.size W wr) ∧ Hid (Tb + 1 ≤ wr.heap.size)) (fun z _ => j - (intOf z).toNat)
            case atStart => exact ⟨0, none, 0, rfl, Nat.zero_le _, Lib.hid (fun i hi => absurd hi (Nat.not_lt_zero i)), HN5, Lib.hid ⟨[], World.ownsRow_nil _ _ _ _, fun w'' _ _ => ⟨rfl, fun i hi => absurd hi (Nat.not_lt_zero i)⟩⟩, HB5, Lib.hid (by rw [HS5.out]; exact Nat.le_refl _)⟩
            case round =>
              clear HB5 HN5 HS5
              obtain ⟨q, A3, c3, rfl, hq, HEV, HNT, HO, HWR, HSZ⟩ := hrel
              by_cases hlt : q < j
              · obtain ⟨b, off, rfl, hbw, hat0⟩ := rul_at HK.out (Below.refl _ w) q hlt
                have hat := hat0.below (HW1.out.trans (HWR.out.mono HW1.out.size)) hbw
                have hqI : (q : Int) < j := by omega
                have hql : q < p.rules.length := by rw [HL.out]; exact hlt
                have hno := ok_no aN p.rules q hql
                have hstep := mtc_step aN p.rules q hql
                have hnext : (p.rules.getD q rulZ).ok aN = true → ∀ i, i < q + 1 → (p.rules.getD i rulZ).ok aN = true := fun h i hi => by
                  by_cases e : i < q
                  · exact HEV.out i e
                  · obtain rfl : i = q := by omega
                    exact h
                have hnmj := HNM.out q hlt
                obtain ⟨_, ks0, k0, hcs0, hst0, hkc0⟩ := id hat0
                obtain ⟨_, ks1, k1, hcs1, hst1, hkc1⟩ := id hat
                obtain ⟨hbd, na, nn, nc, ca, cn, cc, hst, hkc, e0, e1, e2, e3, e4, e5, e6, e7, e8⟩ := hat.cell
                have hkk : k0 = .slice ca cn cc := by
                  have h1 := (HW1.out.trans (HWR.out.mono HW1.out.size)).cell (p := ⟨b, off + q * 9 + 4, none⟩) hbw
                  rw [hcs0 4 k0 rfl, e4] at h1
                  injection h1 with h1
                  exact h1.symm
                subst hkk
                have hok : (p.rules.getD q rulZ).ok aN = ((actRes (p.rules.getD q rulZ).act ((p.rules.getD q rulZ).data : Int)).isSome && !decide ((p.rules.getD q rulZ).names.length = 0) && ((p.rules.getD q rulZ).cnd.zero || (p.rules.getD q rulZ).cnd.right) && (p.rules.getD q rulZ).names.all fun s => (nrQ aN s).isSome) := rfl
                have hma := act_le (p.rules.getD q rulZ).act ((p.rules.getD q rulZ).data : Int)
                have hmt : (p.rules.getD q rulZ).mtc aN = ⟨nrsU ((p.rules.getD q rulZ).names.map fun s => (nrQ aN s).getD 0), (p.rules.getD q rulZ).cnd, (actRes (p.rules.getD q rulZ).act ((p.rules.getD q rulZ).data : Int)).getD 0⟩ := rfl
                generalize hQ : (p.rules.getD q rulZ).mtc aN = Q at *
                generalize (p.rules.getD q rulZ).ok aN = OKJ at *
                have hcd : IsCnd wr (.agg ((p.rules.getD q rulZ).cnd.cells (.slice ca cn cc)).toArray) (p.rules.getD q rulZ).cnd := ⟨hbd.2.2, _, rfl, hkc⟩
                have HZ := Lib.hid (fun u (hu : Below wr.heap.size wr u) => refNone16_any _ _ u (hcd.below hu)); have HRI := Lib.hid (fun u (hu : Below wr.heap.size wr u) => refRight16 _ _ u (hcd.below hu))
                generalize p.rules.getD q rulZ = m at *
                obtain ⟨act, data, names, kind, kids, arg, mask, sign, value⟩ := m
                obtain ⟨hb1, hb2, hb3⟩ := id hbd
                simp only [Cnd.kind, Cnd.arg, Cnd.mask, Cnd.sign, Cnd.value, Cnd.kids] at e0 e1 e2 e3 e4 e5 e6 e7 e8 hkc hkc0 hmt hok hma hnmj hb1 hb2 hst HZ HRI
                have HAC := Lib.hid (fun u => refAction_any act (data : Int) u (by omega) (by omega))
                have HNR := Lib.hid (fun s u => refNr_any (aN : Int) s u (by omega) (by have := HAL.out; omega))
                have hnl : names.length = nn := by obtain ⟨_, _, _, hv, h1, _⟩ := hst; injection hv with _ q2 _; rw [h1, q2]
                have hnnI : (nn : Int) ≤ 500 := by omega
                have hz2 : ∀ u, Below wr.heap.size wr u → Calls Try.prog 18 #[.agg #[.int .i64 kind, .slice ca cn cc, .int .i64 arg, .int .u64 (mask : Nat), .string sign, .int .u64 (value : Nat)]] u (fun e w' => e = .returned (.bool (Cnd.mk kind kids arg mask sign value).zero) ∧ Below u.heap.size u w') := HZ.out
                have hr2 : ∀ u, Below wr.heap.size wr u → Calls Try.prog 12 #[.agg #[.int .i64 kind, .slice ca cn cc, .int .i64 arg, .int .u64 (mask : Nat), .string sign, .int .u64 (value : Nat)]] u (fun e w' => e = .returned (.bool (Cnd.mk kind kids arg mask sign value).right) ∧ Below u.heap.size u w') := HRI.out
                generalize (Cnd.mk kind kids arg mask sign value).zero = ZZ at *
                generalize (Cnd.mk kind kids arg mask sign value).right = RR at *
                generalize actRes act (data : Int) = AR at *
                have HZ2 := Lib.hid hz2; have HR2 := Lib.hid hr2
                have HNO1 := Lib.hid hno; have HSTP := Lib.hid hstep; have HNX := Lib.hid hnext; have HLT := Lib.hid hlt; have HMA := Lib.hid hma; have HBD := Lib.hid hbd; have HST := Lib.hid (fun u (hu : Below wr.heap.size wr u) => hst.belowP hu); have HKC0 := Lib.hid hkc0; have HMT := Lib.hid hmt; have HOK := Lib.hid hok; have HNL := Lib.hid hnl
                clear hno hstep hnext hlt hma hbd hst hkc hkc0 hkc1 hmt hok hat hat0 hql hnmj hQ HEV hcs0 hcs1 hst0 hst1 hcd HZ HRI hz2 hr2 hb1 hb2 hb3 hnl hbw
                go_upto_region 17 with fail
                have hn7 := heap_alloc_new wr (.cells #[.string act, .int .u64 (data : Nat), .slice na nn nc, .int .i64 kind, .slice ca cn cc, .int .i64 arg, .int .u64 (mask : Nat), .string sign, .int .u64 (value : Nat)] 46)
                have hy7 := (Below.refl wr.heap.size wr).alloc (Nat.le_refl _) (.cells #[.string act, .int .u64 (data : Nat), .slice na nn nc, .int .i64 kind, .slice ca cn cc, .int .i64 arg, .int .u64 (mask : Nat), .string sign, .int .u64 (value : Nat)] 46)
                obtain ⟨w7, hw7⟩ : ∃ w7, wr.alloc (.cells #[.string act, .int .u64 (data : Nat), .slice na nn nc, .int .i64 kind, .slice ca cn cc, .int .i64 arg, .int .u64 (mask : Nat), .string sign, .int .u64 (value : Nat)] 46) = w7 := ⟨_, rfl⟩
                obtain ⟨b7, hb7⟩ : ∃ b7, wr.heap.size = b7 := ⟨_, rfl⟩
                rw [hw7] at hn7 hy7 ⊢
                rw [hb7] at hn7
                (try rw [hb7])
                have HB7 := Lib.hid (HWR.out.trans (hy7.mono HWR.out.size)); have HY7 := Lib.hid hy7; have HN7 := Lib.hid hn7
                clear hn7 hy7 hw7 hb7 e0 e1 e2 e3 e4 e5 e6 e7 e8
                have y0 := below_cell (Below.refl _ w7) HN7.out 0 rfl
                have y1 := below_cell (Below.refl _ w7) HN7.out 1 rfl
                go_upto_region 18 with (first | (go_at_call 27; refine (HAC.out _).mono ?_; rintro e w8 ⟨rfl, rfl⟩))
                clear y0 y1 HAC
                have d2 := below_cell (Below.refl _ w7) HN7.out 2 rfl
                have d3 := below_cell (Below.refl _ w7) HN7.out 3 rfl
                have d4 := below_cell (Below.refl _ w7) HN7.out 4 rfl
                have d5 := below_cell (Below.refl _ w7) HN7.out 5 rfl
                have d6 := below_cell (Below.refl _ w7) HN7.out 6 rfl
                have d7 := below_cell (Below.refl _ w7) HN7.out 7 rfl
                have d8 := below_cell (Below.refl _ w7) HN7.out 8 rfl
                cases AR with
                | none =>
                  have HERX := Lib.hid (show ER = 63 from by rw [HER4.out, HNO1.out (by rw [HOK.out]; rfl)]; rfl)
                  simp only [Option.getD_none, Option.isSome_none]
                  clear HOK HMT HER4 HNO1
                  go_upto_region 19 with fail
                  clear d2 d3 d4 d5 d6 d7 d8
                  have z0 := below_cell HB7.out HR.out 0 rfl
                  have z1 := below_cell HB7.out HR.out 1 rfl
                  have z2 := below_cell HB7.out HR.out 2 rfl
                  have hRz := (HB7.out.block _ (lt_of_block HR.out)).trans HR.out
                  have f0 := block_frozen hRz 0
                  have f1 := block_frozen hRz 1
                  have f2 := block_frozen hRz 2
                  have HRZ := Lib.hid hRz; have HBZ := Lib.hid (HW1.out.trans (HB7.out.mono HW1.out.size))
                  clear hRz
                  go_wp2_with fail
                  exact bodyPost_ret (results_row_tmp rfl _ _ (B + 1) 38 #[.int .u32 0, .int .u32 0, .slice none 0 0] (0, 0) _ rfl (set3_block HRZ.out _ _ _) Try.underlying38 rfl (by kernel_rfl)) rfl ⟨HP0.out _ _ (by rw [HERX.out]; decide) (by rw [HERX.out]; rfl), set3_below HBZ.out (by have := HBB.out; omega) _ _ _⟩
                | some actN =>
                  simp only [Option.getD_some, Option.isSome_some] at HMT HMA ⊢
                  have hok := HOK.out
                  simp only [Option.isSome_some, Bool.true_and] at hok
                  by_cases hn0 : nn = 0
                  · have HERX := Lib.hid (show ER = 63 from by rw [HER4.out, HNO1.out (by rw [hok, HNL.out, decide_eq_true hn0]; rfl)]; rfl)
                    subst hn0
                    clear HOK hok HMT HER4 HNO1
                    go_upto_region 19 with fail
                    clear d2 d3 d4 d5 d6 d7 d8
                    have z0 := below_cell HB7.out HR.out 0 rfl
                    have z1 := below_cell HB7.out HR.out 1 rfl
                    have z2 := below_cell HB7.out HR.out 2 rfl
                    have hRz := (HB7.out.block _ (lt_of_block HR.out)).trans HR.out
                    have f0 := block_frozen hRz 0
                    have f1 := block_frozen hRz 1
                    have f2 := block_frozen hRz 2
                    have HRZ := Lib.hid hRz; have HBZ := Lib.hid (HW1.out.trans (HB7.out.mono HW1.out.size))
                    clear hRz
                    go_wp2_with fail
                    exact bodyPost_ret (results_row_tmp rfl _ _ (B + 1) 38 #[.int .u32 0, .int .u32 0, .slice none 0 0] (0, 0) _ rfl (set3_block HRZ.out _ _ _) Try.underlying38 rfl (by kernel_rfl)) rfl ⟨HP0.out _ _ (by rw [HERX.out]; decide) (by rw [HERX.out]; rfl), set3_below HBZ.out (by have := HBB.out; omega) _ _ _⟩
                  · have hnB : ((nn : Int) == 0) = false := by rw [beq_eq_false_iff_ne]; omega
                    have hnN : (nn == 0) = false := by rw [beq_eq_false_iff_ne]; omega
                    rw [HNL.out, decide_eq_false hn0] at hok
                    have HOK2 := Lib.hid hok
                    have HN0 := Lib.hid hn0
                    clear hok HOK hn0
                    by_cases hzr : (ZZ || RR) = true
                    rotate_left
                    · have hzr2 : ZZ = false ∧ RR = false := by cases ZZ <;> cases RR <;> simp_all
                      obtain ⟨rfl, rfl⟩ := hzr2
                      have HERX := Lib.hid (show ER = 63 from by rw [HER4.out, HNO1.out (by rw [HOK2.out]; rfl)]; rfl)
                      clear HOK2 hzr HMT HER4 HNO1
                      go_upto_region 19 with (first
                        | (go_at_call 18; refine (HZ2.out _ HY7.out).mono ?_; rintro e w8 ⟨rfl, hb8⟩; have r3 := below_cell hb8 HN7.out 3 rfl; have r4 := below_cell hb8 HN7.out 4 rfl; have r5 := below_cell hb8 HN7.out 5 rfl; have r6 := below_cell hb8 HN7.out 6 rfl; have r7 := below_cell hb8 HN7.out 7 rfl; have r8 := below_cell hb8 HN7.out 8 rfl)
                        | (go_at_call 12; refine (HR2.out _ (HY7.out.trans (hb8.mono HY7.out.size))).mono ?_; rintro e w9 ⟨rfl, hb9⟩; have HB9 := Lib.hid (HB7.out.trans ((hb8.trans (hb9.mono hb8.size)).mono HB7.out.size))))
                      clear d2 d3 d4 d5 d6 d7 d8 r3 r4 r5 r6 r7 r8 hb8 hb9
                      have z0 := below_cell HB9.out HR.out 0 rfl
                      have z1 := below_cell HB9.out HR.out 1 rfl
                      have z2 := below_cell HB9.out HR.out 2 rfl
                      have hRz := (HB9.out.block _ (lt_of_block HR.out)).trans HR.out
                      have f0 := block_frozen hRz 0
                      have f1 := block_frozen hRz 1
                      have f2 := block_frozen hRz 2
                      have HRZ := Lib.hid hRz; have HBZ := Lib.hid (HW1.out.trans (HB9.out.mono HW1.out.size))
                      clear hRz
                      go_wp2_with fail
                      exact bodyPost_ret (results_row_tmp rfl _ _ (B + 1) 38 #[.int .u32 0, .int .u32 0, .slice none 0 0] (0, 0) _ rfl (set3_block HRZ.out _ _ _) Try.underlying38 rfl (by kernel_rfl)) rfl ⟨HP0.out _ _ (by rw [HERX.out]; decide) (by rw [HERX.out]; rfl), set3_below HBZ.out (by have := HBB.out; omega) _ _ _⟩
                    · have HZR := Lib.hid hzr
                      have HOK3 := Lib.hid (show OKJ = names.all (fun s => (nrQ aN s).isSome) from by rw [HOK2.out, hzr]; rfl)
                      clear hzr HOK2
                      go_cut [96] (fun v wx => v = .bool false ∧ Hid (Below w7.heap.size w7 wx))
                      case first =>
                        cases ZZ with
                        | true =>
                          clear HZR HOK3 HMT
                          go_wp2_with (first
                            | (go_at_call 18; refine (HZ2.out _ HY7.out).mono ?_; rintro e w8 ⟨rfl, hb8⟩))
                          go_meet
                          exact ⟨rfl, Lib.hid hb8⟩
                        | false =>
                          cases RR with
                          | false => exact absurd HZR.out (by decide)
                          | true =>
                            clear HZR HOK3 HMT
                            go_wp2_with (first
                              | (go_at_call 18; refine (HZ2.out _ HY7.out).mono ?_; rintro e w8 ⟨rfl, hb8⟩; have r3 := below_cell hb8 HN7.out 3 rfl; have r4 := below_cell hb8 HN7.out 4 rfl; have r5 := below_cell hb8 HN7.out 5 rfl; have r6 := below_cell hb8 HN7.out 6 rfl; have r7 := below_cell hb8 HN7.out 7 rfl; have r8 := below_cell hb8 HN7.out 8 rfl)
                              | (go_at_call 12; refine (HR2.out _ (HY7.out.trans (hb8.mono HY7.out.size))).mono ?_; rintro e w9 ⟨rfl, hb9⟩))
                            go_meet
                            exact ⟨rfl, Lib.hid (hb8.trans (hb9.mono hb8.size))⟩
                      case rest =>
                      obtain ⟨rfl, HBC⟩ := hcut
                      obtain ⟨w8, hw8⟩ : ∃ w8, w8 = wc := ⟨_, rfl⟩
                      subst hw8
                      clear HZ2 HR2 d2 d3 d4 d5 d6 d7 d8
                      have HN8 := Lib.hid ((HBC.out.block _ (lt_of_block HN7.out)).trans HN7.out)
                      have HB8 := Lib.hid (HB7.out.trans (HBC.out.mono HB7.out.size)); have HY8 := Lib.hid (HY7.out.trans (HBC.out.mono HY7.out.size))
                      clear HBC HN7 HB7 HY7
                      have d2 := below_cell (Below.refl _ w8) HN8.out 2 rfl
                      have d3 := below_cell (Below.refl _ w8) HN8.out 3 rfl
                      have d4 := below_cell (Below.refl _ w8) HN8.out 4 rfl
                      have d5 := below_cell (Below.refl _ w8) HN8.out 5 rfl
                      have d6 := below_cell (Below.refl _ w8) HN8.out 6 rfl
                      have d7 := below_cell (Below.refl _ w8) HN8.out 7 rfl
                      have d8 := below_cell (Below.refl _ w8) HN8.out 8 rfl
                      have hn9 := heap_alloc_new w8 (.cells #[.slice none 0 0, .int .i64 kind, .slice ca cn cc, .int .i64 arg, .int .u64 (mask : Nat), .string sign, .int .u64 (value : Nat), .int .u32 (actN : Nat)] 49)
                      have hy9 := (Below.refl w8.heap.size w8).alloc (Nat.le_refl _) (.cells #[.slice none 0 0, .int .i64 kind, .slice ca cn cc, .int .i64 arg, .int .u64 (mask : Nat), .string sign, .int .u64 (value : Nat), .int .u32 (actN : Nat)] 49)
                      go_upto_region 21 with fail
                      clear d3 d4 d5 d6 d7 d8
                      obtain ⟨w9, hw9⟩ : ∃ w9, w8.alloc (.cells #[.slice none 0 0, .int .i64 kind, .slice ca cn cc, .int .i64 arg, .int .u64 (mask : Nat), .string sign, .int .u64 (value : Nat), .int .u32 (actN : Nat)] 49) = w9 := ⟨_, rfl⟩
                      obtain ⟨b15, hb15⟩ : ∃ b15, w8.heap.size = b15 := ⟨_, rfl⟩
                      have hs9 : w9.heap.size = b15 + 1 := by rw [← hw9, ← hb15]; simp
                      rw [hw9] at hn9 hy9 ⊢
                      rw [hb15] at hn9
                      (try rw [hb15])
                      clear d2
                      have d2 := below_cell hy9 HN8.out 2 rfl
                      have HN9 := Lib.hid hn9; have HY9 := Lib.hid hy9; have HS9 := Lib.hid hs9; have HBF := Lib.hid hb15
                      clear hn9 hy9 hw9 hb15 hs9
                      go_upto_region 22 with fail
                      clear d2
                      go_loopw [105] (fun z wq => ∃ (i : Nat) (A5 : Option Addr) (k5 c5 : Nat), z = .int .i64 (i : Nat) ∧ i ≤ nn ∧ Hid (∀ t, t < i → (nrQ aN (names.getD t ByteArray.empty)).isSome = true) ∧ Hid (wq.heap[b15]? = some (.cells #[.slice A5 k5 c5, .int .i64 kind, .slice ca cn cc, .int .i64 arg, .int .u64 (mask : Nat), .string sign, .int .u64 (value : Nat), .int .u32 (actN : Nat)] 49 (0, 0))) ∧ Hid (IsU32s wq (.slice A5 k5 c5) (nrsU ((names.take i).map (fun s => (nrQ aN s).getD 0)))) ∧ Hid (0 < i → ∃ g, A5 = some ⟨g, 0, none⟩ ∧ b15 < g) ∧ Hid (Below w8.heap.size w8 wq) ∧ Hid (b15 + 1 ≤ wq.heap.size)) (fun z _ => nn - (intOf z).toNat)
                      case atStart => exact ⟨0, none, 0, 0, rfl, Nat.zero_le _, Lib.hid (fun i hi => absurd hi (Nat.not_lt_zero i)), HN9, Lib.hid (by rw [show nrsU ((names.take 0).map (fun s => (nrQ aN s).getD 0)) = [] from List.eq_nil_of_length_eq_zero (Nat.le_zero.1 (nrsU_len []))]; exact ⟨none, 0, 0, rfl, rfl, Nat.le_refl _, by decide, fun _ h => absurd h (by simp), fun _ => rfl, .inl rfl⟩), Lib.hid (fun h => absurd h (Nat.lt_irrefl 0)), HY9, Lib.hid (by rw [HS9.out]; exact Nat.le_refl _)⟩
                      case round =>
                        clear HN9 HY9 HS9
                        obtain ⟨i, A5, k5, c5, rfl, hii, HEV, HMB, HU5, HG5, HWQ, HSQ⟩ := hrel
                        by_cases hit : i < nn
                        · obtain ⟨_, _, _, hv, hsl, hs1, hs2, hs3, hs4⟩ := HST.out wr (HY8.out.trans (HWQ.out.mono HY8.out.size))
                          injection hv with q1 q2 q3
                          subst q1 q2 q3
                          obtain ⟨bb, boff, rfl, hbl, hatn⟩ := hs4.resolve_left (by omega)
                          have hcell := hatn i hit
                          have hiI : (i : Int) < nn := by omega
                          have hno := all_no aN names i (by omega)
                          have hstep := nums_step aN names i (by omega)
                          have hnr := HNR.out (names.getD i ByteArray.empty)
                          have hle := nrQ_le aN (names.getD i ByteArray.empty)
                          have hnext : (nrQ aN (names.getD i ByteArray.empty)).isSome = true → ∀ t, t < i + 1 → (nrQ aN (names.getD t ByteArray.empty)).isSome = true := fun h t ht => by
                            by_cases e : t < i
                            · exact HEV.out t e
                            · obtain rfl : t = i := by omega
                              exact h
                          change ∀ u, Calls Try.prog 28 #[.int .u32 (aN : Int), .string (names.getD i ByteArray.empty)] u (fun e w' => e = .returned (.tuple #[.int .u32 (((nrQ aN (names.getD i ByteArray.empty)).getD 0 : Nat) : Int), .bool (nrQ aN (names.getD i ByteArray.empty)).isSome]) ∧ Below u.heap.size u w') at hnr
                          have hll : (nrsU ((names.take i).map (fun s => (nrQ aN s).getD 0))).length ≤ 1000 := by have h1 := nrsU_len ((names.take i).map (fun s => (nrQ aN s).getD 0)); rw [List.length_map, List.length_take] at h1; omega
                          generalize nrQ aN (names.getD i ByteArray.empty) = QX at *
                          generalize names.getD i ByteArray.empty = nm at *
                          have HNO2 := Lib.hid hno; have HSTP2 := Lib.hid hstep; have HNRJ := Lib.hid hnr; have HNX2 := Lib.hid hnext; have HIT := Lib.hid hit; have HLE := Lib.hid hle; have HLL := Lib.hid hll
                          clear hno hstep hnr hnext hit hle hatn hs1 hs2 hs3 hsl hbl HEV hll
                          cases QX with
                          | none =>
                            have HERX := Lib.hid (show ER = 63 from by rw [HER4.out, HNO1.out (by rw [HOK3.out]; exact HNO2.out rfl)]; rfl)
                            simp only [Option.getD_none, Option.isSome_none] at HNRJ
                            clear HOK3 HNO2 HSTP2 HNX2 HLE HER4 HNO1 HMT
                            go_upto_region 26 with (first | (go_at_call 28; refine (HNRJ.out _).mono ?_; rintro e wz ⟨rfl, hbz⟩))
                            have HBZZ := Lib.hid (HB8.out.trans ((HWQ.out.trans (hbz.mono HWQ.out.size)).mono HB8.out.size))
                            clear hbz hcell
                            have z0 := below_cell HBZZ.out HR.out 0 rfl
                            have z1 := below_cell HBZZ.out HR.out 1 rfl
                            have z2 := below_cell HBZZ.out HR.out 2 rfl
                            have hRz := (HBZZ.out.block _ (lt_of_block HR.out)).trans HR.out
                            have f0 := block_frozen hRz 0
                            have f1 := block_frozen hRz 1
                            have f2 := block_frozen hRz 2
                            have HRZ := Lib.hid hRz; have HBZ := Lib.hid (HW1.out.trans (HBZZ.out.mono HW1.out.size))
                            clear hRz
                            go_wp2_with fail
                            exact bodyPost_ret (results_row_tmp rfl _ _ (B + 1) 38 #[.int .u32 0, .int .u32 0, .slice none 0 0] (0, 0) _ rfl (set3_block HRZ.out _ _ _) Try.underlying38 rfl (by kernel_rfl)) rfl ⟨HP0.out _ _ (by rw [HERX.out]; decide) (by rw [HERX.out]; rfl), set3_below HBZ.out (by have := HBB.out; omega) _ _ _⟩
                          | some x =>
                            simp only [Option.getD_some, Option.isSome_some] at HNRJ HSTP2 HNX2 HLE
                            have hxI : (x : Int) ≤ 4294967295 := by have := HLE.out; omega
                            go_upto_region 27 with (first | (go_at_call 28; refine (HNRJ.out _).mono ?_; rintro e wz ⟨rfl, hbz⟩))
                            have HMBZ := Lib.hid ((hbz.block _ (lt_of_block HMB.out)).trans HMB.out); have HU5Z := Lib.hid (HU5.out.below hbz)
                            have HWZ := Lib.hid (HWQ.out.trans (hbz.mono HWQ.out.size)); have HSZZ := Lib.hid (Nat.le_trans HSQ.out hbz.size)
                            have HADD := Lib.hid (refAdd16 (.slice A5 k5 c5) _ x wz HU5Z.out HLE.out HLL.out)
                            clear hbz hcell HMB HU5 HWQ HSQ
                            have m0 := below_cell (Below.refl _ wz) HMBZ.out 0 rfl
                            go_upto_region 28 with (first | (go_at_call 29; refine HADD.out.mono ?_; rintro e wy ⟨⟨v', rfl, huy, g6, k6, c6, rfl, hg6⟩, hby⟩; have hMY := (hby.block _ (lt_of_block HMBZ.out)).trans HMBZ.out; have z0 := below_cell (Below.refl _ wy) hMY 0 rfl; have f0 := block_frozen hMY 0))
                            have hneg : g6 ≠ b15 := by have := HSZZ.out; omega
                            have HUX := Lib.hid (show IsU32s (wy.setCell ⟨b15, 0, none⟩ (.slice (some ⟨g6, 0, none⟩) k6 c6)) (.slice (some ⟨g6, 0, none⟩) k6 c6) (nrsU ((names.take (i + 1)).map (fun s => (nrQ aN s).getD 0))) from by rw [HSTP2.out, ← addF_nrsU]; exact u32_move huy (Below.heap_setCell _ _ _ _ hneg) (by simp [World.setCell]))
                            have HMX := Lib.hid (block_set hMY 0 (.slice (some ⟨g6, 0, none⟩) k6 c6))
                            have HGX := Lib.hid (show 0 < i + 1 → ∃ g, (some ⟨g6, 0, none⟩ : Option Addr) = some ⟨g, 0, none⟩ ∧ b15 < g from fun _ => ⟨g6, rfl, by have := HSZZ.out; omega⟩)
                            have HWX := Lib.hid ((HWZ.out.trans (hby.mono HWZ.out.size)).setCell (p := ⟨b15, 0, none⟩) (by rw [HBF.out]; exact Nat.le_refl _) (.slice (some ⟨g6, 0, none⟩) k6 c6))
                            have HSX := Lib.hid (show b15 + 1 ≤ (wy.setCell ⟨b15, 0, none⟩ (.slice (some ⟨g6, 0, none⟩) k6 c6)).heap.size by simp [World.setCell]; have := HSZZ.out; have := hby.size; omega)
                            have HEX := Lib.hid (HNX2.out (by first | trivial | rfl))
                            obtain ⟨wx, hwx⟩ : ∃ wx, wy.setCell ⟨b15, 0, none⟩ (.slice (some ⟨g6, 0, none⟩) k6 c6) = wx := ⟨_, rfl⟩
                            rw [hwx] at HUX HMX HWX HSX ⊢
                            clear hwx hneg hMY huy hby z0 f0 m0 hg6
                            go_wp2_with fail
                            go_roundw
                            case rel =>
                              first
                              | exact ⟨i + 1, _, _, _, by go_num, by have := HIT.out; omega, HEX, HMX, HUX, HGX, HWX, HSX⟩
                              | (repeat apply Exists.intro; exact ⟨⟨i + 1, _, _, _, by go_num, by have := HIT.out; omega, HEX, HMX, HUX, HGX, HWX, HSX⟩, rfl⟩)
                            case measure => have := HIT.out; simp [intOf]; omega
                        · obtain rfl : i = nn := by omega
                          have htk : names.take i = names := by rw [← HNL.out, List.take_length]
                          have HNX8 := Lib.hid (HNX.out (by rw [HOK3.out]; exact all_yes aN names i HNL.out HEV.out))
                          have hu5 := HU5.out
                          rw [htk] at hu5
                          obtain ⟨g2, rfl, hg2⟩ := HG5.out (by have := HN0.out; omega)
                          have hu8 : IsU32s wr (.slice (some ⟨g2, 0, none⟩) k5 c5) Q.nrs := by rw [HMT.out]; exact hu5
                          have hyO := HY8.out.trans (HWQ.out.mono HY8.out.size)
                          obtain ⟨vs, ho, haw⟩ := HO.out
                          have ho9 := own_stays ho hyO
                          obtain ⟨_, _, _, _, hownlt⟩ := own_form8 ho
                          have hBlt : B + 1 < Tb := Nat.lt_of_lt_of_le (lt_of_block HR.out) HTW.out
                          have hwB := HBB.out
                          have haw10 := (haw.below hyO).snoc (w0 := w8) (HW1.out.trans ((HWR.out.trans (hyO.mono HWR.out.size)).mono HW1.out.size)) (by have := HSZ.out; have := HY8.out.size; omega) (fun k hk => ⟨Nat.lt_of_lt_of_le (hownlt k hk).2 HY8.out.size, by have := (hownlt k hk).1; omega⟩) Q (.slice (some ⟨g2, 0, none⟩) k5 c5) (.slice ca cn cc) (by rw [HMT.out]; exact HMA.out) (by rw [HMT.out]; exact HBD.out.2.2) ⟨_, _, _, rfl, by have := HBF.out; omega⟩ hu8 (by rw [HMT.out]; exact HKC0.out)
                          have HO9 := Lib.hid ho9; have HAW := Lib.hid haw10; have HOL := Lib.hid hownlt; have HVL := Lib.hid (haw.ok.1)
                          have HNT9 := Lib.hid ((hyO.block _ (lt_of_block HNT.out)).trans HNT.out)
                          have HB9 := Lib.hid (HWR.out.trans (hyO.mono HWR.out.size))
                          have HSZ9 := Lib.hid (show Tb + 1 ≤ wr.heap.size by have := HSZ.out; have := hyO.size; omega)
                          have HQC := Lib.hid (show Q.cells (.slice (some ⟨g2, 0, none⟩) k5 c5) (.slice ca cn cc) = [.slice (some ⟨g2, 0, none⟩) k5 c5, .int .i64 kind, .slice ca cn cc, .int .i64 arg, .int .u64 (mask : Nat), .string sign, .int .u64 (value : Nat), .int .u32 (actN : Nat)] from by unfold Mtc.cells; rw [HMT.out]; rfl)
                          have HWT := Lib.hid (show w.heap.size ≤ Tb by omega)
                          have t2 := below_cell (Below.refl _ wr) HNT9.out 2 rfl
                          have m0 := below_cell (Below.refl _ wr) HMB.out 0 rfl
                          have m1 := below_cell (Below.refl _ wr) HMB.out 1 rfl
                          have m2 := below_cell (Below.refl _ wr) HMB.out 2 rfl
                          have m3 := below_cell (Below.refl _ wr) HMB.out 3 rfl
                          have m4 := below_cell (Below.refl _ wr) HMB.out 4 rfl
                          have m5 := below_cell (Below.refl _ wr) HMB.out 5 rfl
                          have m6 := below_cell (Below.refl _ wr) HMB.out 6 rfl
                          have m7 := below_cell (Below.refl _ wr) HMB.out 7 rfl
                          clear ho haw hyO ho9 hownlt haw10 hu8 hu5 hg2 htk hBlt hwB HMB HG5 HU5 HEV HWQ HSQ HST HNR HNX HNO1 HB8 HY8 HN8 HO HWR HSZ HMT HNT hit
                          have hj24 : (q : Int) ≤ 24 := by omega
                          go_wp2_with (first
                            | (at_builtin; go_must (refine wpList_push_at _ _ 36 49 (news := [.slice (some ⟨g2, 0, none⟩) k5 c5, .int .i64 kind, .slice ca cn cc, .int .i64 arg, .int .u64 (mask : Nat), .string sign, .int .u64 (value : Nat), .int .u32 (actN : Nat)]) HO9.out HSZ9.out Try.underlying36 hi hz0 hz1 hz2 rfl (by decide) rfl rfl rfl rfl rfl (by intro u hu; simp only [List.mem_cons, List.not_mem_nil, or_false] at hu; rcases hu with rfl | rfl | rfl | rfl | rfl | rfl | rfl | rfl <;> rfl) ?c1 ?_)))
                          case c1 => omega
                          intro v' w10 own10 gr10 at10
                          obtain ⟨A4, c4, rfl, _, _⟩ := own_form8 own10
                          have hmc : mtcsCells ((p.rules.take (q + 1)).map (Rul.mtc aN)) (vs ++ [(.slice (some ⟨g2, 0, none⟩) k5 c5, .slice ca cn cc)]) = mtcsCells ((p.rules.take q).map (Rul.mtc aN)) vs ++ [.slice (some ⟨g2, 0, none⟩) k5 c5, .int .i64 kind, .slice ca cn cc, .int .i64 arg, .int .u64 (mask : Nat), .string sign, .int .u64 (value : Nat), .int .u32 (actN : Nat)] := by
                            rw [HSTP.out, mtcsCells_app _ _ _ _ HVL.out]
                            simp only [mtcsCells, List.zip_cons_cons, List.zip_nil_right, List.flatMap_cons, List.flatMap_nil, List.append_nil, HQC.out]
                          have hneT : (Value.slice A3 q c3).ownBlock ≠ some Tb := fun e => by have := (HOL.out Tb e).1; omega
                          have hTb9 := (heap_alloc_old wr (.cells #[.slice (some ⟨g2, 0, none⟩) k5 c5, .int .i64 kind, .slice ca cn cc, .int .i64 arg, .int .u64 (mask : Nat), .string sign, .int .u64 (value : Nat), .int .u32 (actN : Nat)] 49) (lt_of_block HNT9.out)).trans HNT9.out
                          have hTb10 := (gr10.block Tb (lt_of_block hTb9) (fun e => hneT e.symm)).trans hTb9
                          have hneT4 : (Value.slice A4 (q + 1) c4).ownBlock ≠ some Tb := fun e => by have := (own10.lt Tb e).1; omega
                          have z2 := below_cell (Below.refl _ w10) hTb10 2 rfl
                          have f2 := block_frozen hTb10 2
                          have hb10 := (HB9.out.alloc HB9.out.size (.cells #[.slice (some ⟨g2, 0, none⟩) k5 c5, .int .i64 kind, .slice ca cn cc, .int .i64 arg, .int .u64 (mask : Nat), .string sign, .int .u64 (value : Nat), .int .u32 (actN : Nat)] 49)).grown gr10 (HB9.out.alloc HB9.out.size (.cells #[.slice (some ⟨g2, 0, none⟩) k5 c5, .int .i64 kind, .slice ca cn cc, .int .i64 arg, .int .u64 (mask : Nat), .string sign, .int .u64 (value : Nat), .int .u32 (actN : Nat)] 49)).size (fun k hk => by have := (HOL.out k hk).1; have := HTW.out; omega)
                          have hsz10 : Tb + 1 ≤ w10.heap.size := by have h1 := gr10.size; rw [World.size_alloc] at h1; have := HSZ9.out; omega
                          have ha10 := ((HAW.out.below ((Below.refl wr.heap.size wr).alloc (Nat.le_refl _) (.cells #[.slice (some ⟨g2, 0, none⟩) k5 c5, .int .i64 kind, .slice ca cn cc, .int .i64 arg, .int .u64 (mask : Nat), .string sign, .int .u64 (value : Nat), .int .u32 (actN : Nat)] 49))).grown gr10 (b' := (Value.slice A4 (q + 1) c4).ownBlock) (by rcases at10 with h | h; exact .inl h; exact .inr (by rw [h, World.size_alloc]))).set Tb 2 (.slice A4 (q + 1) c4) (Nat.lt_succ_self _) HWT.out
                          have ho10 := own_put own10 hneT4 2 (.slice A4 (q + 1) c4)
                          rw [← List.map_take, ← hmc] at ho10
                          have HOX := Lib.hid (show ∃ vs, (w10.setCell ⟨Tb, 2, none⟩ (.slice A4 (q + 1) c4)).ownsRow (Tb + 1) 49 8 (.slice A4 (q + 1) c4) (q + 1) (mtcsCells ((p.rules.take (q + 1)).map (Rul.mtc aN)) vs) ∧ AwayB w.heap.size (Tb + 1) (w10.setCell ⟨Tb, 2, none⟩ (.slice A4 (q + 1) c4)) (Value.slice A4 (q + 1) c4).ownBlock ((p.rules.take (q + 1)).map (Rul.mtc aN)) vs from ⟨_, ho10, by rw [HSTP.out]; exact ha10⟩)
                          have HNTX := Lib.hid (block_set hTb10 2 (.slice A4 (q + 1) c4))
                          have HBX := Lib.hid (hb10.setCell (p := ⟨Tb, 2, none⟩) HTW.out (.slice A4 (q + 1) c4))
                          have HSX := Lib.hid (show Tb + 1 ≤ (w10.setCell ⟨Tb, 2, none⟩ (.slice A4 (q + 1) c4)).heap.size by simp [World.setCell]; exact hsz10)
                          clear hmc hneT hTb9 hTb10 hneT4 hb10 hsz10 ha10 ho10 own10 gr10 at10 t2 m0 m1 m2 m3 m4 m5 m6 m7 HAW HO9 HNT9 HB9 HSZ9
                          go_wp2_with fail
                          obtain ⟨w11, hw11⟩ : ∃ w11, w10.setCell ⟨Tb, 2, none⟩ (.slice A4 (q + 1) c4) = w11 := ⟨_, rfl⟩
                          rw [hw11] at HOX HNTX HBX HSX ⊢
                          clear hw11
                          go_roundw
                          case rel =>
                            first
                            | exact ⟨q + 1, A4, c4, by go_num, by have := HLT.out; omega, HNX8, HNTX, HOX, HBX, HSX⟩
                            | (repeat apply Exists.intro; exact ⟨⟨q + 1, A4, c4, by go_num, by have := HLT.out; omega, HNX8, HNTX, HOX, HBX, HSX⟩, rfl⟩)
                          case measure => have := HLT.out; simp [intOf]; omega
              · obtain rfl : q = j := by omega
                have HER5 := Lib.hid (show ER = 0 from by rw [HER4.out, ok_yes aN p.rules q HL.out HEV.out]; rfl)
                have htk : p.rules.take q = p.rules := by rw [← HL.out, List.take_length]
                obtain ⟨vs, ho, haw⟩ := HO.out
                rw [htk] at ho haw
                have hBlt : B + 1 < Tb := Nat.lt_of_lt_of_le (lt_of_block HR.out) HTW.out
                have hwB := HBB.out
                have hneB : (Value.slice A3 q c3).ownBlock ≠ some (B + 1) := fun e => by have := (ho.lt _ e).1; omega
                have hof := own_put (own_put (own_put ho hneB 0 (.int .u32 (aN : Nat))) hneB 1 (.int .u32 (dN : Nat))) hneB 2 (.slice A3 q c3)
                have haf := ((haw.set (B + 1) 0 (.int .u32 (aN : Nat)) (by omega) (by omega)).set (B + 1) 1 (.int .u32 (dN : Nat)) (by omega) (by omega)).set (B + 1) 2 (.slice A3 q c3) (by omega) (by omega)
                have HMS := Lib.hid (own_mtcs hof (by rw [List.length_map, HL.out]) haf.ok)
                clear ho haw htk hneB hof haf hBlt HO HEV hlt
                have t0 := below_cell (Below.refl _ wr) HNT.out 0 rfl
                have t1 := below_cell (Below.refl _ wr) HNT.out 1 rfl
                have t2 := below_cell (Below.refl _ wr) HNT.out 2 rfl
                have z0 := below_cell HWR.out HR.out 0 rfl
                have z1 := below_cell HWR.out HR.out 1 rfl
                have z2 := below_cell HWR.out HR.out 2 rfl
                have hRz := (HWR.out.block _ (lt_of_block HR.out)).trans HR.out
                have f0 := block_frozen hRz 0
                have f1 := block_frozen hRz 1
                have f2 := block_frozen hRz 2
                have HRZ := Lib.hid hRz; have HBZ := Lib.hid (HW1.out.trans (HWR.out.mono HW1.out.size))
                clear hRz
                go_wp2_with fail
                exact bodyPost_ret (results_row_tmp rfl _ _ (B + 1) 38 #[.int .u32 (aN : Nat), .int .u32 (dN : Nat), .slice A3 q c3] (0, 0) _ rfl (set3_block HRZ.out _ _ _) Try.underlying38 rfl (by kernel_rfl)) rfl ⟨HP1.out (.slice A3 q c3) _ _ HER5.out (by rw [HTY.out]; rfl) (by rw [HTY.out]; exact HMS.out), set3_below HBZ.out (by have := HBB.out; omega) _ _ _⟩
end Go.Proofs.Ytbcoooaoofbboaa
