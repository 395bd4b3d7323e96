/- Po8, Po9, in one text. -/
import Derived.Test.YtbcoooaoofbboaaPo4
import Derived.Outline
import Derived.Deep.RegionHeld
import Derived.Test.YtbcoooaoofbboaaTn1
namespace Go.Proofs.Ytbcoooaoofbboaa
section SPo8
open Go.RowKit Go.ChangeShapes
set_option linter.unusedVariables false
set_option linter.unusedSimpArgs false

theorem kid_cells {w : World} {A : Option Addr} {n c0 : Nat} {l : List Cnd} (h : IsCnds w (.slice A n c0) l) (j : Nat) (hj : j < n) : ∃ b o, A = some ⟨b, o, none⟩ ∧ b < w.heap.size ∧ CndAt w (l.getD j cndZ) b (o + j * 6) := by
  obtain ⟨_, _, _, hv, h1, h2, h3, h4, h5⟩ := h
  injection hv with e1 e2 e3
  subst e1 e2 e3
  obtain ⟨b, o, rfl, hlt, hk⟩ := h5.resolve_left (by omega)
  exact ⟨b, o, rfl, hlt, kidsAt_get w l b o j hk (by omega)⟩
set_option maxRecDepth 100000 in
set_option maxHeartbeats 8000000 in
theorem refLikeCond : ∀ (N : Nat), N ≤ 1000 → ∀ (c : Cnd), c.size ≤ N → ∀ (va vb : Value) (w : World), IsCnd w va c → IsCnd w vb c →
    Calls Try.prog 30 #[va, vb] w fun e w' => e = .returned (.bool true) ∧ Below w.heap.size w w' := by
  intro N
  induction N with
  | zero => intro _ c h; rw [c.size_eq] at h; omega
  | succ N ih =>
    intro hN c hsz va vb w ha hb
    have IH := Lib.hid (ih (by omega))
    clear ih
    obtain ⟨hbd, ka, rfl, hka⟩ := ha
    obtain ⟨_, kb, rfl, hkb⟩ := hb
    obtain ⟨aa, an, ac, rfl, hla, _⟩ := id hka
    obtain ⟨ba, bn, bc, rfl, hlb, _⟩ := id hkb
    obtain rfl : an = bn := by rw [← hla, ← hlb]
    have hss := c.size_eq
    have hls := len_sizes c.kids
    have hknI : (an : Int) ≤ 1000 := by omega
    have HSS := Lib.hid (show ∀ i, i < c.kids.length → (c.kids.getD i cndZ).size ≤ N from fun i hi => by have := sizes_kid c.kids i hi; omega)
    have hw1 := ((Below.refl w.heap.size w).alloc (Nat.le_refl _) (.cells #[.int .i64 c.kind, .slice aa an ac, .int .i64 c.arg, .int .u64 (c.mask : Nat), .string c.sign, .int .u64 (c.value : Nat)] 25)).alloc (by simp) (.cells #[.int .i64 c.kind, .slice ba an bc, .int .i64 c.arg, .int .u64 (c.mask : Nat), .string c.sign, .int .u64 (c.value : Nat)] 25)
    have hB := (heap_alloc_old (w.alloc (.cells #[.int .i64 c.kind, .slice aa an ac, .int .i64 c.arg, .int .u64 (c.mask : Nat), .string c.sign, .int .u64 (c.value : Nat)] 25)) (.cells #[.int .i64 c.kind, .slice ba an bc, .int .i64 c.arg, .int .u64 (c.mask : Nat), .string c.sign, .int .u64 (c.value : Nat)] 25) (r := w.heap.size) (by simp)).trans (heap_alloc_new w (.cells #[.int .i64 c.kind, .slice aa an ac, .int .i64 c.arg, .int .u64 (c.mask : Nat), .string c.sign, .int .u64 (c.value : Nat)] 25))
    have hR := heap_alloc_new (w.alloc (.cells #[.int .i64 c.kind, .slice aa an ac, .int .i64 c.arg, .int .u64 (c.mask : Nat), .string c.sign, .int .u64 (c.value : Nat)] 25)) (.cells #[.int .i64 c.kind, .slice ba an bc, .int .i64 c.arg, .int .u64 (c.mask : Nat), .string c.sign, .int .u64 (c.value : Nat)] 25)
    rw [World.size_alloc] at hR
    have HKA := Lib.hid hka; have HKB := Lib.hid hkb; have HL := Lib.hid hla
    clear hss hls hsz hka hkb hla hlb hbd
    show Calls _ _ #[.agg #[.int .i64 c.kind, .slice aa an ac, .int .i64 c.arg, .int .u64 (c.mask : Nat), .string c.sign, .int .u64 (c.value : Nat)], .agg #[.int .i64 c.kind, .slice ba an bc, .int .i64 c.arg, .int .u64 (c.mask : Nat), .string c.sign, .int .u64 (c.value : Nat)]] _ _
    go_enter Try.func30, Try.ntmps30
    go_upto_region 1 with fail
    obtain ⟨W, hW⟩ : ∃ W, (w.alloc (.cells #[.int .i64 c.kind, .slice aa an ac, .int .i64 c.arg, .int .u64 (c.mask : Nat), .string c.sign, .int .u64 (c.value : Nat)] 25)).alloc (.cells #[.int .i64 c.kind, .slice ba an bc, .int .i64 c.arg, .int .u64 (c.mask : Nat), .string c.sign, .int .u64 (c.value : Nat)] 25) = W := ⟨_, rfl⟩
    rw [hW] at hw1 hB hR ⊢
    obtain ⟨B, hBB⟩ : ∃ B, w.heap.size = B := ⟨_, rfl⟩
    rw [hBB] at hB hR
    (try rw [hBB])
    have HB := Lib.hid hB; have HR := Lib.hid hR; have HW1 := Lib.hid hw1
    clear hW hw1 hB hR hBB
    have d0 := below_cell (Below.refl _ W) HB.out 0 rfl
    have d1 := below_cell (Below.refl _ W) HB.out 1 rfl
    have d2 := below_cell (Below.refl _ W) HB.out 2 rfl
    have d3 := below_cell (Below.refl _ W) HB.out 3 rfl
    have d4 := below_cell (Below.refl _ W) HB.out 4 rfl
    have d5 := below_cell (Below.refl _ W) HB.out 5 rfl
    have z0 := below_cell (Below.refl _ W) HR.out 0 rfl
    have z1 := below_cell (Below.refl _ W) HR.out 1 rfl
    have z2 := below_cell (Below.refl _ W) HR.out 2 rfl
    have z3 := below_cell (Below.refl _ W) HR.out 3 rfl
    have z4 := below_cell (Below.refl _ W) HR.out 4 rfl
    have z5 := below_cell (Below.refl _ W) HR.out 5 rfl
    go_upto_region 4 with fail
    clear d0 d1 d2 d3 d4 d5 z0 z1 z2 z3 z4 z5
    go_loopw [51] (fun z wr => ∃ j : Nat, z = .int .i64 (j : Nat) ∧ j ≤ an ∧ Hid (Below W.heap.size W wr)) (fun z _ => an - (intOf z).toNat)
    case atStart => exact ⟨0, rfl, Nat.zero_le _, Lib.hid (Below.refl _ _)⟩
    case round =>
      obtain ⟨j, rfl, hj, HWR⟩ := hrel
      by_cases hlt : j < an
      · have hjI : (j : Int) < an := by omega
        obtain ⟨b1, o1, rfl, hb1, hc1⟩ := kid_cells HKA.out j hlt
        obtain ⟨b2, o2, rfl, hb2, hc2⟩ := kid_cells HKB.out j hlt
        have hsj := HSS.out j (by rw [HL.out]; exact hlt)
        generalize c.kids.getD j cndZ = kd at *
        obtain ⟨hbd1, k1, hk1, a0, a1, a2, a3, a4, a5⟩ := hc1.cell
        obtain ⟨_, k2, hk2, g0, g1, g2, g3, g4, g5⟩ := hc2.cell
        obtain ⟨kind, kids, arg, mask, sign, value⟩ := kd
        simp only [Cnd.kind, Cnd.arg, Cnd.mask, Cnd.sign, Cnd.value, Cnd.kids] at hk1 hk2 a0 a2 a3 a4 a5 g0 g2 g3 g4 g5
        obtain ⟨ca, cn, cc, rfl, _⟩ := id hk1
        obtain ⟨da, dn, dc, rfl, _⟩ := id hk2
        have hww := HW1.out.trans (HWR.out.mono HW1.out.size)
        have HIC := Lib.hid (fun u (hu : Below w.heap.size w u) => IH.out (.mk kind kids arg mask sign value) hsj (.agg #[.int .i64 kind, .slice ca cn cc, .int .i64 arg, .int .u64 (mask : Nat), .string sign, .int .u64 (value : Nat)]) (.agg #[.int .i64 kind, .slice da dn dc, .int .i64 arg, .int .u64 (mask : Nat), .string sign, .int .u64 (value : Nat)]) u ⟨hbd1, _, rfl, hk1.below hu⟩ ⟨hbd1, _, rfl, hk2.below hu⟩)
        go_upto_region 6 with fail
        have HKS := Lib.hid (fun (u : World) (hu : Below wr.heap.size wr u) => (show u.cell? ⟨B, 1, none⟩ = some (.slice (some ⟨b1, o1, none⟩) an ac) ∧ u.cell? ⟨B + 1, 1, none⟩ = some (.slice (some ⟨b2, o2, none⟩) an bc) ∧ u.cell? ⟨b1, o1 + j * 6, none⟩ = some (.int .i64 kind) ∧ u.cell? ⟨b1, o1 + j * 6 + 1, none⟩ = some (.slice ca cn cc) ∧ u.cell? ⟨b1, o1 + j * 6 + 2, none⟩ = some (.int .i64 arg) ∧ u.cell? ⟨b1, o1 + j * 6 + 3, none⟩ = some (.int .u64 (mask : Nat)) ∧ u.cell? ⟨b1, o1 + j * 6 + 4, none⟩ = some (.string sign) ∧ u.cell? ⟨b1, o1 + j * 6 + 5, none⟩ = some (.int .u64 (value : Nat)) ∧ u.cell? ⟨b2, o2 + j * 6, none⟩ = some (.int .i64 kind) ∧ u.cell? ⟨b2, o2 + j * 6 + 1, none⟩ = some (.slice da dn dc) ∧ u.cell? ⟨b2, o2 + j * 6 + 2, none⟩ = some (.int .i64 arg) ∧ u.cell? ⟨b2, o2 + j * 6 + 3, none⟩ = some (.int .u64 (mask : Nat)) ∧ u.cell? ⟨b2, o2 + j * 6 + 4, none⟩ = some (.string sign) ∧ u.cell? ⟨b2, o2 + j * 6 + 5, none⟩ = some (.int .u64 (value : Nat)) from ⟨below_cell (HWR.out.trans (hu.mono HWR.out.size)) HB.out 1 rfl, below_cell (HWR.out.trans (hu.mono HWR.out.size)) HR.out 1 rfl, ((HW1.out.trans ((HWR.out.trans (hu.mono HWR.out.size)).mono HW1.out.size)).cell (p := ⟨b1, o1 + j * 6, none⟩) hb1).trans a0, ((HW1.out.trans ((HWR.out.trans (hu.mono HWR.out.size)).mono HW1.out.size)).cell (p := ⟨b1, o1 + j * 6 + 1, none⟩) hb1).trans a1, ((HW1.out.trans ((HWR.out.trans (hu.mono HWR.out.size)).mono HW1.out.size)).cell (p := ⟨b1, o1 + j * 6 + 2, none⟩) hb1).trans a2, ((HW1.out.trans ((HWR.out.trans (hu.mono HWR.out.size)).mono HW1.out.size)).cell (p := ⟨b1, o1 + j * 6 + 3, none⟩) hb1).trans a3, ((HW1.out.trans ((HWR.out.trans (hu.mono HWR.out.size)).mono HW1.out.size)).cell (p := ⟨b1, o1 + j * 6 + 4, none⟩) hb1).trans a4, ((HW1.out.trans ((HWR.out.trans (hu.mono HWR.out.size)).mono HW1.out.size)).cell (p := ⟨b1, o1 + j * 6 + 5, none⟩) hb1).trans a5, ((HW1.out.trans ((HWR.out.trans (hu.mono HWR.out.size)).mono HW1.out.size)).cell (p := ⟨b2, o2 + j * 6, none⟩) hb2).trans g0, ((HW1.out.trans ((HWR.out.trans (hu.mono HWR.out.size)).mono HW1.out.size)).cell (p := ⟨b2, o2 + j * 6 + 1, none⟩) hb2).trans g1, ((HW1.out.trans ((HWR.out.trans (hu.mono HWR.out.size)).mono HW1.out.size)).cell (p := ⟨b2, o2 + j * 6 + 2, none⟩) hb2).trans g2, ((HW1.out.trans ((HWR.out.trans (hu.mono HWR.out.size)).mono HW1.out.size)).cell (p := ⟨b2, o2 + j * 6 + 3, none⟩) hb2).trans g3, ((HW1.out.trans ((HWR.out.trans (hu.mono HWR.out.size)).mono HW1.out.size)).cell (p := ⟨b2, o2 + j * 6 + 4, none⟩) hb2).trans g4, ((HW1.out.trans ((HWR.out.trans (hu.mono HWR.out.size)).mono HW1.out.size)).cell (p := ⟨b2, o2 + j * 6 + 5, none⟩) hb2).trans g5⟩))
        have hbw1 : b1 < wr.heap.size := Nat.lt_of_lt_of_le hb1 hww.size
        have hbw2 : b2 < wr.heap.size := Nat.lt_of_lt_of_le hb2 hww.size
        have HWW := Lib.hid hww
        clear hc1 hc2 a0 a1 a2 a3 a4 a5 g0 g1 g2 g3 g4 g5 hk1 hk2 hbd1 hww hsj
        refine wp_region_held_drew (S := fun u => u.cell? ⟨B, 1, none⟩ = some (.slice (some ⟨b1, o1, none⟩) an ac) ∧ u.cell? ⟨B + 1, 1, none⟩ = some (.slice (some ⟨b2, o2, none⟩) an bc) ∧ u.cell? ⟨b1, o1 + j * 6, none⟩ = some (.int .i64 kind) ∧ u.cell? ⟨b1, o1 + j * 6 + 1, none⟩ = some (.slice ca cn cc) ∧ u.cell? ⟨b1, o1 + j * 6 + 2, none⟩ = some (.int .i64 arg) ∧ u.cell? ⟨b1, o1 + j * 6 + 3, none⟩ = some (.int .u64 (mask : Nat)) ∧ u.cell? ⟨b1, o1 + j * 6 + 4, none⟩ = some (.string sign) ∧ u.cell? ⟨b1, o1 + j * 6 + 5, none⟩ = some (.int .u64 (value : Nat)) ∧ u.cell? ⟨b2, o2 + j * 6, none⟩ = some (.int .i64 kind) ∧ u.cell? ⟨b2, o2 + j * 6 + 1, none⟩ = some (.slice da dn dc) ∧ u.cell? ⟨b2, o2 + j * 6 + 2, none⟩ = some (.int .i64 arg) ∧ u.cell? ⟨b2, o2 + j * 6 + 3, none⟩ = some (.int .u64 (mask : Nat)) ∧ u.cell? ⟨b2, o2 + j * 6 + 4, none⟩ = some (.string sign) ∧ u.cell? ⟨b2, o2 + j * 6 + 5, none⟩ = some (.int .u64 (value : Nat))) (by kernel_rfl) (HKS.out _ (Below.refl _ _).drew) (fun hS => ?_)
        have HDR := Lib.hid (Below.refl wr.heap.size wr).drew
        obtain ⟨Wd, hWd⟩ : ∃ Wd, wr.drew = Wd := ⟨_, rfl⟩
        rw [hWd] at hS HDR ⊢
        clear hWd
        refine wpAnyH_take (i := 0) (v := (.pointer (some ⟨B, 1, none⟩))) rfl (by kernel_rfl) (by kernel_rfl) (by kernel_rfl) (fun _ _ _ h => h) (Or.inl ⟨by rfl, fun w hSw => ?_⟩) (by assumption) ?_
        · clear hSw; go_simp
        try simp only [Act.put, List.setIfInBounds_toArray, List.set_cons_zero, List.set_cons_succ]
        refine wpAnyH_take (i := 1) (v := (.slice (some ⟨b1, o1, none⟩) an ac)) rfl (by kernel_rfl) (by kernel_rfl) (by kernel_rfl) (fun _ _ _ h => h) (Or.inl ⟨by rfl, fun w hSw => ?_⟩) (by assumption) ?_
        · obtain ⟨t0, t1, t2, t3, t4, t5, t6, t7, t8, t9, t10, t11, t12, t13⟩ := hSw
          go_simp
        try simp only [Act.put, List.setIfInBounds_toArray, List.set_cons_zero, List.set_cons_succ]
        refine wpAnyH_take (i := 2) (v := (.int .i64 (j : Nat))) rfl (by kernel_rfl) (by kernel_rfl) (by kernel_rfl) (fun _ _ _ h => h) (Or.inl ⟨by rfl, fun w hSw => ?_⟩) (by assumption) ?_
        · clear hSw; go_simp
        try simp only [Act.put, List.setIfInBounds_toArray, List.set_cons_zero, List.set_cons_succ]
        refine wpAnyH_take (i := 3) (v := (.pointer (some ⟨b1, o1 + j * 6, none⟩))) rfl (by kernel_rfl) (by kernel_rfl) (by kernel_rfl) (fun _ _ _ h => h) (Or.inl ⟨by rfl, fun w hSw => ?_⟩) (by assumption) ?_
        · clear hSw; go_simp
        try simp only [Act.put, List.setIfInBounds_toArray, List.set_cons_zero, List.set_cons_succ]
        refine wpAnyH_take (i := 4) (v := (.agg #[.int .i64 kind, .slice ca cn cc, .int .i64 arg, .int .u64 (mask : Nat), .string sign, .int .u64 (value : Nat)])) rfl (by kernel_rfl) (by kernel_rfl) (by kernel_rfl) (fun _ _ _ h => h) (Or.inl ⟨by rfl, fun w hSw => ?_⟩) (by assumption) ?_
        · obtain ⟨t0, t1, t2, t3, t4, t5, t6, t7, t8, t9, t10, t11, t12, t13⟩ := hSw
          go_simp
        try simp only [Act.put, List.setIfInBounds_toArray, List.set_cons_zero, List.set_cons_succ]
        refine wpAnyH_take (i := 5) (v := (.pointer (some ⟨B + 1, 1, none⟩))) rfl (by kernel_rfl) (by kernel_rfl) (by kernel_rfl) (fun _ _ _ h => h) (Or.inl ⟨by rfl, fun w hSw => ?_⟩) (by assumption) ?_
        · clear hSw; go_simp
        try simp only [Act.put, List.setIfInBounds_toArray, List.set_cons_zero, List.set_cons_succ]
        refine wpAnyH_take (i := 6) (v := (.slice (some ⟨b2, o2, none⟩) an bc)) rfl (by kernel_rfl) (by kernel_rfl) (by kernel_rfl) (fun _ _ _ h => h) (Or.inl ⟨by rfl, fun w hSw => ?_⟩) (by assumption) ?_
        · obtain ⟨t0, t1, t2, t3, t4, t5, t6, t7, t8, t9, t10, t11, t12, t13⟩ := hSw
          go_simp
        try simp only [Act.put, List.setIfInBounds_toArray, List.set_cons_zero, List.set_cons_succ]
        refine wpAnyH_take (i := 7) (v := (.int .i64 (j : Nat))) rfl (by kernel_rfl) (by kernel_rfl) (by kernel_rfl) (fun _ _ _ h => h) (Or.inl ⟨by rfl, fun w hSw => ?_⟩) (by assumption) ?_
        · clear hSw; go_simp
        try simp only [Act.put, List.setIfInBounds_toArray, List.set_cons_zero, List.set_cons_succ]
        refine wpAnyH_take (i := 8) (v := (.pointer (some ⟨b2, o2 + j * 6, none⟩))) rfl (by kernel_rfl) (by kernel_rfl) (by kernel_rfl) (fun _ _ _ h => h) (Or.inl ⟨by rfl, fun w hSw => ?_⟩) (by assumption) ?_
        · clear hSw; go_simp
        try simp only [Act.put, List.setIfInBounds_toArray, List.set_cons_zero, List.set_cons_succ]
        refine wpAnyH_take (i := 9) (v := (.agg #[.int .i64 kind, .slice da dn dc, .int .i64 arg, .int .u64 (mask : Nat), .string sign, .int .u64 (value : Nat)])) rfl (by kernel_rfl) (by kernel_rfl) (by kernel_rfl) (fun _ _ _ h => h) (Or.inl ⟨by rfl, fun w hSw => ?_⟩) (by assumption) ?_
        · obtain ⟨t0, t1, t2, t3, t4, t5, t6, t7, t8, t9, t10, t11, t12, t13⟩ := hSw
          go_simp
        try simp only [Act.put, List.setIfInBounds_toArray, List.set_cons_zero, List.set_cons_succ]
        refine wpAnyH_ready (rs := [10]) (by kernel_rfl) (by simp) ?_
        refine AllReadyH.cons rfl (fun K hK => ?_) AllReadyH.nil
        go_simp
        refine (HIC.out _ (HWW.out.trans (HDR.out.mono HWW.out.size))).mono ?_
        rintro e w8 ⟨rfl, hb8⟩
        have hb9 := HDR.out.trans (hb8.mono HDR.out.size)
        refine hK.out _ _ (HKS.out _ hb9) (fun hS => ?_)
        clear hK K
        try simp only [Act.put, List.setIfInBounds_toArray, List.set_cons_zero, List.set_cons_succ]
        refine wpAnyH_ready (rs := [11]) (by kernel_rfl) (by simp) ?_
        refine AllReadyH.cons rfl (fun K hK => ?_) AllReadyH.nil
        go_simp
        refine hK.out _ _ (hS) (fun hS => ?_)
        clear hK K
        try simp only [Act.put, List.setIfInBounds_toArray, List.set_cons_zero, List.set_cons_succ]
        refine wpAnyH_done (by kernel_rfl) ?_ _
        have HB9 := Lib.hid (HWR.out.trans (hb9.mono HWR.out.size))
        clear hS hb8 hb9
        go_wp2_with fail
        go_roundw
        case rel =>
          first
          | exact ⟨j + 1, by go_num, by omega, HB9⟩
          | (repeat apply Exists.intro; exact ⟨⟨j + 1, by go_num, by omega, HB9⟩, rfl⟩)
        case measure => simp [intOf]; omega
      · obtain rfl : j = an := by omega
        go_wp2_with fail
        first
        | (go_ret; exact ⟨rfl, HW1.out.trans (HWR.out.mono HW1.out.size)⟩)
        | (refine bodyPost_ret (results_tmp rfl _ _ _) rfl ?_; exact ⟨rfl, HW1.out.trans (HWR.out.mono HW1.out.size)⟩)
end SPo8
section SPo9
open Go.RowKit Go.ChangeShapes Go.Sort
set_option linter.unusedVariables false
set_option linter.unusedSimpArgs false

set_option maxRecDepth 100000 in
set_option maxHeartbeats 8000000 in
theorem refLike16 (t : Typ) (va vb : Value) (w : World) (ha : IsTyp w va t) (hb : IsTyp w vb t) (hsz : ∀ m ∈ t.rules, m.cnd.size ≤ 1000) :
    Calls Try.prog 17 #[va, vb] w fun e w' => e = .returned (.bool true) ∧ Below w.heap.size w w' := by
  obtain ⟨_, _, ka, rfl, hka⟩ := ha
  obtain ⟨_, _, kb, rfl, hkb⟩ := hb
  obtain ⟨aa, an, ac, rfl, hla, hac1, hac2, _⟩ := id hka
  obtain ⟨ba, bn, bc, rfl, hlb, _⟩ := id hkb
  obtain rfl : an = bn := by rw [← hla, ← hlb]
  have hnI : (an : Int) ≤ 9223372036854775807 := by omega
  have HSZ := Lib.hid (show ∀ j, j < an → (t.rules.getD j mtcZ).cnd.size ≤ 1000 from fun j hj => hsz _ (by rw [show t.rules.getD j mtcZ = t.rules[j] by simp [List.getD, show j < t.rules.length by omega]]; exact List.getElem_mem _))
  have hw1 := ((Below.refl w.heap.size w).alloc (Nat.le_refl _) (.cells #[.int .u32 (t.arch : Nat), .int .u32 (t.dflt : Nat), .slice aa an ac] 38)).alloc (by simp) (.cells #[.int .u32 (t.arch : Nat), .int .u32 (t.dflt : Nat), .slice ba an bc] 38)
  have hB := (heap_alloc_old (w.alloc (.cells #[.int .u32 (t.arch : Nat), .int .u32 (t.dflt : Nat), .slice aa an ac] 38)) (.cells #[.int .u32 (t.arch : Nat), .int .u32 (t.dflt : Nat), .slice ba an bc] 38) (r := w.heap.size) (by simp)).trans (heap_alloc_new w (.cells #[.int .u32 (t.arch : Nat), .int .u32 (t.dflt : Nat), .slice aa an ac] 38))
  have hR := heap_alloc_new (w.alloc (.cells #[.int .u32 (t.arch : Nat), .int .u32 (t.dflt : Nat), .slice aa an ac] 38)) (.cells #[.int .u32 (t.arch : Nat), .int .u32 (t.dflt : Nat), .slice ba an bc] 38)
  rw [World.size_alloc] at hR
  have HKA := Lib.hid hka; have HKB := Lib.hid hkb; have HL := Lib.hid hla
  clear hka hkb hla hlb hsz hac1 hac2
  go_enter Try.func17, Try.ntmps17
  go_upto_region 1 with fail
  obtain ⟨W, hW⟩ : ∃ W, (w.alloc (.cells #[.int .u32 (t.arch : Nat), .int .u32 (t.dflt : Nat), .slice aa an ac] 38)).alloc (.cells #[.int .u32 (t.arch : Nat), .int .u32 (t.dflt : Nat), .slice ba an bc] 38) = W := ⟨_, rfl⟩
  rw [hW] at hw1 hB hR ⊢
  obtain ⟨B, hBB⟩ : ∃ B, w.heap.size = B := ⟨_, rfl⟩
  rw [hBB] at hB hR
  (try rw [hBB])
  have HB := Lib.hid hB; have HR := Lib.hid hR; have HW1 := Lib.hid hw1
  clear hW hw1 hB hR hBB
  have d0 := below_cell (Below.refl _ W) HB.out 0 rfl
  have d1 := below_cell (Below.refl _ W) HB.out 1 rfl
  have d2 := below_cell (Below.refl _ W) HB.out 2 rfl
  have z0 := below_cell (Below.refl _ W) HR.out 0 rfl
  have z1 := below_cell (Below.refl _ W) HR.out 1 rfl
  have z2 := below_cell (Below.refl _ W) HR.out 2 rfl
  go_upto_region 4 with fail
  clear d0 d1 d2 z0 z1 z2
  go_loopw [33] (fun z wr => ∃ j : Nat, z = .int .i64 (j : Nat) ∧ j ≤ an ∧ Hid (Below W.heap.size W wr)) (fun z _ => an - (intOf z).toNat)
  case atStart => exact ⟨0, rfl, Nat.zero_le _, Lib.hid (Below.refl _ _)⟩
  case round =>
    obtain ⟨j, rfl, hj, HWR⟩ := hrel
    by_cases hlt : j < an
    · have hjI : (j : Int) < an := by omega
      have hww := HW1.out.trans (HWR.out.mono HW1.out.size)
      obtain ⟨b1, o1, rfl, hc1⟩ := typ_at HKA.out hww j hlt
      obtain ⟨b2, o2, rfl, hc2⟩ := typ_at HKB.out hww j hlt
      have hsj := HSZ.out j hlt
      generalize t.rules.getD j mtcZ = m at *
      obtain ⟨nrs, cd, act⟩ := m
      obtain ⟨hact, hbd1, xk, xn, xc, xa, xb, xd, hu1, hk1, a0, a1, a2, a3, a4, a5, a6, a7⟩ := hc1.cell
      obtain ⟨_, _, yk, yn, yc, ya, yb, yd, hu2, hk2, g0, g1, g2, g3, g4, g5, g6, g7⟩ := hc2.cell
      simp only at hact hbd1 hsj hu1 hk1 hu2 hk2 a0 a1 a2 a3 a4 a5 a6 a7 g0 g1 g2 g3 g4 g5 g6 g7
      obtain rfl : xn = yn := by
        obtain ⟨_, _, _, hv, h1, _⟩ := hu1
        obtain ⟨_, _, _, hv2, h2, _⟩ := hu2
        injection hv with _ q1 _
        injection hv2 with _ q2 _
        rw [q1, q2, ← h1, ← h2]
      have hxn : (xn : Int) ≤ 9223372036854775807 := by obtain ⟨_, _, _, hv, h1, h2, h3, _⟩ := hu1; injection hv with _ q2 q3; subst q2 q3; omega
      have HIC := Lib.hid (fun u (hu : Below wr.heap.size wr u) => refLikeCond 1000 (Nat.le_refl _) cd hsj (.agg #[.int .i64 cd.kind, .slice xa xb xd, .int .i64 cd.arg, .int .u64 (cd.mask : Nat), .string cd.sign, .int .u64 (cd.value : Nat)]) (.agg #[.int .i64 cd.kind, .slice ya yb yd, .int .i64 cd.arg, .int .u64 (cd.mask : Nat), .string cd.sign, .int .u64 (cd.value : Nat)]) u ⟨hbd1, _, rfl, hk1.below hu⟩ ⟨hbd1, _, rfl, hk2.below hu⟩)
      obtain ⟨kind, kids, arg, mask, sign, value⟩ := cd
      simp only [Cnd.kind, Cnd.arg, Cnd.mask, Cnd.sign, Cnd.value] at HIC a1 a3 a4 a5 a6 g1 g3 g4 g5 g6
      have HU1 := Lib.hid hu1; have HU2 := Lib.hid hu2; have HLT := Lib.hid hlt
      have hgN := fun o => ((heap_alloc_old wr o (lt_of_block ((HWR.out.block _ (lt_of_block HR.out)).trans HR.out))).trans ((HWR.out.block _ (lt_of_block HR.out)).trans HR.out))
      clear hc1 hc2 hu1 hu2 hk1 hk2 hbd1 hsj hlt hact
      go_upto_region 6 with fail
      have hn7 := heap_alloc_new wr (.cells #[.slice xk xn xc, .int .i64 kind, .slice xa xb xd, .int .i64 arg, .int .u64 (mask : Nat), .string sign, .int .u64 (value : Nat), .int .u32 (act : Nat)] 49)
      have hy7 := (Below.refl wr.heap.size wr).alloc (Nat.le_refl _) (.cells #[.slice xk xn xc, .int .i64 kind, .slice xa xb xd, .int .i64 arg, .int .u64 (mask : Nat), .string sign, .int .u64 (value : Nat), .int .u32 (act : Nat)] 49)
      obtain ⟨w7, hw7⟩ : ∃ w7, wr.alloc (.cells #[.slice xk xn xc, .int .i64 kind, .slice xa xb xd, .int .i64 arg, .int .u64 (mask : Nat), .string sign, .int .u64 (value : Nat), .int .u32 (act : Nat)] 49) = w7 := ⟨_, rfl⟩
      obtain ⟨b7, hb7⟩ : ∃ b7, wr.heap.size = b7 := ⟨_, rfl⟩
      rw [hw7] at hn7 hy7 ⊢
      rw [hb7] at hn7
      (try rw [hb7])
      have r2 := below_cell (HWR.out.trans (hy7.mono HWR.out.size)) HR.out 2 rfl
      have h0 := (hy7.cell (p := ⟨b2, o2 + j * 8, none⟩) (World.block_lt_of_cell? _ _ g0)).trans g0
      have h1 := (hy7.cell (p := ⟨b2, o2 + j * 8 + 1, none⟩) (World.block_lt_of_cell? _ _ g1)).trans g1
      have h2 := (hy7.cell (p := ⟨b2, o2 + j * 8 + 2, none⟩) (World.block_lt_of_cell? _ _ g2)).trans g2
      have h3 := (hy7.cell (p := ⟨b2, o2 + j * 8 + 3, none⟩) (World.block_lt_of_cell? _ _ g3)).trans g3
      have h4 := (hy7.cell (p := ⟨b2, o2 + j * 8 + 4, none⟩) (World.block_lt_of_cell? _ _ g4)).trans g4
      have h5 := (hy7.cell (p := ⟨b2, o2 + j * 8 + 5, none⟩) (World.block_lt_of_cell? _ _ g5)).trans g5
      have h6 := (hy7.cell (p := ⟨b2, o2 + j * 8 + 6, none⟩) (World.block_lt_of_cell? _ _ g6)).trans g6
      have h7 := (hy7.cell (p := ⟨b2, o2 + j * 8 + 7, none⟩) (World.block_lt_of_cell? _ _ g7)).trans g7
      have HY7 := Lib.hid hy7; have HN7 := Lib.hid hn7
      clear hw7 hb7 a0 a1 a2 a3 a4 a5 a6 a7 g0 g1 g2 g3 g4 g5 g6 g7 hn7 hy7 hww hgN
      go_upto_region 7 with fail
      clear r2 h0 h1 h2 h3 h4 h5 h6 h7
      have hn8 := heap_alloc_new w7 (.cells #[.slice yk xn yc, .int .i64 kind, .slice ya yb yd, .int .i64 arg, .int .u64 (mask : Nat), .string sign, .int .u64 (value : Nat), .int .u32 (act : Nat)] 49)
      have hy8 := (Below.refl w7.heap.size w7).alloc (Nat.le_refl _) (.cells #[.slice yk xn yc, .int .i64 kind, .slice ya yb yd, .int .i64 arg, .int .u64 (mask : Nat), .string sign, .int .u64 (value : Nat), .int .u32 (act : Nat)] 49)
      obtain ⟨w8, hw8⟩ : ∃ w8, w7.alloc (.cells #[.slice yk xn yc, .int .i64 kind, .slice ya yb yd, .int .i64 arg, .int .u64 (mask : Nat), .string sign, .int .u64 (value : Nat), .int .u32 (act : Nat)] 49) = w8 := ⟨_, rfl⟩
      obtain ⟨b8, hb8⟩ : ∃ b8, w7.heap.size = b8 := ⟨_, rfl⟩
      rw [hw8] at hn8 hy8 ⊢
      rw [hb8] at hn8
      (try rw [hb8])
      have HN78 := Lib.hid ((hy8.block _ (lt_of_block HN7.out)).trans HN7.out); have HN8 := Lib.hid hn8
      have HY8 := Lib.hid (HY7.out.trans (hy8.mono HY7.out.size))
      clear hw8 hb8 hn8 hy8
      have x0 := below_cell (Below.refl _ w8) HN78.out 0 rfl
      have x1 := below_cell (Below.refl _ w8) HN78.out 1 rfl
      have x2 := below_cell (Below.refl _ w8) HN78.out 2 rfl
      have x3 := below_cell (Below.refl _ w8) HN78.out 3 rfl
      have x4 := below_cell (Below.refl _ w8) HN78.out 4 rfl
      have x5 := below_cell (Below.refl _ w8) HN78.out 5 rfl
      have x6 := below_cell (Below.refl _ w8) HN78.out 6 rfl
      have x7 := below_cell (Below.refl _ w8) HN78.out 7 rfl
      have y0 := below_cell (Below.refl _ w8) HN8.out 0 rfl
      have y1 := below_cell (Below.refl _ w8) HN8.out 1 rfl
      have y2 := below_cell (Below.refl _ w8) HN8.out 2 rfl
      have y3 := below_cell (Below.refl _ w8) HN8.out 3 rfl
      have y4 := below_cell (Below.refl _ w8) HN8.out 4 rfl
      have y5 := below_cell (Below.refl _ w8) HN8.out 5 rfl
      have y6 := below_cell (Below.refl _ w8) HN8.out 6 rfl
      have y7 := below_cell (Below.refl _ w8) HN8.out 7 rfl
      go_upto_region 9 with (first | (go_at_call 30; refine (HIC.out _ HY8.out).mono ?_; rintro e w9 ⟨rfl, hb9⟩))
      have HA9 := Lib.hid ((hb9.block _ (lt_of_block HN78.out)).trans HN78.out); have HB9 := Lib.hid ((hb9.block _ (lt_of_block HN8.out)).trans HN8.out)
      have HY9 := Lib.hid (HY8.out.trans (hb9.mono HY8.out.size))
      clear hb9 HIC HN78 HN8 HY8 HN7 HY7
      clear x0 x1 x2 x3 x4 x5 x6 x7 y0 y1 y2 y3 y4 y5 y6 y7
      have x0 := below_cell (Below.refl _ w9) HA9.out 0 rfl
      have y0 := below_cell (Below.refl _ w9) HB9.out 0 rfl
      go_upto_region 10 with fail
      go_loopw [68] (fun z wq => ∃ i : Nat, z = .int .i64 (i : Nat) ∧ i ≤ xn ∧ Hid (Below w9.heap.size w9 wq)) (fun z _ => xn - (intOf z).toNat)
      case atStart => exact ⟨0, rfl, Nat.zero_le _, Lib.hid (Below.refl _ _)⟩
      case round =>
        clear x0 y0
        obtain ⟨i, rfl, hi, HWQ⟩ := hrel
        by_cases hit : i < xn
        · have hiI : (i : Int) < xn := by omega
          obtain ⟨bx, ox, rfl, hx, hxle, _⟩ := u32_at HU1.out (HY9.out.trans (HWQ.out.mono HY9.out.size)) i hit
          obtain ⟨by', oy, rfl, hy, _, _⟩ := u32_at HU2.out (HY9.out.trans (HWQ.out.mono HY9.out.size)) i hit
          generalize nrs.getD i 0 = x at *
          have x0 := below_cell HWQ.out HA9.out 0 rfl
          have y0 := below_cell HWQ.out HB9.out 0 rfl
          go_upto_region 12 with fail
          go_quiet (fail)
          go_wp2_with fail
          exact ⟨⟨i + 1, by go_num, by omega, Lib.hid (belowN HWQ.out _)⟩, by simp [intOf]; omega⟩
        · obtain rfl : i = xn := by omega
          have HFX := Lib.hid (HWR.out.trans ((HY9.out.trans (HWQ.out.mono HY9.out.size)).mono HWR.out.size))
          go_wp2_with fail
          go_roundw
          case rel =>
            first
            | exact ⟨j + 1, by go_num, by have := HLT.out; omega, HFX⟩
            | (repeat apply Exists.intro; exact ⟨⟨j + 1, by go_num, by have := HLT.out; omega, HFX⟩, rfl⟩)
          case measure => have := HLT.out; simp [intOf]; omega
    · obtain rfl : j = an := by omega
      go_wp2_with fail
      first
      | (go_ret; exact ⟨rfl, HW1.out.trans (HWR.out.mono HW1.out.size)⟩)
      | (refine bodyPost_ret (results_tmp rfl _ _ _) rfl ?_; exact ⟨rfl, HW1.out.trans (HWR.out.mono HW1.out.size)⟩)
end SPo9
end Go.Proofs.Ytbcoooaoofbboaa
