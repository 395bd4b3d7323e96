/- The reference of layer 18: conditions within conditions. -/
import Derived.Test.YtgcngmlndijppaaRef18
import Derived.Deep.RegionWith
namespace Go.Proofs.Ytgcngmlndijppaa
open Go.RowKit Go.ChangeShapes
set_option linter.unusedVariables false

/-- how many of a row hold -/
def cntH (args : List Nat) (l : List Cnd) : Nat := (l.filter fun k => k.holds args).length
theorem cntH_all (args : List Nat) (l : List Cnd) : decide (cntH args l = l.length) = allH args l := by
  unfold cntH
  induction l with
  | nil => rfl
  | cons a l ih =>
    rw [allH, ← ih, List.filter_cons, List.length_cons]
    have := List.length_filter_le (fun k : Cnd => k.holds args) l
    cases h : a.holds args
    · simp; omega
    · simp
theorem cntH_any (args : List Nat) (l : List Cnd) : decide (0 < cntH args l) = anyH args l := by
  unfold cntH
  induction l with
  | nil => rfl
  | cons a l ih =>
    rw [anyH, ← ih, List.filter_cons]
    cases h : a.holds args
    · simp
    · simp
theorem cntH_step (args : List Nat) (l : List Cnd) (j : Nat) (hj : j < l.length) : cntH args (l.take (j + 1)) = cntH args (l.take j) + if (l.getD j cndZ).holds args = true then 1 else 0 := by
  unfold cntH
  rw [List.getD_eq_getElem?_getD, List.getElem?_eq_getElem hj, Option.getD_some, List.take_succ_eq_append_getElem hj, List.filter_append, List.length_append]
  congr 1
  cases h : (l[j]).holds args
  · rw [List.filter_cons_of_neg (by simp [h])]; rfl
  · rw [List.filter_cons_of_pos (by simp [h])]; rfl
theorem cntH_all2 (args : List Nat) (l : List Cnd) : (cntH args l = l.length → allH args l = true) ∧ (cntH args l ≠ l.length → allH args l = false) :=
  ⟨fun h => by rw [← cntH_all, decide_eq_true h], fun h => by rw [← cntH_all, decide_eq_false h]⟩
theorem cntH_any2 (args : List Nat) (l : List Cnd) : (cntH args l ≠ 0 → anyH args l = true) ∧ (cntH args l = 0 → anyH args l = false) :=
  ⟨fun h => by rw [← cntH_any, decide_eq_true (by omega)], fun h => by rw [← cntH_any, decide_eq_false (by omega)]⟩
theorem cntH_step2 (args : List Nat) (l : List Cnd) (j : Nat) (hj : j < l.length) : ((l.getD j cndZ).holds args = true → cntH args (l.take (j + 1)) = cntH args (l.take j) + 1) ∧ ((l.getD j cndZ).holds args = false → cntH args (l.take (j + 1)) = cntH args (l.take j)) :=
  ⟨fun h => by rw [cntH_step args l j hj, if_pos h], fun h => by rw [cntH_step args l j hj, if_neg (by rw [h]; decide)]; rfl⟩
theorem cntH_le (args : List Nat) (l : List Cnd) : cntH args l ≤ l.length := List.length_filter_le _ _
theorem cntH_nil (args : List Nat) (l : List Cnd) : cntH args (l.take 0) = 0 := rfl

set_option maxRecDepth 100000 in
set_option maxHeartbeats 4000000 in
theorem refHolds18 : ∀ (N : Nat) (c : Cnd), c.size ≤ N → c.fine = true → ∀ (v : Value) (w : World) (x : Cal), x.ok → IsCnd w v c →
    Calls Try.prog 27 #[v, x.value] w fun e w' => e = .returned (.bool (c.holds x.args)) ∧ Below w.heap.size w w' := by
  intro N
  induction N with
  | zero => intro c h; rw [c.size_eq] at h; omega
  | succ N ih =>
    intro c hsz hfine v w x hx h
    obtain ⟨hb, k, rfl, hk⟩ := h
    obtain ⟨ka, kn, kc, rfl, hkn, hkc, hkm, _⟩ := id hk
    rw [c.fine_eq, Bool.and_eq_true] at hfine
    obtain ⟨hal, hfk⟩ := hfine
    rw [c.size_eq] at hsz
    have hHE := c.holds_eq x.args
    have hkid : ∀ j, j < kn → (c.kids.getD j cndZ).size ≤ N ∧ (c.kids.getD j cndZ).fine = true := fun j hj => ⟨by have := size_kid c.kids j (by omega); omega, fines_get c.kids j (by omega) hfk⟩
    have hCA := cntH_all2 x.args c.kids
    have hCY := cntH_any2 x.args c.kids
    have hCS := cntH_step2 x.args c.kids
    have hCL := cntH_le x.args c.kids
    have hCT := cntH_le x.args
    rw [hkn] at hCA hCS hCL
    have hH1 : c.kind = 1 → c.holds x.args = allH x.args c.kids := fun h => by rw [hHE, if_pos h]
    have hH2 : c.kind = 2 → c.holds x.args = anyH x.args c.kids := fun h => by rw [hHE, if_neg (by omega), if_pos h]
    have hH3 : c.kind = 3 → c.holds x.args = !(anyH x.args c.kids) := fun h => by rw [hHE, if_neg (by omega), if_neg (by omega), if_pos h]
    have hH4 : c.kind = 4 → c.holds x.args = signV c.sign (x.args.getD c.arg.toNat 0 &&& c.mask) c.value := fun h => by rw [hHE, if_neg (by omega), if_neg (by omega), if_neg (by omega)]
    have hK : c.kind = 1 ∨ c.kind = 2 ∨ (c.kind = 3 ∧ kn = 1) ∨ (c.kind = 4 ∧ 0 ≤ c.arg ∧ c.arg ≤ 5 ∧ signOk c.sign = true) := by
      unfold Cnd.alone at hal
      split at hal
      · rename_i h4
        simp only [Bool.and_eq_true, decide_eq_true_eq] at hal
        exact .inr (.inr (.inr ⟨h4, hal.1.1.1, hal.1.1.2, hal.1.2⟩))
      split at hal
      · rename_i h12
        rcases h12 with h | h
        · exact .inl h
        · exact .inr (.inl h)
      split at hal
      · rename_i h3
        simp only [Bool.and_eq_true, decide_eq_true_eq] at hal
        exact .inr (.inr (.inl ⟨h3, by omega⟩))
      · cases hal
    obtain ⟨R, hR⟩ : ∃ R, c.holds x.args = R := ⟨_, rfl⟩
    rw [hR] at hH1 hH2 hH3 hH4 ⊢
    have hmk : c.mask ≤ 18446744073709551615 := hb.2.2.1
    have hx5 := hx.2.2.2.2
    obtain ⟨nr, arch, ip, a0, a1, a2, a3, a4, a5, rfl⟩ := Cal.list6 hx
    dsimp only at hx5 hCA hCY hCS hCL hH1 hH2 hH3 hH4
    have hih := fun (c : Cnd) h1 h2 v u hI => ih c h1 h2 v u ⟨nr, arch, ip, [a0, a1, a2, a3, a4, a5]⟩ hx hI
    have HIH := Lib.hid hih; have HH1 := Lib.hid hH1; have HH2 := Lib.hid hH2; have HH3 := Lib.hid hH3; have HH4 := Lib.hid hH4; have HKID := Lib.hid hkid; have HKK := Lib.hid hK; have HX5 := Lib.hid hx5; have HMK := Lib.hid hmk; have HCA := Lib.hid hCA; have HCY := Lib.hid hCY; have HCS := Lib.hid hCS; have HCL := Lib.hid hCL
    have hknI : (kn : Int) ≤ 9223372036854775807 := by omega
    clear ih hih hH1 hH2 hH3 hH4 hkid hK hR hHE hal hfk hsz hkc hkm hx hb hmk hx5 hCA hCY hCS hCL hCT
    obtain ⟨kind, kids, arg, mask, sign, value⟩ := c
    simp only [Cnd.kind, Cnd.arg, Cnd.mask, Cnd.sign, Cnd.value, Cnd.kids] at *
    show Calls _ _ #[.agg #[.int .i64 kind, .slice ka kn kc, .int .i64 arg, .int .u64 (mask : Nat), .string sign, .int .u64 (value : Nat)], callV nr arch ip a0 a1 a2 a3 a4 a5] _ _
    obtain ⟨W, hW, f0, f1, hBW⟩ := two_at w (.cells #[.int .i64 kind, .slice ka kn kc, .int .i64 arg, .int .u64 (mask : Nat), .string sign, .int .u64 (value : Nat)] 25) (callO nr arch ip a0 a1 a2 a3 a4 a5)
    unfold callO at hW f1
    unfold callV
    have hload := fun u (hu : Below W.heap.size W u) j hj => kid_load (hk.below hBW) hu rfl j hj
    have hcells : ∀ u, Below W.heap.size W u → u.cell? ⟨w.heap.size, 0, none⟩ = some (.int .i64 kind) ∧ u.cell? ⟨w.heap.size, 1, none⟩ = some (.slice ka kn kc) ∧ u.cell? ⟨w.heap.size, 2, none⟩ = some (.int .i64 arg) ∧ u.cell? ⟨w.heap.size, 3, none⟩ = some (.int .u64 (mask : Nat)) ∧ u.cell? ⟨w.heap.size, 4, none⟩ = some (.string sign) ∧ u.cell? ⟨w.heap.size, 5, none⟩ = some (.int .u64 (value : Nat)) ∧ u.cell? ⟨w.heap.size + 1, 0, none⟩ = some (.int .u32 (nr : Nat)) ∧ u.cell? ⟨w.heap.size + 1, 1, none⟩ = some (.int .u32 (arch : Nat)) ∧ u.cell? ⟨w.heap.size + 1, 2, none⟩ = some (.int .u64 (ip : Nat)) ∧ u.cell? ⟨w.heap.size + 1, 3, none⟩ = some (.int .u64 (a0 : Nat)) ∧ u.cell? ⟨w.heap.size + 1, 4, none⟩ = some (.int .u64 (a1 : Nat)) ∧ u.cell? ⟨w.heap.size + 1, 5, none⟩ = some (.int .u64 (a2 : Nat)) ∧ u.cell? ⟨w.heap.size + 1, 6, none⟩ = some (.int .u64 (a3 : Nat)) ∧ u.cell? ⟨w.heap.size + 1, 7, none⟩ = some (.int .u64 (a4 : Nat)) ∧ u.cell? ⟨w.heap.size + 1, 8, none⟩ = some (.int .u64 (a5 : Nat)) := fun u hu => ⟨below_cell hu f0 0 rfl, below_cell hu f0 1 rfl, below_cell hu f0 2 rfl, below_cell hu f0 3 rfl, below_cell hu f0 4 rfl, below_cell hu f0 5 rfl, below_cell hu f1 0 rfl, below_cell hu f1 1 rfl, below_cell hu f1 2 rfl, below_cell hu f1 3 rfl, below_cell hu f1 4 rfl, below_cell hu f1 5 rfl, below_cell hu f1 6 rfl, below_cell hu f1 7 rfl, below_cell hu f1 8 rfl⟩
    have hbW := Below.refl W.heap.size W
    obtain ⟨g0, g1, g2, g3, g4, g5, g6, g7, g8, g9, g10, g11, g12, g13, g14⟩ := hcells W hbW
    have HLOAD := Lib.hid hload; have HBW := Lib.hid hBW; have HXC := Lib.hid hcells
    have HKN := Lib.hid hkn
    clear hload hBW hcells hk hkn
    by_cases k4 : kind = 4
    · subst k4
      obtain ⟨ha0, ha5, hsg⟩ : 0 ≤ arg ∧ arg ≤ 5 ∧ signOk sign = true := (HKK.out.resolve_left (by omega)).resolve_left (by omega) |>.resolve_left (by omega) |>.2
      obtain ⟨j, rfl⟩ : ∃ j : Nat, arg = (j : Int) := ⟨arg.toNat, by omega⟩
      have hR := HH4.out rfl
      rw [Int.toNat_natCast] at hR
      have hT := refTest18 ka kn kc j mask sign value nr arch ip a0 a1 a2 a3 a4 a5 (by omega) hsg HMK.out HX5.out W
      rw [← hR] at hT
      unfold callV at hT
      have HT := Lib.hid hT
      clear hT hR hsg ha0 ha5 HH1 HH2 HH3 HH4 HKK HLOAD HKID HIH HCA HCY HCS HCL
      go_enter Try.func27, Try.ntmps27
      go_upto_region 1 with fail
      rw [← hW]
      clear hW
      go_wp2_with fail
      refine HT.out.mono ?_
      rintro e w2 ⟨rfl, hb2⟩
      have HB2 := Lib.hid (HBW.out.trans (hb2.mono HBW.out.size))
      clear hb2 g0 g1 g2 g3 g4 g5 g6 g7 g8 g9 g10 g11 g12 g13 g14
      go_wp2_with fail
      go_ret
      exact ⟨rfl, HB2.out⟩
    · have b4 : (kind == 4) = false := by rw [beq_eq_false_iff_ne]; exact k4
      have hk3 : kind = 1 ∨ kind = 2 ∨ (kind = 3 ∧ kn = 1) := by
        rcases HKK.out with h | h | h | h
        · exact .inl h
        · exact .inr (.inl h)
        · exact .inr (.inr h)
        · exact absurd h.1 k4
      have HK3 := Lib.hid hk3
      clear hk3 k4 HKK HH4 HX5 HMK
      go_enter Try.func27, Try.ntmps27
      go_upto_region 1 with fail
      rw [← hW]
      clear hW
      go_wp2_with fail
      go_loopw [5, 17] (fun z5 z wr => ∃ j m : Nat, z = .int .i64 (j : Nat) ∧ z5 = .int .i64 (m : Nat) ∧ m = cntH [a0, a1, a2, a3, a4, a5] (kids.take j) ∧ j ≤ kn ∧ Below W.heap.size W wr) (fun _ z _ => kn - (intOf z).toNat)
      case atStart => exact ⟨0, 0, rfl, rfl, rfl, by omega, hbW⟩
      case round =>
        obtain ⟨j, m, rfl, rfl, hm, hj, hwr⟩ := hrel
        clear g0 g1 g2 g3 g4 g5 g6 g7 g8 g9 g10 g11 g12 g13 g14
        by_cases hlt : j < kn
        · obtain ⟨b, o, k2, rfl, ⟨a2', n2, c2, rfl⟩, hI, hcell⟩ := HLOAD.out wr hwr j hlt
          have hjI : (j : Int) < kn := by omega
          have hsz := HKID.out j hlt
          have hcs := HCS.out j hlt
          have hml := cntH_le [a0, a1, a2, a3, a4, a5] (kids.take j)
          rw [List.length_take] at hml
          rw [← hm] at hcs hml
          have hmI : (m : Int) < 9223372036854775807 := by omega
          obtain ⟨cc, hcc⟩ : ∃ cc, kids.getD j cndZ = cc := ⟨_, rfl⟩
          rw [hcc] at hI hcell hsz hcs
          have hw3 := (Below.refl wr.heap.size wr).alloc (Nat.le_refl _) (.cells (cc.cells (.slice a2' n2 c2)).toArray 25)
          have hnw3 := heap_alloc_new wr (.cells (cc.cells (.slice a2' n2 c2)).toArray 25)
          have hcall := HIH.out cc hsz.1 hsz.2 _ _ (hI.below hw3)
          have hx3 := hwr.trans (hw3.mono hwr.size)
          have hc3 := HXC.out _ hx3
          have HC := Lib.hid hcall; have HW3 := Lib.hid hx3
          obtain ⟨fr, hfr⟩ : ∃ fr, cc.holds [a0, a1, a2, a3, a4, a5] = fr := ⟨_, rfl⟩
          rw [hfr] at HC hcs
          have HCN := Lib.hid hcs
          have e0 := hcell 0 _ rfl
          have e1 := hcell 1 _ rfl
          have e2 := hcell 2 _ rfl
          have e3 := hcell 3 _ rfl
          have e4 := hcell 4 _ rfl
          have e5 := hcell 5 _ rfl
          rw [Nat.add_zero] at e0
          clear hsz hcs hcall hw3 hI hcell hfr hwr hml hx3 hm hcc
          obtain ⟨kind2, kids2, arg2, mask2, sign2, value2⟩ := cc
          change Hid (Calls _ _ #[.agg #[.int .i64 kind2, .slice a2' n2 c2, .int .i64 arg2, .int .u64 (mask2 : Nat), .string sign2, .int .u64 (value2 : Nat)], .agg #[.int .u32 (nr : Nat), .int .u32 (arch : Nat), .int .u64 (ip : Nat), .int .u64 (a0 : Nat), .int .u64 (a1 : Nat), .int .u64 (a2 : Nat), .int .u64 (a3 : Nat), .int .u64 (a4 : Nat), .int .u64 (a5 : Nat)]] _ _) at HC
          simp only [Cnd.cells, Cnd.kind, Cnd.arg, Cnd.mask, Cnd.sign, Cnd.value] at e0 e1 e2 e3 e4 e5 HC HW3 hnw3 hc3
          obtain ⟨_, _, _, _, _, _, p6, p7, p8, p9, p10, p11, p12, p13, p14⟩ := hc3
          have q0 := below_cell (Below.refl _ _) hnw3 0 rfl
          have q1 := below_cell (Below.refl _ _) hnw3 1 rfl
          have q2 := below_cell (Below.refl _ _) hnw3 2 rfl
          have q3 := below_cell (Below.refl _ _) hnw3 3 rfl
          have q4 := below_cell (Below.refl _ _) hnw3 4 rfl
          have q5 := below_cell (Below.refl _ _) hnw3 5 rfl
          clear hnw3
          go_wp2_with fail
          refine HC.out.mono ?_
          rintro e w4 ⟨rfl, hb4⟩
          have HW4 := Lib.hid (HW3.out.trans (hb4.mono HW3.out.size))
          clear hb4 q0 q1 q2 q3 q4 q5 e0 e1 e2 e3 e4 e5 HC p6 p7 p8 p9 p10 p11 p12 p13 p14
          cases fr
          · go_wp2_with fail
            go_roundw
            case rel => exact ⟨j + 1, m, by go_num, rfl, (HCN.out.2 (by trivial)).symm, by omega, HW4.out⟩
            case measure => simp [intOf]; omega
          · go_wp2_with fail
            go_roundw
            case rel => exact ⟨j + 1, m + 1, by go_num, by go_num, (HCN.out.1 (by trivial)).symm, by omega, HW4.out⟩
            case measure => simp [intOf]; omega
        · obtain rfl : j = kn := by omega
          have hca := HCA.out
          have hcy := HCY.out
          rw [List.take_of_length_le (by have := HKN.out; omega)] at hm
          rw [← hm] at hca hcy
          clear hm
          obtain ⟨g0, g1, _⟩ := HXC.out wr hwr
          have HWR := Lib.hid (HBW.out.trans (hwr.mono HBW.out.size))
          clear hwr
          rcases HK3.out with rfl | rfl | ⟨rfl, rfl⟩
          · have hR := HH1.out rfl
            by_cases hm : m = j
            · subst hm
              rw [hca.1 rfl] at hR
              have HR := Lib.hid hR
              clear hR hca hcy HK3
              go_wp2_with fail
              go_ret
              exact ⟨by rw [HR.out]; simp, HWR.out⟩
            · have e1 : ((m : Int) == j) = false := by rw [beq_eq_false_iff_ne]; omega
              rw [hca.2 hm] at hR
              have HR := Lib.hid hR
              clear hR hca hcy HK3 hm
              go_wp2_with fail
              go_ret
              exact ⟨by rw [HR.out]; rfl, HWR.out⟩
          · have hR := HH2.out rfl
            by_cases hm : m = 0
            · rw [hcy.2 hm] at hR
              subst hm
              have HR := Lib.hid hR
              clear hR hca hcy HK3
              go_wp2_with fail
              go_ret
              exact ⟨by rw [HR.out]; rfl, HWR.out⟩
            · rw [hcy.1 hm] at hR
              have hm1 : (0 : Int) < m := by omega
              have HM1 := Lib.hid hm1
              have HR := Lib.hid hR
              clear hR hca hcy HK3 hm
              go_wp2_with fail
              go_ret
              exact ⟨by rw [HR.out]; simp; have := HM1.out; omega, HWR.out⟩
          · have hR := HH3.out rfl
            by_cases hm : m = 0
            · rw [hcy.2 hm] at hR
              subst hm
              have HR := Lib.hid hR
              clear hR hca hcy HK3
              go_wp2_with fail
              go_ret
              exact ⟨by rw [HR.out]; rfl, HWR.out⟩
            · have e1 : ((m : Int) == 0) = false := by rw [beq_eq_false_iff_ne]; omega
              rw [hcy.1 hm] at hR
              have HR := Lib.hid hR
              clear hR hca hcy HK3 hm
              go_wp2_with fail
              go_ret
              exact ⟨by rw [HR.out]; rfl, HWR.out⟩
set_option maxRecDepth 100000 in
set_option maxHeartbeats 1000000 in
theorem refDoes18 (c : Cnd) (v : Value) (w : World) (x : Cal) (hx : x.ok) (h : IsCnd w v c) : Calls Try.prog 12 #[v, x.value] w fun e w' => e = .returned (.bool (c.does x.args)) ∧ Below w.heap.size w w' := by
  obtain ⟨hb, k, rfl, hk⟩ := id h
  obtain ⟨ka, kn, kc, rfl, hkn, _⟩ := id hk
  obtain ⟨nr, arch, ip, a0, a1, a2, a3, a4, a5, rfl⟩ := Cal.list6 hx
  obtain ⟨W, hW, f0, f1, hBW⟩ := two_at w (.cells #[.int .i64 c.kind, .slice ka kn kc, .int .i64 c.arg, .int .u64 (c.mask : Nat), .string c.sign, .int .u64 (c.value : Nat)] 25) (callO nr arch ip a0 a1 a2 a3 a4 a5)
  have hzz : c.zero = zeroV c.kind kn c.arg c.mask c.sign c.value := by unfold Cnd.zero; rw [hkn]
  have hd : c.does [a0, a1, a2, a3, a4, a5] = (c.zero || (c.right && c.holds [a0, a1, a2, a3, a4, a5])) := rfl
  have hZ := fun u => refNone16 c.kind ka kn kc c.arg c.mask c.sign c.value u
  rw [← hzz] at hZ
  have hR := fun u (hu : Below W.heap.size W u) => refRight16 c _ u (h.below (hBW.trans (hu.mono hBW.size)))
  have hH := fun u (hu : Below W.heap.size W u) hf => refHolds18 c.size c (Nat.le_refl _) hf _ u _ hx (h.below (hBW.trans (hu.mono hBW.size)))
  have hrf : c.right = true → c.fine = true := fun h => by unfold Cnd.right at h; rw [Bool.and_eq_true] at h; exact h.2
  generalize c.does _ = D at *
  show Calls _ _ #[.agg #[.int .i64 c.kind, .slice ka kn kc, .int .i64 c.arg, .int .u64 (c.mask : Nat), .string c.sign, .int .u64 (c.value : Nat)], callV nr arch ip a0 a1 a2 a3 a4 a5] _ _
  change ∀ u, Below W.heap.size W u → _ → Calls _ _ #[.agg #[.int .i64 c.kind, .slice ka kn kc, .int .i64 c.arg, .int .u64 (c.mask : Nat), .string c.sign, .int .u64 (c.value : Nat)], callV nr arch ip a0 a1 a2 a3 a4 a5] _ _ at hH
  change ∀ u, Below W.heap.size W u → Calls _ _ #[.agg #[.int .i64 c.kind, .slice ka kn kc, .int .i64 c.arg, .int .u64 (c.mask : Nat), .string c.sign, .int .u64 (c.value : Nat)]] _ _ at hR
  unfold callV at hH ⊢
  unfold callO at hW f1
  have hcells : ∀ u, Below W.heap.size W u → u.cell? ⟨w.heap.size, 0, none⟩ = some (.int .i64 c.kind) ∧ u.cell? ⟨w.heap.size, 1, none⟩ = some (.slice ka kn kc) ∧ u.cell? ⟨w.heap.size, 2, none⟩ = some (.int .i64 c.arg) ∧ u.cell? ⟨w.heap.size, 3, none⟩ = some (.int .u64 (c.mask : Nat)) ∧ u.cell? ⟨w.heap.size, 4, none⟩ = some (.string c.sign) ∧ u.cell? ⟨w.heap.size, 5, none⟩ = some (.int .u64 (c.value : Nat)) ∧ u.cell? ⟨w.heap.size + 1, 0, none⟩ = some (.int .u32 (nr : Nat)) ∧ u.cell? ⟨w.heap.size + 1, 1, none⟩ = some (.int .u32 (arch : Nat)) ∧ u.cell? ⟨w.heap.size + 1, 2, none⟩ = some (.int .u64 (ip : Nat)) ∧ u.cell? ⟨w.heap.size + 1, 3, none⟩ = some (.int .u64 (a0 : Nat)) ∧ u.cell? ⟨w.heap.size + 1, 4, none⟩ = some (.int .u64 (a1 : Nat)) ∧ u.cell? ⟨w.heap.size + 1, 5, none⟩ = some (.int .u64 (a2 : Nat)) ∧ u.cell? ⟨w.heap.size + 1, 6, none⟩ = some (.int .u64 (a3 : Nat)) ∧ u.cell? ⟨w.heap.size + 1, 7, none⟩ = some (.int .u64 (a4 : Nat)) ∧ u.cell? ⟨w.heap.size + 1, 8, none⟩ = some (.int .u64 (a5 : Nat)) := fun u hu => ⟨below_cell hu f0 0 rfl, below_cell hu f0 1 rfl, below_cell hu f0 2 rfl, below_cell hu f0 3 rfl, below_cell hu f0 4 rfl, below_cell hu f0 5 rfl, below_cell hu f1 0 rfl, below_cell hu f1 1 rfl, below_cell hu f1 2 rfl, below_cell hu f1 3 rfl, below_cell hu f1 4 rfl, below_cell hu f1 5 rfl, below_cell hu f1 6 rfl, below_cell hu f1 7 rfl, below_cell hu f1 8 rfl⟩
  have HXC := Lib.hid hcells
  have hbW := Below.refl W.heap.size W
  have HZ := Lib.hid hZ; have HR := Lib.hid hR; have HH := Lib.hid hH; have HBW := Lib.hid hBW; have HD := Lib.hid hd; have HRF := Lib.hid hrf
  clear hZ hR hH hBW hd hrf f0 f1 h hk hb hzz hx hkn hcells
  go_enter Try.func12, Try.ntmps12
  go_upto_region 1 with fail
  rw [← hW]
  clear hW
  obtain ⟨g0, g1, g2, g3, g4, g5, g6, g7, g8, g9, g10, g11, g12, g13, g14⟩ := HXC.out W hbW
  go_wp2_with fail
  refine (HZ.out _).mono ?_
  rintro e w2 ⟨rfl, hb2⟩
  clear g0 g1 g2 g3 g4 g5 g6 g7 g8 g9 g10 g11 g12 g13 g14
  obtain ⟨g0, g1, g2, g3, g4, g5, g6, g7, g8, g9, g10, g11, g12, g13, g14⟩ := HXC.out w2 hb2
  have HX2 := Lib.hid hb2
  clear HZ hb2 hbW
  generalize c.zero = Z at *
  cases Z
  · go_wp2_with fail
    refine (HR.out _ HX2.out).mono ?_
    rintro e w3 ⟨rfl, hb3⟩
    have hy3 := HX2.out.trans (hb3.mono HX2.out.size)
    clear g0 g1 g2 g3 g4 g5 g6 g7 g8 g9 g10 g11 g12 g13 g14
    obtain ⟨g0, g1, g2, g3, g4, g5, g6, g7, g8, g9, g10, g11, g12, g13, g14⟩ := HXC.out w3 hy3
    have HX3 := Lib.hid hy3
    clear hb3 hy3
    generalize hrg : c.right = Rg at *
    cases Rg
    · go_wp2_with fail
      go_ret
      exact ⟨by rw [HD.out]; rfl, HBW.out.trans (HX3.out.mono HBW.out.size)⟩
    · have hcall := HH.out w3 HX3.out (HRF.out rfl)
      have HC := Lib.hid hcall
      clear hcall
      go_wp2_with fail
      refine HC.out.mono ?_
      rintro e w4 ⟨rfl, hb4⟩
      have HX4 := Lib.hid (HX3.out.trans (hb4.mono HX3.out.size))
      clear hb4 g0 g1 g2 g3 g4 g5 g6 g7 g8 g9 g10 g11 g12 g13 g14
      go_wp2_with fail
      go_ret
      exact ⟨by rw [HD.out]; rfl, HBW.out.trans (HX4.out.mono HBW.out.size)⟩
  · go_wp2_with fail
    go_ret
    exact ⟨by rw [HD.out]; rfl, (HBW.out.trans (HX2.out.mono HBW.out.size))⟩
end Go.Proofs.Ytgcngmlndijppaa
