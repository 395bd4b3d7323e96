/- The walk of WordAnswers. -/
import Derived.Test.YtnapofpbiehaaaaWm7
import Derived.Test.YtnapofpbiehaaaaWdAlive
import Derived.Test.YtnapofpbiehaaaaRef18H
import Derived.Test.YtnapofpbiehaaaaRPack
import Derived.Test.YtnapofpbiehaaaaRef15M
namespace Go.Proofs.Ytnapofpbiehaaaa.lawWordAnswers
open Go.RowKit Go.ChangeShapes Go.Deep
set_option linter.unusedVariables false

theorem setRow_far (w : World) (g k : Nat) (cs : Array Value) (h : k ≠ g) : (w.setRow g cs).heap[k]? = w.heap[k]? := by
  simp [World.setRow, Array.getElem?_modify, Ne.symm h]
def endS (a b : Nat) : List Stp := [⟨6, 0, 7, 0⟩, ⟨8, a, 0, 0⟩, ⟨6, 0, 4, 0⟩, ⟨8, b, 0, 0⟩]
theorem seek_end (s : ByteArray) (a b x : Nat) (L : Int) (h : L = 7 ∨ L = 4) : seekS s (endS a b) L x = ⟨0, if L = 7 then a else b, true, false⟩ := by
  rcases h with rfl | rfl <;> rfl
theorem walk_end (c : Cnd) (x : Cal) (hx : x.ok) (hr : c.right = true) (yes no : Int) (h : (yes = 7 ∧ no = 4) ∨ (yes = 4 ∧ no = 7)) (a b : Nat) :
    walkR ((condS c yes no 8).1 ++ endS a b) (x.recB 6) = ⟨0, if (if c.does x.args = true then yes else no) = 7 then a else b, true, false⟩ := by
  have hs : (x.recB 6).size = 64 := by rw [Cal.recB_size _ _ (by have := hx.2.2.2.1; omega)]
  have hf : c.fine = true := by unfold Cnd.right at hr; rw [Bool.and_eq_true] at hr; exact hr.2
  obtain ⟨a', e⟩ := (cond_runs _ _ (arg_words x hx) c hf yes no 8 (by omega) (by omega)).1 (endS a b) 0
  rw [walkR_run _ _ hs, e, does_right _ _ hr]
  exact seek_end _ _ _ _ _ (by split <;> omega)
theorem cond_few (c : Cnd) (hr : c.right = true) (yes no n : Int) : (condS c yes no n).1.length ≤ 1000 := by
  unfold Cnd.right at hr
  rw [Bool.and_eq_true, decide_eq_true_eq] at hr
  have := (cond_len c hr.2 yes no n).1
  have := tests_le_size c
  omega
set_option maxRecDepth 100000 in
set_option maxHeartbeats 8000000 in
theorem walk (v : Value) (c : Cnd) (v1 : Value) (x : Cal) (ai bi : Int) (w : World) (w0 : IsCnd w v c) (w1 : IsCal w v1 x) (wa : (Lit.int .u32 ai).wf = true) (wb : (Lit.int .u32 bi).wf = true) :
    Calls Try.prog 5 #[v, v1, .int .u32 ai, .int .u32 bi] w fun e w' => e = .returned (.bool true) ∧ Below w.heap.size w w' := by
  obtain ⟨a, rfl, ha⟩ := nat_u32_ wa
  obtain ⟨b, rfl, hbb⟩ := nat_u32_ wb
  obtain ⟨i0, hinf, hz0, hz1, hz2⟩ := info_parts infoOp
  obtain ⟨rfl, hx⟩ := w1
  obtain ⟨hb, k, rfl, hk⟩ := id w0
  obtain ⟨ka, kn, kc, rfl, hkn, _⟩ := id hk
  obtain ⟨nr, arch, ip, a0, a1, a2, a3, a4, a5, rfl⟩ := Cal.list6 hx
  obtain ⟨W, hW, f0, f1, hBW⟩ := two_at w (.cells #[.int .i64 c.kind, .slice ka kn kc, .int .i64 c.arg, .int .u64 (c.mask : Nat), .string c.sign, .int .u64 (c.value : Nat)] 25) (callO nr arch ip a0 a1 a2 a3 a4 a5)
  have hM := refMany_any c _ 100 W (w0.below hBW) (by omega) (by omega)
  have hR := fun u (hu : Below W.heap.size W u) => refRight16 c _ u (w0.below (hBW.trans (hu.mono hBW.size)))
  have hC1 := fun (hr : c.right = true) u (hu : Below W.heap.size W u) => wordCond_ok c (.slice ka kn kc) u 7 4 8 (w0.below (hBW.trans (hu.mono hBW.size))) hr (by omega) (by omega) (by omega) (by omega) (by omega) (by omega)
  have hC2 := fun (hr : c.right = true) u (hu : Below W.heap.size W u) => wordCond_ok c (.slice ka kn kc) u 4 7 8 (w0.below (hBW.trans (hu.mono hBW.size))) hr (by omega) (by omega) (by omega) (by omega) (by omega) (by omega)
  have hD := fun u (hu : Below W.heap.size W u) => refDoes18 c _ u _ hx (w0.below (hBW.trans (hu.mono hBW.size)))
  have hP := fun u => refPack_any _ u hx
  have hWK1 := fun (hr : c.right = true) => walk_end c _ hx hr 7 4 (.inl ⟨rfl, rfl⟩) a b
  have hWK2 := fun (hr : c.right = true) => walk_end c _ hx hr 4 7 (.inr ⟨rfl, rfl⟩) a b
  have hF1 := fun (hr : c.right = true) => cond_few c hr 7 4 8
  have hF2 := fun (hr : c.right = true) => cond_few c hr 4 7 8
  have HA := Lib.hid (fun u => wordAlive u)
  have hcells : ∀ u, Below W.heap.size W u → u.cell? ⟨w.heap.size, 0, none⟩ = some (.int .i64 c.kind) ∧ u.cell? ⟨w.heap.size, 1, none⟩ = some (.slice ka kn kc) ∧ u.cell? ⟨w.heap.size, 2, none⟩ = some (.int .i64 c.arg) ∧ u.cell? ⟨w.heap.size, 3, none⟩ = some (.int .u64 (c.mask : Nat)) ∧ u.cell? ⟨w.heap.size, 4, none⟩ = some (.string c.sign) ∧ u.cell? ⟨w.heap.size, 5, none⟩ = some (.int .u64 (c.value : Nat)) ∧ u.cell? ⟨w.heap.size + 1, 0, none⟩ = some (.int .u32 (nr : Nat)) ∧ u.cell? ⟨w.heap.size + 1, 1, none⟩ = some (.int .u32 (arch : Nat)) ∧ u.cell? ⟨w.heap.size + 1, 2, none⟩ = some (.int .u64 (ip : Nat)) ∧ u.cell? ⟨w.heap.size + 1, 3, none⟩ = some (.int .u64 (a0 : Nat)) ∧ u.cell? ⟨w.heap.size + 1, 4, none⟩ = some (.int .u64 (a1 : Nat)) ∧ u.cell? ⟨w.heap.size + 1, 5, none⟩ = some (.int .u64 (a2 : Nat)) ∧ u.cell? ⟨w.heap.size + 1, 6, none⟩ = some (.int .u64 (a3 : Nat)) ∧ u.cell? ⟨w.heap.size + 1, 7, none⟩ = some (.int .u64 (a4 : Nat)) ∧ u.cell? ⟨w.heap.size + 1, 8, none⟩ = some (.int .u64 (a5 : Nat)) := fun u hu => ⟨below_cell hu f0 0 rfl, below_cell hu f0 1 rfl, below_cell hu f0 2 rfl, below_cell hu f0 3 rfl, below_cell hu f0 4 rfl, below_cell hu f0 5 rfl, below_cell hu f1 0 rfl, below_cell hu f1 1 rfl, below_cell hu f1 2 rfl, below_cell hu f1 3 rfl, below_cell hu f1 4 rfl, below_cell hu f1 5 rfl, below_cell hu f1 6 rfl, below_cell hu f1 7 rfl, below_cell hu f1 8 rfl⟩
  have HXC := Lib.hid hcells
  have hbW := Below.refl W.heap.size W
  obtain ⟨g0, g1, g2, g3, g4, g5, g6, g7, g8, g9, g10, g11, g12, g13, g14⟩ := hcells W hbW
  change ∀ u, Below W.heap.size W u → Calls _ _ #[.agg #[.int .i64 c.kind, .slice ka kn kc, .int .i64 c.arg, .int .u64 (c.mask : Nat), .string c.sign, .int .u64 (c.value : Nat)]] _ _ at hR
  change ∀ u, Below W.heap.size W u → Calls _ _ #[.agg #[.int .i64 c.kind, .slice ka kn kc, .int .i64 c.arg, .int .u64 (c.mask : Nat), .string c.sign, .int .u64 (c.value : Nat)], .agg #[.int .u32 (nr : Nat), .int .u32 (arch : Nat), .int .u64 (ip : Nat), .int .u64 (a0 : Nat), .int .u64 (a1 : Nat), .int .u64 (a2 : Nat), .int .u64 (a3 : Nat), .int .u64 (a4 : Nat), .int .u64 (a5 : Nat)]] _ (fun e w' => e = .returned (.bool (c.does [a0, a1, a2, a3, a4, a5])) ∧ _) at hD
  change ∀ u, Calls _ _ #[.agg #[.int .u32 (nr : Nat), .int .u32 (arch : Nat), .int .u64 (ip : Nat), .int .u64 (a0 : Nat), .int .u64 (a1 : Nat), .int .u64 (a2 : Nat), .int .u64 (a3 : Nat), .int .u64 (a4 : Nat), .int .u64 (a5 : Nat)]] _ _ at hP
  change _ → ∀ u, _ → Calls _ _ #[.agg #[.int .i64 c.kind, .slice ka kn kc, .int .i64 c.arg, .int .u64 (c.mask : Nat), .string c.sign, .int .u64 (c.value : Nat)], _, _, _] _ _ at hC1
  change _ → ∀ u, _ → Calls _ _ #[.agg #[.int .i64 c.kind, .slice ka kn kc, .int .i64 c.arg, .int .u64 (c.mask : Nat), .string c.sign, .int .u64 (c.value : Nat)], _, _, _] _ _ at hC2
  change Calls _ _ #[.agg #[.int .i64 c.kind, .slice ka kn kc, .int .i64 c.arg, .int .u64 (c.mask : Nat), .string c.sign, .int .u64 (c.value : Nat)], _] _ _ at hM
  show Calls _ _ #[.agg #[.int .i64 c.kind, .slice ka kn kc, .int .i64 c.arg, .int .u64 (c.mask : Nat), .string c.sign, .int .u64 (c.value : Nat)], .agg #[.int .u32 (nr : Nat), .int .u32 (arch : Nat), .int .u64 (ip : Nat), .int .u64 (a0 : Nat), .int .u64 (a1 : Nat), .int .u64 (a2 : Nat), .int .u64 (a3 : Nat), .int .u64 (a4 : Nat), .int .u64 (a5 : Nat)], _, _] _ _
  change _ → walkR _ _ = ⟨0, if (if c.does [a0, a1, a2, a3, a4, a5] = true then 7 else 4) = 7 then a else b, true, false⟩ at hWK1
  change _ → walkR _ _ = ⟨0, if (if c.does [a0, a1, a2, a3, a4, a5] = true then 4 else 7) = 7 then a else b, true, false⟩ at hWK2
  unfold callO at hW f1
  generalize c.does [a0, a1, a2, a3, a4, a5] = D at *
  generalize Cal.recB _ 6 = REC at *
  generalize condS c 7 4 8 = P at *
  generalize condS c 4 7 8 = Q at *
  obtain ⟨PL, PN⟩ := P
  obtain ⟨QL, QN⟩ := Q
  obtain ⟨S, hS⟩ : ∃ S, c.size = S := ⟨_, rfl⟩
  rw [hS] at hM
  have hEb : ∀ i ∈ endS a b, i.bounded := by
    intro i hi
    simp only [endS, List.mem_cons, List.not_mem_nil, or_false] at hi
    rcases hi with rfl | rfl | rfl | rfl
    all_goals exact stp_bnd (by decide) (by first | exact ha | exact hbb | decide) (by decide) (by decide)
  have hEc : stpCells (endS a b) = [.int .i64 6, .int .u32 0, .int .i64 7, .int .i64 0, .int .i64 8, .int .u32 (a : Nat), .int .i64 0, .int .i64 0, .int .i64 6, .int .u32 0, .int .i64 4, .int .i64 0, .int .i64 8, .int .u32 (b : Nat), .int .i64 0, .int .i64 0] := rfl
  obtain ⟨EE, hEE⟩ : ∃ EE, endS a b = EE := ⟨_, rfl⟩
  have hEL : EE.length = 4 := by rw [← hEE]; rfl
  rw [hEE] at hWK1 hWK2 hEb hEc
  have HM := Lib.hid hM; have HR := Lib.hid hR; have HC1 := Lib.hid hC1; have HC2 := Lib.hid hC2; have HD := Lib.hid hD; have HP := Lib.hid hP; have HWK1 := Lib.hid hWK1; have HWK2 := Lib.hid hWK2; have HBW := Lib.hid hBW; have HF1 := Lib.hid hF1; have HF2 := Lib.hid hF2; have HEB := Lib.hid hEb; have HEC := Lib.hid hEc; have HEL := Lib.hid hEL
  have haI : (a : Int) ≤ 4294967295 := by omega
  have hbI : (b : Int) ≤ 4294967295 := by omega
  clear hM hR hC1 hC2 hD hP hWK1 hWK2 hBW f0 f1 w0 hk hx hkn hcells hS hb hF1 hF2 hEb hEc hEE hEL ha hbb wa wb
  go_enter Try.func5, Try.ntmps5
  go_upto_region 1 with fail
  rw [← hW]
  clear hW
  go_wp2_with fail
  refine HM.out.mono ?_
  rintro e w2 ⟨rfl, hb2⟩
  clear g0 g1 g2 g3 g4 g5 g6 g7 g8 g9 g10 g11 g12 g13 g14 HM
  have HX2 := Lib.hid hb2
  clear hb2 hbW
  by_cases hs : 100 < S
  · have hmin : (100 : Int) < ((min S (100 + 1) : Nat) : Int) := by omega
    clear hs
    generalize min S (100 + 1) = M at *
    go_wp2_with fail
    refine (HA.out _).mono ?_
    rintro e w3 ⟨rfl, hb3⟩
    have HX3 := Lib.hid (HBW.out.trans ((HX2.out.trans (hb3.mono HX2.out.size)).mono HBW.out.size))
    clear hb3
    go_wp2_with fail
    go_ret
    exact ⟨rfl, HX3.out⟩
  have hmin : ¬ (100 : Int) < ((min S (100 + 1) : Nat) : Int) := by omega
  clear hs
  generalize min S (100 + 1) = M at *
  obtain ⟨g0, g1, g2, g3, g4, g5, g6, g7, g8, g9, g10, g11, g12, g13, g14⟩ := HXC.out w2 HX2.out
  go_wp2_with fail
  refine (HR.out _ HX2.out).mono ?_
  rintro e w3 ⟨rfl, hb3⟩
  clear g0 g1 g2 g3 g4 g5 g6 g7 g8 g9 g10 g11 g12 g13 g14
  have HX3 := Lib.hid (HX2.out.trans (hb3.mono HX2.out.size))
  clear hb3
  generalize hrr : c.right = rp at *
  cases rp
  · go_wp2_with fail
    refine (HA.out _).mono ?_
    rintro e w5 ⟨rfl, hb5⟩
    have HX5 := Lib.hid (HBW.out.trans ((HX3.out.trans (hb5.mono HX3.out.size)).mono HBW.out.size))
    clear hb5
    go_wp2_with fail
    go_ret
    exact ⟨rfl, HX5.out⟩
  have WK1 := Lib.hid (HWK1.out rfl); have WK2 := Lib.hid (HWK2.out rfl); have C1 := Lib.hid (HC1.out rfl); have C2 := Lib.hid (HC2.out rfl); have F1 := Lib.hid (HF1.out rfl); have F2 := Lib.hid (HF2.out rfl)
  clear HWK1 HWK2 HC1 HC2 HF1 HF2 hrr HR
  go_upto_region 4 with fail
  have hy4 := (Below.refl w3.heap.size w3).alloc (Nat.le_refl _) (.cells #[.int .i64 6, .int .u32 0, .int .i64 7, .int .i64 0, .int .i64 8, .int .u32 (a : Nat), .int .i64 0, .int .i64 0, .int .i64 6, .int .u32 0, .int .i64 4, .int .i64 0, .int .i64 8, .int .u32 (b : Nat), .int .i64 0, .int .i64 0] 47)
  have ho4 := World.ownsRow_lit (base := w3.heap.size) (e := 47) (size := 4) w3 #[.int .i64 6, .int .u32 0, .int .i64 7, .int .i64 0, .int .i64 8, .int .u32 (a : Nat), .int .i64 0, .int .i64 0, .int .i64 6, .int .u32 0, .int .i64 4, .int .i64 0, .int .i64 8, .int .u32 (b : Nat), .int .i64 0, .int .i64 0] 4 (Nat.le_refl _) (by unfold maxLen; omega) rfl
  have hE4 : IsOps (w3.alloc (.cells #[.int .i64 6, .int .u32 0, .int .i64 7, .int .i64 0, .int .i64 8, .int .u32 (a : Nat), .int .i64 0, .int .i64 0, .int .i64 6, .int .u32 0, .int .i64 4, .int .i64 0, .int .i64 8, .int .u32 (b : Nat), .int .i64 0, .int .i64 0] 47)) (.slice (some ⟨w3.heap.size, 0, none⟩) 4 4) EE := own_ops (n := 4) (by rw [HEC.out]; exact ho4) HEL.out.symm HEB.out
  have HX4 := Lib.hid (HX3.out.trans (hy4.mono HX3.out.size)); have HE4 := Lib.hid hE4
  clear hy4 ho4 hE4
  generalize w3.alloc (.cells #[.int .i64 6, .int .u32 0, .int .i64 7, .int .i64 0, .int .i64 8, .int .u32 (a : Nat), .int .i64 0, .int .i64 0, .int .i64 6, .int .u32 0, .int .i64 4, .int .i64 0, .int .i64 8, .int .u32 (b : Nat), .int .i64 0, .int .i64 0] 47) = w4 at *
  generalize w3.heap.size = be at *
  obtain ⟨g0, g1, g2, g3, g4, g5, g6, g7, g8, g9, g10, g11, g12, g13, g14⟩ := HXC.out w4 HX4.out
  go_wp2_with fail
  refine (HP.out _).mono ?_
  rintro e w5 ⟨rfl, hb5⟩
  clear g0 g1 g2 g3 g4 g5 g6 g7 g8 g9 g10 g11 g12 g13 g14
  have HX5 := Lib.hid (HX4.out.trans (hb5.mono HX4.out.size)); have HE5 := Lib.hid (HE4.out.below hb5)
  clear hb5 HE4
  obtain ⟨g0, g1, g2, g3, g4, g5, g6, g7, g8, g9, g10, g11, g12, g13, g14⟩ := HXC.out w5 HX5.out
  go_wp2_with fail
  refine (C1.out _ HX5.out).mono ?_
  rintro e w6 ⟨sv, rfl, hops, hb6⟩
  clear g0 g1 g2 g3 g4 g5 g6 g7 g8 g9 g10 g11 g12 g13 g14
  have HX6 := Lib.hid (HX5.out.trans (hb6.mono HX5.out.size)); have HE6 := Lib.hid (HE5.out.below hb6); have HL6 := Lib.hid hops
  clear hb6 hops C1 HE5
  obtain ⟨g0, g1, g2, g3, g4, g5, g6, g7, g8, g9, g10, g11, g12, g13, g14⟩ := HXC.out w6 HX6.out
  go_wp2_with fail
  refine (C2.out _ HX6.out).mono ?_
  rintro e w10 ⟨tv, rfl, hops, hb10⟩
  clear g0 g1 g2 g3 g4 g5 g6 g7 g8 g9 g10 g11 g12 g13 g14
  have HX10 := Lib.hid (HX6.out.trans (hb10.mono HX6.out.size)); have HE10 := Lib.hid (HE6.out.below hb10); have HPL10 := Lib.hid (HL6.out.below hb10); have HMM10 := Lib.hid hops
  clear hb10 hops C2 HE6 HL6
  obtain ⟨sA, sn, sc, rfl, hsn, hsc1, hsc2, _⟩ := id HPL10.out
  obtain ⟨tA, tn, tc, rfl, htn, htc1, htc2, _⟩ := id HMM10.out
  have F1N := Lib.hid hsn; have F2N := Lib.hid htn
  have F1N9 : Hid (sn ≤ 1000) := Lib.hid (by have := F1.out; omega)
  have F2N9 : Hid (tn ≤ 1000) := Lib.hid (by have := F2.out; omega)
  clear hsn htn hsc1 hsc2 htc1 htc2
  have hw1 := fun u v hu => wordWalk_any v (PL ++ EE) REC u hu
  have hw2 := fun u v hu => wordWalk_any v (QL ++ EE) REC u hu
  have e1 : walkR (PL ++ EE) REC = ⟨0, if D = true then a else b, true, false⟩ := by rw [WK1.out]; cases D <;> rfl
  have e2 : walkR (QL ++ EE) REC = ⟨0, if D = true then b else a, true, false⟩ := by rw [WK2.out]; cases D <;> rfl
  rw [e1] at hw1
  rw [e2] at hw2
  obtain ⟨pa, hpa⟩ : ∃ x, (if D = true then a else b) = x := ⟨_, rfl⟩
  obtain ⟨qa, hqa⟩ : ∃ x, (if D = true then b else a) = x := ⟨_, rfl⟩
  rw [hpa] at hw1
  rw [hqa] at hw2
  simp only [Fin4.value] at hw1 hw2
  have W1 := Lib.hid hw1; have W2 := Lib.hid hw2; have HPA := Lib.hid hpa; have HQA := Lib.hid hqa
  clear hw1 hw2 e1 e2 WK1 WK2 F1 F2 hpa hqa
  have hown10 : (w10.alloc (.cells #[] 47)).ownsRow w10.heap.size 47 4 (.slice (some ⟨w10.heap.size, 0, none⟩) 0 0) 0 [] := World.ownsRow_made (base := w10.heap.size) (e := 47) (size := 4) w10 #[] 0 (Nat.le_refl _) (by unfold maxLen; omega) rfl
  have hb10a : Below w10.heap.size w10 (w10.alloc (.cells #[] 47)) := (Below.refl _ _).alloc (Nat.le_refl _) _
  have hs10 := ops_source (HPL10.out.below hb10a)
  have HO10 := Lib.hid hown10; have HS10 := Lib.hid hs10
  clear hown10 hs10
  go_wp2_with (first | (at_builtin; go_must (refine wpList_extend _ _ 28 47 (stpCells PL) HO10.out hb10a (Nat.le_refl _) Try.underlying28 hinf hz0 hz1 hz2 rfl (by decide) rfl rfl rfl rfl HS10.out (by rw [stpCells_len, F1N.out]) (stpCells_one PL) ?c2 ?_)))
  case c2 => have := F1N9.out; omega
  intro v11 w11 hown11 hb11
  have hs11 := ops_source (HE10.out.below hb11)
  have HO11 := Lib.hid hown11; have HS11 := Lib.hid hs11
  clear hown11 hs11 HO10 HS10 hb10a
  go_wp2_with (first | (at_builtin; go_must (refine wpList_extend _ _ 28 47 (stpCells EE) HO11.out hb11 (Nat.le_refl _) Try.underlying28 hinf hz0 hz1 hz2 rfl (by decide) rfl rfl rfl rfl HS11.out (by rw [stpCells_len, HEL.out]) (stpCells_one EE) ?c3 ?_)))
  case c3 => have := F1N9.out; omega
  intro v12 w12 hown12 hb12
  rw [← stpCells_append] at hown12
  have hi12 := own_ops hown12 (by rw [List.length_append, HEL.out, F1N.out]) (fun i hi => by
    rcases List.mem_append.1 hi with hi | hi
    · exact HPL10.out.bnd i hi
    · exact HE10.out.bnd i hi)
  have HI12 := Lib.hid hi12; have HX12 := Lib.hid (HX10.out.trans (hb12.mono HX10.out.size))
  have HK12 := Lib.hid hb12
  clear hown12 hi12 HO11 HS11 hb11 hb12
  go_wp2_with fail
  refine (W1.out _ _ HI12.out).mono ?_
  rintro e w13 ⟨rfl, hb13⟩
  have hk13 := HK12.out.trans (hb13.mono HK12.out.size)
  have HX13 := Lib.hid (HX12.out.trans (hb13.mono HX12.out.size)); have HE13 := Lib.hid (HE10.out.below hk13); have HMM13 := Lib.hid (HMM10.out.below hk13)
  clear hb13 hk13 HI12 HX12 HK12
  have HQL13 := HMM13
  have hown13 : (w13.alloc (.cells #[] 47)).ownsRow w13.heap.size 47 4 (.slice (some ⟨w13.heap.size, 0, none⟩) 0 0) 0 [] := World.ownsRow_made (base := w13.heap.size) (e := 47) (size := 4) w13 #[] 0 (Nat.le_refl _) (by unfold maxLen; omega) rfl
  have hb13a : Below w13.heap.size w13 (w13.alloc (.cells #[] 47)) := (Below.refl _ _).alloc (Nat.le_refl _) _
  have hs13 := ops_source (HQL13.out.below hb13a)
  have HO13 := Lib.hid hown13; have HS13 := Lib.hid hs13
  clear hown13 hs13
  go_wp2_with (first | (at_builtin; go_must (refine wpList_extend _ _ 28 47 (stpCells QL) HO13.out hb13a (Nat.le_refl _) Try.underlying28 hinf hz0 hz1 hz2 rfl (by decide) rfl rfl rfl rfl HS13.out (by rw [stpCells_len, F2N.out]) (stpCells_one QL) ?c2 ?_)))
  case c2 => have := F2N9.out; omega
  intro v14 w14 hown14 hb14
  have hs14 := ops_source (HE13.out.below hb14)
  have HO14 := Lib.hid hown14; have HS14 := Lib.hid hs14
  clear hown14 hs14 HO13 HS13 hb13a
  go_wp2_with (first | (at_builtin; go_must (refine wpList_extend _ _ 28 47 (stpCells EE) HO14.out hb14 (Nat.le_refl _) Try.underlying28 hinf hz0 hz1 hz2 rfl (by decide) rfl rfl rfl rfl HS14.out (by rw [stpCells_len, HEL.out]) (stpCells_one EE) ?c3 ?_)))
  case c3 => have := F2N9.out; omega
  intro v15 w15 hown15 hb15
  rw [← stpCells_append] at hown15
  have hi15 := own_ops hown15 (by rw [List.length_append, HEL.out, F2N.out]) (fun i hi => by
    rcases List.mem_append.1 hi with hi | hi
    · exact HQL13.out.bnd i hi
    · exact HE13.out.bnd i hi)
  have HI15 := Lib.hid hi15; have HX15 := Lib.hid (HX13.out.trans (hb15.mono HX13.out.size))
  have HK15 := Lib.hid hb15
  clear hown15 hi15 HO14 HS14 hb14 hb15
  go_wp2_with fail
  refine (W2.out _ _ HI15.out).mono ?_
  rintro e w16 ⟨rfl, hb16⟩
  have hk16 := HK15.out.trans (hb16.mono HK15.out.size)
  have HX16 := Lib.hid (HX15.out.trans (hb16.mono HX15.out.size)); have HE16 := Lib.hid (HE13.out.below hk16); have HMM16 := Lib.hid (HMM13.out.below hk16)
  clear hb16 hk16 HI15 HX15 HK15
  go_upto_region 8 with fail
  obtain ⟨X, hX, p0, q0, hBX⟩ := two_at w16 (.cells #[.int .i64 0, .int .u32 (pa : Nat), .bool true, .bool false] 42) (.cells #[.int .i64 0, .int .u32 (qa : Nat), .bool true, .bool false] 42)
  rw [← hX]
  clear hX
  have HX17 := Lib.hid (HX16.out.trans (hBX.mono HX16.out.size))
  have hbp0 := HX16.out.size
  generalize w16.heap.size = bp at *
  have HP0 := Lib.hid p0; have HQ0 := Lib.hid q0
  clear p0 q0 hBX HPL10 HMM10 HQL13 HE16 HMM13 HMM16 W1 W2 F1N F2N F1N9 F2N9 HE10 HE13
  obtain ⟨g0, g1, g2, g3, g4, g5, g6, g7, g8, g9, g10, g11, g12, g13, g14⟩ := HXC.out X HX17.out
  go_wp2_with fail
  refine (HD.out _ HX17.out).mono ?_
  rintro e Y ⟨rfl, hb18⟩
  clear g0 g1 g2 g3 g4 g5 g6 g7 g8 g9 g10 g11 g12 g13 g14
  have HX18 := Lib.hid (HX17.out.trans (hb18.mono HX17.out.size)); have HPY := Lib.hid ((hb18.block _ (lt_of_block HP0.out)).trans HP0.out); have HQY := Lib.hid ((hb18.block _ (lt_of_block HQ0.out)).trans HQ0.out)
  clear hb18 HP0 HQ0 HD HX17
  have heq := fun (z : Nat) u => eqFin ⟨0, z, true, false⟩ ⟨0, z, true, false⟩ u
  simp only [decide_true, Fin4.value] at heq
  have hea := heq a
  have heb := heq b
  clear heq
  cases D
  · obtain rfl : b = pa := HPA.out
    obtain rfl : a = qa := HQA.out
    go_upto_region 9 with fail
    have x0 := below_cell (Below.refl _ _) HPY.out 0 rfl
    have x1 := below_cell (Below.refl _ _) HPY.out 1 rfl
    have x2 := below_cell (Below.refl _ _) HPY.out 2 rfl
    have x3 := below_cell (Below.refl _ _) HPY.out 3 rfl
    have y0 := below_cell (Below.refl _ _) HQY.out 0 rfl
    have y1 := below_cell (Below.refl _ _) HQY.out 1 rfl
    have y2 := below_cell (Below.refl _ _) HQY.out 2 rfl
    have y3 := below_cell (Below.refl _ _) HQY.out 3 rfl
    have hP1 := setRow_heap Y bp _ #[.int .i64 0, .int .u32 (a : Nat), .bool true, .bool false] _ _ HPY.out
    have hQ1 : (Y.setRow bp #[.int .i64 0, .int .u32 (a : Nat), .bool true, .bool false]).heap[bp + 1]? = _ := (setRow_far Y bp (bp + 1) _ (by omega)).trans HQY.out
    have hQ2 := setRow_heap _ (bp + 1) _ #[.int .i64 0, .int .u32 (b : Nat), .bool true, .bool false] _ _ hQ1
    have hP2 := (setRow_far _ (bp + 1) bp #[.int .i64 0, .int .u32 (b : Nat), .bool true, .bool false] (by omega)).trans hP1
    have HB2 := Lib.hid (below_setRow (below_setRow HX18.out hbp0 #[.int .i64 0, .int .u32 (a : Nat), .bool true, .bool false]) (show W.heap.size ≤ bp + 1 by omega) #[.int .i64 0, .int .u32 (b : Nat), .bool true, .bool false])
    have HP2 := Lib.hid hP2; have HQ2 := Lib.hid hQ2; have HQ1 := Lib.hid hQ1
    clear hP1 hQ1 hP2 hQ2
    go_upto_region 10 with (first | (refine wpList_store_row rfl 42 _ _ rfl bp #[.int .i64 0, .int .u32 (a : Nat), .bool true, .bool false] rfl rfl 42 _ HPY.out (by kernel_rfl) rfl (by simp [Value.oneCell']) ?_) | (refine wpList_store_row rfl 42 _ _ rfl (bp + 1) #[.int .i64 0, .int .u32 (b : Nat), .bool true, .bool false] rfl rfl 42 _ HQ1.out (by kernel_rfl) rfl (by simp [Value.oneCell']) ?_))
    generalize (Y.setRow bp #[.int .i64 0, .int .u32 (a : Nat), .bool true, .bool false]).setRow (bp + 1) #[.int .i64 0, .int .u32 (b : Nat), .bool true, .bool false] = Z at *
    clear x0 x1 x2 x3 y0 y1 y2 y3
    go_wp2_with fail
    refine (HA.out _).mono ?_
    rintro e Z2 ⟨rfl, hz2⟩
    have x0 := below_cell hz2 HP2.out 0 rfl
    have x1 := below_cell hz2 HP2.out 1 rfl
    have x2 := below_cell hz2 HP2.out 2 rfl
    have x3 := below_cell hz2 HP2.out 3 rfl
    have y0 := below_cell hz2 HQ2.out 0 rfl
    have y1 := below_cell hz2 HQ2.out 1 rfl
    have y2 := below_cell hz2 HQ2.out 2 rfl
    have y3 := below_cell hz2 HQ2.out 3 rfl
    have HZ2 := Lib.hid (HBW.out.trans ((HB2.out.trans (hz2.mono HB2.out.size)).mono HBW.out.size))
    clear hz2
    go_wp2_with fail
    go_ret
    exact ⟨rfl, HZ2.out⟩
  · obtain rfl : a = pa := HPA.out
    obtain rfl : b = qa := HQA.out
    go_wp2_with fail
    refine (HA.out _).mono ?_
    rintro e Z2 ⟨rfl, hz2⟩
    have x0 := below_cell hz2 HPY.out 0 rfl
    have x1 := below_cell hz2 HPY.out 1 rfl
    have x2 := below_cell hz2 HPY.out 2 rfl
    have x3 := below_cell hz2 HPY.out 3 rfl
    have y0 := below_cell hz2 HQY.out 0 rfl
    have y1 := below_cell hz2 HQY.out 1 rfl
    have y2 := below_cell hz2 HQY.out 2 rfl
    have y3 := below_cell hz2 HQY.out 3 rfl
    have HZ2 := Lib.hid (HBW.out.trans ((HX18.out.trans (hz2.mono HX18.out.size)).mono HBW.out.size))
    clear hz2
    go_wp2_with fail
    go_ret
    exact ⟨rfl, HZ2.out⟩
end Go.Proofs.Ytnapofpbiehaaaa.lawWordAnswers
