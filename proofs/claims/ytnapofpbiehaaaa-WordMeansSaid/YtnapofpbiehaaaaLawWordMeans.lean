/- The walk of WordMeans. -/
import Derived.Test.YtnapofpbiehaaaaWm7
import Derived.Test.YtnapofpbiehaaaaWdAlive
import Derived.Test.YtnapofpbiehaaaaRef18H
import Derived.Test.YtnapofpbiehaaaaRef19
import Derived.Test.YtnapofpbiehaaaaRPack
import Derived.Test.YtnapofpbiehaaaaRef15M
namespace Go.Proofs.Ytnapofpbiehaaaa.lawWordMeans
open Go.RowKit Go.ChangeShapes Go.Deep
set_option linter.unusedVariables false

theorem walk_cond (c : Cnd) (x : Cal) (hx : x.ok) (hr : c.right = true) (yes no n : Int) (hy : yes < n) (hn : no < n) : walkR (condS c yes no n).1 (x.recB 6) = ⟨if c.does x.args = true then yes else no, 0, false, false⟩ := by
  have hs : (x.recB 6).size = 64 := by rw [Cal.recB_size _ _ (by have := hx.2.2.2.1; omega)]
  have hf : c.fine = true := by unfold Cnd.right at hr; rw [Bool.and_eq_true] at hr; exact hr.2
  obtain ⟨a', e⟩ := (cond_runs _ _ (arg_words x hx) c hf yes no n hy hn).1 [] 0
  rw [List.append_nil] at e
  rw [walkR_run _ _ hs, e, does_right _ _ hr]
  rfl
set_option maxRecDepth 100000 in
set_option maxHeartbeats 4000000 in
theorem walk (v : Value) (c : Cnd) (v1 : Value) (x : Cal) (next : Int) (w : World) (w0 : IsCnd w v c) (w1 : IsCal w v1 x) (w2 : (Lit.int .i64 next).wf = true) :
    Calls Try.prog 4 #[v, v1, .int .i64 next] w fun e w' => e = .returned (.bool true) ∧ Below w.heap.size w w' := by
  obtain ⟨rfl, hx⟩ := w1
  obtain ⟨hb, k, rfl, hk⟩ := id w0
  obtain ⟨ka, kn, kc, rfl, hkn, _⟩ := id hk
  obtain ⟨nr, arch, ip, a0, a1, a2, a3, a4, a5, rfl⟩ := Cal.list6 hx
  obtain ⟨W, hW, f0, f1, hBW⟩ := two_at w (.cells #[.int .i64 c.kind, .slice ka kn kc, .int .i64 c.arg, .int .u64 (c.mask : Nat), .string c.sign, .int .u64 (c.value : Nat)] 25) (callO nr arch ip a0 a1 a2 a3 a4 a5)
  have hM := refMany_any c _ 100 W (w0.below hBW) (by omega) (by omega)
  have hR := fun u (hu : Below W.heap.size W u) => refRight16 c _ u (w0.below (hBW.trans (hu.mono hBW.size)))
  obtain ⟨m1, hm1⟩ : ∃ m1, (if next < 2 then 2 else next) = m1 := ⟨_, rfl⟩
  obtain ⟨m, hm⟩ : ∃ m, (if 1000000 < m1 then 1000000 else m1) = m := ⟨_, rfl⟩
  have hmx : max next 2 = m1 := by rw [← hm1]; split <;> omega
  have hmn : min m1 1000000 = m := by rw [← hm]; split <;> omega
  have hmb : 2 ≤ m ∧ m ≤ 1000000 := by rw [← hm, ← hm1]; split <;> split <;> omega
  have hC := fun (hr : c.right = true) u (hu : Below W.heap.size W u) => wordCond_ok c (.slice ka kn kc) u 1 0 m (w0.below (hBW.trans (hu.mono hBW.size))) hr (by omega) (by omega) (by omega) (by omega) (by omega) (by omega)
  have hD := fun u (hu : Below W.heap.size W u) => refDoes18 c _ u _ hx (w0.below (hBW.trans (hu.mono hBW.size)))
  have hP := fun u => refPack_any _ u hx
  have hWK := fun (hr : c.right = true) => walk_cond c _ hx hr 1 0 m (by omega) (by omega)
  have HA := Lib.hid (fun u => wordAlive u)
  have hcells : ∀ u, Below W.heap.size W u → u.cell? ⟨w.heap.size, 0, none⟩ = some (.int .i64 c.kind) ∧ u.cell? ⟨w.heap.size, 1, none⟩ = some (.slice ka kn kc) ∧ u.cell? ⟨w.heap.size, 2, none⟩ = some (.int .i64 c.arg) ∧ u.cell? ⟨w.heap.size, 3, none⟩ = some (.int .u64 (c.mask : Nat)) ∧ u.cell? ⟨w.heap.size, 4, none⟩ = some (.string c.sign) ∧ u.cell? ⟨w.heap.size, 5, none⟩ = some (.int .u64 (c.value : Nat)) ∧ u.cell? ⟨w.heap.size + 1, 0, none⟩ = some (.int .u32 (nr : Nat)) ∧ u.cell? ⟨w.heap.size + 1, 1, none⟩ = some (.int .u32 (arch : Nat)) ∧ u.cell? ⟨w.heap.size + 1, 2, none⟩ = some (.int .u64 (ip : Nat)) ∧ u.cell? ⟨w.heap.size + 1, 3, none⟩ = some (.int .u64 (a0 : Nat)) ∧ u.cell? ⟨w.heap.size + 1, 4, none⟩ = some (.int .u64 (a1 : Nat)) ∧ u.cell? ⟨w.heap.size + 1, 5, none⟩ = some (.int .u64 (a2 : Nat)) ∧ u.cell? ⟨w.heap.size + 1, 6, none⟩ = some (.int .u64 (a3 : Nat)) ∧ u.cell? ⟨w.heap.size + 1, 7, none⟩ = some (.int .u64 (a4 : Nat)) ∧ u.cell? ⟨w.heap.size + 1, 8, none⟩ = some (.int .u64 (a5 : Nat)) := fun u hu => ⟨below_cell hu f0 0 rfl, below_cell hu f0 1 rfl, below_cell hu f0 2 rfl, below_cell hu f0 3 rfl, below_cell hu f0 4 rfl, below_cell hu f0 5 rfl, below_cell hu f1 0 rfl, below_cell hu f1 1 rfl, below_cell hu f1 2 rfl, below_cell hu f1 3 rfl, below_cell hu f1 4 rfl, below_cell hu f1 5 rfl, below_cell hu f1 6 rfl, below_cell hu f1 7 rfl, below_cell hu f1 8 rfl⟩
  have HXC := Lib.hid hcells
  have hbW := Below.refl W.heap.size W
  obtain ⟨g0, g1, g2, g3, g4, g5, g6, g7, g8, g9, g10, g11, g12, g13, g14⟩ := hcells W hbW
  change ∀ u, Below W.heap.size W u → Calls _ _ #[.agg #[.int .i64 c.kind, .slice ka kn kc, .int .i64 c.arg, .int .u64 (c.mask : Nat), .string c.sign, .int .u64 (c.value : Nat)]] _ _ at hR
  change ∀ u, Below W.heap.size W u → Calls _ _ #[.agg #[.int .i64 c.kind, .slice ka kn kc, .int .i64 c.arg, .int .u64 (c.mask : Nat), .string c.sign, .int .u64 (c.value : Nat)], .agg #[.int .u32 (nr : Nat), .int .u32 (arch : Nat), .int .u64 (ip : Nat), .int .u64 (a0 : Nat), .int .u64 (a1 : Nat), .int .u64 (a2 : Nat), .int .u64 (a3 : Nat), .int .u64 (a4 : Nat), .int .u64 (a5 : Nat)]] _ (fun e w' => e = .returned (.bool (c.does [a0, a1, a2, a3, a4, a5])) ∧ _) at hD
  change ∀ u, Calls _ _ #[.agg #[.int .u32 (nr : Nat), .int .u32 (arch : Nat), .int .u64 (ip : Nat), .int .u64 (a0 : Nat), .int .u64 (a1 : Nat), .int .u64 (a2 : Nat), .int .u64 (a3 : Nat), .int .u64 (a4 : Nat), .int .u64 (a5 : Nat)]] _ _ at hP
  change _ → ∀ u, _ → Calls _ _ #[.agg #[.int .i64 c.kind, .slice ka kn kc, .int .i64 c.arg, .int .u64 (c.mask : Nat), .string c.sign, .int .u64 (c.value : Nat)], _, _, _] _ _ at hC
  change Calls _ _ #[.agg #[.int .i64 c.kind, .slice ka kn kc, .int .i64 c.arg, .int .u64 (c.mask : Nat), .string c.sign, .int .u64 (c.value : Nat)], _] _ _ at hM
  show Calls _ _ #[.agg #[.int .i64 c.kind, .slice ka kn kc, .int .i64 c.arg, .int .u64 (c.mask : Nat), .string c.sign, .int .u64 (c.value : Nat)], .agg #[.int .u32 (nr : Nat), .int .u32 (arch : Nat), .int .u64 (ip : Nat), .int .u64 (a0 : Nat), .int .u64 (a1 : Nat), .int .u64 (a2 : Nat), .int .u64 (a3 : Nat), .int .u64 (a4 : Nat), .int .u64 (a5 : Nat)], _] _ _
  change _ → walkR _ _ = ⟨if c.does [a0, a1, a2, a3, a4, a5] = true then 1 else 0, 0, false, false⟩ at hWK
  unfold callO at hW f1
  generalize c.does [a0, a1, a2, a3, a4, a5] = D at *
  generalize Cal.recB _ 6 = REC at *
  generalize condS c 1 0 m = P at *
  obtain ⟨PL, PN⟩ := P
  obtain ⟨S, hS⟩ : ∃ S, c.size = S := ⟨_, rfl⟩
  rw [hS] at hM
  have HM := Lib.hid hM; have HR := Lib.hid hR; have HC := Lib.hid hC; have HD := Lib.hid hD; have HP := Lib.hid hP; have HWK := Lib.hid hWK; have HBW := Lib.hid hBW; have HMB := Lib.hid hmb
  clear hM hR hC hD hP hWK hBW f0 f1 w0 hk hx hkn hcells hS hb hmb
  go_enter Try.func4, Try.ntmps4
  go_upto_region 1 with fail
  rw [← hW]
  clear hW
  go_wp2_with fail
  refine HM.out.mono ?_
  rintro e w2 ⟨rfl, hb2⟩
  clear g0 g1 g2 g3 g4 g5 g6 g7 g8 g9 g10 g11 g12 g13 g14 HM
  have HX2 := Lib.hid hb2
  clear hb2 hbW
  by_cases hs : 100 < S
  · have hmin : (100 : Int) < ((min S (100 + 1) : Nat) : Int) := by omega
    clear hs
    generalize min S (100 + 1) = M at *
    go_wp2_with fail
    refine (HA.out _).mono ?_
    rintro e w3 ⟨rfl, hb3⟩
    have HX3 := Lib.hid (HBW.out.trans ((HX2.out.trans (hb3.mono HX2.out.size)).mono HBW.out.size))
    clear hb3
    go_wp2_with fail
    go_ret
    exact ⟨rfl, HX3.out⟩
  have hmin : ¬ (100 : Int) < ((min S (100 + 1) : Nat) : Int) := by omega
  clear hs
  generalize min S (100 + 1) = M at *
  obtain ⟨g0, g1, g2, g3, g4, g5, g6, g7, g8, g9, g10, g11, g12, g13, g14⟩ := HXC.out w2 HX2.out
  go_wp2_with fail
  refine (HR.out _ HX2.out).mono ?_
  rintro e w3 ⟨rfl, hb3⟩
  clear g0 g1 g2 g3 g4 g5 g6 g7 g8 g9 g10 g11 g12 g13 g14
  have HX3 := Lib.hid (HX2.out.trans (hb3.mono HX2.out.size))
  clear hb3
  generalize hrr : c.right = rp at *
  cases rp
  · go_wp2_with fail
    refine (HA.out _).mono ?_
    rintro e w5 ⟨rfl, hb5⟩
    have HX5 := Lib.hid (HBW.out.trans ((HX3.out.trans (hb5.mono HX3.out.size)).mono HBW.out.size))
    clear hb5
    go_wp2_with fail
    go_ret
    exact ⟨rfl, HX5.out⟩
  have hwk := HWK.out rfl
  have HWK2 := Lib.hid hwk
  have HC2 := Lib.hid (HC.out rfl)
  clear hwk HWK HC hrr HR
  obtain ⟨g0, g1, g2, g3, g4, g5, g6, g7, g8, g9, g10, g11, g12, g13, g14⟩ := HXC.out w3 HX3.out
  go_upto_region 4 with fail
  clear hm1 hm hmx hmn
  go_wp2_with fail
  refine (HC2.out _ HX3.out).mono ?_
  rintro e w4 ⟨sv, rfl, hops, hb4⟩
  clear g0 g1 g2 g3 g4 g5 g6 g7 g8 g9 g10 g11 g12 g13 g14
  have HX4 := Lib.hid (HX3.out.trans (hb4.mono HX3.out.size))
  have HO4 := Lib.hid hops
  clear hb4 hops HC2
  obtain ⟨g0, g1, g2, g3, g4, g5, g6, g7, g8, g9, g10, g11, g12, g13, g14⟩ := HXC.out w4 HX4.out
  go_wp2_with fail
  refine (HD.out _ HX4.out).mono ?_
  rintro e w5 ⟨rfl, hb5⟩
  clear g0 g1 g2 g3 g4 g5 g6 g7 g8 g9 g10 g11 g12 g13 g14
  have HX5 := Lib.hid (HX4.out.trans (hb5.mono HX4.out.size)); have HO5 := Lib.hid (HO4.out.below hb5)
  clear hb5 HD HO4
  have hR : Hid (∃ L : Int, walkR PL REC = ⟨L, 0, false, false⟩ ∧ ((D = true ∧ L = 1) ∨ (D = false ∧ L = 0))) := Lib.hid (by
    rw [HWK2.out]
    cases D
    · exact ⟨0, rfl, .inr ⟨rfl, rfl⟩⟩
    · exact ⟨1, rfl, .inl ⟨rfl, rfl⟩⟩)
  clear HWK2
  have hwa := fun u hu => wordWalk_any sv PL REC u hu
  have hwr := fun u hu => refWalk_any sv PL REC u hu
  obtain ⟨L, hL, hDL⟩ := hR.out
  rw [hL] at hwa hwr
  have heq := fun u => eqFin ⟨L, 0, false, false⟩ ⟨L, 0, false, false⟩ u
  rw [decide_eq_true rfl] at heq
  simp only [Fin4.value] at heq hwa hwr
  have HWA := Lib.hid hwa; have HWR := Lib.hid hwr
  clear hL hwa hwr hR
  have hmore : Hid (∀ u, Below W.heap.size W u → u.cell? ⟨w.heap.size, 0, none⟩ = some (.int .i64 c.kind) ∧ u.cell? ⟨w.heap.size, 1, none⟩ = some (.slice ka kn kc) ∧ u.cell? ⟨w.heap.size, 2, none⟩ = some (.int .i64 c.arg) ∧ u.cell? ⟨w.heap.size, 3, none⟩ = some (.int .u64 (c.mask : Nat)) ∧ u.cell? ⟨w.heap.size, 4, none⟩ = some (.string c.sign) ∧ u.cell? ⟨w.heap.size, 5, none⟩ = some (.int .u64 (c.value : Nat)) ∧ u.cell? ⟨w.heap.size + 1, 0, none⟩ = some (.int .u32 (nr : Nat)) ∧ u.cell? ⟨w.heap.size + 1, 1, none⟩ = some (.int .u32 (arch : Nat)) ∧ u.cell? ⟨w.heap.size + 1, 2, none⟩ = some (.int .u64 (ip : Nat)) ∧ u.cell? ⟨w.heap.size + 1, 3, none⟩ = some (.int .u64 (a0 : Nat)) ∧ u.cell? ⟨w.heap.size + 1, 4, none⟩ = some (.int .u64 (a1 : Nat)) ∧ u.cell? ⟨w.heap.size + 1, 5, none⟩ = some (.int .u64 (a2 : Nat)) ∧ u.cell? ⟨w.heap.size + 1, 6, none⟩ = some (.int .u64 (a3 : Nat)) ∧ u.cell? ⟨w.heap.size + 1, 7, none⟩ = some (.int .u64 (a4 : Nat)) ∧ u.cell? ⟨w.heap.size + 1, 8, none⟩ = some (.int .u64 (a5 : Nat))) := HXC
  rcases hDL with ⟨rfl, rfl⟩ | ⟨rfl, rfl⟩
  all_goals
    obtain ⟨g0, g1, g2, g3, g4, g5, g6, g7, g8, g9, g10, g11, g12, g13, g14⟩ := HXC.out w5 HX5.out
    go_wp2_with fail
    refine (HA.out _).mono ?_
    rintro e w6 ⟨rfl, hb6⟩
    clear g0 g1 g2 g3 g4 g5 g6 g7 g8 g9 g10 g11 g12 g13 g14
    have HX6 := Lib.hid (HX5.out.trans (hb6.mono HX5.out.size)); have HO6 := Lib.hid (HO5.out.below hb6)
    clear hb6
    obtain ⟨g0, g1, g2, g3, g4, g5, g6, g7, g8, g9, g10, g11, g12, g13, g14⟩ := HXC.out w6 HX6.out
    go_wp2_with fail
    refine (HP.out _).mono ?_
    rintro e w7 ⟨rfl, hb7⟩
    clear g0 g1 g2 g3 g4 g5 g6 g7 g8 g9 g10 g11 g12 g13 g14
    have HX7 := Lib.hid (HX6.out.trans (hb7.mono HX6.out.size)); have HO7 := Lib.hid (HO6.out.below hb7)
    clear hb7
    go_wp2_with fail
    refine (HWA.out _ HO7.out).mono ?_
    rintro e w8 ⟨rfl, hb8⟩
    have HX8 := Lib.hid (HX7.out.trans (hb8.mono HX7.out.size)); have HO8 := Lib.hid (HO7.out.below hb8)
    clear hb8
    obtain ⟨g0, g1, g2, g3, g4, g5, g6, g7, g8, g9, g10, g11, g12, g13, g14⟩ := HXC.out w8 HX8.out
    go_wp2_with fail
    refine (HP.out _).mono ?_
    rintro e w9 ⟨rfl, hb9⟩
    clear g0 g1 g2 g3 g4 g5 g6 g7 g8 g9 g10 g11 g12 g13 g14
    have HX9 := Lib.hid (HX8.out.trans (hb9.mono HX8.out.size)); have HO9 := Lib.hid (HO8.out.below hb9)
    clear hb9
    go_wp2_with fail
    refine (HWR.out _ HO9.out).mono ?_
    rintro e w10 ⟨rfl, hb10⟩
    have HX10 := Lib.hid (HBW.out.trans ((HX9.out.trans (hb10.mono HX9.out.size)).mono HBW.out.size))
    clear hb10
    go_wp2_with fail
    go_ret
    exact ⟨rfl, HX10.out⟩
end Go.Proofs.Ytnapofpbiehaaaa.lawWordMeans
