/- The walk of MeanHolds. -/
import Derived.Test.YtgcngmlndijppaaMnAlive
import Derived.Test.YtgcngmlndijppaaRef18H
namespace Go.Proofs.Ytgcngmlndijppaa.lawMeanHolds
open Go.RowKit Go.ChangeShapes Go.Deep
set_option linter.unusedVariables false

set_option maxRecDepth 100000 in
set_option maxHeartbeats 4000000 in
theorem walk (v : Value) (c : Cnd) (v1 : Value) (x : Cal) (w : World) (w0 : IsCnd w v c) (w1 : IsCal w v1 x) :
    Calls Try.prog 3 #[v, v1] w fun e w' => e = .returned (.bool true) ∧ Below w.heap.size w w' := by
  obtain ⟨rfl, hx⟩ := w1
  obtain ⟨hb, k, rfl, hk⟩ := id w0
  obtain ⟨ka, kn, kc, rfl, hkn, _⟩ := id hk
  obtain ⟨nr, arch, ip, a0, a1, a2, a3, a4, a5, rfl⟩ := Cal.list6 hx
  obtain ⟨W, hW, f0, f1, hBW⟩ := two_at w (.cells #[.int .i64 c.kind, .slice ka kn kc, .int .i64 c.arg, .int .u64 (c.mask : Nat), .string c.sign, .int .u64 (c.value : Nat)] 25) (callO nr arch ip a0 a1 a2 a3 a4 a5)
  have hM := refMany_any c _ 100 W (w0.below hBW) (by omega) (by omega)
  have hD := fun u (hu : Below W.heap.size W u) => mnDoes c _ u _ hx (w0.below (hBW.trans (hu.mono hBW.size)))
  have hE := fun u (hu : Below W.heap.size W u) => refDoes18 c _ u _ hx (w0.below (hBW.trans (hu.mono hBW.size)))
  have hbig : 100 < c.size → c.does [a0, a1, a2, a3, a4, a5] = false := fun h => by
    have h1 : c.right = false := by unfold Cnd.right; rw [decide_eq_false (by omega)]; rfl
    have h2 : c.zero = false := by
      have hz : c.kids.length ≠ 0 := fun h0 => by
        rw [c.size_eq, List.length_eq_zero_iff.1 h0] at h
        simp [sizes] at h
      unfold Cnd.zero zeroV
      rw [decide_eq_false hz, Bool.and_false]
    unfold Cnd.does
    rw [h1, h2]; rfl
  have HA := Lib.hid (fun u => mnAlive u)
  change ∀ u, Below W.heap.size W u → Calls _ _ #[.agg #[.int .i64 c.kind, .slice ka kn kc, .int .i64 c.arg, .int .u64 (c.mask : Nat), .string c.sign, .int .u64 (c.value : Nat)], callV nr arch ip a0 a1 a2 a3 a4 a5] _ (fun e w' => e = .returned (.bool (c.does [a0, a1, a2, a3, a4, a5])) ∧ _) at hD
  change ∀ u, Below W.heap.size W u → Calls _ _ #[.agg #[.int .i64 c.kind, .slice ka kn kc, .int .i64 c.arg, .int .u64 (c.mask : Nat), .string c.sign, .int .u64 (c.value : Nat)], callV nr arch ip a0 a1 a2 a3 a4 a5] _ (fun e w' => e = .returned (.bool (c.does [a0, a1, a2, a3, a4, a5])) ∧ _) at hE
  show Calls _ _ #[.agg #[.int .i64 c.kind, .slice ka kn kc, .int .i64 c.arg, .int .u64 (c.mask : Nat), .string c.sign, .int .u64 (c.value : Nat)], callV nr arch ip a0 a1 a2 a3 a4 a5] _ _
  change Calls _ _ #[.agg #[.int .i64 c.kind, .slice ka kn kc, .int .i64 c.arg, .int .u64 (c.mask : Nat), .string c.sign, .int .u64 (c.value : Nat)], _] _ _ at hM
  generalize c.does _ = D at *
  obtain ⟨S, hS⟩ : ∃ S, c.size = S := ⟨_, rfl⟩
  rw [hS] at hM hbig
  unfold callV at hD hE ⊢
  unfold callO at hW f1
  have hcells : ∀ u, Below W.heap.size W u → u.cell? ⟨w.heap.size, 0, none⟩ = some (.int .i64 c.kind) ∧ u.cell? ⟨w.heap.size, 1, none⟩ = some (.slice ka kn kc) ∧ u.cell? ⟨w.heap.size, 2, none⟩ = some (.int .i64 c.arg) ∧ u.cell? ⟨w.heap.size, 3, none⟩ = some (.int .u64 (c.mask : Nat)) ∧ u.cell? ⟨w.heap.size, 4, none⟩ = some (.string c.sign) ∧ u.cell? ⟨w.heap.size, 5, none⟩ = some (.int .u64 (c.value : Nat)) ∧ u.cell? ⟨w.heap.size + 1, 0, none⟩ = some (.int .u32 (nr : Nat)) ∧ u.cell? ⟨w.heap.size + 1, 1, none⟩ = some (.int .u32 (arch : Nat)) ∧ u.cell? ⟨w.heap.size + 1, 2, none⟩ = some (.int .u64 (ip : Nat)) ∧ u.cell? ⟨w.heap.size + 1, 3, none⟩ = some (.int .u64 (a0 : Nat)) ∧ u.cell? ⟨w.heap.size + 1, 4, none⟩ = some (.int .u64 (a1 : Nat)) ∧ u.cell? ⟨w.heap.size + 1, 5, none⟩ = some (.int .u64 (a2 : Nat)) ∧ u.cell? ⟨w.heap.size + 1, 6, none⟩ = some (.int .u64 (a3 : Nat)) ∧ u.cell? ⟨w.heap.size + 1, 7, none⟩ = some (.int .u64 (a4 : Nat)) ∧ u.cell? ⟨w.heap.size + 1, 8, none⟩ = some (.int .u64 (a5 : Nat)) := fun u hu => ⟨below_cell hu f0 0 rfl, below_cell hu f0 1 rfl, below_cell hu f0 2 rfl, below_cell hu f0 3 rfl, below_cell hu f0 4 rfl, below_cell hu f0 5 rfl, below_cell hu f1 0 rfl, below_cell hu f1 1 rfl, below_cell hu f1 2 rfl, below_cell hu f1 3 rfl, below_cell hu f1 4 rfl, below_cell hu f1 5 rfl, below_cell hu f1 6 rfl, below_cell hu f1 7 rfl, below_cell hu f1 8 rfl⟩
  have HXC := Lib.hid hcells
  have hbW := Below.refl W.heap.size W
  obtain ⟨g0, g1, g2, g3, g4, g5, g6, g7, g8, g9, g10, g11, g12, g13, g14⟩ := hcells W hbW
  have HM := Lib.hid hM; have HD := Lib.hid hD; have HE := Lib.hid hE; have HBW := Lib.hid hBW; have HBIG := Lib.hid hbig
  clear hM hD hE hBW hbig f0 f1 w0 hk hb hx hkn hcells hS hbW
  go_enter Try.func3, Try.ntmps3
  go_upto_region 1 with fail
  rw [← hW]
  clear hW
  go_wp2_with fail
  refine HM.out.mono ?_
  rintro e w2 ⟨rfl, hb2⟩
  clear g0 g1 g2 g3 g4 g5 g6 g7 g8 g9 g10 g11 g12 g13 g14 HM
  obtain ⟨g0, g1, g2, g3, g4, g5, g6, g7, g8, g9, g10, g11, g12, g13, g14⟩ := HXC.out w2 hb2
  have HX2 := Lib.hid hb2
  clear hb2
  by_cases hs : 100 < S
  · have hd := HBIG.out hs
    subst hd
    have hmin : (100 : Int) < ((min S (100 + 1) : Nat) : Int) := by omega
    clear hs HBIG HE
    generalize min S (100 + 1) = M at *
    go_upto_region 2 with fail
    go_wp2_with fail
    refine (HA.out _).mono ?_
    rintro e w3 ⟨rfl, hb3⟩
    have hy3 := HX2.out.trans (hb3.mono HX2.out.size)
    clear g0 g1 g2 g3 g4 g5 g6 g7 g8 g9 g10 g11 g12 g13 g14
    obtain ⟨g0, g1, g2, g3, g4, g5, g6, g7, g8, g9, g10, g11, g12, g13, g14⟩ := HXC.out w3 hy3
    have HX3 := Lib.hid hy3
    clear hb3 hy3
    go_wp2_with fail
    refine (HD.out _ HX3.out).mono ?_
    rintro e w4 ⟨rfl, hb4⟩
    have HX4 := Lib.hid (HBW.out.trans ((HX3.out.trans (hb4.mono HX3.out.size)).mono HBW.out.size))
    clear hb4 g0 g1 g2 g3 g4 g5 g6 g7 g8 g9 g10 g11 g12 g13 g14
    go_wp2_with fail
    go_ret
    exact ⟨rfl, HX4.out⟩
  · have hmin : ¬ (100 : Int) < ((min S (100 + 1) : Nat) : Int) := by omega
    clear hs HBIG
    generalize min S (100 + 1) = M at *
    go_upto_region 3 with fail
    have hbw2 := HX2.out
    clear g0 g1 g2 g3 g4 g5 g6 g7 g8 g9 g10 g11 g12 g13 g14
    have k : ∀ x : KeepT w2, Below W.heap.size W x.val := fun x => hbw2.trans (x.below.mono hbw2.size)
    have kc' := fun x => HXC.out _ (k x)
    have HDK := Lib.hid (fun x => HD.out _ (k x))
    have HEK := Lib.hid (fun x => HE.out _ (k x))
    have g0 := fun x => (kc' x).1
    have g1 := fun x => (kc' x).2.1
    have g2 := fun x => (kc' x).2.2.1
    have g3 := fun x => (kc' x).2.2.2.1
    have g4 := fun x => (kc' x).2.2.2.2.1
    have g5 := fun x => (kc' x).2.2.2.2.2.1
    have g6 := fun x => (kc' x).2.2.2.2.2.2.1
    have g7 := fun x => (kc' x).2.2.2.2.2.2.2.1
    have g8 := fun x => (kc' x).2.2.2.2.2.2.2.2.1
    have g9 := fun x => (kc' x).2.2.2.2.2.2.2.2.2.1
    have g10 := fun x => (kc' x).2.2.2.2.2.2.2.2.2.2.1
    have g11 := fun x => (kc' x).2.2.2.2.2.2.2.2.2.2.2.1
    have g12 := fun x => (kc' x).2.2.2.2.2.2.2.2.2.2.2.2.1
    have g13 := fun x => (kc' x).2.2.2.2.2.2.2.2.2.2.2.2.2.1
    have g14 := fun x => (kc' x).2.2.2.2.2.2.2.2.2.2.2.2.2.2
    have KK := Lib.hid k
    clear k kc'
    have hb22 := Below.refl w2.heap.size w2
    refine wp_region_keep (w0 := w2) (by kernel_rfl) (by kernel_rfl) hb22 ?_
    repeat (go_big_quiet_step ((first | (go_at_call 10; exact keepCall (HA.out _)) | (go_at_call 11; exact keepCall (HDK.out _)) | (go_at_call 12; exact keepCall (HEK.out _)))))
    refine wpQuiet_nil ?_
    rintro w3 ⟨x, rfl⟩
    have HB3 := Lib.hid (HBW.out.trans ((KK.out x).mono HBW.out.size))
    generalize x.val = w3 at *
    clear g0 g1 g2 g3 g4 g5 g6 g7 g8 g9 g10 g11 g12 g13 g14
    go_wp2_with fail
    go_ret
    exact ⟨by cases D <;> rfl, HB3.out⟩
end Go.Proofs.Ytgcngmlndijppaa.lawMeanHolds
