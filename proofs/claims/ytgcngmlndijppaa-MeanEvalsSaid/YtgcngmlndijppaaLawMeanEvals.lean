/- The walk of MeanEvals. -/
import Derived.Test.YtgcngmlndijppaaRef18F
import Derived.Test.YtgcngmlndijppaaMnAlive
namespace Go.Proofs.Ytgcngmlndijppaa.lawMeanEvals
open Go.RowKit Go.ChangeShapes Go.Deep
set_option linter.unusedVariables false

set_option maxRecDepth 100000 in
set_option maxHeartbeats 4000000 in
theorem walk (v0 : Value) (t : Typ) (v1 : Value) (x : Cal) (s : ByteArray) (w : World) (w0 : IsTyp w v0 t) (w1 : IsCal w v1 x) (w2 : s.size ≤ maxLen) :
    Calls Try.prog 4 #[v0, v1, .string s] w fun e w' => e = .returned (.bool true) ∧ Below w.heap.size w w' := by
  obtain ⟨rfl, hx⟩ := w1
  obtain ⟨ht1, ht2, k, rfl, hk⟩ := id w0
  obtain ⟨A, n, c, rfl, _⟩ := id hk
  obtain ⟨nr, arch, ip, a0, a1, a2, a3, a4, a5, rfl⟩ := Cal.list6 hx
  obtain ⟨W, hW, f0, f1, hBW⟩ := two_at w (.cells #[.int .u32 (t.arch : Nat), .int .u32 (t.dflt : Nat), .slice A n c] 35) (callO nr arch ip a0 a1 a2 a3 a4 a5)
  unfold maxLen at w2
  obtain ⟨m, hm, hm1, hm2, hm3⟩ := min_if s.size 80 (by omega)
  have hmi : min (s.size : Int) 80 = m := by omega
  have hsI : (s.size : Int) ≤ 9223372036854775807 := by omega
  have hmI : (m : Int) ≤ s.size := by omega
  have hT := fun u (hu : Below W.heap.size W u) => w0.below (hBW.trans (hu.mono hBW.size))
  have hF := fun u hu => refFew18 t _ u (hT u hu)
  have hO1 := fun u hu => mnOf t _ (s.extract 0 m) u (hT u hu)
  have hO2 := fun u hu => refOf18 t _ (s.extract 0 m) u (hT u hu)
  have hE1 := fun u hu => mnEval t _ u _ hx (hT u hu)
  have hE2 := fun u hu => refEval18 t _ u _ hx (hT u hu)
  have HA := Lib.hid (fun u => mnAlive u)
  have hcells : ∀ u, Below W.heap.size W u → u.cell? ⟨w.heap.size, 0, none⟩ = some (.int .u32 (t.arch : Nat)) ∧ u.cell? ⟨w.heap.size, 1, none⟩ = some (.int .u32 (t.dflt : Nat)) ∧ u.cell? ⟨w.heap.size, 2, none⟩ = some (.slice A n c) ∧ u.cell? ⟨w.heap.size + 1, 0, none⟩ = some (.int .u32 (nr : Nat)) ∧ u.cell? ⟨w.heap.size + 1, 1, none⟩ = some (.int .u32 (arch : Nat)) ∧ u.cell? ⟨w.heap.size + 1, 2, none⟩ = some (.int .u64 (ip : Nat)) ∧ u.cell? ⟨w.heap.size + 1, 3, none⟩ = some (.int .u64 (a0 : Nat)) ∧ u.cell? ⟨w.heap.size + 1, 4, none⟩ = some (.int .u64 (a1 : Nat)) ∧ u.cell? ⟨w.heap.size + 1, 5, none⟩ = some (.int .u64 (a2 : Nat)) ∧ u.cell? ⟨w.heap.size + 1, 6, none⟩ = some (.int .u64 (a3 : Nat)) ∧ u.cell? ⟨w.heap.size + 1, 7, none⟩ = some (.int .u64 (a4 : Nat)) ∧ u.cell? ⟨w.heap.size + 1, 8, none⟩ = some (.int .u64 (a5 : Nat)) := fun u hu => ⟨below_cell hu f0 0 rfl, below_cell hu f0 1 rfl, below_cell hu f0 2 rfl, below_cell hu f1 0 rfl, below_cell hu f1 1 rfl, below_cell hu f1 2 rfl, below_cell hu f1 3 rfl, below_cell hu f1 4 rfl, below_cell hu f1 5 rfl, below_cell hu f1 6 rfl, below_cell hu f1 7 rfl, below_cell hu f1 8 rfl⟩
  change ∀ u, _ → Calls _ _ #[.agg #[.int .u32 (t.arch : Nat), .int .u32 (t.dflt : Nat), .slice A n c], .agg #[.int .u32 (nr : Nat), .int .u32 (arch : Nat), .int .u64 (ip : Nat), .int .u64 (a0 : Nat), .int .u64 (a1 : Nat), .int .u64 (a2 : Nat), .int .u64 (a3 : Nat), .int .u64 (a4 : Nat), .int .u64 (a5 : Nat)]] _ _ at hE1
  change ∀ u, _ → Calls _ _ #[.agg #[.int .u32 (t.arch : Nat), .int .u32 (t.dflt : Nat), .slice A n c], .agg #[.int .u32 (nr : Nat), .int .u32 (arch : Nat), .int .u64 (ip : Nat), .int .u64 (a0 : Nat), .int .u64 (a1 : Nat), .int .u64 (a2 : Nat), .int .u64 (a3 : Nat), .int .u64 (a4 : Nat), .int .u64 (a5 : Nat)]] _ _ at hE2
  show Calls _ _ #[.agg #[.int .u32 (t.arch : Nat), .int .u32 (t.dflt : Nat), .slice A n c], .agg #[.int .u32 (nr : Nat), .int .u32 (arch : Nat), .int .u64 (ip : Nat), .int .u64 (a0 : Nat), .int .u64 (a1 : Nat), .int .u64 (a2 : Nat), .int .u64 (a3 : Nat), .int .u64 (a4 : Nat), .int .u64 (a5 : Nat)], _] _ _
  unfold callO at hW f1
  generalize t.eval _ = E at *
  generalize t.ofN _ = O at *
  generalize unpE _ = Y at *
  generalize t.few = F at *
  have HXC := Lib.hid hcells; have HF := Lib.hid hF; have HO1 := Lib.hid hO1; have HO2 := Lib.hid hO2; have HE1 := Lib.hid hE1; have HE2 := Lib.hid hE2; have HBW := Lib.hid hBW
  have hbW := Below.refl W.heap.size W
  obtain ⟨g0, g1, g2, g3, g4, g5, g6, g7, g8, g9, g10, g11⟩ := hcells W hbW
  have HB1 := Lib.hid hbW
  clear hcells hF hO1 hO2 hE1 hE2 hBW hT hk hx f0 f1 w0 ht1 ht2 hm3
  go_enter Try.func4, Try.ntmps4
  go_upto_region 1 with fail
  rw [← hW]
  clear hW
  go_upto_region 2 with fail
  go_wp2_with fail
  refine (HF.out _ hbW).mono ?_
  rintro e w2 ⟨rfl, hb2⟩
  clear g0 g1 g2 g3 g4 g5 g6 g7 g8 g9 g10 g11 hbW
  have HB2 := Lib.hid hb2
  clear hb2
  cases F
  · go_wp2_with fail
    refine (HA.out _).mono ?_
    rintro e w3 ⟨rfl, hb3⟩
    have HX3 := Lib.hid (HBW.out.trans ((HB2.out.trans (hb3.mono HB2.out.size)).mono HBW.out.size))
    clear hb3
    go_wp2_with fail
    go_ret
    exact ⟨rfl, HX3.out⟩
  obtain ⟨g0, g1, g2, g3, g4, g5, g6, g7, g8, g9, g10, g11⟩ := HXC.out w2 HB2.out
  go_wp2_with fail
  refine (HO1.out _ HB2.out).mono ?_
  rintro e w3 ⟨rfl, hb3⟩
  clear g0 g1 g2 g3 g4 g5 g6 g7 g8 g9 g10 g11
  have HB3 := Lib.hid (HB2.out.trans (hb3.mono HB2.out.size))
  clear hb3
  obtain ⟨g0, g1, g2, g3, g4, g5, g6, g7, g8, g9, g10, g11⟩ := HXC.out w3 HB3.out
  go_wp2_with fail
  refine (HO2.out _ HB3.out).mono ?_
  rintro e w4 ⟨rfl, hb4⟩
  clear g0 g1 g2 g3 g4 g5 g6 g7 g8 g9 g10 g11
  have HB4 := Lib.hid (HB3.out.trans (hb4.mono HB3.out.size))
  clear hb4
  have hbx := HB4.out
  have k : ∀ x : KeepT w4, Below W.heap.size W x.val := fun x => hbx.trans (x.below.mono hbx.size)
  have kc' := fun x => HXC.out _ (k x)
  have HE1K := Lib.hid (fun x => HE1.out _ (k x))
  have HE2K := Lib.hid (fun x => HE2.out _ (k x))
  have g0 := fun x => (kc' x).1
  have g1 := fun x => (kc' x).2.1
  have g2 := fun x => (kc' x).2.2.1
  have g3 := fun x => (kc' x).2.2.2.1
  have g4 := fun x => (kc' x).2.2.2.2.1
  have g5 := fun x => (kc' x).2.2.2.2.2.1
  have g6 := fun x => (kc' x).2.2.2.2.2.2.1
  have g7 := fun x => (kc' x).2.2.2.2.2.2.2.1
  have g8 := fun x => (kc' x).2.2.2.2.2.2.2.2.1
  have g9 := fun x => (kc' x).2.2.2.2.2.2.2.2.2.1
  have g10 := fun x => (kc' x).2.2.2.2.2.2.2.2.2.2.1
  have g11 := fun x => (kc' x).2.2.2.2.2.2.2.2.2.2.2
  have KK := Lib.hid k
  clear k kc' hbx
  have hbr := Below.refl w4.heap.size w4
  go_upto_region 6 with fail
  refine wp_region_keep (w0 := w4) (by kernel_rfl) (by kernel_rfl) hbr ?_
  repeat (go_big_quiet_step ((first | (go_at_call 10; exact keepCall (HA.out _)) | (go_at_call 16; exact keepCall (HE1K.out _)) | (go_at_call 17; exact keepCall (HE2K.out _)))))
  refine wpQuiet_nil ?_
  rintro w7 ⟨x7, rfl⟩
  have HB7 := Lib.hid (HBW.out.trans ((KK.out x7).mono HBW.out.size))
  generalize x7.val = w7 at *
  clear g0 g1 g2 g3 g4 g5 g6 g7 g8 g9 g10 g11
  go_wp2_with fail
  go_ret
  exact ⟨by simp, HB7.out⟩
end Go.Proofs.Ytgcngmlndijppaa.lawMeanEvals
