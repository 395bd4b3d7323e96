/- The walk of MeanAll. -/
import Derived.Test.YtgcngmlndijppaaMnPair
import Derived.Deep.RegionWith
import Derived.Laws.EntriesVeiled
namespace Go.Proofs.Ytgcngmlndijppaa.lawMeanAll
open Go.RowKit Go.ChangeShapes Go.Deep
set_option linter.unusedVariables false

theorem three_at (w : World) (o0 o1 o2 : Obj) : ∃ W, W = ((w.alloc o0).alloc o1).alloc o2 ∧ W.heap[w.heap.size]? = some o0 ∧ W.heap[w.heap.size + 1]? = some o1 ∧ W.heap[w.heap.size + 1 + 1]? = some o2 ∧ Below w.heap.size w W := by
  obtain ⟨W1, h1, f0, f1, b1⟩ := two_at w o0 o1
  have h2 := heap_alloc_new W1 o2
  have b2 := (Below.refl W1.heap.size W1).alloc (Nat.le_refl _) o2
  have hs : W1.heap.size = w.heap.size + 1 + 1 := by rw [h1, World.size_alloc, World.size_alloc]
  rw [hs] at h2
  exact ⟨W1.alloc o2, by rw [h1], (b2.block _ (lt_of_block f0)).trans f0, (b2.block _ (lt_of_block f1)).trans f1, h2, b1.trans (b2.mono b1.size)⟩
set_option maxRecDepth 100000 in
set_option maxHeartbeats 8000000 in
theorem walk (v0 : Value) (p : Cnd) (v1 : Value) (q : Cnd) (v2 : Value) (x : Cal) (w : World) (w0 : IsCnd w v0 p) (w1 : IsCnd w v1 q) (w2 : IsCal w v2 x) :
    Calls Try.prog 8 #[v0, v1, v2] w fun e w' => e = .returned (.bool true) ∧ Below w.heap.size w w' := by
  obtain ⟨rfl, hx⟩ := w2
  obtain ⟨_, kp, rfl, hkp⟩ := id w0
  obtain ⟨pa, pn, pc, rfl, _⟩ := hkp
  obtain ⟨_, kq, rfl, hkq⟩ := id w1
  obtain ⟨qa, qn, qc, rfl, _⟩ := hkq
  obtain ⟨nr, arch, ip, a0, a1, a2, a3, a4, a5, rfl⟩ := Cal.list6 hx
  obtain ⟨W, hW, f0, f1, f2, hBW⟩ := three_at w (.cells #[.int .i64 p.kind, .slice pa pn pc, .int .i64 p.arg, .int .u64 (p.mask : Nat), .string p.sign, .int .u64 (p.value : Nat)] 25) (.cells #[.int .i64 q.kind, .slice qa qn qc, .int .i64 q.arg, .int .u64 (q.mask : Nat), .string q.sign, .int .u64 (q.value : Nat)] 25) (callO nr arch ip a0 a1 a2 a3 a4 a5)
  have hMp := fun u (hu : Below W.heap.size W u) => refMany_any p _ 30 u (w0.below (hBW.trans (hu.mono hBW.size))) (by omega) (by omega)
  have hMq := fun u (hu : Below W.heap.size W u) => refMany_any q _ 30 u (w1.below (hBW.trans (hu.mono hBW.size))) (by omega) (by omega)
  have hRp := fun u (hu : Below W.heap.size W u) => refRight16 p _ u (w0.below (hBW.trans (hu.mono hBW.size)))
  have hRq := fun u (hu : Below W.heap.size W u) => refRight16 q _ u (w1.below (hBW.trans (hu.mono hBW.size)))
  have hDp := fun u (hu : Below W.heap.size W u) => mnDoes p _ u _ hx (w0.below (hBW.trans (hu.mono hBW.size)))
  have hDq := fun u (hu : Below W.heap.size W u) => mnDoes q _ u _ hx (w1.below (hBW.trans (hu.mono hBW.size)))
  have hA7 := fun u (hu : Below W.heap.size W u) => (hu.block _ (lt_of_block f2)).trans f2
  have hC1 : p.right = true → q.right = true → p.size ≤ 30 → q.size ≤ 30 → ∀ u, Below W.heap.size W u → ∀ A1 A2 B1 B2, ((A1 = (.agg #[.int .i64 p.kind, .slice pa pn pc, .int .i64 p.arg, .int .u64 (p.mask : Nat), .string p.sign, .int .u64 (p.value : Nat)] : Value) ∧ B1 = p.does [a0, a1, a2, a3, a4, a5]) ∨ (A1 = (.agg #[.int .i64 q.kind, .slice qa qn qc, .int .i64 q.arg, .int .u64 (q.mask : Nat), .string q.sign, .int .u64 (q.value : Nat)] : Value) ∧ B1 = q.does [a0, a1, a2, a3, a4, a5])) → ((A2 = (.agg #[.int .i64 p.kind, .slice pa pn pc, .int .i64 p.arg, .int .u64 (p.mask : Nat), .string p.sign, .int .u64 (p.value : Nat)] : Value) ∧ B2 = p.does [a0, a1, a2, a3, a4, a5]) ∨ (A2 = (.agg #[.int .i64 q.kind, .slice qa qn qc, .int .i64 q.arg, .int .u64 (q.mask : Nat), .string q.sign, .int .u64 (q.value : Nat)] : Value) ∧ B2 = q.does [a0, a1, a2, a3, a4, a5])) →
      Calls Try.prog 21 #[.int .i64 1, A1, A2, .pointer (some ⟨w.heap.size + 1 + 1, 0, none⟩)] u fun e w' => e = .returned (.bool (B1 && B2)) ∧ Below u.heap.size u w' := by
    intro rp rq sp sq u hu A1 A2 B1 B2 h1 h2
    have hbp := w0.below (hBW.trans (hu.mono hBW.size))
    have hbq := w1.below (hBW.trans (hu.mono hBW.size))
    rcases h1 with ⟨rfl, rfl⟩ | ⟨rfl, rfl⟩ <;> rcases h2 with ⟨rfl, rfl⟩ | ⟨rfl, rfl⟩
    · rw [← does_and p p _ rp rp sp sp]; exact pairAsk u _ 1 (.inl rfl) p p pa pa pn pc pn pc nr arch ip a0 a1 a2 a3 a4 a5 hbp hbp hx (hA7 u hu)
    · rw [← does_and p q _ rp rq sp sq]; exact pairAsk u _ 1 (.inl rfl) p q pa qa pn pc qn qc nr arch ip a0 a1 a2 a3 a4 a5 hbp hbq hx (hA7 u hu)
    · rw [← does_and q p _ rq rp sq sp]; exact pairAsk u _ 1 (.inl rfl) q p qa pa qn qc pn pc nr arch ip a0 a1 a2 a3 a4 a5 hbq hbp hx (hA7 u hu)
    · rw [← does_and q q _ rq rq sq sq]; exact pairAsk u _ 1 (.inl rfl) q q qa qa qn qc qn qc nr arch ip a0 a1 a2 a3 a4 a5 hbq hbq hx (hA7 u hu)
  have hC2 : p.right = true → q.right = true → p.size ≤ 30 → q.size ≤ 30 → ∀ u, Below W.heap.size W u → ∀ A1 A2 B1 B2, ((A1 = (.agg #[.int .i64 p.kind, .slice pa pn pc, .int .i64 p.arg, .int .u64 (p.mask : Nat), .string p.sign, .int .u64 (p.value : Nat)] : Value) ∧ B1 = p.does [a0, a1, a2, a3, a4, a5]) ∨ (A1 = (.agg #[.int .i64 q.kind, .slice qa qn qc, .int .i64 q.arg, .int .u64 (q.mask : Nat), .string q.sign, .int .u64 (q.value : Nat)] : Value) ∧ B1 = q.does [a0, a1, a2, a3, a4, a5])) → ((A2 = (.agg #[.int .i64 p.kind, .slice pa pn pc, .int .i64 p.arg, .int .u64 (p.mask : Nat), .string p.sign, .int .u64 (p.value : Nat)] : Value) ∧ B2 = p.does [a0, a1, a2, a3, a4, a5]) ∨ (A2 = (.agg #[.int .i64 q.kind, .slice qa qn qc, .int .i64 q.arg, .int .u64 (q.mask : Nat), .string q.sign, .int .u64 (q.value : Nat)] : Value) ∧ B2 = q.does [a0, a1, a2, a3, a4, a5])) →
      Calls Try.prog 21 #[.int .i64 2, A1, A2, .pointer (some ⟨w.heap.size + 1 + 1, 0, none⟩)] u fun e w' => e = .returned (.bool (B1 || B2)) ∧ Below u.heap.size u w' := by
    intro rp rq sp sq u hu A1 A2 B1 B2 h1 h2
    have hbp := w0.below (hBW.trans (hu.mono hBW.size))
    have hbq := w1.below (hBW.trans (hu.mono hBW.size))
    rcases h1 with ⟨rfl, rfl⟩ | ⟨rfl, rfl⟩ <;> rcases h2 with ⟨rfl, rfl⟩ | ⟨rfl, rfl⟩
    · rw [← does_or p p _ rp rp sp sp]; exact pairAsk u _ 2 (.inr rfl) p p pa pa pn pc pn pc nr arch ip a0 a1 a2 a3 a4 a5 hbp hbp hx (hA7 u hu)
    · rw [← does_or p q _ rp rq sp sq]; exact pairAsk u _ 2 (.inr rfl) p q pa qa pn pc qn qc nr arch ip a0 a1 a2 a3 a4 a5 hbp hbq hx (hA7 u hu)
    · rw [← does_or q p _ rq rp sq sp]; exact pairAsk u _ 2 (.inr rfl) q p qa pa qn qc pn pc nr arch ip a0 a1 a2 a3 a4 a5 hbq hbp hx (hA7 u hu)
    · rw [← does_or q q _ rq rq sq sq]; exact pairAsk u _ 2 (.inr rfl) q q qa qa qn qc qn qc nr arch ip a0 a1 a2 a3 a4 a5 hbq hbq hx (hA7 u hu)
  change ∀ u, Below W.heap.size W u → Calls _ _ #[.agg #[.int .i64 p.kind, .slice pa pn pc, .int .i64 p.arg, .int .u64 (p.mask : Nat), .string p.sign, .int .u64 (p.value : Nat)], _] _ _ at hMp
  change ∀ u, Below W.heap.size W u → Calls _ _ #[.agg #[.int .i64 q.kind, .slice qa qn qc, .int .i64 q.arg, .int .u64 (q.mask : Nat), .string q.sign, .int .u64 (q.value : Nat)], _] _ _ at hMq
  change ∀ u, Below W.heap.size W u → Calls _ _ #[.agg #[.int .i64 p.kind, .slice pa pn pc, .int .i64 p.arg, .int .u64 (p.mask : Nat), .string p.sign, .int .u64 (p.value : Nat)]] _ _ at hRp
  change ∀ u, Below W.heap.size W u → Calls _ _ #[.agg #[.int .i64 q.kind, .slice qa qn qc, .int .i64 q.arg, .int .u64 (q.mask : Nat), .string q.sign, .int .u64 (q.value : Nat)]] _ _ at hRq
  change ∀ u, Below W.heap.size W u → Calls _ _ #[.agg #[.int .i64 p.kind, .slice pa pn pc, .int .i64 p.arg, .int .u64 (p.mask : Nat), .string p.sign, .int .u64 (p.value : Nat)], .agg #[.int .u32 (nr : Nat), .int .u32 (arch : Nat), .int .u64 (ip : Nat), .int .u64 (a0 : Nat), .int .u64 (a1 : Nat), .int .u64 (a2 : Nat), .int .u64 (a3 : Nat), .int .u64 (a4 : Nat), .int .u64 (a5 : Nat)]] _ (fun e w' => e = .returned (.bool (p.does [a0, a1, a2, a3, a4, a5])) ∧ _) at hDp
  change ∀ u, Below W.heap.size W u → Calls _ _ #[.agg #[.int .i64 q.kind, .slice qa qn qc, .int .i64 q.arg, .int .u64 (q.mask : Nat), .string q.sign, .int .u64 (q.value : Nat)], .agg #[.int .u32 (nr : Nat), .int .u32 (arch : Nat), .int .u64 (ip : Nat), .int .u64 (a0 : Nat), .int .u64 (a1 : Nat), .int .u64 (a2 : Nat), .int .u64 (a3 : Nat), .int .u64 (a4 : Nat), .int .u64 (a5 : Nat)]] _ (fun e w' => e = .returned (.bool (q.does [a0, a1, a2, a3, a4, a5])) ∧ _) at hDq
  show Calls _ _ #[.agg #[.int .i64 p.kind, .slice pa pn pc, .int .i64 p.arg, .int .u64 (p.mask : Nat), .string p.sign, .int .u64 (p.value : Nat)], .agg #[.int .i64 q.kind, .slice qa qn qc, .int .i64 q.arg, .int .u64 (q.mask : Nat), .string q.sign, .int .u64 (q.value : Nat)], .agg #[.int .u32 (nr : Nat), .int .u32 (arch : Nat), .int .u64 (ip : Nat), .int .u64 (a0 : Nat), .int .u64 (a1 : Nat), .int .u64 (a2 : Nat), .int .u64 (a3 : Nat), .int .u64 (a4 : Nat), .int .u64 (a5 : Nat)]] _ _
  have HA := Lib.hid (fun u => mnAlive u)
  unfold callO at hW f2
  have hcells : ∀ u, Below W.heap.size W u → u.cell? ⟨w.heap.size, 0, none⟩ = some (.int .i64 p.kind) ∧ u.cell? ⟨w.heap.size, 1, none⟩ = some (.slice pa pn pc) ∧ u.cell? ⟨w.heap.size, 2, none⟩ = some (.int .i64 p.arg) ∧ u.cell? ⟨w.heap.size, 3, none⟩ = some (.int .u64 (p.mask : Nat)) ∧ u.cell? ⟨w.heap.size, 4, none⟩ = some (.string p.sign) ∧ u.cell? ⟨w.heap.size, 5, none⟩ = some (.int .u64 (p.value : Nat)) ∧ u.cell? ⟨w.heap.size + 1, 0, none⟩ = some (.int .i64 q.kind) ∧ u.cell? ⟨w.heap.size + 1, 1, none⟩ = some (.slice qa qn qc) ∧ u.cell? ⟨w.heap.size + 1, 2, none⟩ = some (.int .i64 q.arg) ∧ u.cell? ⟨w.heap.size + 1, 3, none⟩ = some (.int .u64 (q.mask : Nat)) ∧ u.cell? ⟨w.heap.size + 1, 4, none⟩ = some (.string q.sign) ∧ u.cell? ⟨w.heap.size + 1, 5, none⟩ = some (.int .u64 (q.value : Nat)) ∧ u.cell? ⟨w.heap.size + 1 + 1, 0, none⟩ = some (.int .u32 (nr : Nat)) ∧ u.cell? ⟨w.heap.size + 1 + 1, 1, none⟩ = some (.int .u32 (arch : Nat)) ∧ u.cell? ⟨w.heap.size + 1 + 1, 2, none⟩ = some (.int .u64 (ip : Nat)) ∧ u.cell? ⟨w.heap.size + 1 + 1, 3, none⟩ = some (.int .u64 (a0 : Nat)) ∧ u.cell? ⟨w.heap.size + 1 + 1, 4, none⟩ = some (.int .u64 (a1 : Nat)) ∧ u.cell? ⟨w.heap.size + 1 + 1, 5, none⟩ = some (.int .u64 (a2 : Nat)) ∧ u.cell? ⟨w.heap.size + 1 + 1, 6, none⟩ = some (.int .u64 (a3 : Nat)) ∧ u.cell? ⟨w.heap.size + 1 + 1, 7, none⟩ = some (.int .u64 (a4 : Nat)) ∧ u.cell? ⟨w.heap.size + 1 + 1, 8, none⟩ = some (.int .u64 (a5 : Nat)) := fun u hu => ⟨below_cell hu f0 0 rfl, below_cell hu f0 1 rfl, below_cell hu f0 2 rfl, below_cell hu f0 3 rfl, below_cell hu f0 4 rfl, below_cell hu f0 5 rfl, below_cell hu f1 0 rfl, below_cell hu f1 1 rfl, below_cell hu f1 2 rfl, below_cell hu f1 3 rfl, below_cell hu f1 4 rfl, below_cell hu f1 5 rfl, below_cell hu f2 0 rfl, below_cell hu f2 1 rfl, below_cell hu f2 2 rfl, below_cell hu f2 3 rfl, below_cell hu f2 4 rfl, below_cell hu f2 5 rfl, below_cell hu f2 6 rfl, below_cell hu f2 7 rfl, below_cell hu f2 8 rfl⟩
  have HXC := Lib.hid hcells
  have hbW := Below.refl W.heap.size W
  obtain ⟨g0, g1, g2, g3, g4, g5, g6, g7, g8, g9, g10, g11, g12, g13, g14, g15, g16, g17, g18, g19, g20⟩ := hcells W hbW
  generalize p.does [a0, a1, a2, a3, a4, a5] = DP at *
  generalize q.does [a0, a1, a2, a3, a4, a5] = DQ at *
  obtain ⟨SP, hSP⟩ : ∃ S, p.size = S := ⟨_, rfl⟩
  obtain ⟨SQ, hSQ⟩ : ∃ S, q.size = S := ⟨_, rfl⟩
  rw [hSP] at hMp hC1 hC2
  rw [hSQ] at hMq hC1 hC2
  have HMP := Lib.hid hMp; have HMQ := Lib.hid hMq; have HRP := Lib.hid hRp; have HRQ := Lib.hid hRq; have HDP := Lib.hid hDp; have HDQ := Lib.hid hDq; have HBW := Lib.hid hBW; have HC1 := Lib.hid hC1; have HC2 := Lib.hid hC2
  clear hMp hMq hRp hRq hDp hDq hBW hC1 hC2 f0 f1 f2 w0 w1 hx hcells hSP hSQ hA7
  go_enter Try.func8, Try.ntmps8
  go_upto_region 1 with fail
  rw [← hW]
  clear hW
  go_wp2_with fail
  refine (HMP.out _ hbW).mono ?_
  rintro e w2 ⟨rfl, hb2⟩
  clear g0 g1 g2 g3 g4 g5 g6 g7 g8 g9 g10 g11 g12 g13 g14 g15 g16 g17 g18 g19 g20
  have HX2 := Lib.hid hb2
  clear hb2 hbW
  by_cases hs : 30 < SP
  · have hmin : (30 : Int) < ((min SP (30 + 1) : Nat) : Int) := by omega
    clear hs
    generalize min SP (30 + 1) = M at *
    go_wp2_with fail
    refine (HA.out _).mono ?_
    rintro e w3 ⟨rfl, hb3⟩
    have HX3 := Lib.hid (HBW.out.trans ((HX2.out.trans (hb3.mono HX2.out.size)).mono HBW.out.size))
    clear hb3
    go_wp2_with fail
    go_ret
    exact ⟨rfl, HX3.out⟩
  have hmin : ¬ (30 : Int) < ((min SP (30 + 1) : Nat) : Int) := by omega
  have hs1 : SP ≤ 30 := by omega
  have HS1 := Lib.hid hs1
  clear hs hs1
  generalize min SP (30 + 1) = M at *
  obtain ⟨g0, g1, g2, g3, g4, g5, g6, g7, g8, g9, g10, g11, g12, g13, g14, g15, g16, g17, g18, g19, g20⟩ := HXC.out w2 HX2.out
  go_wp2_with fail
  refine (HMQ.out _ HX2.out).mono ?_
  rintro e w3 ⟨rfl, hb3⟩
  clear g0 g1 g2 g3 g4 g5 g6 g7 g8 g9 g10 g11 g12 g13 g14 g15 g16 g17 g18 g19 g20
  have HX3 := Lib.hid (HX2.out.trans (hb3.mono HX2.out.size))
  clear hb3
  by_cases hs : 30 < SQ
  · have hmin : (30 : Int) < ((min SQ (30 + 1) : Nat) : Int) := by omega
    clear hs
    generalize min SQ (30 + 1) = M2 at *
    go_wp2_with fail
    refine (HA.out _).mono ?_
    rintro e w4 ⟨rfl, hb4⟩
    have HX4 := Lib.hid (HBW.out.trans ((HX3.out.trans (hb4.mono HX3.out.size)).mono HBW.out.size))
    clear hb4
    go_wp2_with fail
    go_ret
    exact ⟨rfl, HX4.out⟩
  have hmin : ¬ (30 : Int) < ((min SQ (30 + 1) : Nat) : Int) := by omega
  have hs1 : SQ ≤ 30 := by omega
  have HS2 := Lib.hid hs1
  clear hs hs1
  generalize min SQ (30 + 1) = M2 at *
  obtain ⟨g0, g1, g2, g3, g4, g5, g6, g7, g8, g9, g10, g11, g12, g13, g14, g15, g16, g17, g18, g19, g20⟩ := HXC.out w3 HX3.out
  go_wp2_with fail
  refine (HRP.out _ HX3.out).mono ?_
  rintro e w4 ⟨rfl, hb4⟩
  clear g0 g1 g2 g3 g4 g5 g6 g7 g8 g9 g10 g11 g12 g13 g14 g15 g16 g17 g18 g19 g20
  have HX4 := Lib.hid (HX3.out.trans (hb4.mono HX3.out.size))
  clear hb4
  generalize p.right = rp at *
  cases rp
  · go_wp2_with fail
    refine (HA.out _).mono ?_
    rintro e w5 ⟨rfl, hb5⟩
    have HX5 := Lib.hid (HBW.out.trans ((HX4.out.trans (hb5.mono HX4.out.size)).mono HBW.out.size))
    clear hb5
    go_wp2_with fail
    go_ret
    exact ⟨rfl, HX5.out⟩
  obtain ⟨g0, g1, g2, g3, g4, g5, g6, g7, g8, g9, g10, g11, g12, g13, g14, g15, g16, g17, g18, g19, g20⟩ := HXC.out w4 HX4.out
  go_wp2_with fail
  refine (HRQ.out _ HX4.out).mono ?_
  rintro e w5 ⟨rfl, hb5⟩
  clear g0 g1 g2 g3 g4 g5 g6 g7 g8 g9 g10 g11 g12 g13 g14 g15 g16 g17 g18 g19 g20
  have HX5 := Lib.hid (HX4.out.trans (hb5.mono HX4.out.size))
  clear hb5
  generalize q.right = rq at *
  cases rq
  · go_wp2_with fail
    refine (HA.out _).mono ?_
    rintro e w6 ⟨rfl, hb6⟩
    have HX6 := Lib.hid (HBW.out.trans ((HX5.out.trans (hb6.mono HX5.out.size)).mono HBW.out.size))
    clear hb6
    go_wp2_with fail
    go_ret
    exact ⟨rfl, HX6.out⟩
  have hbx := HX5.out
  have k : ∀ x : KeepT w5, Below W.heap.size W x.val := fun x => hbx.trans (x.below.mono hbx.size)
  have kc' := fun x => HXC.out _ (k x)
  have HDK := Lib.hid (fun (x : KeepT w5) (A1 : Value) (B1 : Bool) (h : (A1 = (.agg #[.int .i64 p.kind, .slice pa pn pc, .int .i64 p.arg, .int .u64 (p.mask : Nat), .string p.sign, .int .u64 (p.value : Nat)] : Value) ∧ B1 = DP) ∨ (A1 = (.agg #[.int .i64 q.kind, .slice qa qn qc, .int .i64 q.arg, .int .u64 (q.mask : Nat), .string q.sign, .int .u64 (q.value : Nat)] : Value) ∧ B1 = DQ)) => (show Calls Try.prog 11 #[A1, .agg #[.int .u32 (nr : Nat), .int .u32 (arch : Nat), .int .u64 (ip : Nat), .int .u64 (a0 : Nat), .int .u64 (a1 : Nat), .int .u64 (a2 : Nat), .int .u64 (a3 : Nat), .int .u64 (a4 : Nat), .int .u64 (a5 : Nat)]] x.val (fun e w' => e = .returned (.bool B1) ∧ Below x.val.heap.size x.val w') by (rcases h with ⟨rfl, rfl⟩ | ⟨rfl, rfl⟩; exact HDP.out _ (k x); exact HDQ.out _ (k x))))
  have C1 := Lib.hid (fun x : KeepT w5 => HC1.out (by trivial) (by trivial) HS1.out HS2.out x.val (k x))
  have C2 := Lib.hid (fun x : KeepT w5 => HC2.out (by trivial) (by trivial) HS1.out HS2.out x.val (k x))
  have g0 := fun x => (kc' x).1
  have g1 := fun x => (kc' x).2.1
  have g2 := fun x => (kc' x).2.2.1
  have g3 := fun x => (kc' x).2.2.2.1
  have g4 := fun x => (kc' x).2.2.2.2.1
  have g5 := fun x => (kc' x).2.2.2.2.2.1
  have g6 := fun x => (kc' x).2.2.2.2.2.2.1
  have g7 := fun x => (kc' x).2.2.2.2.2.2.2.1
  have g8 := fun x => (kc' x).2.2.2.2.2.2.2.2.1
  have g9 := fun x => (kc' x).2.2.2.2.2.2.2.2.2.1
  have g10 := fun x => (kc' x).2.2.2.2.2.2.2.2.2.2.1
  have g11 := fun x => (kc' x).2.2.2.2.2.2.2.2.2.2.2.1
  have g12 := fun x => (kc' x).2.2.2.2.2.2.2.2.2.2.2.2.1
  have g13 := fun x => (kc' x).2.2.2.2.2.2.2.2.2.2.2.2.2.1
  have g14 := fun x => (kc' x).2.2.2.2.2.2.2.2.2.2.2.2.2.2.1
  have g15 := fun x => (kc' x).2.2.2.2.2.2.2.2.2.2.2.2.2.2.2.1
  have g16 := fun x => (kc' x).2.2.2.2.2.2.2.2.2.2.2.2.2.2.2.2.1
  have g17 := fun x => (kc' x).2.2.2.2.2.2.2.2.2.2.2.2.2.2.2.2.2.1
  have g18 := fun x => (kc' x).2.2.2.2.2.2.2.2.2.2.2.2.2.2.2.2.2.2.1
  have g19 := fun x => (kc' x).2.2.2.2.2.2.2.2.2.2.2.2.2.2.2.2.2.2.2.1
  have g20 := fun x => (kc' x).2.2.2.2.2.2.2.2.2.2.2.2.2.2.2.2.2.2.2.2
  have KK := Lib.hid k
  clear k kc' hbx HMP HMQ HRP HRQ HC1 HC2
  have hbr := Below.refl w5.heap.size w5
  go_upto_region 4 with fail
  refine wp_region_keep (w0 := w5) (by kernel_rfl) (by kernel_rfl) hbr ?_
  repeat (go_big_quiet_step ((first | (go_at_call 11; exact keepCall (HDK.out _ _ _ (by first | exact .inl ⟨rfl, rfl⟩ | exact .inr ⟨rfl, rfl⟩))))))
  refine wpQuiet_nil ?_
  rintro w6 ⟨x6, rfl⟩
  have hb6 := x6.below
  generalize x6.val = w6 at *
  clear hbr HDK
  cases DP <;> cases DQ
  all_goals
    go_upto_region 5 with fail
    refine wp_region_keep (w0 := w5) (by kernel_rfl) (by kernel_rfl) hb6 ?_
    repeat (go_big_quiet_step ((first | (go_at_call 10; exact keepCall (HA.out _)) | (go_at_call_of 21 (Value.int .i64 1); exact keepCall (C1.out _ _ _ _ _ (by first | exact .inl ⟨rfl, rfl⟩ | exact .inr ⟨rfl, rfl⟩) (by first | exact .inl ⟨rfl, rfl⟩ | exact .inr ⟨rfl, rfl⟩))) | (go_at_call_of 21 (Value.int .i64 2); exact keepCall (C2.out _ _ _ _ _ (by first | exact .inl ⟨rfl, rfl⟩ | exact .inr ⟨rfl, rfl⟩) (by first | exact .inl ⟨rfl, rfl⟩ | exact .inr ⟨rfl, rfl⟩))))))
    refine wpQuiet_nil ?_
    rintro w7 ⟨x7, rfl⟩
    have HB7 := Lib.hid (HBW.out.trans ((KK.out x7).mono HBW.out.size))
    generalize x7.val = w7 at *
    clear g0 g1 g2 g3 g4 g5 g6 g7 g8 g9 g10 g11 g12 g13 g14 g15 g16 g17 g18 g19 g20
    go_wp2_with fail
    go_ret
    exact ⟨rfl, HB7.out⟩
end Go.Proofs.Ytgcngmlndijppaa.lawMeanAll
