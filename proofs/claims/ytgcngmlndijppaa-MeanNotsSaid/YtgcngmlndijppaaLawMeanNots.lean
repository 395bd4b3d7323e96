/- The walk of MeanNots. -/
import Derived.Test.YtgcngmlndijppaaMnDual
import Derived.Deep.RegionWith
import Derived.Deep.RegionHeld3
import Derived.Deep.AppendLies
import Derived.Deep.RegionLaw
import Derived.Laws.EntriesVeiled
namespace Go.Proofs.Ytgcngmlndijppaa.lawMeanNots
open Go.RowKit Go.ChangeShapes Go.Deep
set_option linter.unusedVariables false

theorem stepA {a b : World} {P : World → Prop} (h : ∀ u, Below a.heap.size a u → P u) (hb : Below a.heap.size a b) : ∀ u, Below b.heap.size b u → P u := fun u hu => h u (hb.trans (hu.mono hb.size))
theorem keepB {W a b : World} {R : Prop} (h : Below W.heap.size W a ∧ R) (hb : Below a.heap.size a b) : Below W.heap.size W b := h.1.trans (hb.mono h.1.size)
theorem dcell {u : World} {bd : Nat} {T : TypeId} {x0 x1 x2 x3 x4 x5 : Value} (h : u.heap[bd]? = some (.cells #[x0, x1, x2, x3, x4, x5] T (0, 0))) :
    u.cell? ⟨bd, 0, none⟩ = some x0 ∧ u.cell? ⟨bd, 1, none⟩ = some x1 ∧ u.cell? ⟨bd, 2, none⟩ = some x2 ∧ u.cell? ⟨bd, 3, none⟩ = some x3 ∧ u.cell? ⟨bd, 4, none⟩ = some x4 ∧ u.cell? ⟨bd, 5, none⟩ = some x5 :=
  ⟨cell_of_row _ _ _ _ _ _ h, cell_of_row _ _ _ _ _ _ h, cell_of_row _ _ _ _ _ _ h, cell_of_row _ _ _ _ _ _ h, cell_of_row _ _ _ _ _ _ h, cell_of_row _ _ _ _ _ _ h⟩
theorem stepN1 {b : World} {g : Nat} {c : Cnd} {k : Value} (hc : c.bounded) (hk : IsCnds b k c.kids) (h : b.heap[g]? = some (.cells (c.cells k).toArray 25 (0, 0))) : ∀ u, Below b.heap.size b u → IsCnd u (notV g) (notC c) :=
  fun u hu => (notC_is hc hk h).below hu
theorem notV_kids {u : World} {g : Nat} {c : Cnd} (h : IsCnd u (notV g) (notC c)) : IsCnds u (.slice (some ⟨g, 0, none⟩) 1 1) [c] := by
  obtain ⟨hb, k, hv, hk⟩ := h
  have e1 : (.slice (some ⟨g, 0, none⟩) 1 1 : Value) = k := by
    unfold notV Cnd.cells at hv
    injection hv with hv
    have := congrArg Array.toList hv
    simp only [List.cons.injEq, and_true] at this
    exact this.2.1
  rw [e1]; exact hk
theorem stepN2 {a b : World} {g g2 : Nat} {c : Cnd} (h : IsCnd a (notV g) (notC c)) (hb : Below a.heap.size a b) (h2 : b.heap[g2]? = some (.cells ((notC c).cells (.slice (some ⟨g, 0, none⟩) 1 1)).toArray 25 (0, 0))) : ∀ u, Below b.heap.size b u → IsCnd u (notV g2) (notC (notC c)) :=
  fun u hu => (notC_is (notC_bounded c) ((notV_kids h).below hb) h2).below hu
set_option maxRecDepth 100000 in
set_option maxHeartbeats 8000000 in
theorem walk (v : Value) (c : Cnd) (v1 : Value) (x : Cal) (w : World) (w0 : IsCnd w v c) (w1 : IsCal w v1 x) :
    Calls Try.prog 5 #[v, v1] w fun e w' => e = .returned (.bool true) ∧ Below w.heap.size w w' := by
  obtain ⟨rfl, hx⟩ := w1
  obtain ⟨iI, hNI, hzI0, hzI1, hzI2⟩ := info_parts infoCnd
  obtain ⟨hb, k, rfl, hk⟩ := id w0
  obtain ⟨ka, kn, kc, rfl, hkn, _⟩ := id hk
  obtain ⟨nr, arch, ip, a0, a1, a2, a3, a4, a5, rfl⟩ := Cal.list6 hx
  obtain ⟨W, hW, f0, f1, hBW⟩ := two_at w (.cells #[.int .i64 c.kind, .slice ka kn kc, .int .i64 c.arg, .int .u64 (c.mask : Nat), .string c.sign, .int .u64 (c.value : Nat)] 25) (callO nr arch ip a0 a1 a2 a3 a4 a5)
  have hM := refMany_any c _ 40 W (w0.below hBW) (by omega) (by omega)
  have hR := fun u (hu : Below W.heap.size W u) => refRight16 c _ u (w0.below (hBW.trans (hu.mono hBW.size)))
  have hDC := fun u (hu : Below W.heap.size W u) => mnDoes c _ u _ hx (w0.below (hBW.trans (hu.mono hBW.size)))
  have hDN := fun (hr : c.right = true) (hs : c.size ≤ 40) u g (h : IsCnd u (notV g) (notC c)) => mnDoes (notC c) _ u _ hx h
  have hDNN := fun (hr : c.right = true) (hs : c.size ≤ 40) u g (h : IsCnd u (notV g) (notC (notC c))) => mnDoes (notC (notC c)) _ u _ hx h
  have hd1 : c.right = true → c.size ≤ 40 → (notC c).does [a0, a1, a2, a3, a4, a5] = !c.does [a0, a1, a2, a3, a4, a5] := fun hr hs => notC_does c _ hr (by omega)
  have hd2 : c.right = true → c.size ≤ 40 → (notC (notC c)).does [a0, a1, a2, a3, a4, a5] = c.does [a0, a1, a2, a3, a4, a5] := fun hr hs => by rw [notC_does _ _ (notC_right c hr (by omega)) (by rw [notC_size]; omega), notC_does c _ hr (by omega)]; cases c.does _ <;> rfl
  have hN := fun u (hu : Below W.heap.size W u) => notAsk u c (.slice ka kn kc) (w0.below (hBW.trans (hu.mono hBW.size)))
  have hNN := fun u g (h : IsCnd u (notV g) (notC c)) => notAsk u (notC c) (.slice (some ⟨g, 0, none⟩) 1 1) h
  have hKC := fun u (hu : Below W.heap.size W u) => hk.below (hBW.trans (hu.mono hBW.size))
  have HA := Lib.hid (fun u => mnAlive u)
  have hcells : ∀ u, Below W.heap.size W u → u.cell? ⟨w.heap.size, 0, none⟩ = some (.int .i64 c.kind) ∧ u.cell? ⟨w.heap.size, 1, none⟩ = some (.slice ka kn kc) ∧ u.cell? ⟨w.heap.size, 2, none⟩ = some (.int .i64 c.arg) ∧ u.cell? ⟨w.heap.size, 3, none⟩ = some (.int .u64 (c.mask : Nat)) ∧ u.cell? ⟨w.heap.size, 4, none⟩ = some (.string c.sign) ∧ u.cell? ⟨w.heap.size, 5, none⟩ = some (.int .u64 (c.value : Nat)) ∧ u.cell? ⟨w.heap.size + 1, 0, none⟩ = some (.int .u32 (nr : Nat)) ∧ u.cell? ⟨w.heap.size + 1, 1, none⟩ = some (.int .u32 (arch : Nat)) ∧ u.cell? ⟨w.heap.size + 1, 2, none⟩ = some (.int .u64 (ip : Nat)) ∧ u.cell? ⟨w.heap.size + 1, 3, none⟩ = some (.int .u64 (a0 : Nat)) ∧ u.cell? ⟨w.heap.size + 1, 4, none⟩ = some (.int .u64 (a1 : Nat)) ∧ u.cell? ⟨w.heap.size + 1, 5, none⟩ = some (.int .u64 (a2 : Nat)) ∧ u.cell? ⟨w.heap.size + 1, 6, none⟩ = some (.int .u64 (a3 : Nat)) ∧ u.cell? ⟨w.heap.size + 1, 7, none⟩ = some (.int .u64 (a4 : Nat)) ∧ u.cell? ⟨w.heap.size + 1, 8, none⟩ = some (.int .u64 (a5 : Nat)) := fun u hu => ⟨below_cell hu f0 0 rfl, below_cell hu f0 1 rfl, below_cell hu f0 2 rfl, below_cell hu f0 3 rfl, below_cell hu f0 4 rfl, below_cell hu f0 5 rfl, below_cell hu f1 0 rfl, below_cell hu f1 1 rfl, below_cell hu f1 2 rfl, below_cell hu f1 3 rfl, below_cell hu f1 4 rfl, below_cell hu f1 5 rfl, below_cell hu f1 6 rfl, below_cell hu f1 7 rfl, below_cell hu f1 8 rfl⟩
  have HXC := Lib.hid hcells
  have hbW := Below.refl W.heap.size W
  obtain ⟨g0, g1, g2, g3, g4, g5, g6, g7, g8, g9, g10, g11, g12, g13, g14⟩ := hcells W hbW
  change ∀ u, Below W.heap.size W u → Calls _ _ #[.agg #[.int .i64 c.kind, .slice ka kn kc, .int .i64 c.arg, .int .u64 (c.mask : Nat), .string c.sign, .int .u64 (c.value : Nat)]] _ _ at hR
  change ∀ u, Below W.heap.size W u → Calls _ _ #[.agg #[.int .i64 c.kind, .slice ka kn kc, .int .i64 c.arg, .int .u64 (c.mask : Nat), .string c.sign, .int .u64 (c.value : Nat)], .agg #[.int .u32 (nr : Nat), .int .u32 (arch : Nat), .int .u64 (ip : Nat), .int .u64 (a0 : Nat), .int .u64 (a1 : Nat), .int .u64 (a2 : Nat), .int .u64 (a3 : Nat), .int .u64 (a4 : Nat), .int .u64 (a5 : Nat)]] _ (fun e w' => e = .returned (.bool (c.does [a0, a1, a2, a3, a4, a5])) ∧ _) at hDC
  change _ → _ → ∀ u g, _ → Calls _ _ #[notV g, .agg #[.int .u32 (nr : Nat), .int .u32 (arch : Nat), .int .u64 (ip : Nat), .int .u64 (a0 : Nat), .int .u64 (a1 : Nat), .int .u64 (a2 : Nat), .int .u64 (a3 : Nat), .int .u64 (a4 : Nat), .int .u64 (a5 : Nat)]] _ (fun e w' => e = .returned (.bool ((notC c).does [a0, a1, a2, a3, a4, a5])) ∧ _) at hDN
  change _ → _ → ∀ u g, _ → Calls _ _ #[notV g, .agg #[.int .u32 (nr : Nat), .int .u32 (arch : Nat), .int .u64 (ip : Nat), .int .u64 (a0 : Nat), .int .u64 (a1 : Nat), .int .u64 (a2 : Nat), .int .u64 (a3 : Nat), .int .u64 (a4 : Nat), .int .u64 (a5 : Nat)]] _ (fun e w' => e = .returned (.bool ((notC (notC c)).does [a0, a1, a2, a3, a4, a5])) ∧ _) at hDNN
  change ∀ u, Below W.heap.size W u → Calls _ _ #[.agg #[.int .i64 c.kind, .slice ka kn kc, .int .i64 c.arg, .int .u64 (c.mask : Nat), .string c.sign, .int .u64 (c.value : Nat)]] _ _ at hN
  change ∀ u g, _ → Calls _ _ #[notV g] _ _ at hNN
  change Calls _ _ #[.agg #[.int .i64 c.kind, .slice ka kn kc, .int .i64 c.arg, .int .u64 (c.mask : Nat), .string c.sign, .int .u64 (c.value : Nat)], _] _ _ at hM
  show Calls _ _ #[.agg #[.int .i64 c.kind, .slice ka kn kc, .int .i64 c.arg, .int .u64 (c.mask : Nat), .string c.sign, .int .u64 (c.value : Nat)], .agg #[.int .u32 (nr : Nat), .int .u32 (arch : Nat), .int .u64 (ip : Nat), .int .u64 (a0 : Nat), .int .u64 (a1 : Nat), .int .u64 (a2 : Nat), .int .u64 (a3 : Nat), .int .u64 (a4 : Nat), .int .u64 (a5 : Nat)]] _ _
  have hDN2 : c.right = true → c.size ≤ 40 → ∀ u g, IsCnd u (notV g) (notC c) → Calls Try.prog 11 #[notV g, .agg #[.int .u32 (nr : Nat), .int .u32 (arch : Nat), .int .u64 (ip : Nat), .int .u64 (a0 : Nat), .int .u64 (a1 : Nat), .int .u64 (a2 : Nat), .int .u64 (a3 : Nat), .int .u64 (a4 : Nat), .int .u64 (a5 : Nat)]] u (fun e w' => e = .returned (.bool (!c.does [a0, a1, a2, a3, a4, a5])) ∧ Below u.heap.size u w') := fun hr hs => by have := hDN hr hs; rwa [hd1 hr hs] at this
  have hDNN2 : c.right = true → c.size ≤ 40 → ∀ u g, IsCnd u (notV g) (notC (notC c)) → Calls Try.prog 11 #[notV g, .agg #[.int .u32 (nr : Nat), .int .u32 (arch : Nat), .int .u64 (ip : Nat), .int .u64 (a0 : Nat), .int .u64 (a1 : Nat), .int .u64 (a2 : Nat), .int .u64 (a3 : Nat), .int .u64 (a4 : Nat), .int .u64 (a5 : Nat)]] u (fun e w' => e = .returned (.bool (c.does [a0, a1, a2, a3, a4, a5])) ∧ Below u.heap.size u w') := fun hr hs => by have := hDNN hr hs; rwa [hd2 hr hs] at this
  clear hDN hDNN hd1 hd2
  unfold callO at hW f1
  generalize hDD : c.does [a0, a1, a2, a3, a4, a5] = D at *
  obtain ⟨S, hS⟩ : ∃ S, c.size = S := ⟨_, rfl⟩
  rw [hS] at hM hDN2 hDNN2
  have HM := Lib.hid hM; have HR := Lib.hid hR; have HDC := Lib.hid hDC; have HD1 := Lib.hid hDN2; have HD2 := Lib.hid hDNN2; have HN := Lib.hid hN; have HNN := Lib.hid hNN; have HBW := Lib.hid hBW; have HBC := Lib.hid hb; have HKC := Lib.hid hKC; have HSS := Lib.hid hS; have HDD := Lib.hid hDD; have HX := Lib.hid hx; have HK := Lib.hid hk
  clear hM hR hDC hDN2 hDNN2 hN hNN hBW hb hKC f0 f1 w0 hk hx hkn hcells hS hDD
  go_enter Try.func5, Try.ntmps5
  go_upto_region 1 with fail
  rw [← hW]
  clear hW
  go_wp2_with fail
  refine HM.out.mono ?_
  rintro e w2 ⟨rfl, hb2⟩
  clear g0 g1 g2 g3 g4 g5 g6 g7 g8 g9 g10 g11 g12 g13 g14 HM
  have HX2 := Lib.hid hb2
  clear hb2 hbW
  by_cases hs : 40 < S
  · have hmin : (40 : Int) < ((min S (40 + 1) : Nat) : Int) := by omega
    clear hs
    generalize min S (40 + 1) = M at *
    go_wp2_with fail
    refine (HA.out _).mono ?_
    rintro e w3 ⟨rfl, hb3⟩
    have HX3 := Lib.hid (HBW.out.trans ((HX2.out.trans (hb3.mono HX2.out.size)).mono HBW.out.size))
    clear hb3
    go_wp2_with fail
    go_ret
    exact ⟨rfl, HX3.out⟩
  have hmin : ¬ (40 : Int) < ((min S (40 + 1) : Nat) : Int) := by omega
  have hs1 : S ≤ 40 := by omega
  have HS1 := Lib.hid hs1
  clear hs hs1
  generalize min S (40 + 1) = M at *
  obtain ⟨g0, g1, g2, g3, g4, g5, g6, g7, g8, g9, g10, g11, g12, g13, g14⟩ := HXC.out w2 HX2.out
  go_wp2_with fail
  refine (HR.out _ HX2.out).mono ?_
  rintro e w3 ⟨rfl, hb3⟩
  clear g0 g1 g2 g3 g4 g5 g6 g7 g8 g9 g10 g11 g12 g13 g14
  have HXR := Lib.hid (HX2.out.trans (hb3.mono HX2.out.size))
  clear hb3
  generalize hrr : c.right = rp at *
  cases rp
  · go_wp2_with fail
    refine (HA.out _).mono ?_
    rintro e w5 ⟨rfl, hb5⟩
    have HX5 := Lib.hid (HBW.out.trans ((HXR.out.trans (hb5.mono HXR.out.size)).mono HBW.out.size))
    clear hb5
    go_wp2_with fail
    go_ret
    exact ⟨rfl, HX5.out⟩
  have HDN := Lib.hid (HD1.out rfl HS1.out)
  have HDUAL := Lib.hid (fun (hk : c.kind = 1 ∨ c.kind = 2) => by have := dual_does c [a0, a1, a2, a3, a4, a5] hrr (by rw [HSS.out]; exact HS1.out) hk; rwa [HDD.out] at this)
  have HDNN := Lib.hid (HD2.out rfl HS1.out)
  have HRR := Lib.hid hrr
  clear HD1 HD2 hrr
  go_upto_region 4 with fail
  go_cut [43] (fun b wx => b = .bool false ∧ Below W.heap.size W wx)
  case first =>
    clear HX2
    cases D
    all_goals
    go_region_held3 (fun u => Below W.heap.size W u ∧ u.cell? ⟨w.heap.size, 0, none⟩ = some (.int .i64 c.kind) ∧ u.cell? ⟨w.heap.size, 1, none⟩ = some (.slice ka kn kc) ∧ u.cell? ⟨w.heap.size, 2, none⟩ = some (.int .i64 c.arg) ∧ u.cell? ⟨w.heap.size, 3, none⟩ = some (.int .u64 (c.mask : Nat)) ∧ u.cell? ⟨w.heap.size, 4, none⟩ = some (.string c.sign) ∧ u.cell? ⟨w.heap.size, 5, none⟩ = some (.int .u64 (c.value : Nat)) ∧ u.cell? ⟨w.heap.size + 1, 0, none⟩ = some (.int .u32 (nr : Nat)) ∧ u.cell? ⟨w.heap.size + 1, 1, none⟩ = some (.int .u32 (arch : Nat)) ∧ u.cell? ⟨w.heap.size + 1, 2, none⟩ = some (.int .u64 (ip : Nat)) ∧ u.cell? ⟨w.heap.size + 1, 3, none⟩ = some (.int .u64 (a0 : Nat)) ∧ u.cell? ⟨w.heap.size + 1, 4, none⟩ = some (.int .u64 (a1 : Nat)) ∧ u.cell? ⟨w.heap.size + 1, 5, none⟩ = some (.int .u64 (a2 : Nat)) ∧ u.cell? ⟨w.heap.size + 1, 6, none⟩ = some (.int .u64 (a3 : Nat)) ∧ u.cell? ⟨w.heap.size + 1, 7, none⟩ = some (.int .u64 (a4 : Nat)) ∧ u.cell? ⟨w.heap.size + 1, 8, none⟩ = some (.int .u64 (a5 : Nat)))
      ((refine (fun h => And.intro h (HXC.out _ h)) ?_; first | assumption | exact HXR.out.drew | exact keepB (by assumption) hbq))
      (first
      | (go_at_call_of 11 (notV g2); refine (HDNN.out _ _ (fb _ (Below.refl _ _))).mono ?_; rintro e wq ⟨rfl, hbq⟩; (try have fa := stepA fa hbq); (try have fb := stepA fb hbq))
      | (go_at_call_of 11 (notV g1); refine (HDN.out _ _ (fa _ (Below.refl _ _))).mono ?_; rintro e wq ⟨rfl, hbq⟩; (try have fa := stepA fa hbq); (try have fb := stepA fb hbq))
      | (go_at_call 11; refine (HDC.out _ (And.left (by assumption))).mono ?_; rintro e wq ⟨rfl, hbq⟩; (try have fa := stepA fa hbq); (try have fb := stepA fb hbq))
      | (go_at_call_of 19 (notV g1); refine (HNN.out _ _ (fa _ (Below.refl _ _))).mono ?_; rintro e wq ⟨g2, rfl, hg2, hz2, hbq⟩; have fb := stepN2 (fa _ (Below.refl _ _)) hbq hg2; (try have fa := stepA fa hbq))
      | (go_at_call 19; refine (HN.out _ (And.left (by assumption))).mono ?_; rintro e wq ⟨g1, rfl, hg1, hz1, hbq⟩; have fa := stepN1 HBC.out (HKC.out _ (keepB (by assumption) hbq)) hg1)
      | (go_at_call 10; refine (HA.out _).mono ?_; rintro e wq ⟨rfl, hbq⟩)
      | fail)

    all_goals
      go_wp2_with fail
      go_meet
      exact ⟨rfl, And.left (by assumption)⟩
  case rest =>
  obtain ⟨rfl, hb4⟩ := hcut
  clear HDC HDNN HR HX2 HA
  obtain ⟨g0, g1, g2, g3, g4, g5, g6, g7, g8, g9, g10, g11, g12, g13, g14⟩ := HXC.out _ hb4
  have HX4 := Lib.hid hb4
  clear hb4
  by_cases hk1 : c.kind = 1 ∨ c.kind = 2
  · go_upto_region 6 with fail
    have hke := HBC.out.1
    have HK1 := Lib.hid hk1
    generalize hkk : c.kind = kk at *
    go_cut [51] (fun b wx => b = .bool false ∧ Below W.heap.size W wx)
    case first =>
      rcases hk1 with rfl | rfl
      all_goals
        go_wp2_with fail
        go_meet
        exact ⟨rfl, HX4.out⟩
    case rest =>
    obtain ⟨rfl, hb4⟩ := hcut
    clear g0 g1 g2 g3 g4 g5 g6 g7 g8 g9 g10 g11 g12 g13 g14 hk1 HX4
    obtain ⟨g0, g1, g2, g3, g4, g5, g6, g7, g8, g9, g10, g11, g12, g13, g14⟩ := HXC.out _ hb4
    have HX4 := Lib.hid hb4
    clear hb4
    have hwr : IntKind.i64.wrap (3 - kk) = 3 - kk := by rcases HK1.out with rfl | rfl <;> rfl
    have h3 : (0 : Int) ≤ 3 - kk := by rcases HK1.out with rfl | rfl <;> decide
    go_upto_region 9 with fail
    have hn5 := heap_alloc_new wc (.cells #[.int .i64 (3 - kk), .slice none 0 0, .int .i64 0, .int .u64 0, .string ⟨#[]⟩, .int .u64 0] 25)
    have hy5 := (Below.refl wc.heap.size wc).alloc (Nat.le_refl _) (.cells #[.int .i64 (3 - kk), .slice none 0 0, .int .i64 0, .int .u64 0, .string ⟨#[]⟩, .int .u64 0] 25)
    have hb5 := HX4.out.trans (hy5.mono HX4.out.size)
    have hlt5 := HX4.out.size
    generalize wc.alloc (.cells #[.int .i64 (3 - kk), .slice none 0 0, .int .i64 0, .int .u64 0, .string ⟨#[]⟩, .int .u64 0] 25) = w5 at *
    clear g0 g1 g2 g3 g4 g5 g6 g7 g8 g9 g10 g11 g12 g13 g14 hy5 HX4
    obtain ⟨g0, g1, g2, g3, g4, g5, g6, g7, g8, g9, g10, g11, g12, g13, g14⟩ := HXC.out _ hb5
    generalize wc.heap.size = bd at *
    have HN5 := Lib.hid hn5; have HX5 := Lib.hid hb5
    clear hn5 hb5
    obtain ⟨n, hn⟩ : ∃ n, c.kids.length = n := ⟨_, rfl⟩
    have hknn : kn = n := by
      obtain ⟨_, _, _, hv, hl, _⟩ := id HK.out
      injection hv with _ e2 _
      rw [e2, ← hl, hn]
    subst hknn
    have hnI : (kn : Int) ≤ 9223372036854775807 := by obtain ⟨_, _, _, hv, hl, h1, h2, _⟩ := id HK.out; injection hv with _ e2 e3; subst e2 e3; omega
    have hn40 : kn ≤ 40 := by have := HSS.out; have := HS1.out; have := c.size_eq; have := len_sizes c.kids; omega
    have hD0 : Duals W w5 (c.kids.take 0) (.slice none 0 0) bd [] := Duals.nil
    have HD0 := Lib.hid hD0; have HNK := Lib.hid hn; have HN40 := Lib.hid hn40
    clear hD0 hn hn40 HRR
    go_upto_region 10 with fail
    clear g0 g1 g2 g3 g4 g5 g6 g7 g8 g9 g10 g11 g12 g13 g14
    go_loopw [59] (fun z wr => ∃ (j : Nat) (v : Value) (gs : List Nat), z = .int .i64 (j : Nat) ∧ j ≤ kn ∧ wr.heap[bd]? = some (.cells #[.int .i64 (3 - kk), v, .int .i64 0, .int .u64 0, .string ⟨#[]⟩, .int .u64 0] 25 (0, 0)) ∧ Duals W wr (c.kids.take j) v bd gs ∧ Below W.heap.size W wr) (fun z _ => kn - (intOf z).toNat)
    case atStart => exact ⟨0, _, [], rfl, by omega, HN5.out, HD0.out, HX5.out⟩
    case round =>
      obtain ⟨j, v, gs, rfl, hj, hd, hdu, hwr⟩ := hrel
      have HDR := Lib.hid hd; have HDU := Lib.hid hdu; have HWR := Lib.hid hwr
      clear hd hdu hwr HN5 HX5 HD0
      by_cases hlt : j < kn
      · have hjI : (j : Int) < kn := by omega
        obtain ⟨b, o, k2, rfl, ⟨a2, n2, c2, rfl⟩, hI, hcell⟩ := kid_load HK.out HBW.out rfl j hlt
        have hbl := World.block_lt_of_cell? _ _ (hcell 0 _ rfl)
        have hcw : ∀ i x, ((c.kids.getD j cndZ).cells (.slice a2 n2 c2))[i]? = some x → wr.cell? ⟨b, o + j * 6 + i, none⟩ = some x := fun i x hx => (HWR.out.cell (p := ⟨b, o + j * 6 + i, none⟩) hbl).trans (hcell i x hx)
        have htk : c.kids.take (j + 1) = c.kids.take j ++ [c.kids.getD j cndZ] := by
          have hj2 : j < c.kids.length := by have := HNK.out; omega
          rw [List.take_add_one, List.getElem?_eq_getElem hj2]; simp [List.getD, List.getElem?_eq_getElem hj2]
        have htl : (c.kids.take j).length = j := by rw [List.length_take, HNK.out]; omega
        have hnk := fun u (hu : Below W.heap.size W u) => notAsk u (c.kids.getD j cndZ) (.slice a2 n2 c2) (hI.below hu)
        obtain ⟨hkb, _, hkv, hkk2⟩ := hI
        injection hkv with hkv
        have hkv := congrArg Array.toList hkv
        simp only [Cnd.cells, List.cons.injEq, and_true, true_and] at hkv
        subst hkv
        have e0 := hcw 0 _ rfl
        have e1 := hcw 1 _ rfl
        have e2 := hcw 2 _ rfl
        have e3 := hcw 3 _ rfl
        have e4 := hcw 4 _ rfl
        have e5 := hcw 5 _ rfl
        rw [Nat.add_zero] at e0
        have HTK := Lib.hid htk; have HTL := Lib.hid htl; have HNA := Lib.hid hnk; have HKB := Lib.hid hkb; have HKK := Lib.hid hkk2
        clear hcell hcw htk htl hnk hkb hkk2 hbl
        generalize c.kids.getD j cndZ = cc at *
        obtain ⟨kind2, kids2, arg2, mask2, sign2, value2⟩ := cc
        unfold cndV at HNA
        simp only [Cnd.kind, Cnd.arg, Cnd.mask, Cnd.sign, Cnd.value, Cnd.cells] at e0 e1 e2 e3 e4 e5 HNA
        go_upto_region 12 with fail
        have hn7 := heap_alloc_new wr (.cells #[.int .i64 kind2, .slice a2 n2 c2, .int .i64 arg2, .int .u64 (mask2 : Nat), .string sign2, .int .u64 (value2 : Nat)] 25)
        have hy7 := (Below.refl wr.heap.size wr).alloc (Nat.le_refl _) (.cells #[.int .i64 kind2, .slice a2 n2 c2, .int .i64 arg2, .int .u64 (mask2 : Nat), .string sign2, .int .u64 (value2 : Nat)] 25)
        generalize wr.alloc (.cells #[.int .i64 kind2, .slice a2 n2 c2, .int .i64 arg2, .int .u64 (mask2 : Nat), .string sign2, .int .u64 (value2 : Nat)] 25) = w7 at *
        have hb7 := HWR.out.trans (hy7.mono HWR.out.size)
        have hd7 := (hy7.block _ (lt_of_block HDR.out)).trans HDR.out
        have hu7 := HDU.out.below hy7
        generalize wr.heap.size = b7 at *
        obtain ⟨A, cv, hvf, hjc, hcv, _⟩ := own_form6 hu7.2.1
        rw [HTL.out] at hvf hjc
        subst hvf
        have x0 := below_cell (Below.refl _ _) hn7 0 rfl
        have x1 := below_cell (Below.refl _ _) hn7 1 rfl
        have x2 := below_cell (Below.refl _ _) hn7 2 rfl
        have x3 := below_cell (Below.refl _ _) hn7 3 rfl
        have x4 := below_cell (Below.refl _ _) hn7 4 rfl
        have x5 := below_cell (Below.refl _ _) hn7 5 rfl
        have d1 := below_cell (Below.refl _ _) hd7 1 rfl
        have HBD := Lib.hid hlt5; have HB7 := Lib.hid hb7; have HD7 := Lib.hid hd7; have HU7 := Lib.hid hu7; have HLT := Lib.hid hlt
        have hbw7 := hb7.size
        have hj40 : j ≤ 40 := by have := HN40.out; omega
        clear hb7 hd7 hu7 hn7 hy7 e0 e1 e2 e3 e4 e5 HDR HDU HWR hlt hjI hlt5 hke
        go_region_law (first
            | (refine step_append_lies _ (by rfl) (Operand.tmp 64) (Operand.tmp 68) 22 (by rfl) W.heap.size 25 _ _ 6 72 Try.underlying22 hNI hzI0 hzI1 hzI2 rfl (by decide) (.slice A j cv) j _ (by simp [go_sem]) (by have := hu8.2.1.alloc (.cells #[.int .i64 3, .slice (some ⟨g, 0, none⟩) 1 1, .int .i64 0, .int .u64 0, .string ⟨#[]⟩, .int .u64 0] 25); rwa [HTL.out] at this) ⟨w8.heap.size, 0, none⟩ 1 1 [.int .i64 3, .slice (some ⟨g, 0, none⟩) 1 1, .int .i64 0, .int .u64 0, .string ⟨#[]⟩, .int .u64 0] (by simp [go_sem]) rfl (World.news_of_block (heap_alloc_new w8 (.cells #[.int .i64 3, .slice (some ⟨g, 0, none⟩) 1 1, .int .i64 0, .int .u64 0, .string ⟨#[]⟩, .int .u64 0] 25))) (by simp [Value.oneCell']) (by omega) (by unfold maxLen; omega) (by omega) (by have := hbb8.size; rw [World.size_alloc]; omega) (w8.heap.size + 1) (World.size_alloc _ _) ?_; intro g2 cap w9 hown9 hgr9 hat9 hlt9; have hd9 := (hgr9.block bd (by rw [World.size_alloc]; have := lt_of_block hd8; omega) (fun e => hu8.2.2.1 e.symm)).trans ((Below.heap_alloc w8 (.cells #[.int .i64 3, .slice (some ⟨g, 0, none⟩) 1 1, .int .i64 0, .int .u64 0, .string ⟨#[]⟩, .int .u64 0] 25) bd (lt_of_block hd8)).trans hd8); have f9 := block_frozen hd9 1; have d9 := below_cell (Below.refl _ _) hd9 1 rfl)
            | (go_simp; go_at_call 19; refine (HNA.out _ ?_).mono ?_; exact HB7.out.drew; rintro e w8 ⟨g, he, hg8, hz8, hb8⟩; unfold notV at he; subst he; have hbx : Below w7.heap.size w7 w8 := (Below.refl _ w7).drew.trans hb8; have hu8 := HU7.out.below hbx; have hd8 := (hbx.block _ (lt_of_block HD7.out)).trans HD7.out; have d8 := below_cell (Below.refl _ _) hd8 1 rfl; have d8a := (World.cell?_of_block (a := ⟨bd, 1, none⟩) (Below.heap_alloc w8 (.cells #[.int .i64 3, .slice (some ⟨g, 0, none⟩) 1 1, .int .i64 0, .int .u64 0, .string ⟨#[]⟩, .int .u64 0] 25) bd (lt_of_block hd8))).trans d8; have hbb8 := HB7.out.trans (hbx.mono HB7.out.size)))
        all_goals
          have hg8' := (Below.heap_alloc w8 (.cells #[.int .i64 3, .slice (some ⟨g, 0, none⟩) 1 1, .int .i64 0, .int .u64 0, .string ⟨#[]⟩, .int .u64 0] 25) g (lt_of_block hg8)).trans hg8
          have hp := Duals.push (x := .slice (some ⟨g2, 0, none⟩) (j + 1) cap) (cap := cap) (g' := g2) (hu8.below ((Below.refl w8.heap.size w8).alloc (Nat.le_refl _) (.cells #[.int .i64 3, .slice (some ⟨g, 0, none⟩) 1 1, .int .i64 0, .int .u64 0, .string ⟨#[]⟩, .int .u64 0] 25))) HKB.out HKK.out hg8' (fun e => by have := (HU7.out.2.1.lt _ e).2; have hz : w7.heap.size ≤ g := hz8; omega) (by have := lt_of_block HD7.out; have : w7.heap.size ≤ g := hz8; omega) (by rw [World.size_alloc]; have := lt_of_block hd8; omega) (by rw [HTL.out]; exact hown9) hgr9 (by rw [World.size_alloc]; exact hat9)
          rw [← HTK.out, HTL.out] at hp
          have hb9 : Below W.heap.size W w9 := by
            refine (hbb8.alloc hbb8.size (.cells #[.int .i64 3, .slice (some ⟨g, 0, none⟩) 1 1, .int .i64 0, .int .u64 0, .string ⟨#[]⟩, .int .u64 0] 25)).grown hgr9 (by rw [World.size_alloc]; have := hbb8.size; omega) fun k hk => (hu8.2.1.lt k hk).1
          have hb10 := hb9.setCell (p := ⟨bd, 1, none⟩) HBD.out (.slice (some ⟨g2, 0, none⟩) (j + 1) cap)
          have hd10 := block_set hd9 1 (.slice (some ⟨g2, 0, none⟩) (j + 1) cap)
          have HP := Lib.hid hp; have HB10 := Lib.hid hb10; have HD10 := Lib.hid hd10
          generalize w9.setCell ⟨bd, 1, none⟩ (.slice (some ⟨g2, 0, none⟩) (j + 1) cap) = w10 at *
          clear hp hb10 hd10 hb9 hg8' hd9 f9 d9 hown9 hgr9 hat9 hlt9 hd8 hu8 d8 d8a hbb8 hbx hg8 hz8
          go_wp2_with fail
          go_roundw
          case rel => exact ⟨j + 1, _, _, by go_num, by have := HLT.out; omega, HD10.out, HP.out, HB10.out⟩
          case measure => have := HLT.out; simp [intOf]; omega
      · obtain rfl : j = kn := by omega
        have htk : c.kids.take j = c.kids := by rw [← HNK.out]; exact List.take_length
        have hdu := HDU.out
        rw [htk] at hdu
        have hDI := fun u (hu : Below wr.heap.size wr u) => mnDoes (dualC c) _ u _ HX.out (dual_is (by rw [hkk]; exact HK1.out) ((hdu.below hu).is (HWR.out.trans (hu.mono HWR.out.size))))
        have hdd := HDUAL.out
        rw [hkk] at hDI
        change ∀ u, Below wr.heap.size wr u → Calls _ _ #[_, .agg #[.int .u32 (nr : Nat), .int .u32 (arch : Nat), .int .u64 (ip : Nat), .int .u64 (a0 : Nat), .int .u64 (a1 : Nat), .int .u64 (a2 : Nat), .int .u64 (a3 : Nat), .int .u64 (a4 : Nat), .int .u64 (a5 : Nat)]] _ (fun e w' => e = .returned (.bool ((dualC c).does [a0, a1, a2, a3, a4, a5])) ∧ _) at hDI
        rw [hdd HK1.out] at hDI
        obtain ⟨A, cv, hvf, hjc, hcv, _⟩ := own_form6 hdu.2.1
        subst hvf
        have hdc : ∀ u, Below W.heap.size W u → True := fun _ _ => trivial
        have HDI := Lib.hid hDI
        have HDR2 := Lib.hid (fun u (hu : Below wr.heap.size wr u) => (hu.block _ (lt_of_block HDR.out)).trans HDR.out)
        clear hDI hdd hdu htk hjc hcv hdc
        go_upto_region 14 with fail
        have hxw := Below.refl wr.heap.size wr
        cases D
        all_goals
          go_region_held3 (fun u => Below wr.heap.size wr u ∧ (u.cell? ⟨w.heap.size, 0, none⟩ = some (.int .i64 kk) ∧ u.cell? ⟨w.heap.size, 1, none⟩ = some (.slice ka j kc) ∧ u.cell? ⟨w.heap.size, 2, none⟩ = some (.int .i64 c.arg) ∧ u.cell? ⟨w.heap.size, 3, none⟩ = some (.int .u64 (c.mask : Nat)) ∧ u.cell? ⟨w.heap.size, 4, none⟩ = some (.string c.sign) ∧ u.cell? ⟨w.heap.size, 5, none⟩ = some (.int .u64 (c.value : Nat)) ∧ u.cell? ⟨w.heap.size + 1, 0, none⟩ = some (.int .u32 (nr : Nat)) ∧ u.cell? ⟨w.heap.size + 1, 1, none⟩ = some (.int .u32 (arch : Nat)) ∧ u.cell? ⟨w.heap.size + 1, 2, none⟩ = some (.int .u64 (ip : Nat)) ∧ u.cell? ⟨w.heap.size + 1, 3, none⟩ = some (.int .u64 (a0 : Nat)) ∧ u.cell? ⟨w.heap.size + 1, 4, none⟩ = some (.int .u64 (a1 : Nat)) ∧ u.cell? ⟨w.heap.size + 1, 5, none⟩ = some (.int .u64 (a2 : Nat)) ∧ u.cell? ⟨w.heap.size + 1, 6, none⟩ = some (.int .u64 (a3 : Nat)) ∧ u.cell? ⟨w.heap.size + 1, 7, none⟩ = some (.int .u64 (a4 : Nat)) ∧ u.cell? ⟨w.heap.size + 1, 8, none⟩ = some (.int .u64 (a5 : Nat))) ∧ (u.cell? ⟨bd, 0, none⟩ = some (.int .i64 (3 - kk)) ∧ u.cell? ⟨bd, 1, none⟩ = some (.slice A c.kids.length cv) ∧ u.cell? ⟨bd, 2, none⟩ = some (.int .i64 0) ∧ u.cell? ⟨bd, 3, none⟩ = some (.int .u64 0) ∧ u.cell? ⟨bd, 4, none⟩ = some (.string ⟨#[]⟩) ∧ u.cell? ⟨bd, 5, none⟩ = some (.int .u64 0)))
            ((refine (fun h => And.intro h (And.intro (HXC.out _ (HWR.out.trans (h.mono HWR.out.size))) (dcell (HDR2.out _ h)))) ?_; first | assumption | exact hxw.drew | exact keepB (by assumption) hbq))
            (first
            | (go_at_call_of 11 (notV g1); refine (HDN.out _ _ (fa _ (Below.refl _ _))).mono ?_; rintro e wq ⟨rfl, hbq⟩)
            | (go_at_call_of 11 A; refine (HDI.out _ (And.left (by assumption))).mono ?_; rintro e wq ⟨rfl, hbq⟩; (try have fa := stepA fa hbq))
            | (go_at_call 19; refine (HN.out _ (HWR.out.trans (Below.mono (And.left (by assumption)) HWR.out.size))).mono ?_; rintro e wq ⟨g1, rfl, hg1, hz1, hbq⟩; have fa := stepN1 HBC.out (HKC.out _ (HWR.out.trans ((keepB (by assumption) hbq).mono HWR.out.size))) hg1)
            | fail)
        all_goals
          have HF := Lib.hid (HBW.out.trans ((HWR.out.trans (Below.mono (And.left (by assumption)) HWR.out.size)).mono HBW.out.size))
          go_wp2_with fail
          go_ret
          exact ⟨rfl, HF.out⟩
  · have e1 : (c.kind != 1) = true := by rw [bne_iff_ne]; omega
    have e2 : (c.kind != 2) = true := by rw [bne_iff_ne]; omega
    clear hk1 HBC HSS HDD HK HRR HDUAL
    generalize c.kind = kk at *
    go_wp2_with fail
    go_ret
    exact ⟨rfl, HBW.out.trans (HX4.out.mono HBW.out.size)⟩
end Go.Proofs.Ytgcngmlndijppaa.lawMeanNots
