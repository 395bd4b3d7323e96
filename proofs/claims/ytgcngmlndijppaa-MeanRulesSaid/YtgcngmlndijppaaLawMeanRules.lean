/- The walk of MeanRules. -/
import Derived.Test.YtgcngmlndijppaaMnRules
import Derived.Test.YtgcngmlndijppaaRef18F
import Derived.Test.YtgcngmlndijppaaMnAlive
import Derived.Deep.RegionHeld3
import Derived.Deep.AppendLies
namespace Go.Proofs.Ytgcngmlndijppaa.lawMeanRules
open Go.RowKit Go.ChangeShapes Go.Deep
set_option linter.unusedVariables false

theorem keepAl {w0 W : World} {R : Prop} (h : Below w0.heap.size w0 W ∧ R) (o : Obj) : Below w0.heap.size w0 (W.alloc o) := h.1.alloc h.1.size o
theorem keepGr {w0 W W' : World} {R : Prop} {row : Option Nat} (h : Below w0.heap.size w0 W ∧ R) (g : W.grownBy W' row) (hr : ∀ k, row = some k → w0.heap.size ≤ k) : Below w0.heap.size w0 W' := h.1.grown g h.1.size hr
theorem keepSt {w0 W : World} {R : Prop} (h : Below w0.heap.size w0 W ∧ R) (p : Addr) (v : Value) (hp : w0.heap.size ≤ p.block) : Below w0.heap.size w0 (W.setCell p v) := h.1.setCell hp v
theorem far {w w' : World} {row : Option Nat} {k : Nat} {o : Obj} (g : w.grownBy w' row) (h : w.heap[k]? = some o) (hr : row ≠ some k) : w'.heap[k]? = some o := (g.block k (lt_of_block h) (fun e => hr e.symm)).trans h
theorem own_formS {w : World} {base e : Nat} {size : Nat} {v : Value} {n : Nat} {xs : List Value} (h : w.ownsRow base e size v n xs) : ∃ A c, v = .slice A n c ∧ n ≤ c := by
  rcases h.2 with ⟨rfl, h0⟩ | ⟨g, cap, cur, rfl, hg, hh, hn, hc, _⟩
  · subst h0; exact ⟨_, _, rfl, by omega⟩
  · exact ⟨_, _, rfl, hn⟩
theorem app_own {w : World} {v v' : Value} {k : Nat} (h : v'.ownBlock = v.ownBlock ∨ v'.ownBlock = some w.heap.size) (hv : v.ownBlock ≠ some k) (hk : k < w.heap.size) : v'.ownBlock ≠ some k := by
  rcases h with h | h
  · rw [h]; exact hv
  · rw [h]; intro e; injection e with e; omega
set_option maxRecDepth 100000 in
set_option maxHeartbeats 8000000 in
theorem walk (v0 : Value) (t : Typ) (v1 : Value) (m : Mtc) (v2 : Value) (x : Cal) (w : World) (w0 : IsTyp w v0 t) (w1 : IsMtc w v1 m) (w2 : IsCal w v2 x) :
    Calls Try.prog 6 #[v0, v1, v2] w fun e w' => e = .returned (.bool true) ∧ Below w.heap.size w w' := by
  obtain ⟨rfl, hx⟩ := w2
  obtain ⟨ht1, ht2, k, rfl, hk⟩ := id w0
  obtain ⟨A, n, c, rfl, hln, _⟩ := id hk
  obtain ⟨hm1, hm2, kks, kk, rfl, hmu, hmk⟩ := id w1
  obtain ⟨ka, kn, kc, rfl, _⟩ := id hmu
  obtain ⟨ca, cn, cc, rfl, _⟩ := id hmk
  obtain ⟨nr, arch, ip, a0, a1, a2, a3, a4, a5, rfl⟩ := Cal.list6 hx
  obtain ⟨W, hW, f0, f1, f2, hBW⟩ := three_at w (.cells #[.int .u32 (t.arch : Nat), .int .u32 (t.dflt : Nat), .slice A n c] 35) (.cells #[.slice ka kn kc, .int .i64 m.cnd.kind, .slice ca cn cc, .int .i64 m.cnd.arg, .int .u64 (m.cnd.mask : Nat), .string m.cnd.sign, .int .u64 (m.cnd.value : Nat), .int .u32 (m.act : Nat)] 46) (callO nr arch ip a0 a1 a2 a3 a4 a5)
  have hknI : (kn : Int) ≤ 9223372036854775807 := by obtain ⟨_, _, _, hv, _, h1, h2, _⟩ := hmu; injection hv with _ q2 q3; subst q2 q3; omega
  have hT := fun u (hu : Below W.heap.size W u) => w0.below (hBW.trans (hu.mono hBW.size))
  have hF := fun u hu => refFew18 t _ u (hT u hu)
  have hE := fun u hu => mnEval t _ u _ hx (hT u hu)
  have hME := fun (vr : Value) u (hu : IsMtcs u vr (t.rules ++ [m])) => mnEval ⟨t.arch, t.dflt, t.rules ++ [m]⟩ (.agg #[.int .u32 (t.arch : Nat), .int .u32 (t.dflt : Nat), vr]) u _ hx ⟨ht1, ht2, vr, rfl, hu⟩
  have hM := fun u (hu : Below W.heap.size W u) => refMany_any m.cnd (.agg #[.int .i64 m.cnd.kind, .slice ca cn cc, .int .i64 m.cnd.arg, .int .u64 (m.cnd.mask : Nat), .string m.cnd.sign, .int .u64 (m.cnd.value : Nat)]) 100 u ⟨hm2, _, rfl, hmk.below (hBW.trans (hu.mono hBW.size))⟩ (by omega) (by omega)
  have hev := eval_more t m ⟨nr, arch, ip, [a0, a1, a2, a3, a4, a5]⟩
  obtain ⟨news, hnl, hn1, hsrc, hat⟩ := mtcs_source hk
  have hmt := fun u (hu : Below W.heap.size W u) j hj => mtcs_at hk (hBW.trans (hu.mono hBW.size)) j hj
  have hf30 : t.few = true → n ≤ 30 := fun h => by unfold Typ.few at h; rw [Bool.and_eq_true, decide_eq_true_eq, hln] at h; exact h.1
  have HA := Lib.hid (fun u => mnAlive u)
  have hcells : ∀ u, Below W.heap.size W u → u.cell? ⟨w.heap.size, 0, none⟩ = some (.int .u32 (t.arch : Nat)) ∧ u.cell? ⟨w.heap.size, 1, none⟩ = some (.int .u32 (t.dflt : Nat)) ∧ u.cell? ⟨w.heap.size, 2, none⟩ = some (.slice A n c) ∧ u.cell? ⟨w.heap.size + 1, 0, none⟩ = some (.slice ka kn kc) ∧ u.cell? ⟨w.heap.size + 1, 1, none⟩ = some (.int .i64 m.cnd.kind) ∧ u.cell? ⟨w.heap.size + 1, 2, none⟩ = some (.slice ca cn cc) ∧ u.cell? ⟨w.heap.size + 1, 3, none⟩ = some (.int .i64 m.cnd.arg) ∧ u.cell? ⟨w.heap.size + 1, 4, none⟩ = some (.int .u64 (m.cnd.mask : Nat)) ∧ u.cell? ⟨w.heap.size + 1, 5, none⟩ = some (.string m.cnd.sign) ∧ u.cell? ⟨w.heap.size + 1, 6, none⟩ = some (.int .u64 (m.cnd.value : Nat)) ∧ u.cell? ⟨w.heap.size + 1, 7, none⟩ = some (.int .u32 (m.act : Nat)) ∧ u.cell? ⟨w.heap.size + 1 + 1, 0, none⟩ = some (.int .u32 (nr : Nat)) ∧ u.cell? ⟨w.heap.size + 1 + 1, 1, none⟩ = some (.int .u32 (arch : Nat)) ∧ u.cell? ⟨w.heap.size + 1 + 1, 2, none⟩ = some (.int .u64 (ip : Nat)) ∧ u.cell? ⟨w.heap.size + 1 + 1, 3, none⟩ = some (.int .u64 (a0 : Nat)) ∧ u.cell? ⟨w.heap.size + 1 + 1, 4, none⟩ = some (.int .u64 (a1 : Nat)) ∧ u.cell? ⟨w.heap.size + 1 + 1, 5, none⟩ = some (.int .u64 (a2 : Nat)) ∧ u.cell? ⟨w.heap.size + 1 + 1, 6, none⟩ = some (.int .u64 (a3 : Nat)) ∧ u.cell? ⟨w.heap.size + 1 + 1, 7, none⟩ = some (.int .u64 (a4 : Nat)) ∧ u.cell? ⟨w.heap.size + 1 + 1, 8, none⟩ = some (.int .u64 (a5 : Nat)) := fun u hu => ⟨below_cell hu f0 0 rfl, below_cell hu f0 1 rfl, below_cell hu f0 2 rfl, below_cell hu f1 0 rfl, below_cell hu f1 1 rfl, below_cell hu f1 2 rfl, below_cell hu f1 3 rfl, below_cell hu f1 4 rfl, below_cell hu f1 5 rfl, below_cell hu f1 6 rfl, below_cell hu f1 7 rfl, below_cell hu f2 0 rfl, below_cell hu f2 1 rfl, below_cell hu f2 2 rfl, below_cell hu f2 3 rfl, below_cell hu f2 4 rfl, below_cell hu f2 5 rfl, below_cell hu f2 6 rfl, below_cell hu f2 7 rfl, below_cell hu f2 8 rfl⟩
  have hcellS : ∀ u, Below W.heap.size W u → u.cell? ⟨w.heap.size, 0, none⟩ = some (.int .u32 (t.arch : Nat)) ∧ u.cell? ⟨w.heap.size, 1, none⟩ = some (.int .u32 (t.dflt : Nat)) ∧ u.cell? ⟨w.heap.size, 2, none⟩ = some (.slice A n c) ∧ u.cell? ⟨w.heap.size + 1, 0, none⟩ = some (.slice ka kn kc) ∧ u.cell? ⟨w.heap.size + 1, 1, none⟩ = some (.int .i64 m.cnd.kind) ∧ u.cell? ⟨w.heap.size + 1, 2, none⟩ = some (.slice ca cn cc) ∧ u.cell? ⟨w.heap.size + 1, 3, none⟩ = some (.int .i64 m.cnd.arg) ∧ u.cell? ⟨w.heap.size + 1, 4, none⟩ = some (.int .u64 (m.cnd.mask : Nat)) ∧ u.cell? ⟨w.heap.size + 1, 5, none⟩ = some (.string m.cnd.sign) ∧ u.cell? ⟨w.heap.size + 1, 6, none⟩ = some (.int .u64 (m.cnd.value : Nat)) ∧ u.cell? ⟨w.heap.size + 1, 7, none⟩ = some (.int .u32 (m.act : Nat)) := fun u hu => ⟨below_cell hu f0 0 rfl, below_cell hu f0 1 rfl, below_cell hu f0 2 rfl, below_cell hu f1 0 rfl, below_cell hu f1 1 rfl, below_cell hu f1 2 rfl, below_cell hu f1 3 rfl, below_cell hu f1 4 rfl, below_cell hu f1 5 rfl, below_cell hu f1 6 rfl, below_cell hu f1 7 rfl⟩
  change ∀ u, _ → Calls _ _ #[.agg #[.int .u32 (t.arch : Nat), .int .u32 (t.dflt : Nat), .slice A n c], .agg #[.int .u32 (nr : Nat), .int .u32 (arch : Nat), .int .u64 (ip : Nat), .int .u64 (a0 : Nat), .int .u64 (a1 : Nat), .int .u64 (a2 : Nat), .int .u64 (a3 : Nat), .int .u64 (a4 : Nat), .int .u64 (a5 : Nat)]] _ _ at hE
  change ∀ vr u, _ → Calls _ _ #[_, .agg #[.int .u32 (nr : Nat), .int .u32 (arch : Nat), .int .u64 (ip : Nat), .int .u64 (a0 : Nat), .int .u64 (a1 : Nat), .int .u64 (a2 : Nat), .int .u64 (a3 : Nat), .int .u64 (a4 : Nat), .int .u64 (a5 : Nat)]] _ _ at hME
  show Calls _ _ #[.agg #[.int .u32 (t.arch : Nat), .int .u32 (t.dflt : Nat), .slice A n c], .agg #[.slice ka kn kc, .int .i64 m.cnd.kind, .slice ca cn cc, .int .i64 m.cnd.arg, .int .u64 (m.cnd.mask : Nat), .string m.cnd.sign, .int .u64 (m.cnd.value : Nat), .int .u32 (m.act : Nat)], .agg #[.int .u32 (nr : Nat), .int .u32 (arch : Nat), .int .u64 (ip : Nat), .int .u64 (a0 : Nat), .int .u64 (a1 : Nat), .int .u64 (a2 : Nat), .int .u64 (a3 : Nat), .int .u64 (a4 : Nat), .int .u64 (a5 : Nat)]] _ _
  dsimp only at hev
  unfold callO at hW f2
  generalize t.eval _ = E at *
  generalize Typ.eval (⟨t.arch, t.dflt, t.rules ++ [m]⟩ : Typ) _ = E2 at *
  generalize hFF : t.few = F at *
  have HXC := Lib.hid hcells; have HXS := Lib.hid hcellS; have HF := Lib.hid hF; have HE := Lib.hid hE; have HME := Lib.hid hME; have HM := Lib.hid hM; have HEV := Lib.hid hev; have HBW := Lib.hid hBW; have HNL := Lib.hid hnl; have HN1 := Lib.hid hn1; have HMT := Lib.hid hmt; have HF30 := Lib.hid hf30; have HLN := Lib.hid hln
  have HMORE := Lib.hid (fun u base v (hu : Below W.heap.size W u) (ho : u.ownsRow base 46 8 v (n + 1) (news ++ mtcRow (.slice ka kn kc) (.slice ca cn cc) m)) => mtcs_more hln (hBW.trans (hu.mono hBW.size)) hnl hat hm1 hm2 hmu hmk ho)
  have HSR := Lib.hid (fun u (hu : Below W.heap.size W u) => (show (A = none ∧ n = 0 ∧ c = 0 ∧ news = []) ∨ ∃ ad, A = some ad ∧ ∀ j x, news[j]? = some x → u.cell? (ad.add j) = some x from hsrc.imp id (fun ⟨ad, e, h⟩ => ⟨ad, e, h u (hBW.trans (hu.mono hBW.size))⟩)))
  have hbW := Below.refl W.heap.size W
  obtain ⟨g0, g1, g2, g3, g4, g5, g6, g7, g8, g9, g10, g11, g12, g13, g14, g15, g16, g17, g18, g19⟩ := hcells W hbW
  have HB1 := Lib.hid hbW
  clear hcells hcellS hF hE hME hM hev hBW hnl hn1 hmt hf30 hsrc hat hT hk hx f0 f1 f2 w0 w1 ht1 ht2 hm1 hm2 hmu hmk hFF hln
  go_enter Try.func6, Try.ntmps6
  go_upto_region 1 with fail
  rw [← hW]
  clear hW
  go_wp2_with fail
  refine (HF.out _ hbW).mono ?_
  rintro e w2 ⟨rfl, hb2⟩
  clear g0 g1 g2 g3 g4 g5 g6 g7 g8 g9 g10 g11 g12 g13 g14 g15 g16 g17 g18 g19 hbW
  have HXP := Lib.hid hb2
  clear hb2
  cases F
  · go_wp2_with fail
    refine (HA.out _).mono ?_
    rintro e wz ⟨rfl, hbz⟩
    have HXZ := Lib.hid (HBW.out.trans ((HXP.out.trans (hbz.mono HXP.out.size)).mono HBW.out.size))
    clear hbz
    go_wp2_with fail
    go_ret
    exact ⟨rfl, HXZ.out⟩
  have hn30 := HF30.out rfl
  have HN30 := Lib.hid hn30
  clear hn30 HF30 HF
  obtain ⟨g0, g1, g2, g3, g4, g5, g6, g7, g8, g9, g10, g11, g12, g13, g14, g15, g16, g17, g18, g19⟩ := HXC.out w2 HXP.out
  by_cases h60 : 60 < kn
  · have h60I : (60 : Int) < kn := by omega
    clear h60
    go_wp2_with fail
    refine (HA.out _).mono ?_
    rintro e wz ⟨rfl, hbz⟩
    have HXZ := Lib.hid (HBW.out.trans ((HXP.out.trans (hbz.mono HXP.out.size)).mono HBW.out.size))
    clear hbz
    go_wp2_with fail
    go_ret
    exact ⟨rfl, HXZ.out⟩
  have h60I : ¬ (60 : Int) < kn := by omega
  clear h60
  go_wp2_with fail
  refine (HM.out _ HXP.out).mono ?_
  rintro e w3 ⟨rfl, hb3⟩
  clear g0 g1 g2 g3 g4 g5 g6 g7 g8 g9 g10 g11 g12 g13 g14 g15 g16 g17 g18 g19
  have HX3 := Lib.hid (HXP.out.trans (hb3.mono HXP.out.size))
  clear hb3 HM HXP
  have HXP := HX3
  obtain ⟨S, hS⟩ : ∃ S, m.cnd.size = S := ⟨_, rfl⟩
  rw [hS]
  clear hS
  by_cases hs : 100 < S
  · have hmin : (100 : Int) < ((min S (100 + 1) : Nat) : Int) := by omega
    clear hs
    generalize min S (100 + 1) = M at *
    go_wp2_with fail
    refine (HA.out _).mono ?_
    rintro e wz ⟨rfl, hbz⟩
    have HXZ := Lib.hid (HBW.out.trans ((HXP.out.trans (hbz.mono HXP.out.size)).mono HBW.out.size))
    clear hbz
    go_wp2_with fail
    go_ret
    exact ⟨rfl, HXZ.out⟩
  have hmin : ¬ (100 : Int) < ((min S (100 + 1) : Nat) : Int) := by omega
  clear hs
  generalize min S (100 + 1) = M at *
  obtain ⟨g0, g1, g2, g3, g4, g5, g6, g7, g8, g9, g10, g11, g12, g13, g14, g15, g16, g17, g18, g19⟩ := HXC.out w3 HX3.out
  go_wp2_with fail
  refine (HE.out _ HX3.out).mono ?_
  rintro e w4 ⟨rfl, hb4⟩
  clear g0 g1 g2 g3 g4 g5 g6 g7 g8 g9 g10 g11 g12 g13 g14 g15 g16 g17 g18 g19 hmin h60I
  have HX4 := Lib.hid (HX3.out.trans (hb4.mono HX3.out.size))
  clear hb4 HE HX3 HXP
  obtain ⟨g0, g1, g2, g3, g4, g5, g6, g7, g8, g9, g10, g11, g12, g13, g14, g15, g16, g17, g18, g19⟩ := HXC.out w4 HX4.out
  go_upto_region 5 with fail
  clear g0 g1 g2 g3 g4 g5 g6 g7 g8 g9 g10 g11 g12 g13 g14 g15 g16 g17 g18 g19
  have hn5 := heap_alloc_new w4 (.cells #[.int .u32 (t.arch : Nat), .int .u32 (t.dflt : Nat), .slice A n c] 35)
  have hy5 := (Below.refl w4.heap.size w4).alloc (Nat.le_refl _) (.cells #[.int .u32 (t.arch : Nat), .int .u32 (t.dflt : Nat), .slice A n c] 35)
  have hs5 : w4.heap.size + 1 = (w4.alloc (.cells #[.int .u32 (t.arch : Nat), .int .u32 (t.dflt : Nat), .slice A n c] 35)).heap.size := (World.size_alloc _ _).symm
  generalize w4.alloc (.cells #[.int .u32 (t.arch : Nat), .int .u32 (t.dflt : Nat), .slice A n c] 35) = w5 at *
  obtain ⟨iI, hIi, hIz, hIs, hIb⟩ := infoMtcB
  have HIB := Lib.hid (show n ≤ 30 ∧ iI.bytes ≤ 1000 from ⟨HN30.out, hIb⟩)
  have hlt5 := lt_of_block hn5
  have Z1 : Hid ((w5.alloc (.cells #[] 46)).heap.size = w5.heap.size + 1) := Lib.hid (World.size_alloc _ _)
  have Z4 : Hid ((w5.alloc (.cells #[.slice ka kn kc, .int .i64 m.cnd.kind, .slice ca cn cc, .int .i64 m.cnd.arg, .int .u64 (m.cnd.mask : Nat), .string m.cnd.sign, .int .u64 (m.cnd.value : Nat), .int .u32 (m.act : Nat)] 46)).heap.size = w5.heap.size + 1) := Lib.hid (World.size_alloc _ _)
  have Z2 : Hid (((w5.alloc (.cells #[] 46)).alloc (.cells #[.slice ka kn kc, .int .i64 m.cnd.kind, .slice ca cn cc, .int .i64 m.cnd.arg, .int .u64 (m.cnd.mask : Nat), .string m.cnd.sign, .int .u64 (m.cnd.value : Nat), .int .u32 (m.act : Nat)] 46)).heap.size = w5.heap.size + 2) := Lib.hid (by rw [World.size_alloc, World.size_alloc])
  have Z3 : Hid (((w5.alloc (.cells #[.slice ka kn kc, .int .i64 m.cnd.kind, .slice ca cn cc, .int .i64 m.cnd.arg, .int .u64 (m.cnd.mask : Nat), .string m.cnd.sign, .int .u64 (m.cnd.value : Nat), .int .u32 (m.act : Nat)] 46)).alloc (.cells #[] 46)).heap.size = w5.heap.size + 2) := Lib.hid (by rw [World.size_alloc, World.size_alloc])
  have O1 := Lib.hid (World.ownsRow_made (base := w5.heap.size) (e := 46) (size := 8) w5 #[] 0 (Nat.le_refl _) (by unfold maxLen; omega) rfl)
  have O2 := Lib.hid (World.ownsRow.alloc O1.out (.cells #[.slice ka kn kc, .int .i64 m.cnd.kind, .slice ca cn cc, .int .i64 m.cnd.arg, .int .u64 (m.cnd.mask : Nat), .string m.cnd.sign, .int .u64 (m.cnd.value : Nat), .int .u32 (m.act : Nat)] 46))
  have o3 := World.ownsRow_made (base := w5.heap.size) (e := 46) (size := 8) (w5.alloc (.cells #[.slice ka kn kc, .int .i64 m.cnd.kind, .slice ca cn cc, .int .i64 m.cnd.arg, .int .u64 (m.cnd.mask : Nat), .string m.cnd.sign, .int .u64 (m.cnd.value : Nat), .int .u32 (m.act : Nat)] 46)) #[] 0 (by have := Z4.out; omega) (by unfold maxLen; omega) rfl
  rw [World.size_alloc] at o3
  have O3 := Lib.hid o3
  have b1 := (heap_alloc_old w5 (.cells #[] 46) hlt5).trans hn5
  have B1 := Lib.hid b1
  have B2 := Lib.hid ((heap_alloc_old (w5.alloc (.cells #[] 46)) (.cells #[.slice ka kn kc, .int .i64 m.cnd.kind, .slice ca cn cc, .int .i64 m.cnd.arg, .int .u64 (m.cnd.mask : Nat), .string m.cnd.sign, .int .u64 (m.cnd.value : Nat), .int .u32 (m.act : Nat)] 46) (lt_of_block b1)).trans b1)
  have b3 := (heap_alloc_old w5 (.cells #[.slice ka kn kc, .int .i64 m.cnd.kind, .slice ca cn cc, .int .i64 m.cnd.arg, .int .u64 (m.cnd.mask : Nat), .string m.cnd.sign, .int .u64 (m.cnd.value : Nat), .int .u32 (m.act : Nat)] 46) hlt5).trans hn5
  have B3 := Lib.hid ((heap_alloc_old (w5.alloc (.cells #[.slice ka kn kc, .int .i64 m.cnd.kind, .slice ca cn cc, .int .i64 m.cnd.arg, .int .u64 (m.cnd.mask : Nat), .string m.cnd.sign, .int .u64 (m.cnd.value : Nat), .int .u32 (m.act : Nat)] 46)) (.cells #[] 46) (lt_of_block b3)).trans b3)
  have mb2 := heap_alloc_new (w5.alloc (.cells #[] 46)) (.cells #[.slice ka kn kc, .int .i64 m.cnd.kind, .slice ca cn cc, .int .i64 m.cnd.arg, .int .u64 (m.cnd.mask : Nat), .string m.cnd.sign, .int .u64 (m.cnd.value : Nat), .int .u32 (m.act : Nat)] 46)
  rw [World.size_alloc] at mb2
  have M2 := Lib.hid mb2
  have M3 := Lib.hid ((heap_alloc_old (w5.alloc (.cells #[.slice ka kn kc, .int .i64 m.cnd.kind, .slice ca cn cc, .int .i64 m.cnd.arg, .int .u64 (m.cnd.mask : Nat), .string m.cnd.sign, .int .u64 (m.cnd.value : Nat), .int .u32 (m.act : Nat)] 46)) (.cells #[] 46) (by have := Z4.out; omega)).trans (heap_alloc_new w5 (.cells #[.slice ka kn kc, .int .i64 m.cnd.kind, .slice ca cn cc, .int .i64 m.cnd.arg, .int .u64 (m.cnd.mask : Nat), .string m.cnd.sign, .int .u64 (m.cnd.value : Nat), .int .u32 (m.act : Nat)] 46)))
  have HSRC := Lib.hid (fun u (R : Prop) (hu : Below w4.heap.size w4 u ∧ R) => HSR.out u (HX4.out.trans (hu.1.mono HX4.out.size)))
  have HY5 := Lib.hid hy5; have HS5 := Lib.hid hs5
  have hw45 : w4.heap.size < w5.heap.size := by omega
  have hrow1 : Hid (∀ x ∈ mtcRow (.slice ka kn kc) (.slice ca cn cc) m, x.oneCell' = true) := Lib.hid (fun x hx => by
    simp only [mtcRow, List.mem_cons, List.not_mem_nil, or_false] at hx
    rcases hx with rfl | rfl | rfl | rfl | rfl | rfl | rfl | rfl <;> rfl)
  clear o3 b1 b3 mb2 hIb hlt5 hn5 hy5 hs5
  go_cut [] (fun wx => ∃ A3 c3, wx.heap[w4.heap.size]? = some (.cells #[.int .u32 (t.arch : Nat), .int .u32 (t.dflt : Nat), .slice A3 (n + 1) c3] 35 (0, 0)) ∧ IsMtcs wx (.slice A3 (n + 1) c3) (t.rules ++ [m]) ∧ Below w4.heap.size w4 wx)
  case first =>
    go_region_held3 (fun u => Below w4.heap.size w4 u ∧ u.cell? ⟨w.heap.size, 0, none⟩ = some (.int .u32 (t.arch : Nat)) ∧ u.cell? ⟨w.heap.size, 1, none⟩ = some (.int .u32 (t.dflt : Nat)) ∧ u.cell? ⟨w.heap.size, 2, none⟩ = some (.slice A n c) ∧ u.cell? ⟨w.heap.size + 1, 0, none⟩ = some (.slice ka kn kc) ∧ u.cell? ⟨w.heap.size + 1, 1, none⟩ = some (.int .i64 m.cnd.kind) ∧ u.cell? ⟨w.heap.size + 1, 2, none⟩ = some (.slice ca cn cc) ∧ u.cell? ⟨w.heap.size + 1, 3, none⟩ = some (.int .i64 m.cnd.arg) ∧ u.cell? ⟨w.heap.size + 1, 4, none⟩ = some (.int .u64 (m.cnd.mask : Nat)) ∧ u.cell? ⟨w.heap.size + 1, 5, none⟩ = some (.string m.cnd.sign) ∧ u.cell? ⟨w.heap.size + 1, 6, none⟩ = some (.int .u64 (m.cnd.value : Nat)) ∧ u.cell? ⟨w.heap.size + 1, 7, none⟩ = some (.int .u32 (m.act : Nat)))
      ((refine (fun h => And.intro h (HXS.out _ (HX4.out.trans (h.mono HX4.out.size)))) ?_; first | assumption | exact HY5.out.drew | exact keepAl (by assumption) _ | exact keepSt (by assumption) _ _ (Nat.le_refl _)))
      (first
      | (refine step_append_at (by rfl) (Operand.tmp 33) (Operand.tmp 35) 33 (by rfl) w5.heap.size 46 Try.underlying33 hIi hIz hIs rfl rfl (by decide) (.slice (some ⟨w5.heap.size, 0, none⟩) 0 0) 0 [] (by simp [go_sem]) (by first | exact O1.out | exact O2.out) A n c news (by simp [go_sem]) HNL.out (HSRC.out _ _ (by assumption)) HN1.out (by have := HN30.out; unfold maxLen; omega) (by have := HIB.out; rw [Nat.zero_add]; exact Nat.le_trans (Nat.mul_le_mul this.1 this.2) (by decide)) (by first | (show w5.heap.size ≤ (w5.alloc (.cells #[] 46)).heap.size; have := Z1.out; omega) | (show w5.heap.size ≤ ((w5.alloc (.cells #[] 46)).alloc (.cells #[.slice ka kn kc, .int .i64 m.cnd.kind, .slice ca cn cc, .int .i64 m.cnd.arg, .int .u64 (m.cnd.mask : Nat), .string m.cnd.sign, .int .u64 (m.cnd.value : Nat), .int .u32 (m.act : Nat)] 46)).heap.size; have := Z2.out; omega)) ?_; intro v1 w6 own1 gr1 at1; rw [Nat.zero_add, List.nil_append] at own1; have hq6 := keepGr (by assumption) gr1 (fun k hk => by have e : w5.heap.size = k := (by simpa [Value.ownBlock] using hk); omega); have hbm6 := far gr1 (by first | exact B1.out | exact B2.out) (by simp [Value.ownBlock]; omega); have hne6 : v1.ownBlock ≠ some w4.heap.size := app_own at1 (by simp [Value.ownBlock]; omega) (by first | exact lt_of_block B1.out | exact lt_of_block B2.out); have hz6 : w5.heap.size ≤ w6.heap.size := (by have h6 := gr1.size; first | (have h7 : (w5.alloc (.cells #[] 46)).heap.size ≤ w6.heap.size := h6; have := Z1.out; omega) | (have h7 : ((w5.alloc (.cells #[] 46)).alloc (.cells #[.slice ka kn kc, .int .i64 m.cnd.kind, .slice ca cn cc, .int .i64 m.cnd.arg, .int .u64 (m.cnd.mask : Nat), .string m.cnd.sign, .int .u64 (m.cnd.value : Nat), .int .u32 (m.act : Nat)] 46)).heap.size ≤ w6.heap.size := h6; have := Z2.out; omega)); (try have hmm6 := far gr1 M2.out (by simp [Value.ownBlock])))
      | (refine step_append_at (by rfl) (Operand.tmp 33) (Operand.tmp 35) 33 (by rfl) w5.heap.size 46 Try.underlying33 hIi hIz hIs rfl rfl (by decide) (.slice (some ⟨w5.heap.size + 1, 0, none⟩) 0 0) 0 [] (by simp [go_sem]) (by exact O3.out) A n c news (by simp [go_sem]) HNL.out (HSRC.out _ _ (by assumption)) HN1.out (by have := HN30.out; unfold maxLen; omega) (by have := HIB.out; rw [Nat.zero_add]; exact Nat.le_trans (Nat.mul_le_mul this.1 this.2) (by decide)) (by show w5.heap.size ≤ ((w5.alloc (.cells #[.slice ka kn kc, .int .i64 m.cnd.kind, .slice ca cn cc, .int .i64 m.cnd.arg, .int .u64 (m.cnd.mask : Nat), .string m.cnd.sign, .int .u64 (m.cnd.value : Nat), .int .u32 (m.act : Nat)] 46)).alloc (.cells #[] 46)).heap.size; have := Z3.out; omega) ?_; intro v1 w6 own1 gr1 at1; rw [Nat.zero_add, List.nil_append] at own1; have hq6 := keepGr (by assumption) gr1 (fun k hk => by have e : w5.heap.size + 1 = k := (by simpa [Value.ownBlock] using hk); omega); have hbm6 := far gr1 (by exact B3.out) (by simp [Value.ownBlock]; omega); have hne6 : v1.ownBlock ≠ some w4.heap.size := app_own at1 (by simp [Value.ownBlock]; omega) (by exact lt_of_block B3.out); have hmm6 := far gr1 M3.out (by simp [Value.ownBlock]))
      | (refine step_append_at (by rfl) (Operand.tmp 36) (Operand.tmp 38) 33 (by rfl) w5.heap.size 46 Try.underlying33 hIi hIz hIs rfl rfl (by decide) v1 n news (by simp [go_sem]) (by exact World.ownsRow.alloc own1 (.cells #[.slice ka kn kc, .int .i64 m.cnd.kind, .slice ca cn cc, .int .i64 m.cnd.arg, .int .u64 (m.cnd.mask : Nat), .string m.cnd.sign, .int .u64 (m.cnd.value : Nat), .int .u32 (m.act : Nat)] 46)) (some ⟨w6.heap.size, 0, none⟩) 1 1 (mtcRow (.slice ka kn kc) (.slice ca cn cc) m) (by simp [go_sem]) rfl (.inr ⟨_, rfl, World.news_of_block (heap_alloc_new w6 (.cells #[.slice ka kn kc, .int .i64 m.cnd.kind, .slice ca cn cc, .int .i64 m.cnd.arg, .int .u64 (m.cnd.mask : Nat), .string m.cnd.sign, .int .u64 (m.cnd.value : Nat), .int .u32 (m.act : Nat)] 46))⟩) hrow1.out (by have := HN30.out; unfold maxLen; omega) (by have := HIB.out; exact Nat.le_trans (Nat.mul_le_mul (Nat.succ_le_succ this.1) this.2) (by decide)) (by rw [World.size_alloc]; exact Nat.le_succ_of_le hz6) ?_; intro v3 w7 own3 gr2 at2; have hq7 := keepGr (by assumption) gr2 (fun k hk => by have := (own1.lt k hk).1; omega); have hbm7 := far gr2 ((heap_alloc_old w6 (.cells #[.slice ka kn kc, .int .i64 m.cnd.kind, .slice ca cn cc, .int .i64 m.cnd.arg, .int .u64 (m.cnd.mask : Nat), .string m.cnd.sign, .int .u64 (m.cnd.value : Nat), .int .u32 (m.act : Nat)] 46) (lt_of_block hbm6)).trans hbm6) hne6; have hne7 : v3.ownBlock ≠ some w4.heap.size := app_own at2 hne6 (lt_of_block ((heap_alloc_old w6 (.cells #[.slice ka kn kc, .int .i64 m.cnd.kind, .slice ca cn cc, .int .i64 m.cnd.arg, .int .u64 (m.cnd.mask : Nat), .string m.cnd.sign, .int .u64 (m.cnd.value : Nat), .int .u32 (m.act : Nat)] 46) (lt_of_block hbm6)).trans hbm6)); obtain ⟨A3, c3, e3, _⟩ := own_formS own3; subst e3; have f7 := block_frozen hbm7 2; have d7 := below_cell (Below.refl _ _) hbm7 2 rfl)
      | (refine step_append_at (by rfl) (Operand.tmp 36) (Operand.tmp 38) 33 (by rfl) w5.heap.size 46 Try.underlying33 hIi hIz hIs rfl rfl (by decide) v1 n news (by simp [go_sem]) own1 (some ⟨_, 0, none⟩) 1 1 (mtcRow (.slice ka kn kc) (.slice ca cn cc) m) (by simp [go_sem]) rfl (.inr ⟨_, rfl, World.news_of_block hmm6⟩) hrow1.out (by have := HN30.out; unfold maxLen; omega) (by have := HIB.out; exact Nat.le_trans (Nat.mul_le_mul (Nat.succ_le_succ this.1) this.2) (by decide)) (by have := lt_of_block hmm6; omega) ?_; intro v3 w7 own3 gr2 at2; have hq7 := keepGr (by assumption) gr2 (fun k hk => by have := (own1.lt k hk).1; omega); have hbm7 := far gr2 hbm6 hne6; have hne7 : v3.ownBlock ≠ some w4.heap.size := app_own at2 hne6 (lt_of_block hbm6); obtain ⟨A3, c3, e3, _⟩ := own_formS own3; subst e3; have f7 := block_frozen hbm7 2; have d7 := below_cell (Below.refl _ _) hbm7 2 rfl)
      | fail)
    all_goals
      go_wp2_with fail
      go_meet
      have hbs := Below.setCell (p := ⟨w4.heap.size, 2, none⟩) hq7 (Nat.le_refl _) (.slice A3 (n + 1) c3)
      exact ⟨A3, c3, block_set hbm7 2 _, HMORE.out _ _ _ (HX4.out.trans (hbs.mono HX4.out.size)) (own_put own3 hne7 _ _), hbs⟩
  case rest =>
  obtain ⟨A3, c3, hb3, hms, hb6⟩ := hcut
  have HX6 := Lib.hid (HX4.out.trans (hb6.mono HX4.out.size))
  have hcall := HME.out _ _ hms
  have HCALL := Lib.hid hcall
  have d0 := below_cell (Below.refl _ _) hb3 0 rfl
  have d1 := below_cell (Below.refl _ _) hb3 1 rfl
  have d2 := below_cell (Below.refl _ _) hb3 2 rfl
  clear hb3 hms hb6 hcall HME O1 O2 O3 B1 B2 B3 M2 M3 Z1 Z2 Z3 Z4 HSRC HSR HY5 HS5 hw45 hrow1 HIB HMORE HNL HN1 hIi hIz hIs
  generalize w4.heap.size = bm at *
  obtain ⟨g0, g1, g2, g3, g4, g5, g6, g7, g8, g9, g10, g11, g12, g13, g14, g15, g16, g17, g18, g19⟩ := HXC.out _ HX6.out
  go_wp2_with fail
  refine HCALL.out.mono ?_
  rintro e w7 ⟨rfl, hb7⟩
  clear g0 g1 g2 g3 g4 g5 g6 g7 g8 g9 g10 g11 g12 g13 g14 g15 g16 g17 g18 g19 d0 d1 d2
  have HX7 := Lib.hid (HX6.out.trans (hb7.mono HX6.out.size))
  clear hb7 HX6 HCALL HX4
  obtain ⟨g0, g1, g2, g3, g4, g5, g6, g7, g8, g9, g10, g11, g12, g13, g14, g15, g16, g17, g18, g19⟩ := HXC.out _ HX7.out
  go_upto_region 7 with fail
  go_cut [10] (fun okv wx => ∃ q : Bool, okv = .bool q ∧ (q = true ∨ ∃ j, 0 ≤ j ∧ j < n ∧ (t.rules.getD j mtcZ).act = E) ∧ Below W.heap.size W wx)
  case first =>
    by_cases h1 : E = t.dflt
    · have e1 : ((E : Int) == ((t.dflt : Nat) : Int)) = true := by rw [beq_iff_eq, h1]
      clear h1
      go_wp2_with fail
      go_meet
      exact ⟨true, rfl, .inl rfl, HX7.out⟩
    · have e1 : ((E : Int) == ((t.dflt : Nat) : Int)) = false := by rw [beq_eq_false_iff_ne]; omega
      have hev := HEV.out.2.resolve_left h1
      by_cases h2 : arch = t.arch
      · have e2 : ((arch : Int) != ((t.arch : Nat) : Int)) = false := by rw [bne_eq_false_iff_eq, h2]
        have hj : ∃ j, 0 ≤ j ∧ j < n ∧ (t.rules.getD j mtcZ).act = E := by
          rcases hev with ⟨h, _⟩ | ⟨j, hj, e⟩
          · exact absurd h2 h
          · exact ⟨j, Nat.zero_le _, by rw [← HLN.out]; exact hj, e⟩
        have HJ := Lib.hid hj
        clear h1 h2 hev hj
        go_wp2_with fail
        go_meet
        exact ⟨false, rfl, .inr HJ.out, HX7.out⟩
      · have e2 : ((arch : Int) != ((t.arch : Nat) : Int)) = true := by rw [bne_iff_ne]; omega
        by_cases h3 : E = 2147483648
        · have e3 : ((E : Int) == 2147483648) = true := by rw [beq_iff_eq]; omega
          clear h1 h2 h3 hev
          go_wp2_with fail
          go_meet
          exact ⟨true, rfl, .inl rfl, HX7.out⟩
        · have e3 : ((E : Int) == 2147483648) = false := by rw [beq_eq_false_iff_ne]; omega
          have hj : ∃ j, 0 ≤ j ∧ j < n ∧ (t.rules.getD j mtcZ).act = E := by
            rcases hev with ⟨_, h⟩ | ⟨j, hj, e⟩
            · exact absurd h h3
            · exact ⟨j, Nat.zero_le _, by rw [← HLN.out]; exact hj, e⟩
          have HJ := Lib.hid hj
          clear h1 h2 h3 hev hj
          go_wp2_with fail
          go_meet
          exact ⟨false, rfl, .inr HJ.out, HX7.out⟩
  case rest =>
  obtain ⟨q0, rfl, hq0, hb8⟩ := hcut
  have HQ0 := Lib.hid hq0; have HX8 := Lib.hid hb8
  clear g0 g1 g2 g3 g4 g5 g6 g7 g8 g9 g10 g11 g12 g13 g14 g15 g16 g17 g18 g19 hq0 hb8 HX7
  obtain ⟨g0, g1, g2, g3, g4, g5, g6, g7, g8, g9, g10, g11, g12, g13, g14, g15, g16, g17, g18, g19⟩ := HXC.out _ HX8.out
  have hnI : (n : Int) ≤ 30 := by have := HN30.out; omega
  go_upto_region 9 with fail
  clear g0 g1 g2 g3 g4 g5 g6 g7 g8 g9 g10 g11 g12 g13 g14 g15 g16 g17 g18 g19
  go_loopw [62, 10] (fun z okv wr => ∃ (j : Nat) (q : Bool), z = .int .i64 (j : Nat) ∧ okv = .bool q ∧ j ≤ n ∧ (q = true ∨ ∃ i, j ≤ i ∧ i < n ∧ (t.rules.getD i mtcZ).act = E) ∧ Below W.heap.size W wr) (fun z _ _ => n - (intOf z).toNat)
  case atStart => exact ⟨0, q0, rfl, rfl, by omega, HQ0.out, HX8.out⟩
  case round =>
    obtain ⟨j, q, rfl, rfl, hj, hq, hwr⟩ := hrel
    have HQ := Lib.hid hq; have HWR := Lib.hid hwr
    clear hq hwr HQ0 HX8
    by_cases hlt : j < n
    · obtain ⟨b, off, rfl, hat⟩ := HMT.out wr HWR.out j hlt
      have hnext : (t.rules.getD j mtcZ).act ≠ E → q = false → ∃ i, j + 1 ≤ i ∧ i < n ∧ (t.rules.getD i mtcZ).act = E := fun h hqf => by
        obtain ⟨i, h1, h2, h3⟩ := HQ.out.resolve_left (by rw [hqf]; decide)
        refine ⟨i, ?_, h2, h3⟩
        rcases Nat.lt_or_ge j i with h4 | h4
        · exact h4
        · obtain rfl : i = j := by omega
          exact absurd h3 h
      obtain ⟨_, _, ra, rn, rc, qa, qn, qc, _, _, e0, e1, e2, e3, e4, e5, e6, e7⟩ := hat.cell
      have hjI : (j : Int) < n := by omega
      obtain ⟨ACT, hACT⟩ : ∃ x, (t.rules.getD j mtcZ).act = x := ⟨_, rfl⟩
      rw [hACT] at e7 hnext
      generalize (t.rules.getD j mtcZ).cnd = cd at *
      obtain ⟨kind2, kids2, arg2, mask2, sign2, value2⟩ := cd
      simp only [Cnd.kind, Cnd.arg, Cnd.mask, Cnd.sign, Cnd.value] at e1 e3 e4 e5 e6
      have HNX := Lib.hid hnext; have HLT := Lib.hid hlt
      clear hat hACT hnext hlt
      go_upto_region 11 with fail
      have hn9 := heap_alloc_new wr (.cells #[.slice ra rn rc, .int .i64 kind2, .slice qa qn qc, .int .i64 arg2, .int .u64 (mask2 : Nat), .string sign2, .int .u64 (value2 : Nat), .int .u32 (ACT : Nat)] 46)
      have hy9 := (Below.refl wr.heap.size wr).alloc (Nat.le_refl _) (.cells #[.slice ra rn rc, .int .i64 kind2, .slice qa qn qc, .int .i64 arg2, .int .u64 (mask2 : Nat), .string sign2, .int .u64 (value2 : Nat), .int .u32 (ACT : Nat)] 46)
      generalize wr.alloc (.cells #[.slice ra rn rc, .int .i64 kind2, .slice qa qn qc, .int .i64 arg2, .int .u64 (mask2 : Nat), .string sign2, .int .u64 (value2 : Nat), .int .u32 (ACT : Nat)] 46) = w9 at *
      have HX9 := Lib.hid (HWR.out.trans (hy9.mono HWR.out.size))
      generalize wr.heap.size = b9 at *
      have y7 := below_cell (Below.refl _ _) hn9 7 rfl
      clear hn9 hy9 e0 e1 e2 e3 e4 e5 e6 e7
      cases q
      · by_cases ha : ACT = E
        · have e1 : ((ACT : Int) == (E : Nat)) = true := by rw [beq_iff_eq, ha]
          clear ha
          go_wp2_with fail
          go_roundw
          case rel => exact ⟨j + 1, true, by go_num, rfl, by have := HLT.out; omega, .inl rfl, HX9.out⟩
          case measure => have := HLT.out; simp [intOf]; omega
        · have e1 : ((ACT : Int) == (E : Nat)) = false := by rw [beq_eq_false_iff_ne]; omega
          have hn2 := HNX.out ha rfl
          have HN2 := Lib.hid hn2
          clear ha hn2
          go_wp2_with fail
          go_roundw
          case rel => exact ⟨j + 1, false, by go_num, rfl, by have := HLT.out; omega, .inr HN2.out, HX9.out⟩
          case measure => have := HLT.out; simp [intOf]; omega
      · go_wp2_with fail
        go_roundw
        case rel => exact ⟨j + 1, true, by go_num, rfl, by have := HLT.out; omega, .inl (by first | trivial | rfl), HX9.out⟩
        case measure => have := HLT.out; simp [intOf]; omega
    · obtain rfl : j = n := by omega
      have hqt : q = true := by
        rcases HQ.out with h | ⟨i, h1, h2, _⟩
        · exact h
        · omega
      subst hqt
      clear HMT HQ
      go_wp2_with fail
      refine (HA.out _).mono ?_
      rintro e w9 ⟨rfl, hb9⟩
      have HX9 := Lib.hid (HWR.out.trans (hb9.mono HWR.out.size))
      clear hb9
      obtain ⟨g0, g1, g2, g3, g4, g5, g6, g7, g8, g9, g10, g11, g12, g13, g14, g15, g16, g17, g18, g19⟩ := HXC.out _ HX9.out
      by_cases h1 : E = E2
      · subst h1
        go_wp2_with fail
        go_ret
        exact ⟨by first | rfl | simp, HBW.out.trans (HX9.out.mono HBW.out.size)⟩
      · have hev := HEV.out.1.resolve_left (fun h => h1 h.symm)
        have e1 : ((E : Int) == (E2 : Nat)) = false := by rw [beq_eq_false_iff_ne]; omega
        have e2 : ((E : Int) == ((t.dflt : Nat) : Int)) = true := by rw [beq_iff_eq, hev.1]
        have e3 : ((E2 : Int) == ((m.act : Nat) : Int)) = true := by rw [beq_iff_eq, hev.2]
        clear h1 hev
        go_wp2_with fail
        go_ret
        exact ⟨by first | rfl | simp, HBW.out.trans (HX9.out.mono HBW.out.size)⟩
end Go.Proofs.Ytgcngmlndijppaa.lawMeanRules
