/- The walk of TreeBare. -/
import Derived.Test.YtcejhfpdajbdcaaPkB
import Derived.Test.YtcejhfpdajbdcaaWordWalk
import Derived.Outline
import Derived.Maps.AppendAt
import Derived.Laws.OwnMore
import Derived.RegionTactic
import Derived.Deep.RegionHeld3
import Derived.Deep.AppendLies
namespace Go.Proofs.Ytcejhfpdajbdcaa.lawTreeBare
open Go.RowKit Go.ChangeShapes
set_option linter.unusedVariables false
set_option linter.unusedSimpArgs false

/-- append at a step of a region that draws, of none or of some elements of another row; where the new row lies -/
theorem step_append_at {P : Program} {ops : Array Oper} {o : Oper} {a : Act} {w : World} {K : Act → World → Prop} {Q : Exit → Act → World → Prop} {E : Prop} (hgd : o.guard = none) (s x : Operand) (t : TypeId)
    (ho : o.op = .call { callee := .builtin .append, args := #[s, x], argTypes := #[t, t] })
    (base : Nat) (e : TypeId) {i : TypeInfo} {z : Value} {size bytes : Nat} (ht : P.underlying t = some (.slice e)) (hi : P.info? e = some i) (hz : i.zero = some z)
    (hsize : i.size = size) (hby : i.bytes = bytes) (hzs : z.cells.size = size) (hsz : 0 < size)
    (v : Value) (n : Nat) (xs : List Value) (hs : a.eval s = v) (hown : w.ownsRow base e size v n xs)
    (A : Option Addr) (m c : Nat) (news : List Value) (hx : a.eval x = .slice A m c) (hl : news.length = m * size)
    (hA : (A = none ∧ m = 0 ∧ c = 0 ∧ news = []) ∨ ∃ ad, A = some ad ∧ ∀ j u, news[j]? = some u → w.cell? (ad.add j) = some u) (h1 : ∀ u ∈ news, u.oneCell' = true)
    (h63 : n + m ≤ maxLen) (hbytes : (n + m) * bytes ≤ 140737488355328) (hbase : base ≤ w.heap.size)
    (h : ∀ v' w', w'.ownsRow base e size v' (n + m) (xs ++ news) → w.grownBy w' v.ownBlock → (v'.ownBlock = v.ownBlock ∨ v'.ownBlock = some w.heap.size) → K (a.put o.dst v') w') :
    if Region.wanted o (yielded ops a.tmps) = true then Oper.wp P o a w K Q else E := by
  have hw : Region.wanted o (yielded ops a.tmps) = true := by simp [Region.wanted, hgd]
  rw [if_pos hw]
  rcases hA with ⟨rfl, rfl, rfl, rfl⟩ | ⟨ad, rfl, hc⟩
  · have hrun := run_append_owned_none (P := P) (w := w) base t o.type e i size ht hi v n xs hown
    have hn := h v w (by rw [List.append_nil]; exact hown) ⟨rfl, rfl, rfl, Nat.le_refl _, fun _ _ _ => rfl⟩ (.inl rfl)
    unfold Oper.wp execOp
    simp only [ho, resolve, invoke, builtin, Sem.run_bind, Sem.run_pure, Result.andThen_ok, List.map_toArray, List.map_cons, List.map_nil, hs, hx, hrun]
    exact hn
  · obtain ⟨v', w', hr, h2, h3, _, h5⟩ := run_append_own_at (P := P) w base t o.type e i z size bytes ht hi hz hsize hby hzs hsz v n xs hown ad m c news hl hc h1 h63 hbytes hbase
    unfold Oper.wp execOp
    simp only [ho, resolve, invoke, builtin, Sem.run_bind, Sem.run_pure, Result.andThen_ok, List.map_toArray, List.map_cons, List.map_nil, hs, hx, hr]
    exact h v' w' h2 h3 h5
theorem keepAl {w0 W : World} {R : Prop} (h : Below w0.heap.size w0 W ∧ R) (o : Obj) : Below w0.heap.size w0 (W.alloc o) := h.1.alloc h.1.size o
theorem keepGr {w0 W W' : World} {R : Prop} {row : Option Nat} (h : Below w0.heap.size w0 W ∧ R) (g : W.grownBy W' row) (hr : ∀ k, row = some k → w0.heap.size ≤ k) : Below w0.heap.size w0 W' := h.1.grown g h.1.size hr
theorem keepSt {w0 W : World} {R : Prop} (h : Below w0.heap.size w0 W ∧ R) (p : Addr) (v : Value) (hp : w0.heap.size ≤ p.block) : Below w0.heap.size w0 (W.setCell p v) := h.1.setCell hp v
theorem far {w w' : World} {row : Option Nat} {k : Nat} {o : Obj} (g : w.grownBy w' row) (h : w.heap[k]? = some o) (hr : row ≠ some k) : w'.heap[k]? = some o := (g.block k (lt_of_block h) (fun e => hr e.symm)).trans h
theorem own_formS {w : World} {base e : Nat} {size : Nat} {v : Value} {n : Nat} {xs : List Value} (h : w.ownsRow base e size v n xs) : ∃ A c, v = .slice A n c ∧ n ≤ c := by
  rcases h.2 with ⟨rfl, h0⟩ | ⟨g, cap, cur, rfl, hg, hh, hn, hc, _⟩
  · subst h0; exact ⟨_, _, rfl, by omega⟩
  · exact ⟨_, _, rfl, hn⟩
theorem app_own {w : World} {v v' : Value} {k : Nat} (h : v'.ownBlock = v.ownBlock ∨ v'.ownBlock = some w.heap.size) (hv : v.ownBlock ≠ some k) (hk : k < w.heap.size) : v'.ownBlock ≠ some k := by
  rcases h with h | h
  · rw [h]; exact hv
  · rw [h]; intro e; injection e with e; omega
theorem steps_ok (t : Typ) (v : Value) (w : World) (h : IsTyp w v t) (hr : t.right = true) : Calls Try.prog 15 #[v] w fun e w' => (∃ v', e = .returned (.tuple #[v', .int .i64 0]) ∧ IsOps w' v' (stepsS t (nrsU (flatN t.rules)))) ∧ Below w.heap.size w w' := by
  refine (tmSteps v t w h).mono ?_
  rintro e w' ⟨h1, h2⟩
  rw [if_pos hr] at h1
  exact ⟨h1, h2⟩
theorem steps_walk (t : Typ) (x : Cal) (hx : x.ok) (hr : t.right = true) : walkR (stepsS t (nrsU (flatN t.rules))) (x.recB 6) = ⟨0, t.ans x, true, false⟩ :=
  steps_run t _ x hx (fit_all hr).2.1 (nrsU_strict _) fun n => by rw [nrsU_mem]; unfold flatN; rw [List.mem_flatMap]
theorem twice_right (t : Typ) (n : Nat) (hl : t.rules.length = n) (hn : n ≤ 12) (h : t.right = true) : (⟨t.arch, t.dflt, t.rules ++ t.rules⟩ : Typ).right = true := by
  unfold Typ.right at h ⊢
  rw [Bool.and_eq_true] at h ⊢
  refine ⟨decide_eq_true ?_, ?_⟩
  · simp only [List.length_append]; omega
  · simp only [List.all_append, h.2]; rfl
theorem ans_app (d nr : Nat) (args : List Nat) (k : List Mtc) : ∀ l, ansR d nr args (l ++ k) = ansR (ansR d nr args k) nr args l
  | [] => rfl
  | m :: l => by
    rw [List.cons_append, ansR, ansR, ans_app d nr args k l]
theorem ans_dich (nr : Nat) (args : List Nat) : ∀ l, (∀ e d, ansR e nr args l = ansR d nr args l) ∨ ∀ e, ansR e nr args l = e
  | [] => .inr fun _ => rfl
  | m :: l => by
    by_cases h : (m.nrs.contains nr && m.cnd.does args) = true
    · exact .inl fun e d => by rw [ansR, ansR, if_pos h, if_pos h]
    · rcases ans_dich nr args l with h1 | h1
      · exact .inl fun e d => by rw [ansR, ansR, if_neg h, if_neg h]; exact h1 e d
      · exact .inr fun e => by rw [ansR, if_neg h]; exact h1 e
theorem ans_two (d nr : Nat) (args : List Nat) (l : List Mtc) : ansR d nr args (l ++ l) = ansR d nr args l := by
  rw [ans_app]
  rcases ans_dich nr args l with h | h
  · exact h _ _
  · rw [h, h]
theorem infoMtc : (Try.prog.info? 33).map (fun i => (i.zero, i.size, i.bytes)) = some (some (.agg #[.slice none 0 0, .int .i64 0, .slice none 0 0, .int .i64 0, .int .u64 0, .string ⟨#[]⟩, .int .u64 0, .int .u32 0]), 8, 104) := by kernel_rfl
set_option maxRecDepth 100000 in
set_option maxHeartbeats 4000000 in
theorem walk (v0 : Value) (t : Typ) (v1 : Value) (x : Cal) (w : World) (w0 : IsTyp w v0 t) (w1 : IsCal w v1 x) :
    Calls Try.prog 5 #[v0, v1] w fun e w' => e = .returned (.bool true) ∧ Below w.heap.size w w' := by
  obtain ⟨iM, hi, hz0, hz1, hz2⟩ := info_parts infoMtc
  obtain ⟨rfl, hx⟩ := w1
  obtain ⟨nr, arch, ip, a0, a1, a2, a3, a4, a5, rfl⟩ := Cal.list6 hx
  obtain ⟨ht1, ht2, k, rfl, hk⟩ := id w0
  obtain ⟨A, n, c, rfl, hl, hc1, hc2, _⟩ := id hk
  have hnI : (n : Int) ≤ 9223372036854775807 := by omega
  have HFW := Lib.hid (fun u (hu : Below w.heap.size w u) => refFew18 t _ u (w0.below hu)); have HRT := Lib.hid (fun u (hu : Below w.heap.size w u) => refRight20 t _ u (w0.below hu)); have HAL := Lib.hid (fun u => tnAlive u)
  have HTP := Lib.hid w0; have HK := Lib.hid hk; have HL := Lib.hid hl; have HX := Lib.hid hx
  obtain ⟨G, hG⟩ : ∃ G, w.heap.size = G := ⟨_, rfl⟩
  have hb1 := (Below.refl w.heap.size w).alloc (Nat.le_refl _) (.cells #[.int .u32 (t.arch : Nat), .int .u32 (t.dflt : Nat), .slice A n c] 25)
  have hn1 := heap_alloc_new w (.cells #[.int .u32 (t.arch : Nat), .int .u32 (t.dflt : Nat), .slice A n c] 25)
  obtain ⟨u, hU⟩ : ∃ u, w.alloc (.cells #[.int .u32 (t.arch : Nat), .int .u32 (t.dflt : Nat), .slice A n c] 25) = u := ⟨_, rfl⟩
  have hus : u.heap.size = G + 1 := by rw [← hU, ← hG]; simp
  rw [hU] at hb1 hn1
  have hb2 := (Below.refl u.heap.size u).alloc (Nat.le_refl _) (.cells #[.int .u32 (nr : Nat), .int .u32 (arch : Nat), .int .u64 (ip : Nat), .int .u64 (a0 : Nat), .int .u64 (a1 : Nat), .int .u64 (a2 : Nat), .int .u64 (a3 : Nat), .int .u64 (a4 : Nat), .int .u64 (a5 : Nat)] 39)
  have hn2 := heap_alloc_new u (.cells #[.int .u32 (nr : Nat), .int .u32 (arch : Nat), .int .u64 (ip : Nat), .int .u64 (a0 : Nat), .int .u64 (a1 : Nat), .int .u64 (a2 : Nat), .int .u64 (a3 : Nat), .int .u64 (a4 : Nat), .int .u64 (a5 : Nat)] 39)
  obtain ⟨W, hW⟩ : ∃ W, u.alloc (.cells #[.int .u32 (nr : Nat), .int .u32 (arch : Nat), .int .u64 (ip : Nat), .int .u64 (a0 : Nat), .int .u64 (a1 : Nat), .int .u64 (a2 : Nat), .int .u64 (a3 : Nat), .int .u64 (a4 : Nat), .int .u64 (a5 : Nat)] 39) = W := ⟨_, rfl⟩
  rw [hW] at hb2 hn2
  rw [hus] at hn2
  rw [hG] at hn1
  have HB0 := Lib.hid (hb1.trans (hb2.mono hb1.size)); have HGW := Lib.hid hG
  have HT0 := Lib.hid ((hb2.block _ (lt_of_block hn1)).trans hn1); have HC0 := Lib.hid hn2
  have HUU := Lib.hid hU; have HWW := Lib.hid hW; have HUS := Lib.hid hus
  clear hb1 hb2 hn1 hn2 hU hW hus hG hl hk hx w0 hc1 hc2
  show Calls _ _ #[_, .agg #[.int .u32 (nr : Nat), .int .u32 (arch : Nat), .int .u64 (ip : Nat), .int .u64 (a0 : Nat), .int .u64 (a1 : Nat), .int .u64 (a2 : Nat), .int .u64 (a3 : Nat), .int .u64 (a4 : Nat), .int .u64 (a5 : Nat)]] _ _
  go_enter Try.func5, Try.ntmps5
  go_upto_region 1 with fail
  (try rw [HUU.out])
  (try rw [HWW.out])
  (try rw [HUS.out])
  (try rw [HGW.out])
  have d0 := below_cell (Below.refl _ W) HT0.out 0 rfl
  have d1 := below_cell (Below.refl _ W) HT0.out 1 rfl
  have d2 := below_cell (Below.refl _ W) HT0.out 2 rfl
  have HF1 := Lib.hid (HFW.out W HB0.out)
  clear HUU HWW HUS HFW
  obtain ⟨fw, hfw⟩ : ∃ fw, t.few = fw := ⟨_, rfl⟩
  obtain ⟨rt, hrt⟩ : ∃ rt, t.right = rt := ⟨_, rfl⟩
  rw [hfw] at HF1
  rw [hrt] at HRT
  cases fw with
  | false =>
    clear hfw hrt
    go_wp2_with (first | (go_at_call 13; refine HF1.out.mono ?_; rintro e w2 ⟨rfl, hb2⟩; have e0 := below_cell hb2 HT0.out 0 rfl; have e1 := below_cell hb2 HT0.out 1 rfl; have e2 := below_cell hb2 HT0.out 2 rfl; have HR2 := Lib.hid (HRT.out _ (HB0.out.trans (hb2.mono HB0.out.size)))) | (go_at_call 8; refine (HAL.out _).mono ?_; rintro e w5 ⟨rfl, hb5⟩))
    first
    | (go_ret; exact ⟨rfl, HB0.out.trans ((hb2.trans (hb5.mono hb2.size)).mono HB0.out.size)⟩)
    | (refine bodyPost_ret (results_tmp rfl _ _ _) rfl ?_; exact ⟨rfl, HB0.out.trans ((hb2.trans (hb5.mono hb2.size)).mono HB0.out.size)⟩)
  | true =>
  cases rt with
  | false =>
    clear hfw hrt
    go_wp2_with (first | (go_at_call 13; refine HF1.out.mono ?_; rintro e w2 ⟨rfl, hb2⟩; have e0 := below_cell hb2 HT0.out 0 rfl; have e1 := below_cell hb2 HT0.out 1 rfl; have e2 := below_cell hb2 HT0.out 2 rfl; have HR2 := Lib.hid (HRT.out _ (HB0.out.trans (hb2.mono HB0.out.size)))) | (go_at_call 14; refine HR2.out.mono ?_; rintro e w3 ⟨rfl, hb3⟩; have hb23 := hb2.trans (hb3.mono hb2.size); have r2 := below_cell hb23 HT0.out 2 rfl) | (go_at_call 8; refine (HAL.out _).mono ?_; rintro e w5 ⟨rfl, hb5⟩))
    first
    | (go_ret; exact ⟨rfl, HB0.out.trans ((hb23.trans (hb5.mono hb23.size)).mono HB0.out.size)⟩)
    | (refine bodyPost_ret (results_tmp rfl _ _ _) rfl ?_; exact ⟨rfl, HB0.out.trans ((hb23.trans (hb5.mono hb23.size)).mono HB0.out.size)⟩)
  | true =>
  by_cases h12 : n ≤ 12
  rotate_left
  · have h12I : (12 : Int) < n := by omega
    clear hfw hrt
    go_wp2_with (first | (go_at_call 13; refine HF1.out.mono ?_; rintro e w2 ⟨rfl, hb2⟩; have e0 := below_cell hb2 HT0.out 0 rfl; have e1 := below_cell hb2 HT0.out 1 rfl; have e2 := below_cell hb2 HT0.out 2 rfl; have HR2 := Lib.hid (HRT.out _ (HB0.out.trans (hb2.mono HB0.out.size)))) | (go_at_call 14; refine HR2.out.mono ?_; rintro e w3 ⟨rfl, hb3⟩; have hb23 := hb2.trans (hb3.mono hb2.size); have r2 := below_cell hb23 HT0.out 2 rfl) | (go_at_call 8; refine (HAL.out _).mono ?_; rintro e w5 ⟨rfl, hb5⟩))
    first
    | (go_ret; exact ⟨rfl, HB0.out.trans ((hb23.trans (hb5.mono hb23.size)).mono HB0.out.size)⟩)
    | (refine bodyPost_ret (results_tmp rfl _ _ _) rfl ?_; exact ⟨rfl, HB0.out.trans ((hb23.trans (hb5.mono hb23.size)).mono HB0.out.size)⟩)
  · have h12I : ¬ (12 : Int) < n := by omega
    have HRR := Lib.hid hrt
    clear hfw hrt
    go_upto_region 3 with (first | (go_at_call 13; refine HF1.out.mono ?_; rintro e w2 ⟨rfl, hb2⟩; have e0 := below_cell hb2 HT0.out 0 rfl; have e1 := below_cell hb2 HT0.out 1 rfl; have e2 := below_cell hb2 HT0.out 2 rfl; have HR2 := Lib.hid (HRT.out _ (HB0.out.trans (hb2.mono HB0.out.size)))) | (go_at_call 14; refine HR2.out.mono ?_; rintro e w3 ⟨rfl, hb3⟩; have hb23 := hb2.trans (hb3.mono hb2.size); have r2 := below_cell hb23 HT0.out 2 rfl))
    have HB3 := Lib.hid (HB0.out.trans (hb23.mono HB0.out.size))
    have HT3 := Lib.hid ((hb23.block _ (lt_of_block HT0.out)).trans HT0.out); have HC3 := Lib.hid ((hb23.block _ (lt_of_block HC0.out)).trans HC0.out)
    clear hb23 hb2 hb3 r2 e0 e1 e2 d0 d1 d2 HR2 HF1 HRT HT0 HC0 HB0
    have d0 := below_cell (Below.refl _ w3) HT3.out 0 rfl
    have d1 := below_cell (Below.refl _ w3) HT3.out 1 rfl
    have d2 := below_cell (Below.refl _ w3) HT3.out 2 rfl
    have hn4 := heap_alloc_new w3 (.cells #[.int .u32 (t.arch : Nat), .int .u32 (t.dflt : Nat), .slice A n c] 25)
    have ha4 := (Below.refl w3.heap.size w3).alloc (Nat.le_refl _) (.cells #[.int .u32 (t.arch : Nat), .int .u32 (t.dflt : Nat), .slice A n c] 25)
    go_upto_region 4 with fail
    obtain ⟨w4, hW4⟩ : ∃ w4, w3.alloc (.cells #[.int .u32 (t.arch : Nat), .int .u32 (t.dflt : Nat), .slice A n c] 25) = w4 := ⟨_, rfl⟩
    rw [hW4] at hn4 ha4 ⊢
    obtain ⟨Z, hZ⟩ : ∃ Z, w3.heap.size = Z := ⟨_, rfl⟩
    have HZW := Lib.hid (show w.heap.size ≤ Z by rw [← hZ]; exact HB3.out.size)
    have HZG := Lib.hid (show G < Z ∧ G + 1 < Z from ⟨by rw [← hZ]; exact lt_of_block HT3.out, by rw [← hZ]; exact lt_of_block HC3.out⟩)
    have HB4 := Lib.hid (HB3.out.trans (ha4.mono HB3.out.size)); have HT4 := Lib.hid ((ha4.block _ (lt_of_block HT3.out)).trans HT3.out); have HC4 := Lib.hid ((ha4.block _ (lt_of_block HC3.out)).trans HC3.out)
    rw [hZ] at hn4
    (try rw [hZ])
    have HN4 := Lib.hid hn4
    have HZ3 := Lib.hid hZ; have HA4 := Lib.hid ha4
    have hs4 : w4.heap.size = w3.heap.size + 1 := by rw [← hW4]; simp
    obtain ⟨vs, hvs, hsrc⟩ := mtcs_vs (HK.out.below HB3.out)
    have hcl : (mtcsCells t.rules vs).length = n * 8 := by rw [mtcsCells_len _ _ hvs.1, HL.out]
    have hone := mtcsCells_one _ _ hvs
    obtain ⟨cs, hcs⟩ : ∃ cs, mtcsCells t.rules vs = cs := ⟨_, rfl⟩
    have happ : mtcsCells (t.rules ++ t.rules) (vs ++ vs) = cs ++ cs := by rw [mtcsCells_app _ _ _ _ hvs.1, hcs]
    rw [hcs] at hsrc hcl hone
    have HVS := Lib.hid hvs; have HCL := Lib.hid hcl; have HONE := Lib.hid hone; have HAP := Lib.hid happ; have HS4 := Lib.hid hs4
    have HXS := Lib.hid (fun (u : World) (hb : Below w3.heap.size w3 u) => below_cell hb HT3.out 2 rfl)
    have HSRC := Lib.hid (fun (u : World) (R : Prop) (hu : Below w3.heap.size w3 u ∧ R) => show (A = none ∧ n = 0 ∧ c = 0 ∧ cs = []) ∨ ∃ ad, A = some ad ∧ ∀ j x, cs[j]? = some x → u.cell? (ad.add j) = some x from by
      rcases hsrc with h | ⟨ad, h1, h2⟩
      · exact .inl h
      · exact .inr ⟨ad, h1, fun j x hj => (hu.1.cell (p := ad.add j) (World.block_lt_of_cell? _ _ (h2 j x hj))).trans (h2 j x hj)⟩)
    have O1 := Lib.hid (World.ownsRow_made (base := w4.heap.size) (e := 33) (size := 8) w4 #[] 0 (Nat.le_refl _) (by unfold maxLen; omega) rfl)
    have B1 := Lib.hid ((heap_alloc_old w4 (.cells #[] 33) (lt_of_block HN4.out)).trans HN4.out)
    have hZ4 : Z < w4.heap.size := lt_of_block HN4.out
    have Z1 : Hid ((w4.alloc (.cells #[] 33)).heap.size = w4.heap.size + 1) := Lib.hid (World.size_alloc _ _)
    have HN12 := Lib.hid h12
    clear hn4 ha4 hW4 hZ d0 d1 d2 hsrc hcs hvs hcl hone happ hs4
    go_cut [] (fun wx => ∃ A3 c3, wx.heap[Z]? = some (.cells #[.int .u32 (t.arch : Nat), .int .u32 (t.dflt : Nat), .slice A3 (n + n) c3] 25 (0, 0)) ∧ IsMtcs wx (.slice A3 (n + n) c3) (t.rules ++ t.rules) ∧ Below w3.heap.size w3 wx)
    case first =>
      go_region_held3 (fun u => Below w3.heap.size w3 u ∧ u.cell? ⟨G, 2, none⟩ = some (.slice A n c))
        ((refine (fun h => And.intro h (HXS.out _ h)) ?_; first | assumption | exact HA4.out.drew | exact keepAl (by assumption) _ | exact keepSt (by assumption) _ _ (by rw [HZ3.out]; exact Nat.le_refl _)))
        (first
        | (refine step_append_at (by rfl) (Operand.tmp 32) (Operand.tmp 34) 23 (by rfl) w4.heap.size 33 Try.underlying23 hi hz0 hz1 hz2 rfl (by decide) (.slice (some ⟨w4.heap.size, 0, none⟩) 0 0) 0 [] (by simp [go_sem]) (by exact O1.out) A n c cs (by simp [go_sem]) HCL.out (HSRC.out _ _ (by assumption)) HONE.out (by have := HN12.out; unfold maxLen; omega) (by have := HN12.out; omega) (by show w4.heap.size ≤ (w4.alloc (.cells #[] 33)).heap.size; have := Z1.out; omega) ?_; intro v1 w6 own1 gr1 at1; rw [Nat.zero_add, List.nil_append] at own1; have hq6 := keepGr (by assumption) gr1 (fun k hk => by have e : w4.heap.size = k := (by simpa [Value.ownBlock] using hk); have := HS4.out; omega); have hbm6 := far gr1 (by exact B1.out) (by simp [Value.ownBlock]; omega); have hne6 : v1.ownBlock ≠ some Z := app_own at1 (by simp [Value.ownBlock]; omega) (by show Z < (w4.alloc (.cells #[] 33)).heap.size; have := Z1.out; omega); have hz6 : w4.heap.size ≤ w6.heap.size := Nat.le_trans (by show w4.heap.size ≤ (w4.alloc (.cells #[] 33)).heap.size; have := Z1.out; omega) gr1.size)
        | (refine step_append_at (by rfl) (Operand.tmp 35) (Operand.tmp 37) 23 (by rfl) w4.heap.size 33 Try.underlying23 hi hz0 hz1 hz2 rfl (by decide) v1 n cs (by simp [go_sem]) own1 A n c cs (by simp [go_sem]) HCL.out (HSRC.out _ _ (by assumption)) HONE.out (by have := HN12.out; unfold maxLen; omega) (by have := HN12.out; omega) hz6 ?_; intro v3 w7 own3 gr2 at2; have hq7 := keepGr (by assumption) gr2 (fun k hk => by have := (own1.lt k hk).1; have := HS4.out; omega); have hbm7 := far gr2 hbm6 hne6; have hne7 : v3.ownBlock ≠ some Z := app_own at2 hne6 (lt_of_block hbm6); obtain ⟨A3, c3, e3, _⟩ := own_formS own3; subst e3; have f7 := block_frozen hbm7 2; have d7 := below_cell (Below.refl _ _) hbm7 2 rfl)
        | fail)
      all_goals
        go_wp2_with fail
        go_meet
        have hbs := Below.setCell (p := ⟨Z, 2, none⟩) hq7 (by rw [HZ3.out]; exact Nat.le_refl _) (.slice A3 (n + n) c3)
        have hos := own3.kept (row := some Z) (w' := w7.setCell ⟨Z, 2, none⟩ (.slice A3 (n + n) c3)) ⟨rfl, rfl, rfl, by simp [World.setCell], fun k _ hk => Below.heap_setCell _ _ _ _ (fun e => hk (by simp [e]))⟩ (.inr hne7)
        rw [← HAP.out] at hos
        exact ⟨A3, c3, block_set hbm7 2 _, own_mtcs hos (by rw [List.length_append, HL.out]) ((HVS.out.app HVS.out).below hbs), hbs⟩
    case rest =>
    obtain ⟨A3, c3, hb3, hms, hb6⟩ := hcut
    have HB6 := Lib.hid (HB3.out.trans (hb6.mono HB3.out.size)); have HT6 := Lib.hid ((hb6.block _ (lt_of_block HT3.out)).trans HT3.out); have HC6 := Lib.hid ((hb6.block _ (lt_of_block HC3.out)).trans HC3.out); have HN6 := Lib.hid hb3
    obtain ⟨y0, hy0⟩ : ∃ y0, y0 = wc := ⟨_, rfl⟩
    subst hy0
    have hr2 := twice_right t n HL.out HN12.out HRR.out
    have HS1 := Lib.hid (fun u (hu : Below w.heap.size w u) => steps_ok t _ u (HTP.out.below hu) HRR.out)
    have HS2 := Lib.hid (fun u (hu : Below y0.heap.size y0 u) => steps_ok ⟨t.arch, t.dflt, t.rules ++ t.rules⟩ (.agg #[.int .u32 (t.arch : Nat), .int .u32 (t.dflt : Nat), .slice A3 (n + n) c3]) u ⟨ht1, ht2, _, rfl, hms.below hu⟩ hr2)
    have HS3 := Lib.hid (fun u => steps_ok ⟨t.arch, t.dflt, []⟩ (.agg #[.int .u32 (t.arch : Nat), .int .u32 (t.dflt : Nat), .slice none 0 0]) u ⟨ht1, ht2, _, rfl, none, 0, 0, rfl, rfl, Nat.le_refl _, by decide, fun _ => rfl, .inl rfl⟩ rfl)
    have HW1 := Lib.hid (steps_walk t _ HX.out HRR.out); have HW2 := Lib.hid (steps_walk ⟨t.arch, t.dflt, t.rules ++ t.rules⟩ _ HX.out hr2); have HW3 := Lib.hid (steps_walk ⟨t.arch, t.dflt, []⟩ _ HX.out rfl)
    have HPK := Lib.hid (fun u => refPack_any _ u HX.out)
    have d0 := below_cell (Below.refl _ y0) HT6.out 0 rfl
    have d1 := below_cell (Below.refl _ y0) HT6.out 1 rfl
    have d2 := below_cell (Below.refl _ y0) HT6.out 2 rfl
    clear hb3 hms hb6 hr2 O1 B1 Z1 hZ4 HXS HSRC HVS HCL HONE HAP HA4 HB4 HT4 HC4 HN4 HB3 HT3 HC3 HZG HZW HS4
    go_upto_region 6 with (first | (go_at_call 15; refine (HS1.out _ HB6.out).mono ?_; rintro e y1 ⟨⟨s1, rfl, ho1⟩, hb1⟩))
    have HO1 := Lib.hid ho1; have HB7 := Lib.hid hb1
    clear ho1 hb1 d0 d1 d2
    have d0 := below_cell HB7.out HN6.out 0 rfl
    have d1 := below_cell HB7.out HN6.out 1 rfl
    have d2 := below_cell HB7.out HN6.out 2 rfl
    go_upto_region 7 with (first | (go_at_call 15; refine (HS2.out _ HB7.out).mono ?_; rintro e y2 ⟨⟨s2, rfl, ho2⟩, hb2⟩))
    have HB8 := Lib.hid (HB7.out.trans (hb2.mono HB7.out.size)); have HO2 := Lib.hid ho2; have HO1b := Lib.hid (HO1.out.below hb2)
    clear ho2 hb2 d0 d1 d2 HB7 HO1
    have d0 := below_cell HB8.out HT6.out 0 rfl
    have d1 := below_cell HB8.out HT6.out 1 rfl
    go_upto_region 8 with (first | (go_at_call 15; refine (HS3.out _).mono ?_; rintro e y3 ⟨⟨s3, rfl, ho3⟩, hb3⟩))
    have HB9 := Lib.hid (HB8.out.trans (hb3.mono HB8.out.size)); have HO3 := Lib.hid ho3; have HO1c := Lib.hid (HO1b.out.below hb3); have HO2c := Lib.hid (HO2.out.below hb3)
    clear ho3 hb3 d0 d1 HB8 HO1b HO2
    have k0 := below_cell HB9.out HC6.out 0 rfl
    have k1 := below_cell HB9.out HC6.out 1 rfl
    have k2 := below_cell HB9.out HC6.out 2 rfl
    have k3 := below_cell HB9.out HC6.out 3 rfl
    have k4 := below_cell HB9.out HC6.out 4 rfl
    have k5 := below_cell HB9.out HC6.out 5 rfl
    have k6 := below_cell HB9.out HC6.out 6 rfl
    have k7 := below_cell HB9.out HC6.out 7 rfl
    have k8 := below_cell HB9.out HC6.out 8 rfl
    go_upto_region 9 with (first | (go_at_call 16; refine (HPK.out _).mono ?_; rintro e y4 ⟨rfl, hb4⟩))
    have HBA := Lib.hid (HB6.out.trans ((HB9.out.trans (hb4.mono HB9.out.size)).mono HB6.out.size)); have HO1d := Lib.hid (HO1c.out.below hb4); have HO2d := Lib.hid (HO2c.out.below hb4); have HO3d := Lib.hid (HO3.out.below hb4)
    have hb94 := HB9.out.trans (hb4.mono HB9.out.size)
    have HTA := (hb94.block _ (lt_of_block HT6.out)).trans HT6.out
    have HCA := (hb94.block _ (lt_of_block HC6.out)).trans HC6.out
    clear hb94 hb4 HO1c HO2c HO3 HB9 HS1 HS2 HS3 HPK k0 k1 k2 k3 k4 k5 k6 k7 k8
    have q2 : Typ.ans ⟨t.arch, t.dflt, t.rules ++ t.rules⟩ ⟨nr, arch, ip, [a0, a1, a2, a3, a4, a5]⟩ = t.ans ⟨nr, arch, ip, [a0, a1, a2, a3, a4, a5]⟩ := by unfold Typ.ans; simp only [ans_two]
    have a3' : Typ.ans ⟨t.arch, t.dflt, []⟩ ⟨nr, arch, ip, [a0, a1, a2, a3, a4, a5]⟩ = if arch = t.arch then t.dflt else 2147483648 := rfl
    have a1' : arch ≠ t.arch → t.ans ⟨nr, arch, ip, [a0, a1, a2, a3, a4, a5]⟩ = 2147483648 := fun h => by unfold Typ.ans; exact if_neg h
    rw [q2] at HW2
    rw [a3'] at HW3
    generalize t.ans ⟨nr, arch, ip, [a0, a1, a2, a3, a4, a5]⟩ = P at *
    obtain ⟨E3, hE3⟩ : ∃ E3, (if arch = t.arch then t.dflt else 2147483648) = E3 := ⟨_, rfl⟩
    rw [hE3] at HW3
    generalize (⟨nr, arch, ip, [a0, a1, a2, a3, a4, a5]⟩ : Cal).recB 6 = rec at *
    have hk1 := fun (u : World) (hu : Below y4.heap.size y4 u) => wordWalk_any s1 _ rec u (HO1d.out.below hu)
    have hk2 := fun (u : World) (hu : Below y4.heap.size y4 u) => wordWalk_any s2 _ rec u (HO2d.out.below hu)
    have hk3 := fun (u : World) (hu : Below y4.heap.size y4 u) => wordWalk_any s3 _ rec u (HO3d.out.below hu)
    rw [HW1.out] at hk1
    rw [HW2.out] at hk2
    rw [HW3.out] at hk3
    unfold Fin4.value at hk1 hk2 hk3
    have HK1 := Lib.hid hk1; have HK2 := Lib.hid hk2; have HK3 := Lib.hid hk3; have HE3 := Lib.hid hE3; have HA1 := Lib.hid a1'
    clear hk1 hk2 hk3 q2 a3' a1' hE3 HW1 HW2 HW3 HO1d HO2d HO3d
    have b0 := Below.refl y4.heap.size y4
    go_upto_region 10 with (first
      | (go_at_call_of 18 s1; refine (HK1.out _ b0).mono ?_; rintro e z1 ⟨rfl, hz1⟩)
      | (go_at_call_of 18 s2; refine (HK2.out _ hz1).mono ?_; rintro e z2 ⟨rfl, hz2⟩; have hz12 := hz1.trans (hz2.mono hz1.size))
      | (go_at_call_of 18 s3; refine (HK3.out _ hz12).mono ?_; rintro e z3 ⟨rfl, hz3⟩; have hz13 := hz12.trans (hz3.mono hz12.size)))
    obtain ⟨N, hN⟩ : ∃ N, z3.heap.size = N := ⟨_, rfl⟩
    have f1 := heap_alloc_new z3 (.cells #[.int .i64 0, .int .u32 (P : Nat), .bool true, .bool false] 48)
    have f2 := heap_alloc_new (z3.alloc (.cells #[.int .i64 0, .int .u32 (P : Nat), .bool true, .bool false] 48)) (.cells #[.int .i64 0, .int .u32 (P : Nat), .bool true, .bool false] 48)
    have f3 := heap_alloc_new ((z3.alloc (.cells #[.int .i64 0, .int .u32 (P : Nat), .bool true, .bool false] 48)).alloc (.cells #[.int .i64 0, .int .u32 (P : Nat), .bool true, .bool false] 48)) (.cells #[.int .i64 0, .int .u32 (E3 : Nat), .bool true, .bool false] 48)
    have g1 := (Below.refl z3.heap.size z3).alloc (Nat.le_refl _) (.cells #[.int .i64 0, .int .u32 (P : Nat), .bool true, .bool false] 48)
    have g2 := g1.alloc g1.size (.cells #[.int .i64 0, .int .u32 (P : Nat), .bool true, .bool false] 48)
    have g3 := g2.alloc g2.size (.cells #[.int .i64 0, .int .u32 (E3 : Nat), .bool true, .bool false] 48)
    have l1 := (heap_alloc_old _ (.cells #[.int .i64 0, .int .u32 (P : Nat), .bool true, .bool false] 48) (lt_of_block f1)).trans f1
    have l1' := (heap_alloc_old _ (.cells #[.int .i64 0, .int .u32 (E3 : Nat), .bool true, .bool false] 48) (lt_of_block l1)).trans l1
    have l2 := (heap_alloc_old _ (.cells #[.int .i64 0, .int .u32 (E3 : Nat), .bool true, .bool false] 48) (lt_of_block f2)).trans f2
    rw [World.size_alloc, World.size_alloc] at f3
    rw [World.size_alloc] at l2
    obtain ⟨Y, hY⟩ : ∃ Y, ((z3.alloc (.cells #[.int .i64 0, .int .u32 (P : Nat), .bool true, .bool false] 48)).alloc (.cells #[.int .i64 0, .int .u32 (P : Nat), .bool true, .bool false] 48)).alloc (.cells #[.int .i64 0, .int .u32 (E3 : Nat), .bool true, .bool false] 48) = Y := ⟨_, rfl⟩
    rw [hY] at f3 g3 l1' l2 ⊢
    rw [hN] at f3 l1' l2
    (try rw [hN])
    have hYY : Below w.heap.size w Y := HBA.out.trans ((hz13.trans (g3.mono hz13.size)).mono HBA.out.size)
    have HY := Lib.hid hYY
    have HTY := Lib.hid (((hz13.trans (g3.mono hz13.size)).block _ (lt_of_block (HTA))).trans HTA)
    have HCY := Lib.hid (((hz13.trans (g3.mono hz13.size)).block _ (lt_of_block (HCA))).trans HCA)
    have HP1 := Lib.hid l1'; have HP2 := Lib.hid l2; have HP3 := Lib.hid f3
    clear f1 f2 f3 g1 g2 g3 l1 l1' l2 hY hN hYY hz1 hz2 hz3 hz12 hz13 b0 HK1 HK2 HK3 HBA HTA HCA HN6 HT6 HC6
    have p0 := below_cell (Below.refl _ Y) HP1.out 0 rfl
    have p1 := below_cell (Below.refl _ Y) HP1.out 1 rfl
    have p2 := below_cell (Below.refl _ Y) HP1.out 2 rfl
    have p3 := below_cell (Below.refl _ Y) HP1.out 3 rfl
    have q0 := below_cell (Below.refl _ Y) HP2.out 0 rfl
    have q1 := below_cell (Below.refl _ Y) HP2.out 1 rfl
    have q2 := below_cell (Below.refl _ Y) HP2.out 2 rfl
    have q3 := below_cell (Below.refl _ Y) HP2.out 3 rfl
    have r2 := below_cell (Below.refl _ Y) HP3.out 2 rfl
    go_upto_region 12 with (first | (go_at_call 8; refine (HAL.out _).mono ?_; rintro e w9 ⟨rfl, hb9⟩))
    clear p0 p1 p2 p3 q0 q1 q2 q3 r2
    have p1 := below_cell hb9 HP1.out 1 rfl
    have r1 := below_cell hb9 HP3.out 1 rfl
    have t0 := below_cell hb9 HTY.out 0 rfl
    have t1 := below_cell hb9 HTY.out 1 rfl
    have c1 := below_cell hb9 HCY.out 1 rfl
    have hfin := HY.out.trans (hb9.mono HY.out.size)
    have he3 := HE3.out
    by_cases ha : arch = t.arch
    · rw [if_pos ha] at he3
      have hab : ((arch : Int) != (t.arch : Int)) = false := by simp [ha]
      have hai : (arch : Int) = t.arch := by omega
      subst he3
      clear HE3 HA1
      go_wp2_with fail
      first
      | (go_ret; exact ⟨by first | rfl | simp, hfin⟩)
      | (refine bodyPost_ret (results_tmp rfl _ _ _) rfl ?_; exact ⟨by first | rfl | simp, hfin⟩)
    · rw [if_neg ha] at he3
      have hP := HA1.out ha
      have hab : ((arch : Int) != (t.arch : Int)) = true := by rw [bne_iff_ne]; omega
      have hai : ¬ (arch : Int) = t.arch := by omega
      subst he3
      subst hP
      clear HE3 HA1
      go_wp2_with fail
      first
      | (go_ret; exact ⟨by first | rfl | simp, hfin⟩)
      | (refine bodyPost_ret (results_tmp rfl _ _ _) rfl ?_; exact ⟨by first | rfl | simp, hfin⟩)
end Go.Proofs.Ytcejhfpdajbdcaa.lawTreeBare
