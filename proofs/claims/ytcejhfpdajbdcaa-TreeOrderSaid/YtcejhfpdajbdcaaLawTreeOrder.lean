/- The walk of TreeOrder. -/
import Derived.Test.YtcejhfpdajbdcaaPkB
import Derived.Test.YtcejhfpdajbdcaaPkT
import Derived.Test.YtcejhfpdajbdcaaWordWalk
import Derived.Outline
import Derived.Maps.AppendAt
import Derived.Laws.OwnMore
import Derived.RegionTactic
import Derived.Deep.RegionHeld3
import Derived.Deep.AppendLies
namespace Go.Proofs.Ytcejhfpdajbdcaa.lawTreeOrder
open Go.RowKit Go.ChangeShapes
set_option linter.unusedVariables false
set_option linter.unusedSimpArgs false

/-- append at a step of a region that draws, of none or of some elements of another row; where the new row lies -/
theorem step_append_at {P : Program} {ops : Array Oper} {o : Oper} {a : Act} {w : World} {K : Act → World → Prop} {Q : Exit → Act → World → Prop} {E : Prop} (hgd : o.guard = none) (s x : Operand) (t : TypeId)
    (ho : o.op = .call { callee := .builtin .append, args := #[s, x], argTypes := #[t, t] })
    (base : Nat) (e : TypeId) {i : TypeInfo} {z : Value} {size bytes : Nat} (ht : P.underlying t = some (.slice e)) (hi : P.info? e = some i) (hz : i.zero = some z)
    (hsize : i.size = size) (hby : i.bytes = bytes) (hzs : z.cells.size = size) (hsz : 0 < size)
    (v : Value) (n : Nat) (xs : List Value) (hs : a.eval s = v) (hown : w.ownsRow base e size v n xs)
    (A : Option Addr) (m c : Nat) (news : List Value) (hx : a.eval x = .slice A m c) (hl : news.length = m * size)
    (hA : (A = none ∧ m = 0 ∧ c = 0 ∧ news = []) ∨ ∃ ad, A = some ad ∧ ∀ j u, news[j]? = some u → w.cell? (ad.add j) = some u) (h1 : ∀ u ∈ news, u.oneCell' = true)
    (h63 : n + m ≤ maxLen) (hbytes : (n + m) * bytes ≤ 140737488355328) (hbase : base ≤ w.heap.size)
    (h : ∀ v' w', w'.ownsRow base e size v' (n + m) (xs ++ news) → w.grownBy w' v.ownBlock → (v'.ownBlock = v.ownBlock ∨ v'.ownBlock = some w.heap.size) → K (a.put o.dst v') w') :
    if Region.wanted o (yielded ops a.tmps) = true then Oper.wp P o a w K Q else E := by
  have hw : Region.wanted o (yielded ops a.tmps) = true := by simp [Region.wanted, hgd]
  rw [if_pos hw]
  rcases hA with ⟨rfl, rfl, rfl, rfl⟩ | ⟨ad, rfl, hc⟩
  · have hrun := run_append_owned_none (P := P) (w := w) base t o.type e i size ht hi v n xs hown
    have hn := h v w (by rw [List.append_nil]; exact hown) ⟨rfl, rfl, rfl, Nat.le_refl _, fun _ _ _ => rfl⟩ (.inl rfl)
    unfold Oper.wp execOp
    simp only [ho, resolve, invoke, builtin, Sem.run_bind, Sem.run_pure, Result.andThen_ok, List.map_toArray, List.map_cons, List.map_nil, hs, hx, hrun]
    exact hn
  · obtain ⟨v', w', hr, h2, h3, _, h5⟩ := run_append_own_at (P := P) w base t o.type e i z size bytes ht hi hz hsize hby hzs hsz v n xs hown ad m c news hl hc h1 h63 hbytes hbase
    unfold Oper.wp execOp
    simp only [ho, resolve, invoke, builtin, Sem.run_bind, Sem.run_pure, Result.andThen_ok, List.map_toArray, List.map_cons, List.map_nil, hs, hx, hr]
    exact h v' w' h2 h3 h5
theorem keepAl {w0 W : World} {R : Prop} (h : Below w0.heap.size w0 W ∧ R) (o : Obj) : Below w0.heap.size w0 (W.alloc o) := h.1.alloc h.1.size o
theorem keepGr {w0 W W' : World} {R : Prop} {row : Option Nat} (h : Below w0.heap.size w0 W ∧ R) (g : W.grownBy W' row) (hr : ∀ k, row = some k → w0.heap.size ≤ k) : Below w0.heap.size w0 W' := h.1.grown g h.1.size hr
theorem keepSt {w0 W : World} {R : Prop} (h : Below w0.heap.size w0 W ∧ R) (p : Addr) (v : Value) (hp : w0.heap.size ≤ p.block) : Below w0.heap.size w0 (W.setCell p v) := h.1.setCell hp v
theorem far {w w' : World} {row : Option Nat} {k : Nat} {o : Obj} (g : w.grownBy w' row) (h : w.heap[k]? = some o) (hr : row ≠ some k) : w'.heap[k]? = some o := (g.block k (lt_of_block h) (fun e => hr e.symm)).trans h
theorem own_formS {w : World} {base e : Nat} {size : Nat} {v : Value} {n : Nat} {xs : List Value} (h : w.ownsRow base e size v n xs) : ∃ A c, v = .slice A n c ∧ n ≤ c := by
  rcases h.2 with ⟨rfl, h0⟩ | ⟨g, cap, cur, rfl, hg, hh, hn, hc, _⟩
  · subst h0; exact ⟨_, _, rfl, by omega⟩
  · exact ⟨_, _, rfl, hn⟩
theorem app_own {w : World} {v v' : Value} {k : Nat} (h : v'.ownBlock = v.ownBlock ∨ v'.ownBlock = some w.heap.size) (hv : v.ownBlock ≠ some k) (hk : k < w.heap.size) : v'.ownBlock ≠ some k := by
  rcases h with h | h
  · rw [h]; exact hv
  · rw [h]; intro e; injection e with e; omega
theorem steps_ok (t : Typ) (v : Value) (w : World) (h : IsTyp w v t) (hr : t.right = true) : Calls Try.prog 15 #[v] w fun e w' => (∃ v', e = .returned (.tuple #[v', .int .i64 0]) ∧ IsOps w' v' (stepsS t (nrsU (flatN t.rules)))) ∧ Below w.heap.size w w' := by
  refine (tmSteps v t w h).mono ?_
  rintro e w' ⟨h1, h2⟩
  rw [if_pos hr] at h1
  exact ⟨h1, h2⟩
theorem steps_walk (t : Typ) (x : Cal) (hx : x.ok) (hr : t.right = true) : walkR (stepsS t (nrsU (flatN t.rules))) (x.recB 6) = ⟨0, t.ans x, true, false⟩ :=
  steps_run t _ x hx (fit_all hr).2.1 (nrsU_strict _) fun n => by rw [nrsU_mem]; unfold flatN; rw [List.mem_flatMap]
theorem sum_step (l : List Mtc) (j : Nat) (h : j < l.length) : sumU (l.take (j + 1)) = sumU (l.take j) + (nrsU (l.getD j mtcZ).nrs).length := by
  rw [List.take_succ_eq_append_getElem h, sumU_app, show l.getD j mtcZ = l[j] by simp [List.getD, h]]
  simp [sumU]
theorem sumU_flat : ∀ l : List Mtc, sumU l ≤ (flatN l).length
  | [] => Nat.le_refl _
  | m :: l => by
    have h := sumU_flat l
    have := nrsU_len m.nrs
    rw [show flatN (m :: l) = m.nrs ++ flatN l from rfl, List.length_append]
    simp only [sumU, List.map_cons, List.sum_cons] at h ⊢
    omega
theorem flat_take (l : List Mtc) (j : Nat) : (flatN (l.take j)).length ≤ (flatN l).length := by
  have h : (flatN (l.take j ++ l.drop j)).length = (flatN l).length := by rw [List.take_append_drop]
  rw [flatN_app, List.length_append] at h
  omega
theorem sum_bound (t : Typ) (h : t.right = true) (j : Nat) : sumU (t.rules.take j) ≤ 960 := by
  have h1 := sumU_flat (t.rules.take j)
  have h2 := flat_take t.rules j
  have h3 := (fit_all h).2.2
  omega
theorem nrs_bound (t : Typ) (h : t.right = true) (j : Nat) (hj : j < t.rules.length) : (t.rules.getD j mtcZ).nrs.length ≤ 960 := by
  have h1 := flatN_le t.rules j hj
  have h3 := (fit_all h).2.2
  omega
theorem tmod_bound (a : Int) (k : Nat) (M : Int) (h : a.tmod k = M) (h1 : (1 : Int) ≤ k) (h2 : (k : Int) ≤ 24) : -24 ≤ M ∧ M ≤ 24 := by
  have h3 := Int.tmod_lt_of_pos a (show (0 : Int) < k by omega)
  have h4 : -((k : Nat) : Int) < a.tmod k := by
    have := Int.tmod_lt_of_pos (-a) (show (0 : Int) < k by omega)
    rw [Int.neg_tmod] at this
    omega
  omega
theorem tmod_nat (a M : Int) (k : Nat) (h : a.tmod k = M) (h1 : (1 : Int) ≤ k) : ∃ b : Nat, (M + k).tmod k = (b : Int) ∧ (b : Int) < k := by
  have h4 : -((k : Nat) : Int) < a.tmod k := by
    have := Int.tmod_lt_of_pos (-a) (show (0 : Int) < k by omega)
    rw [Int.neg_tmod] at this
    omega
  have h0 : (0 : Int) ≤ (M + k).tmod k := Int.tmod_nonneg _ (by omega)
  have h5 := Int.tmod_lt_of_pos (M + k) (show (0 : Int) < k by omega)
  exact ⟨((M + k).tmod k).toNat, by omega, by omega⟩
theorem vs_drop {w : World} {l : List Mtc} {vs : List (Value × Value)} (h : VsOk w l vs) (k : Nat) : VsOk w (l.drop k) (vs.drop k) := by
  refine ⟨by rw [List.length_drop, List.length_drop, h.1], fun i hi => ?_⟩
  rw [List.length_drop] at hi
  have h1 := h.1
  have e1 : (l.drop k).getD i mtcZ = l.getD (k + i) mtcZ := by simp [List.getD, List.getElem?_drop]
  have e2 : (vs.drop k).getD i (undef, undef) = vs.getD (k + i) (undef, undef) := by simp [List.getD, List.getElem?_drop]
  rw [e1, e2]
  exact h.2 _ (by omega)
theorem vs_take {w : World} {l : List Mtc} {vs : List (Value × Value)} (h : VsOk w l vs) (k : Nat) (hk : k ≤ l.length) : VsOk w (l.take k) (vs.take k) := by
  have h1 := h.1
  refine ⟨by rw [List.length_take, List.length_take, h.1], fun i hi => ?_⟩
  rw [List.length_take] at hi
  have e1 : (l.take k).getD i mtcZ = l.getD i mtcZ := by simp [List.getD, List.getElem?_take, show i < k by omega]
  have e2 : (vs.take k).getD i (undef, undef) = vs.getD i (undef, undef) := by simp [List.getD, List.getElem?_take, show i < k by omega]
  rw [e1, e2]
  exact h.2 _ (by omega)
theorem turn_cells {w : World} {l : List Mtc} {vs : List (Value × Value)} {b off n c : Nat} (hvs : VsOk w l vs) (hs : ((some ⟨b, off, none⟩ : Option Addr) = none ∧ n = 0 ∧ c = 0 ∧ mtcsCells l vs = []) ∨ ∃ ad : Addr, (some ⟨b, off, none⟩ : Option Addr) = some ad ∧ ∀ j u, (mtcsCells l vs)[j]? = some u → w.cell? (ad.add j) = some u) (hl : l.length = n) (k : Nat) (hk : k ≤ n) :
    ∃ cs1 cs2, cs1.length = (n - k) * 8 ∧ cs2.length = k * 8 ∧ (∀ u ∈ cs1, u.oneCell' = true) ∧ (∀ u ∈ cs2, u.oneCell' = true) ∧ (∀ j u, cs1[j]? = some u → w.cell? (Addr.add ⟨b, off + k * 8, none⟩ j) = some u) ∧ (∀ j u, cs2[j]? = some u → w.cell? (Addr.add ⟨b, off, none⟩ j) = some u) ∧
      mtcsCells (l.drop k ++ l.take k) (vs.drop k ++ vs.take k) = cs1 ++ cs2 ∧ VsOk w (l.drop k ++ l.take k) (vs.drop k ++ vs.take k) := by
  have hd := vs_drop hvs k
  have ht := vs_take hvs k (by omega)
  have hl1 := mtcsCells_len _ _ hd.1
  have hl2 := mtcsCells_len _ _ ht.1
  rw [List.length_drop, hl] at hl1
  rw [List.length_take, hl, Nat.min_eq_left hk] at hl2
  have hall : mtcsCells l vs = mtcsCells (l.take k) (vs.take k) ++ mtcsCells (l.drop k) (vs.drop k) := by
    rw [← mtcsCells_app _ _ _ _ ht.1, List.take_append_drop, List.take_append_drop]
  have hc : ∀ j u, (mtcsCells l vs)[j]? = some u → w.cell? (Addr.add ⟨b, off, none⟩ j) = some u := fun j u hj => by
    rcases hs with ⟨h, _⟩ | ⟨ad, h, h2⟩
    · cases h
    · injection h with h; subst h; exact h2 j u hj
  refine ⟨_, _, hl1, hl2, mtcsCells_one _ _ hd, mtcsCells_one _ _ ht, fun j u hj => ?_, fun j u hj => hc j u (by rw [hall, List.getElem?_append_left ((List.getElem?_eq_some_iff.1 hj).1)]; exact hj), mtcsCells_app _ _ _ _ hd.1, hd.app ht⟩
  have := hc (k * 8 + j) u (by rw [hall, List.getElem?_append_right (by omega), hl2, Nat.add_sub_cancel_left]; exact hj)
  rw [addr_add] at this ⊢
  rwa [show off + k * 8 + j = off + (k * 8 + j) by omega]
theorem turn_right (t : Typ) (b : Nat) (h : t.right = true) : (⟨t.arch, t.dflt, t.rules.drop b ++ t.rules.take b⟩ : Typ).right = true := by
  unfold Typ.right at h ⊢
  rw [Bool.and_eq_true, List.all_eq_true] at h ⊢
  have h1 := of_decide_eq_true h.1
  refine ⟨decide_eq_true ?_, fun m hm => h.2 m ?_⟩
  · simp only [List.length_append, List.length_drop, List.length_take]; omega
  · rcases List.mem_append.1 hm with hm | hm
    · exact List.mem_of_mem_drop hm
    · exact List.mem_of_mem_take hm
theorem turn_flat (t : Typ) (b : Nat) : True := trivial
theorem eqFin (i j : Fin4) (u : World) : (binOp .eql 48 i.value j.value).run Try.prog u = .ok (.bool (decide (i = j))) u := by
  obtain ⟨a, b, c, d⟩ := i
  obtain ⟨a', b', c', d'⟩ := j
  have u3 := Try.underlying3
  have u27 := Try.underlying22
  have u4 := Try.underlying4
  have z3 := Try.sizeOf3
  have z27 := Try.sizeOf22
  have z4 := Try.sizeOf4
  by_cases h1 : a = a' <;> by_cases h2 : b = b' <;> by_cases h3 : c = c' <;> by_cases h4 : d = d'
  all_goals
    simp only [Fin4.value]
    go_simp
    try omega
theorem infoMtc : (Try.prog.info? 33).map (fun i => (i.zero, i.size, i.bytes)) = some (some (.agg #[.slice none 0 0, .int .i64 0, .slice none 0 0, .int .i64 0, .int .u64 0, .string ⟨#[]⟩, .int .u64 0, .int .u32 0]), 8, 104) := by kernel_rfl
set_option maxRecDepth 100000 in
set_option maxHeartbeats 4000000 in
theorem walk (v0 : Value) (t : Typ) (v1 : Value) (x : Cal) (n0 : Int) (w : World) (w0 : IsTyp w v0 t) (w1 : IsCal w v1 x) (wn : (Lit.int .i64 n0).wf = true) :
    Calls Try.prog 6 #[v0, v1, .int .i64 n0] w fun e w' => e = .returned (.bool true) ∧ Below w.heap.size w w' := by
  have hwn := wf_i64 wn
  obtain ⟨iM, hi, hz0, hz1, hz2⟩ := info_parts infoMtc
  obtain ⟨rfl, hx⟩ := w1
  obtain ⟨nr, arch, ip, a0, a1, a2, a3, a4, a5, rfl⟩ := Cal.list6 hx
  obtain ⟨ht1, ht2, k, rfl, hk⟩ := id w0
  obtain ⟨A, n, c, rfl, hl, hc1, hc2, _⟩ := id hk
  have hnI : (n : Int) ≤ 9223372036854775807 := by omega
  have HFW := Lib.hid (fun u (hu : Below w.heap.size w u) => refFew18 t _ u (w0.below hu)); have HRT := Lib.hid (fun u (hu : Below w.heap.size w u) => refRight20 t _ u (w0.below hu)); have HAL := Lib.hid (fun u => tnAlive u)
  have HTP := Lib.hid w0; have HK := Lib.hid hk; have HL := Lib.hid hl; have HX := Lib.hid hx
  obtain ⟨G, hG⟩ : ∃ G, w.heap.size = G := ⟨_, rfl⟩
  have hb1 := (Below.refl w.heap.size w).alloc (Nat.le_refl _) (.cells #[.int .u32 (t.arch : Nat), .int .u32 (t.dflt : Nat), .slice A n c] 25)
  have hn1 := heap_alloc_new w (.cells #[.int .u32 (t.arch : Nat), .int .u32 (t.dflt : Nat), .slice A n c] 25)
  obtain ⟨u, hU⟩ : ∃ u, w.alloc (.cells #[.int .u32 (t.arch : Nat), .int .u32 (t.dflt : Nat), .slice A n c] 25) = u := ⟨_, rfl⟩
  have hus : u.heap.size = G + 1 := by rw [← hU, ← hG]; simp
  rw [hU] at hb1 hn1
  have hb2 := (Below.refl u.heap.size u).alloc (Nat.le_refl _) (.cells #[.int .u32 (nr : Nat), .int .u32 (arch : Nat), .int .u64 (ip : Nat), .int .u64 (a0 : Nat), .int .u64 (a1 : Nat), .int .u64 (a2 : Nat), .int .u64 (a3 : Nat), .int .u64 (a4 : Nat), .int .u64 (a5 : Nat)] 39)
  have hn2 := heap_alloc_new u (.cells #[.int .u32 (nr : Nat), .int .u32 (arch : Nat), .int .u64 (ip : Nat), .int .u64 (a0 : Nat), .int .u64 (a1 : Nat), .int .u64 (a2 : Nat), .int .u64 (a3 : Nat), .int .u64 (a4 : Nat), .int .u64 (a5 : Nat)] 39)
  obtain ⟨W, hW⟩ : ∃ W, u.alloc (.cells #[.int .u32 (nr : Nat), .int .u32 (arch : Nat), .int .u64 (ip : Nat), .int .u64 (a0 : Nat), .int .u64 (a1 : Nat), .int .u64 (a2 : Nat), .int .u64 (a3 : Nat), .int .u64 (a4 : Nat), .int .u64 (a5 : Nat)] 39) = W := ⟨_, rfl⟩
  rw [hW] at hb2 hn2
  rw [hus] at hn2
  rw [hG] at hn1
  have HB0 := Lib.hid (hb1.trans (hb2.mono hb1.size)); have HGW := Lib.hid hG
  have HT0 := Lib.hid ((hb2.block _ (lt_of_block hn1)).trans hn1); have HC0 := Lib.hid hn2
  have HUU := Lib.hid hU; have HWW := Lib.hid hW; have HUS := Lib.hid hus
  clear hb1 hb2 hn1 hn2 hU hW hus hG hl hk hx w0 hc1 hc2
  show Calls _ _ #[_, .agg #[.int .u32 (nr : Nat), .int .u32 (arch : Nat), .int .u64 (ip : Nat), .int .u64 (a0 : Nat), .int .u64 (a1 : Nat), .int .u64 (a2 : Nat), .int .u64 (a3 : Nat), .int .u64 (a4 : Nat), .int .u64 (a5 : Nat)], _] _ _
  go_enter Try.func6, Try.ntmps6
  go_upto_region 1 with fail
  (try rw [HUU.out])
  (try rw [HWW.out])
  (try rw [HUS.out])
  (try rw [HGW.out])
  have d0 := below_cell (Below.refl _ W) HT0.out 0 rfl
  have d1 := below_cell (Below.refl _ W) HT0.out 1 rfl
  have d2 := below_cell (Below.refl _ W) HT0.out 2 rfl
  have HF1 := Lib.hid (HFW.out W HB0.out)
  clear HUU HWW HUS HFW
  obtain ⟨fw, hfw⟩ : ∃ fw, t.few = fw := ⟨_, rfl⟩
  obtain ⟨rt, hrt⟩ : ∃ rt, t.right = rt := ⟨_, rfl⟩
  rw [hfw] at HF1
  rw [hrt] at HRT
  cases fw with
  | false =>
    clear hfw hrt
    go_wp2_with (first | (go_at_call 13; refine HF1.out.mono ?_; rintro e w2 ⟨rfl, hb2⟩; have e0 := below_cell hb2 HT0.out 0 rfl; have e1 := below_cell hb2 HT0.out 1 rfl; have e2 := below_cell hb2 HT0.out 2 rfl; have HR2 := Lib.hid (HRT.out _ (HB0.out.trans (hb2.mono HB0.out.size)))) | (go_at_call 8; refine (HAL.out _).mono ?_; rintro e w5 ⟨rfl, hb5⟩))
    first
    | (go_ret; exact ⟨rfl, HB0.out.trans ((hb2.trans (hb5.mono hb2.size)).mono HB0.out.size)⟩)
    | (refine bodyPost_ret (results_tmp rfl _ _ _) rfl ?_; exact ⟨rfl, HB0.out.trans ((hb2.trans (hb5.mono hb2.size)).mono HB0.out.size)⟩)
  | true =>
  cases rt with
  | false =>
    clear hfw hrt
    go_wp2_with (first | (go_at_call 13; refine HF1.out.mono ?_; rintro e w2 ⟨rfl, hb2⟩; have e0 := below_cell hb2 HT0.out 0 rfl; have e1 := below_cell hb2 HT0.out 1 rfl; have e2 := below_cell hb2 HT0.out 2 rfl; have HR2 := Lib.hid (HRT.out _ (HB0.out.trans (hb2.mono HB0.out.size)))) | (go_at_call 14; refine HR2.out.mono ?_; rintro e w3 ⟨rfl, hb3⟩; have hb23 := hb2.trans (hb3.mono hb2.size); have r2 := below_cell hb23 HT0.out 2 rfl) | (go_at_call 8; refine (HAL.out _).mono ?_; rintro e w5 ⟨rfl, hb5⟩))
    first
    | (go_ret; exact ⟨rfl, HB0.out.trans ((hb23.trans (hb5.mono hb23.size)).mono HB0.out.size)⟩)
    | (refine bodyPost_ret (results_tmp rfl _ _ _) rfl ?_; exact ⟨rfl, HB0.out.trans ((hb23.trans (hb5.mono hb23.size)).mono HB0.out.size)⟩)
  | true =>
    have HRR := Lib.hid hrt
    clear hfw hrt
    go_upto_region 3 with (first | (go_at_call 13; refine HF1.out.mono ?_; rintro e w2 ⟨rfl, hb2⟩; have e0 := below_cell hb2 HT0.out 0 rfl; have e1 := below_cell hb2 HT0.out 1 rfl; have e2 := below_cell hb2 HT0.out 2 rfl; have HR2 := Lib.hid (HRT.out _ (HB0.out.trans (hb2.mono HB0.out.size)))) | (go_at_call 14; refine HR2.out.mono ?_; rintro e w3 ⟨rfl, hb3⟩; have hb23 := hb2.trans (hb3.mono hb2.size)))
    have HB3 := Lib.hid (HB0.out.trans (hb23.mono HB0.out.size))
    have HT3 := Lib.hid ((hb23.block _ (lt_of_block HT0.out)).trans HT0.out); have HC3 := Lib.hid ((hb23.block _ (lt_of_block HC0.out)).trans HC0.out)
    clear hb23 hb2 hb3 e0 e1 e2 d0 d1 d2 HR2 HF1 HRT HT0 HC0 HB0
    have d2 := below_cell (Below.refl _ w3) HT3.out 2 rfl
    go_upto_region 5 with fail
    clear d2
    have HMT := Lib.hid (fun u (hu : Below w3.heap.size w3 u) j hj => typ_at (HK.out.below HB3.out) hu j hj)
    have HRL := Lib.hid (fit_all HRR.out)
    have HN3 := Lib.hid (fun u (hu : Below w.heap.size w u) => refNumbers20 _ t u (HTP.out.below hu) (by have := HRL.out.2.2; omega))
    go_loopw [7, 29] (fun x z wr => ∃ j : Nat, x = .int .i64 (sumU (t.rules.take j) : Nat) ∧ z = .int .i64 (j : Nat) ∧ j ≤ n ∧ Hid (Below w3.heap.size w3 wr)) (fun _ z _ => n - (intOf z).toNat)
    case atStart => exact ⟨0, rfl, rfl, Nat.zero_le _, Lib.hid (Below.refl _ _)⟩
    case round =>
      obtain ⟨j, rfl, rfl, hj, HWR⟩ := hrel
      have hsj : (sumU (t.rules.take j) : Int) ≤ 1000000 := by
        have := sum_bound t HRR.out j
        omega
      by_cases hlt : j < n
      · obtain ⟨b, off, rfl, hat⟩ := HMT.out wr HWR.out j hlt
        obtain ⟨hact, hbd, ka, kn, kc, ca, cn, cc, hu, hkc, e0, e1, e2, e3, e4, e5, e6, e7⟩ := hat.cell
        have hjI : (j : Int) < n := by omega
        have hnext := sum_step t.rules j (by rw [HL.out]; exact hlt)
        have hfj := nrs_bound t HRR.out j (by rw [HL.out]; exact hlt)
        generalize t.rules.getD j mtcZ = m at *
        obtain ⟨nrs, cd, act⟩ := m
        simp only at hact hnext hbd hkc hu hfj e0 e1 e2 e3 e4 e5 e6 e7
        obtain ⟨S, hS⟩ : ∃ S, sumU (t.rules.take j) = S := ⟨_, rfl⟩
        obtain ⟨S2, hS2⟩ : ∃ S2, sumU (t.rules.take (j + 1)) = S2 := ⟨_, rfl⟩
        rw [hS] at hsj hnext
        rw [hS2] at hnext
        have HLT := Lib.hid hlt; have HNX := Lib.hid hnext; have HS := Lib.hid hS; have HS2 := Lib.hid hS2; have HAC := Lib.hid hact; have HBD := Lib.hid hbd; have HU := Lib.hid hu; have HKC := Lib.hid hkc; have HFJ := Lib.hid hfj
        (try rw [HS.out])
        clear hlt hnext hat hbd hkc hu hS hS2 hact hfj
        obtain ⟨kind, kids, arg, mask, sign, value⟩ := cd
        simp only [Cnd.kind, Cnd.arg, Cnd.mask, Cnd.sign, Cnd.value] at e1 e3 e4 e5 e6
        go_upto_region 7 with fail
        have hn7 := heap_alloc_new wr (.cells #[.slice ka kn kc, .int .i64 kind, .slice ca cn cc, .int .i64 arg, .int .u64 (mask : Nat), .string sign, .int .u64 (value : Nat), .int .u32 (act : Nat)] 33)
        have hy7 := (Below.refl wr.heap.size wr).alloc (Nat.le_refl _) (.cells #[.slice ka kn kc, .int .i64 kind, .slice ca cn cc, .int .i64 arg, .int .u64 (mask : Nat), .string sign, .int .u64 (value : Nat), .int .u32 (act : Nat)] 33)
        generalize wr.alloc (.cells #[.slice ka kn kc, .int .i64 kind, .slice ca cn cc, .int .i64 arg, .int .u64 (mask : Nat), .string sign, .int .u64 (value : Nat), .int .u32 (act : Nat)] 33) = w7 at *
        have hb7 := HWR.out.trans (hy7.mono HWR.out.size)
        have HU7 := Lib.hid (HU.out.below hy7); have HKC7 := Lib.hid (HKC.out.below hy7)
        generalize wr.heap.size = b7 at *
        have y0 := below_cell (Below.refl _ _) hn7 0 rfl
        have y1 := below_cell (Below.refl _ _) hn7 1 rfl
        have y2 := below_cell (Below.refl _ _) hn7 2 rfl
        have y3 := below_cell (Below.refl _ _) hn7 3 rfl
        have y4 := below_cell (Below.refl _ _) hn7 4 rfl
        have y5 := below_cell (Below.refl _ _) hn7 5 rfl
        have y6 := below_cell (Below.refl _ _) hn7 6 rfl
        have y7 := below_cell (Below.refl _ _) hn7 7 rfl
        have HB7 := Lib.hid hb7
        clear hn7 hy7 hb7 e0 e1 e2 e3 e4 e5 e6 e7 HU HKC HWR
        obtain ⟨w8, hw8⟩ : ∃ w8, w7.alloc (.cells #[.slice ka kn kc, .int .i64 kind, .slice ca cn cc, .int .i64 arg, .int .u64 (mask : Nat), .string sign, .int .u64 (value : Nat), .int .u32 (act : Nat)] 33) = w8 := ⟨_, rfl⟩
        have hn8 := heap_alloc_new w7 (.cells #[.slice ka kn kc, .int .i64 kind, .slice ca cn cc, .int .i64 arg, .int .u64 (mask : Nat), .string sign, .int .u64 (value : Nat), .int .u32 (act : Nat)] 33)
        have hy8 := (Below.refl w7.heap.size w7).alloc (Nat.le_refl _) (.cells #[.slice ka kn kc, .int .i64 kind, .slice ca cn cc, .int .i64 arg, .int .u64 (mask : Nat), .string sign, .int .u64 (value : Nat), .int .u32 (act : Nat)] 33)
        rw [hw8] at hn8 hy8
        have hms : IsMtcs w8 (.slice (some ⟨w7.heap.size, 0, none⟩) 1 1) [⟨nrs, .mk kind kids arg mask sign value, act⟩] :=
          ⟨_, 1, 1, rfl, rfl, by omega, by decide, (fun e => by cases e), .inr ⟨w7.heap.size, 0, rfl, lt_of_block hn8, fun i hi => by
            obtain rfl : i = 0 := by omega
            exact (mtcAt_iff _ _ _ _).2 ⟨HAC.out, HBD.out, _, _, fun jj u hj => by
              rw [show 0 + 0 * 8 + jj = jj by omega]
              refine (cell_of_row _ _ jj _ _ _ hn8).trans ?_
              have h8 : jj < 8 := by have := (List.getElem?_eq_some_iff.1 hj).1; rwa [Mtc.cells_len] at this
              rcases (by omega : jj = 0 ∨ jj = 1 ∨ jj = 2 ∨ jj = 3 ∨ jj = 4 ∨ jj = 5 ∨ jj = 6 ∨ jj = 7) with rfl | rfl | rfl | rfl | rfl | rfl | rfl | rfl <;> exact hj, HU7.out.below hy8, HKC7.out.below hy8⟩⟩⟩
        have HN8 := Lib.hid (fun (v : Value) => refNumbers20 (.agg #[.int .u32 0, .int .u32 0, .slice (some ⟨w7.heap.size, 0, none⟩) 1 1]) ⟨0, 0, [⟨nrs, .mk kind kids arg mask sign value, act⟩]⟩ w8 ⟨Nat.zero_le _, Nat.zero_le _, _, rfl, hms⟩ (by have := HFJ.out; rw [show flatN [⟨nrs, .mk kind kids arg mask sign value, act⟩] = nrs ++ [] from rfl, List.append_nil]; omega))
        have HB8 := Lib.hid (HB7.out.trans (hy8.mono HB7.out.size))
        have HW8 := Lib.hid hw8
        clear hms hn8 hy8 hw8
        go_wp2_with (first | (go_at_call 10; (try rw [HW8.out]); refine (HN8.out undef).mono ?_; rintro e w9 ⟨⟨v9, rfl, h9⟩, hb9⟩; obtain ⟨A9, n9, c9, rfl, l9, _⟩ := h9; rw [show flatN [⟨nrs, .mk kind kids arg mask sign value, act⟩] = nrs ++ [] from rfl, List.append_nil] at l9; have hn9 : (n9 : Int) ≤ 960 := (by have h1 := nrsU_len nrs; have h2 := HFJ.out; omega)))
        have hS9 : S2 = S + n9 := by rw [HNX.out, l9]
        have HS9 := Lib.hid hS9
        go_roundw
        case rel => exact ⟨j + 1, by rw [HS2.out, HS9.out]; first | rfl | go_num, by go_num, by have := HLT.out; omega, Lib.hid (HB8.out.trans (hb9.mono HB8.out.size))⟩
        case measure => have := HLT.out; simp [intOf]; omega
      · obtain rfl : j = n := by omega
        have hsn : t.rules.take j = t.rules := by rw [← HL.out, List.take_length]
        rw [hsn] at hsj ⊢
        clear hsn hj hlt
        have HT9 := Lib.hid ((HWR.out.block _ (lt_of_block HT3.out)).trans HT3.out); have HC9 := Lib.hid ((HWR.out.block _ (lt_of_block HC3.out)).trans HC3.out); have HB9 := Lib.hid (HB3.out.trans (HWR.out.mono HB3.out.size))
        obtain ⟨w9, hw9⟩ : ∃ w9, w9 = wr := ⟨_, rfl⟩
        subst hw9
        clear HWR HT3 HC3 HB3 HMT
        have d0 := below_cell (Below.refl _ w9) HT9.out 0 rfl
        have d1 := below_cell (Below.refl _ w9) HT9.out 1 rfl
        have d2 := below_cell (Below.refl _ w9) HT9.out 2 rfl
        have hn9 := HN3.out w9 HB9.out
        have HSW := Lib.hid (ans_swap t.dflt nr [a0, a1, a2, a3, a4, a5])
        obtain ⟨S, hS⟩ : ∃ S, sumU t.rules = S := ⟨_, rfl⟩
        obtain ⟨LL, hLL⟩ : ∃ LL, nrsU (flatN t.rules) = LL := ⟨_, rfl⟩
        rw [hS] at hsj ⊢
        rw [hLL] at hn9
        have HN9 := Lib.hid hn9; have HS := Lib.hid hS; have HLL := Lib.hid hLL
        clear hn9 hS hLL HN3
        by_cases hne : S = LL.length
        rotate_left
        · have hneI : ((S : Int) != (LL.length : Int)) = true := by rw [bne_iff_ne]; omega
          have HNE := Lib.hid hneI
          clear hne hneI
          go_wp2_with (first | (go_at_call 10; refine HN9.out.mono ?_; rintro e x1 ⟨⟨v9, rfl, h9⟩, hb9⟩; obtain ⟨A9, n9, c9, rfl, l9, _⟩ := h9; obtain rfl : LL.length = n9 := l9; have hneI := HNE.out) | (go_at_call 8; refine (HAL.out _).mono ?_; rintro e x5 ⟨rfl, hb5⟩))
          first
          | (go_ret; exact ⟨rfl, HB9.out.trans ((hb9.trans (hb5.mono hb9.size)).mono HB9.out.size)⟩)
          | (refine bodyPost_ret (results_tmp rfl _ _ _) rfl ?_; exact ⟨rfl, HB9.out.trans ((hb9.trans (hb5.mono hb9.size)).mono HB9.out.size)⟩)
        · have hneI : ((S : Int) != (LL.length : Int)) = false := by rw [bne_eq_false_iff_eq]; omega
          have HNE := Lib.hid hneI; have HEQ := Lib.hid hne
          clear hne hneI
          by_cases hj0 : j = 0
          · subst hj0
            go_wp2_with (first | (go_at_call 10; refine HN9.out.mono ?_; rintro e x1 ⟨⟨v9, rfl, h9⟩, hb9⟩; obtain ⟨A9, n9, c9, rfl, l9, _⟩ := h9; obtain rfl : LL.length = n9 := l9; have hneI := HNE.out; have t2 := below_cell hb9 HT9.out 2 rfl) | (go_at_call 8; refine (HAL.out _).mono ?_; rintro e x5 ⟨rfl, hb5⟩))
            first
            | (go_ret; exact ⟨rfl, HB9.out.trans ((hb9.trans (hb5.mono hb9.size)).mono HB9.out.size)⟩)
            | (refine bodyPost_ret (results_tmp rfl _ _ _) rfl ?_; exact ⟨rfl, HB9.out.trans ((hb9.trans (hb5.mono hb9.size)).mono HB9.out.size)⟩)
          · have hjB : ((j : Int) == 0) = false := by rw [beq_eq_false_iff_ne]; omega
            have hj24 : (j : Int) ≤ 24 := by have := HRL.out.1; rw [HL.out] at this; omega
            have hj1 : (1 : Int) ≤ j := by omega
            clear hj0
            go_upto_region 11 with (first | (go_at_call 10; refine HN9.out.mono ?_; rintro e x1 ⟨⟨v9, rfl, h9⟩, hb9⟩; obtain ⟨A9, n9, c9, rfl, l9, _⟩ := h9; obtain rfl : LL.length = n9 := l9; have hneI := HNE.out; have t2 := below_cell hb9 HT9.out 2 rfl))
            have HB10 := Lib.hid (HB9.out.trans (hb9.mono HB9.out.size)); have HT10 := Lib.hid ((hb9.block _ (lt_of_block HT9.out)).trans HT9.out); have HC10 := Lib.hid ((hb9.block _ (lt_of_block HC9.out)).trans HC9.out)
            clear hb9 t2 d0 d1 d2 hneI HB9 HT9 HC9 HN9 HNE
            have d2 := below_cell (Below.refl _ x1) HT10.out 2 rfl
            go_upto_region 12 with fail
            clear d2
            obtain ⟨M, hM⟩ : ∃ M : Int, n0.tmod j = M := ⟨_, rfl⟩
            have hMb : -24 ≤ M ∧ M ≤ 24 := tmod_bound n0 j M hM hj1 hj24
            obtain ⟨BB, hBB⟩ : ∃ BB : Nat, (M + j).tmod j = (BB : Int) ∧ (BB : Int) < j := tmod_nat n0 M j hM hj1
            have hBB1 := hBB.1
            have hBB2 := hBB.2
            have hrn : wrap64 (n0.tmod j) = M := by rw [hM]; exact IntWalk.wrap64_in _ (by omega)
            go_upto_region 13 with fail
            obtain ⟨b, off, rfl, _⟩ := typ_at HK.out (Below.refl _ _) 0 (by omega)
            clear hBB hBB1 hrn hM hMb HRL
            have d0 := below_cell (Below.refl _ x1) HT10.out 0 rfl
            have d1 := below_cell (Below.refl _ x1) HT10.out 1 rfl
            have d2 := below_cell (Below.refl _ x1) HT10.out 2 rfl
            have hn4 := heap_alloc_new x1 (.cells #[.int .u32 (t.arch : Nat), .int .u32 (t.dflt : Nat), .slice (some ⟨b, off, none⟩) j c] 25)
            have ha4 := (Below.refl x1.heap.size x1).alloc (Nat.le_refl _) (.cells #[.int .u32 (t.arch : Nat), .int .u32 (t.dflt : Nat), .slice (some ⟨b, off, none⟩) j c] 25)
            go_upto_region 14 with fail
            obtain ⟨w4, hW4⟩ : ∃ w4, x1.alloc (.cells #[.int .u32 (t.arch : Nat), .int .u32 (t.dflt : Nat), .slice (some ⟨b, off, none⟩) j c] 25) = w4 := ⟨_, rfl⟩
            rw [hW4] at hn4 ha4 ⊢
            obtain ⟨Z, hZ⟩ : ∃ Z, x1.heap.size = Z := ⟨_, rfl⟩
            have HZW := Lib.hid (show w.heap.size ≤ Z by rw [← hZ]; exact HB10.out.size)
            have HZG := Lib.hid (show G < Z ∧ G + 1 < Z from ⟨by rw [← hZ]; exact lt_of_block HT10.out, by rw [← hZ]; exact lt_of_block HC10.out⟩)
            have HB4 := Lib.hid (HB10.out.trans (ha4.mono HB10.out.size)); have HT4 := Lib.hid ((ha4.block _ (lt_of_block HT10.out)).trans HT10.out); have HC4 := Lib.hid ((ha4.block _ (lt_of_block HC10.out)).trans HC10.out)
            rw [hZ] at hn4
            (try rw [hZ])
            have HN4 := Lib.hid hn4
            have HZ3 := Lib.hid hZ; have HA4 := Lib.hid ha4
            have hs4 : w4.heap.size = x1.heap.size + 1 := by rw [← hW4]; simp
            have hBj : BB < j := by omega
            obtain ⟨vs, hvs, hsrc⟩ := mtcs_vs (HK.out.below HB10.out)
            obtain ⟨cs1, cs2, hcl1, hcl2, hone1, hone2, hs1, hs2, happ, hvs2⟩ := turn_cells hvs hsrc HL.out BB (by omega)
            have HVS := Lib.hid hvs2; have HCL1 := Lib.hid hcl1; have HCL2 := Lib.hid hcl2; have HONE1 := Lib.hid hone1; have HONE2 := Lib.hid hone2; have HAP := Lib.hid happ; have HS4 := Lib.hid hs4
            have HXS := Lib.hid (fun (u : World) (hb : Below x1.heap.size x1 u) => below_cell hb HT10.out 2 rfl)
            have HSRC1 := Lib.hid (fun (u : World) (R : Prop) (hu : Below x1.heap.size x1 u ∧ R) => show ((some ⟨b, off + BB * 8, none⟩ : Option Addr) = none ∧ j - BB = 0 ∧ c - BB = 0 ∧ cs1 = []) ∨ ∃ ad : Addr, (some ⟨b, off + BB * 8, none⟩ : Option Addr) = some ad ∧ ∀ jj x, cs1[jj]? = some x → u.cell? (ad.add jj) = some x from .inr ⟨_, rfl, fun jj x hj => (hu.1.cell (p := Addr.add _ jj) (World.block_lt_of_cell? _ _ (hs1 jj x hj))).trans (hs1 jj x hj)⟩)
            have HSRC2 := Lib.hid (fun (u : World) (R : Prop) (hu : Below x1.heap.size x1 u ∧ R) => show ((some ⟨b, off, none⟩ : Option Addr) = none ∧ BB = 0 ∧ c = 0 ∧ cs2 = []) ∨ ∃ ad : Addr, (some ⟨b, off, none⟩ : Option Addr) = some ad ∧ ∀ jj x, cs2[jj]? = some x → u.cell? (ad.add jj) = some x from .inr ⟨_, rfl, fun jj x hj => (hu.1.cell (p := Addr.add _ jj) (World.block_lt_of_cell? _ _ (hs2 jj x hj))).trans (hs2 jj x hj)⟩)
            have O1 := Lib.hid (World.ownsRow_made (base := w4.heap.size) (e := 33) (size := 8) w4 #[] 0 (Nat.le_refl _) (by unfold maxLen; omega) rfl)
            have B1 := Lib.hid ((heap_alloc_old w4 (.cells #[] 33) (lt_of_block HN4.out)).trans HN4.out)
            have hZ4 : Z < w4.heap.size := lt_of_block HN4.out
            have Z1 : Hid ((w4.alloc (.cells #[] 33)).heap.size = w4.heap.size + 1) := Lib.hid (World.size_alloc _ _)
            have HN24 := Lib.hid hj24; have HBJ := Lib.hid hBj
            have hcj : j ≤ c := by obtain ⟨_, _, _, hv, _, h2, _⟩ := HK.out; injection hv with _ q2 q3; omega
            have hcB : ((BB : Int)) ≤ c := by omega
            have hBjI : (BB : Int) ≤ j := by omega
            have hBjE : ¬ BB = j := by omega
            have hBcE : ¬ BB = c := by omega
            clear hn4 ha4 hW4 hZ d0 d1 d2 hsrc hvs hcl1 hcl2 hone1 hone2 happ hs4 hs1 hs2 hvs2
            go_cut [] (fun wx => ∃ A3 c3, wx.heap[Z]? = some (.cells #[.int .u32 (t.arch : Nat), .int .u32 (t.dflt : Nat), .slice A3 j c3] 25 (0, 0)) ∧ IsMtcs wx (.slice A3 j c3) (t.rules.drop BB ++ t.rules.take BB) ∧ Below x1.heap.size x1 wx)
            case first =>
              go_region_held3 (fun u => Below x1.heap.size x1 u ∧ u.cell? ⟨G, 2, none⟩ = some (.slice (some ⟨b, off, none⟩) j c))
                ((refine (fun h => And.intro h (HXS.out _ h)) ?_; first | assumption | exact HA4.out.drew | exact keepAl (by assumption) _ | exact keepSt (by assumption) _ _ (by rw [HZ3.out]; exact Nat.le_refl _)))
                (first
                | (refine step_append_at (by rfl) (Operand.tmp 64) (Operand.tmp 68) 23 (by rfl) w4.heap.size 33 Try.underlying23 hi hz0 hz1 hz2 rfl (by decide) (.slice (some ⟨w4.heap.size, 0, none⟩) 0 0) 0 [] (by simp [go_sem]) (by exact O1.out) (some ⟨b, off + BB * 8, none⟩) (j - BB) (c - BB) cs1 (by simp [go_sem]; omega) HCL1.out (HSRC1.out _ _ (by assumption)) HONE1.out (by have := HN24.out; unfold maxLen; omega) (by have := HN24.out; omega) (by show w4.heap.size ≤ (w4.alloc (.cells #[] 33)).heap.size; have := Z1.out; omega) ?_; intro v1 w6 own1 gr1 at1; rw [Nat.zero_add, List.nil_append] at own1; have hq6 := keepGr (by assumption) gr1 (fun k hk => by have e : w4.heap.size = k := (by simpa [Value.ownBlock] using hk); have := HS4.out; omega); have hbm6 := far gr1 (by exact B1.out) (by simp [Value.ownBlock]; omega); have hne6 : v1.ownBlock ≠ some Z := app_own at1 (by simp [Value.ownBlock]; omega) (by show Z < (w4.alloc (.cells #[] 33)).heap.size; have := Z1.out; omega); have hz6 : w4.heap.size ≤ w6.heap.size := Nat.le_trans (by show w4.heap.size ≤ (w4.alloc (.cells #[] 33)).heap.size; have := Z1.out; omega) gr1.size)
                | (refine step_append_at (by rfl) (Operand.tmp 69) (Operand.tmp 73) 23 (by rfl) w4.heap.size 33 Try.underlying23 hi hz0 hz1 hz2 rfl (by decide) v1 (j - BB) cs1 (by simp [go_sem]) own1 (some ⟨b, off, none⟩) BB c cs2 (by simp [go_sem]) HCL2.out (HSRC2.out _ _ (by assumption)) HONE2.out (by have := HN24.out; unfold maxLen; omega) (by have := HN24.out; omega) hz6 ?_; intro v3 w7 own3 gr2 at2; rw [show j - BB + BB = j by omega] at own3; have hq7 := keepGr (by assumption) gr2 (fun k hk => by have := (own1.lt k hk).1; have := HS4.out; omega); have hbm7 := far gr2 hbm6 hne6; have hne7 : v3.ownBlock ≠ some Z := app_own at2 hne6 (lt_of_block hbm6); obtain ⟨A3, c3, e3, _⟩ := own_formS own3; subst e3; have f7 := block_frozen hbm7 2; have d7 := below_cell (Below.refl _ _) hbm7 2 rfl)
                | fail)
              all_goals
                go_wp2_with fail
                go_meet
                have hbs := Below.setCell (p := ⟨Z, 2, none⟩) hq7 (by rw [HZ3.out]; exact Nat.le_refl _) (.slice A3 j c3)
                have hos := own3.kept (row := some Z) (w' := w7.setCell ⟨Z, 2, none⟩ (.slice A3 j c3)) ⟨rfl, rfl, rfl, by simp [World.setCell], fun k _ hk => Below.heap_setCell _ _ _ _ (fun e => hk (by simp [e]))⟩ (.inr hne7)
                rw [← HAP.out] at hos
                exact ⟨A3, c3, block_set hbm7 2 _, own_mtcs hos (by rw [List.length_append, List.length_drop, List.length_take, HL.out]; have := HBJ.out; omega) (HVS.out.below hbs), hbs⟩
            case rest =>
            obtain ⟨A3, c3, hb3, hms, hb6⟩ := hcut
            have HB6 := Lib.hid (HB10.out.trans (hb6.mono HB10.out.size)); have HT6 := Lib.hid ((hb6.block _ (lt_of_block HT10.out)).trans HT10.out); have HC6 := Lib.hid ((hb6.block _ (lt_of_block HC10.out)).trans HC10.out); have HN6 := Lib.hid hb3
            obtain ⟨y0, hy0⟩ : ∃ y0, y0 = wc := ⟨_, rfl⟩
            subst hy0
            have hr2 := turn_right t BB HRR.out
            have hfl := turn_flat t BB
            have HS1 := Lib.hid (fun u (hu : Below w.heap.size w u) => steps_ok t _ u (HTP.out.below hu) HRR.out)
            have HS2 := Lib.hid (fun u (hu : Below y0.heap.size y0 u) => steps_ok ⟨t.arch, t.dflt, t.rules.drop BB ++ t.rules.take BB⟩ (.agg #[.int .u32 (t.arch : Nat), .int .u32 (t.dflt : Nat), .slice A3 j c3]) u ⟨ht1, ht2, _, rfl, hms.below hu⟩ hr2)
            have HW1 := Lib.hid (steps_walk t _ HX.out HRR.out); have HW2 := Lib.hid (steps_walk ⟨t.arch, t.dflt, t.rules.drop BB ++ t.rules.take BB⟩ _ HX.out hr2)
            have HPK := Lib.hid (fun u => refPack_any _ u HX.out)
            have d0 := below_cell (Below.refl _ y0) HT6.out 0 rfl
            have d1 := below_cell (Below.refl _ y0) HT6.out 1 rfl
            have d2 := below_cell (Below.refl _ y0) HT6.out 2 rfl
            clear hb3 hms hb6 hr2 hfl O1 B1 Z1 hZ4 HXS HSRC1 HSRC2 HVS HCL1 HCL2 HONE1 HONE2 HAP HA4 HB4 HT4 HC4 HN4 HB10 HT10 HC10 HZG HZW HS4 hcj hcB hBjI hBjE hBcE
            go_upto_region 16 with (first | (go_at_call 15; refine (HS1.out _ HB6.out).mono ?_; rintro e y1 ⟨⟨s1, rfl, ho1⟩, hb1⟩))
            have HO1 := Lib.hid ho1; have HB7 := Lib.hid hb1
            clear ho1 hb1 d0 d1 d2
            have d0 := below_cell HB7.out HN6.out 0 rfl
            have d1 := below_cell HB7.out HN6.out 1 rfl
            have d2 := below_cell HB7.out HN6.out 2 rfl
            go_upto_region 17 with (first | (go_at_call 15; refine (HS2.out _ HB7.out).mono ?_; rintro e y2 ⟨⟨s2, rfl, ho2⟩, hb2⟩))
            have HB9 := Lib.hid (HB7.out.trans (hb2.mono HB7.out.size)); have HO2 := Lib.hid ho2; have HO1c := Lib.hid (HO1.out.below hb2)
            clear ho2 hb2 d0 d1 d2 HB7 HO1
            have k0 := below_cell HB9.out HC6.out 0 rfl
            have k1 := below_cell HB9.out HC6.out 1 rfl
            have k2 := below_cell HB9.out HC6.out 2 rfl
            have k3 := below_cell HB9.out HC6.out 3 rfl
            have k4 := below_cell HB9.out HC6.out 4 rfl
            have k5 := below_cell HB9.out HC6.out 5 rfl
            have k6 := below_cell HB9.out HC6.out 6 rfl
            have k7 := below_cell HB9.out HC6.out 7 rfl
            have k8 := below_cell HB9.out HC6.out 8 rfl
            go_upto_region 18 with (first | (go_at_call 16; refine (HPK.out _).mono ?_; rintro e y4 ⟨rfl, hb4⟩))
            have HBA := Lib.hid (HB6.out.trans ((HB9.out.trans (hb4.mono HB9.out.size)).mono HB6.out.size)); have HO1d := Lib.hid (HO1c.out.below hb4); have HO2d := Lib.hid (HO2.out.below hb4)
            clear hb4 HO1c HO2 HB9 HS1 HS2 HPK k0 k1 k2 k3 k4 k5 k6 k7 k8
            have q2 : Typ.ans ⟨t.arch, t.dflt, t.rules.drop BB ++ t.rules.take BB⟩ ⟨nr, arch, ip, [a0, a1, a2, a3, a4, a5]⟩ = t.ans ⟨nr, arch, ip, [a0, a1, a2, a3, a4, a5]⟩ := by
              have h1 := HSW.out (t.rules.take BB) (t.rules.drop BB) (by rw [List.take_append_drop, HS.out, HLL.out]; exact HEQ.out)
              rw [List.take_append_drop] at h1
              unfold Typ.ans
              dsimp only
              rw [h1]
            rw [q2] at HW2
            generalize t.ans ⟨nr, arch, ip, [a0, a1, a2, a3, a4, a5]⟩ = P at *
            generalize (⟨nr, arch, ip, [a0, a1, a2, a3, a4, a5]⟩ : Cal).recB 6 = rec at *
            have hk1 := fun (u : World) (hu : Below y4.heap.size y4 u) => wordWalk_any s1 _ rec u (HO1d.out.below hu)
            have hk2 := fun (u : World) (hu : Below y4.heap.size y4 u) => wordWalk_any s2 _ rec u (HO2d.out.below hu)
            rw [HW1.out] at hk1
            rw [HW2.out] at hk2
            have heq := fun u => eqFin ⟨0, P, true, false⟩ ⟨0, P, true, false⟩ u
            rw [decide_eq_true rfl] at heq
            unfold Fin4.value at hk1 hk2 heq
            have HK1 := Lib.hid hk1; have HK2 := Lib.hid hk2; have HEF := Lib.hid heq
            clear hk1 hk2 q2 HW1 HW2 HO1d HO2d heq
            have b0 := Below.refl y4.heap.size y4
            go_wp2_with (first
              | (go_at_call 8; refine (HAL.out _).mono ?_; rintro e z0 ⟨rfl, hz0'⟩; have bz0 := b0.trans (hz0'.mono b0.size))
              | (go_at_call_of 18 s1; refine (HK1.out _ bz0).mono ?_; rintro e z1 ⟨rfl, hz1⟩; have bz1 := bz0.trans (hz1.mono bz0.size))
              | (go_at_call_of 18 s2; refine (HK2.out _ bz1).mono ?_; rintro e z2 ⟨rfl, hz2⟩; have bz2 := bz1.trans (hz2.mono bz1.size)))
            first
            | (go_ret; exact ⟨by first | rfl | simp, HBA.out.trans (bz2.mono HBA.out.size)⟩)
            | (refine bodyPost_ret (results_tmp rfl _ _ _) rfl ?_; exact ⟨by first | rfl | simp, HBA.out.trans (bz2.mono HBA.out.size)⟩)
end Go.Proofs.Ytcejhfpdajbdcaa.lawTreeOrder
