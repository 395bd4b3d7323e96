/- The walk of TypesOrder. -/
import Derived.Test.YtbcoooaoofbboaaPo7
import Derived.Test.YtbcoooaoofbboaaPkP
import Derived.Test.YtbcoooaoofbboaaPo13
import Derived.Outline
import Derived.Maps.AppendAt
import Derived.Laws.OwnMore
import Derived.RegionTactic
import Derived.Deep.RegionHeld3
import Derived.Deep.AppendLies
import Derived.BigQuiet
import Derived.BigRegion
namespace Go.Proofs.Ytbcoooaoofbboaa.lawTypesOrder
open Go.RowKit Go.ChangeShapes
set_option linter.unusedVariables false
set_option linter.unusedSimpArgs false

/-- append at a step of a region that draws, of none or of some elements of another row; where the new row lies -/
theorem step_append_at {P : Program} {ops : Array Oper} {o : Oper} {a : Act} {w : World} {K : Act → World → Prop} {Q : Exit → Act → World → Prop} {E : Prop} (hgd : o.guard = none) (s x : Operand) (t : TypeId)
    (ho : o.op = .call { callee := .builtin .append, args := #[s, x], argTypes := #[t, t] })
    (base : Nat) (e : TypeId) {i : TypeInfo} {z : Value} {size bytes : Nat} (ht : P.underlying t = some (.slice e)) (hi : P.info? e = some i) (hz : i.zero = some z)
    (hsize : i.size = size) (hby : i.bytes = bytes) (hzs : z.cells.size = size) (hsz : 0 < size)
    (v : Value) (n : Nat) (xs : List Value) (hs : a.eval s = v) (hown : w.ownsRow base e size v n xs)
    (A : Option Addr) (m c : Nat) (news : List Value) (hx : a.eval x = .slice A m c) (hl : news.length = m * size)
    (hA : (A = none ∧ m = 0 ∧ c = 0 ∧ news = []) ∨ ∃ ad, A = some ad ∧ ∀ j u, news[j]? = some u → w.cell? (ad.add j) = some u) (h1 : ∀ u ∈ news, u.oneCell' = true)
    (h63 : n + m ≤ maxLen) (hbytes : (n + m) * bytes ≤ 140737488355328) (hbase : base ≤ w.heap.size)
    (h : ∀ v' w', w'.ownsRow base e size v' (n + m) (xs ++ news) → w.grownBy w' v.ownBlock → (v'.ownBlock = v.ownBlock ∨ v'.ownBlock = some w.heap.size) → K (a.put o.dst v') w') :
    if Region.wanted o (yielded ops a.tmps) = true then Oper.wp P o a w K Q else E := by
  have hw : Region.wanted o (yielded ops a.tmps) = true := by simp [Region.wanted, hgd]
  rw [if_pos hw]
  rcases hA with ⟨rfl, rfl, rfl, rfl⟩ | ⟨ad, rfl, hc⟩
  · have hrun := run_append_owned_none (P := P) (w := w) base t o.type e i size ht hi v n xs hown
    have hn := h v w (by rw [List.append_nil]; exact hown) ⟨rfl, rfl, rfl, Nat.le_refl _, fun _ _ _ => rfl⟩ (.inl rfl)
    unfold Oper.wp execOp
    simp only [ho, resolve, invoke, builtin, Sem.run_bind, Sem.run_pure, Result.andThen_ok, List.map_toArray, List.map_cons, List.map_nil, hs, hx, hrun]
    exact hn
  · obtain ⟨v', w', hr, h2, h3, _, h5⟩ := run_append_own_at (P := P) w base t o.type e i z size bytes ht hi hz hsize hby hzs hsz v n xs hown ad m c news hl hc h1 h63 hbytes hbase
    unfold Oper.wp execOp
    simp only [ho, resolve, invoke, builtin, Sem.run_bind, Sem.run_pure, Result.andThen_ok, List.map_toArray, List.map_cons, List.map_nil, hs, hx, hr]
    exact h v' w' h2 h3 h5
/-- append of none or of some elements of another row; where the new row lies -/
theorem wpList_append_at {P : Program} {ops : Array Oper} {rest : List Oper} {o : Oper} {a : Act} {w : World} {Q : Exit → Act → World → Prop} (hgd : o.guard = none) (s x : Operand) (t : TypeId)
    (ho : o.op = .call { callee := .builtin .append, args := #[s, x], argTypes := #[t, t] })
    (base : Nat) (e : TypeId) {i : TypeInfo} {z : Value} {size bytes : Nat} (ht : P.underlying t = some (.slice e)) (hi : P.info? e = some i) (hz : i.zero = some z)
    (hsize : i.size = size) (hby : i.bytes = bytes) (hzs : z.cells.size = size) (hsz : 0 < size)
    (v : Value) (n : Nat) (xs : List Value) (hs : a.eval s = v) (hown : w.ownsRow base e size v n xs)
    (A : Option Addr) (m c : Nat) (news : List Value) (hx : a.eval x = .slice A m c) (hl : news.length = m * size)
    (hA : (A = none ∧ m = 0 ∧ c = 0 ∧ news = []) ∨ ∃ ad, A = some ad ∧ ∀ j u, news[j]? = some u → w.cell? (ad.add j) = some u) (h1 : ∀ u ∈ news, u.oneCell' = true)
    (h63 : n + m ≤ maxLen) (hbytes : (n + m) * bytes ≤ 140737488355328) (hbase : base ≤ w.heap.size)
    (h : ∀ v' w', w'.ownsRow base e size v' (n + m) (xs ++ news) → w.grownBy w' v.ownBlock → (v'.ownBlock = v.ownBlock ∨ v'.ownBlock = some w.heap.size) → wpList P ops Q rest (a.put o.dst v') w') : wpList P ops Q (o :: rest) a w := by
  refine wpList_plain hgd fun K hK => ?_
  rcases hA with ⟨rfl, rfl, rfl, rfl⟩ | ⟨ad, rfl, hc⟩
  · have hrun := run_append_owned_none (P := P) (w := w) base t o.type e i size ht hi v n xs hown
    have hn := hK _ _ <| h v w (by rw [List.append_nil]; exact hown) ⟨rfl, rfl, rfl, Nat.le_refl _, fun _ _ _ => rfl⟩ (.inl rfl)
    unfold Oper.wp execOp
    simp only [ho, resolve, invoke, builtin, Sem.run_bind, Sem.run_pure, Result.andThen_ok, List.map_toArray, List.map_cons, List.map_nil, hs, hx, hrun]
    exact hn
  · obtain ⟨v', w', hr, h2, h3, _, h5⟩ := run_append_own_at (P := P) w base t o.type e i z size bytes ht hi hz hsize hby hzs hsz v n xs hown ad m c news hl hc h1 h63 hbytes hbase
    unfold Oper.wp execOp
    simp only [ho, resolve, invoke, builtin, Sem.run_bind, Sem.run_pure, Result.andThen_ok, List.map_toArray, List.map_cons, List.map_nil, hs, hx, hr]
    exact hK _ _ (h v' w' h2 h3 h5)
/-- what the checking answers -/
def outT (p : Pol) : Typ := if p.err = 0 then p.typ else ⟨0, 0, []⟩
theorem out_of {p : Pol} {e : Ending} {w' : World} (h : CheckPost p e w') : ∃ (A : Option Addr) (m c : Nat), e = .returned (.tuple #[.agg #[.int .u32 ((outT p).arch : Nat), .int .u32 ((outT p).dflt : Nat), .slice A m c], .int .i64 p.err]) ∧ IsMtcs w' (.slice A m c) (outT p).rules := by
  unfold CheckPost at h
  unfold outT
  by_cases h0 : p.err = 0
  · rw [if_pos h0] at h
    rw [if_pos h0]
    obtain ⟨k, rfl, hk⟩ := h
    obtain ⟨A, m, c, rfl, _⟩ := id hk
    exact ⟨A, m, c, by rw [h0], hk⟩
  · rw [if_neg h0] at h
    rw [if_neg h0]
    exact ⟨none, 0, 0, h, none, 0, 0, rfl, rfl, Nat.le_refl _, by decide, fun _ => rfl, .inl rfl⟩
theorem out_typ (p : Pol) {w : World} {k : Value} (h : IsMtcs w k (outT p).rules) : IsTyp w (.agg #[.int .u32 ((outT p).arch : Nat), .int .u32 ((outT p).dflt : Nat), k]) (outT p) := by
  refine ⟨?_, ?_, k, rfl, h⟩
  · unfold outT
    split
    · exact arch_le p.arch
    · decide
  · unfold outT
    split
    · exact act_le p.dflt (p.data : Int)
    · decide
theorem out_size (p : Pol) (h : ∀ m ∈ p.rules, m.cnd.size ≤ 100) : ∀ m ∈ (outT p).rules, m.cnd.size ≤ 1000 := by
  unfold outT
  split
  · intro m hm
    obtain ⟨r, hr, rfl⟩ := List.mem_map.1 (show m ∈ p.rules.map (Rul.mtc _) from hm)
    exact Nat.le_trans (h r hr) (by decide)
  · intro m hm
    cases hm
theorem outT_spun (y : Int) (p : Pol) : outT (p.spun y) = outT p := by unfold outT; rw [spun_err, spun_typ]
theorem spun_names {y : Int} {p : Pol} (h : ∀ m ∈ p.rules, m.names.length ≤ 60) : ∀ m ∈ (p.spun y).rules, m.names.length ≤ 1000 := by
  intro m hm
  obtain ⟨r, hr, rfl⟩ := List.mem_map.1 (show m ∈ p.rules.map (Rul.spun y) from hm)
  have := h r hr
  unfold Rul.spun
  split
  · omega
  · rename_i h0
    have := spin_len (spinK y r.names.length) r.names (spinK_le y _ (Nat.pos_of_ne_zero h0))
    dsimp only
    omega
theorem out_fact (p : Pol) (h : p.err = 0) : (outT p).rules.length = p.rules.length ∧ ∀ i, i < p.rules.length → 0 < ((outT p).rules.getD i mtcZ).nrs.length ∧ (((outT p).rules.getD i mtcZ).cnd.zero || ((outT p).rules.getD i mtcZ).cnd.right) = true ∧ ∀ k, 0 < k → k < ((outT p).rules.getD i mtcZ).nrs.length → ((outT p).rules.getD i mtcZ).nrs.getD (k - 1) 0 < ((outT p).rules.getD i mtcZ).nrs.getD k 0 := by
  unfold outT
  rw [if_pos h]
  refine ⟨by unfold Pol.typ; exact List.length_map _, fun i hi => ?_⟩
  rw [show p.typ.rules.getD i mtcZ = (p.rules.getD i rulZ).mtc ((archOf p.arch).getD 0) by simp [Pol.typ, List.getD, hi]]
  obtain ⟨h1, h2⟩ := ok_facts (err_ok h i hi)
  exact ⟨h1, h2, fun k hk hkl => nrsU_lt _ (k - 1) k (by omega) hkl⟩
theorem out_zero (p : Pol) (h : p.err ≠ 0) : outT p = ⟨0, 0, []⟩ := by unfold outT; rw [if_neg h]
theorem own_strsO {w : World} {base : Nat} {e : TypeId} {v : Value} {n : Nat} {l : List ByteArray} (h : w.ownsRow base e 1 v n (l.map .string)) (hs : ∀ s ∈ l, s.size ≤ 9223372036854775807) : IsStrs w v l := by
  have hlen : l.length = n := by have := h.1; simpa using this
  have hcells := fun g => h.cells (g := g)
  rcases h.2 with ⟨rfl, h0⟩ | ⟨g, cap, cur, rfl, hb, hg, hnc, hcm, hsz, htk⟩
  · subst h0
    obtain rfl : l = [] := List.length_eq_zero_iff.1 hlen
    exact ⟨none, 0, 0, rfl, rfl, Nat.le_refl _, by decide, (by intro s hs; cases hs), .inl rfl⟩
  · refine ⟨_, _, _, rfl, hlen, hnc, by unfold maxLen at hcm; omega, hs, .inr ⟨g, 0, rfl, (Array.getElem?_eq_some_iff.1 hg).1, fun i hi => ?_⟩⟩
    have := hcells g rfl i (.string (l.getD i ByteArray.empty)) (by simp [List.getD, show i < l.length by omega])
    rwa [addr_add] at this
theorem own_formS {w : World} {base e : Nat} {size : Nat} {v : Value} {n : Nat} {xs : List Value} (h : w.ownsRow base e size v n xs) : ∃ A c, v = .slice A n c ∧ n ≤ c := by
  rcases h.2 with ⟨rfl, h0⟩ | ⟨g, cap, cur, rfl, hg, hh, hn, hc, _⟩
  · subst h0; exact ⟨_, _, rfl, by omega⟩
  · exact ⟨_, _, rfl, hn⟩
theorem app_own {w : World} {v v' : Value} {k : Nat} (h : v'.ownBlock = v.ownBlock ∨ v'.ownBlock = some w.heap.size) (hv : v.ownBlock ≠ some k) (hk : k < w.heap.size) : v'.ownBlock ≠ some k := by
  rcases h with h | h
  · rw [h]; exact hv
  · rw [h]; intro e; injection e with e; omega
theorem tmod_nat (a M : Int) (k : Nat) (h : a.tmod k = M) (h1 : (1 : Int) ≤ k) : ∃ b : Nat, (M + k).tmod k = (b : Int) ∧ (b : Int) < k := by
  have h4 : -((k : Nat) : Int) < a.tmod k := by
    have := Int.tmod_lt_of_pos (-a) (show (0 : Int) < k by omega)
    rw [Int.neg_tmod] at this
    omega
  have h0 : (0 : Int) ≤ (M + k).tmod k := Int.tmod_nonneg _ (by omega)
  have h5 := Int.tmod_lt_of_pos (M + k) (show (0 : Int) < k by omega)
  exact ⟨((M + k).tmod k).toNat, by omega, by omega⟩
theorem tmod_bound (a : Int) (k : Nat) (M : Int) (h : a.tmod k = M) (h1 : (1 : Int) ≤ k) (h2 : (k : Int) ≤ 60) : -60 ≤ M ∧ M ≤ 60 := by
  have h3 := Int.tmod_lt_of_pos a (show (0 : Int) < k by omega)
  have h4 : -((k : Nat) : Int) < a.tmod k := by
    have := Int.tmod_lt_of_pos (-a) (show (0 : Int) < k by omega)
    rw [Int.neg_tmod] at this
    omega
  omega
def NearB (g : Nat) (x u : World) : Prop := x.heap.size ≤ u.heap.size ∧ ∀ k, k < x.heap.size → k ≠ g → u.heap[k]? = x.heap[k]?
theorem nearB {x u : World} (h : Below x.heap.size x u) (g : Nat) : NearB g x u := ⟨h.size, fun k hk _ => h.block k hk⟩
theorem nearD {g : Nat} {x : World} : NearB g x x.drew := ⟨Nat.le_refl _, fun _ _ _ => rfl⟩
theorem nearAl {g : Nat} {x u : World} {R : Prop} (h : NearB g x u ∧ R) (o : Obj) : NearB g x (u.alloc o) := ⟨Nat.le_trans h.1.1 (by rw [World.size_alloc]; omega), fun k hk hg => (heap_alloc_old u o (Nat.lt_of_lt_of_le hk h.1.1)).trans (h.1.2 k hk hg)⟩
theorem nearSt {g : Nat} {x u : World} {R : Prop} (h : NearB g x u ∧ R) (o : Nat) (v : Value) : NearB g x (u.setCell ⟨g, o, none⟩ v) := ⟨by simpa [World.setCell] using h.1.1, fun k hk hg => (Below.heap_setCell _ _ _ _ hg).trans (h.1.2 k hk hg)⟩
theorem str_src {u : World} {b off : Nat} {l : List ByteArray} (h : ∀ i, i < l.length → u.cell? ⟨b, off + i, none⟩ = some (.string (l.getD i ByteArray.empty))) (k m : Nat) (hk : k + m ≤ l.length) : ∀ j x, (((l.drop k).take m).map Value.string)[j]? = some x → u.cell? ((⟨b, off + k, none⟩ : Addr).add j) = some x := by
  intro j x hj
  rw [addr_add]
  obtain ⟨hjl, e⟩ := List.getElem?_eq_some_iff.1 hj
  simp only [List.length_map, List.length_take, List.length_drop] at hjl
  rw [← e]
  simp only [List.getElem_map, List.getElem_take, List.getElem_drop]
  have := h (k + j) (by omega)
  rw [show off + k + j = off + (k + j) by omega, this]
  simp [List.getD, show k + j < l.length by omega]
theorem spun_step (y : Int) (l : List Rul) (j : Nat) (hj : j < l.length) : (l.take (j + 1)).map (Rul.spun y) ++ l.drop (j + 1) = ((l.take j).map (Rul.spun y) ++ l.drop j).set j ((l.getD j rulZ).spun y) := by
  induction l generalizing j with
  | nil => simp at hj
  | cons m l ih =>
    cases j with
    | zero => simp [List.getD]
    | succ j =>
      simp only [List.take_succ_cons, List.map_cons, List.cons_append, List.drop_succ_cons, List.set_cons_succ, List.getD_cons_succ]
      rw [ih j (by simpa using hj)]
theorem spun_at (y : Int) (l : List Rul) (j : Nat) (hj : j < l.length) : ((l.take j).map (Rul.spun y) ++ l.drop j).getD j rulZ = l.getD j rulZ := by
  rw [List.getD_eq_getElem?_getD, List.getD_eq_getElem?_getD, List.getElem?_append_right (by rw [List.length_map, List.length_take]; omega), List.length_map, List.length_take, List.getElem?_drop, show j + (j - min j l.length) = j by omega]
theorem set_self (l : List Rul) (j : Nat) (hj : j < l.length) : l.set j (l.getD j rulZ) = l := by
  rw [show l.getD j rulZ = l[j] by simp [List.getD, hj]]
  exact List.set_getElem_self ..
theorem keepB {w0 W W' : World} {row : Option Nat} (h : Below w0.heap.size w0 W) (g : W.grownBy W' row) (hr : ∀ k, row = some k → w0.heap.size ≤ k) : Below w0.heap.size w0 W' := h.grown g h.size hr
theorem infoStrO : (Try.prog.info? 9).map (fun i => (i.zero, i.size, i.bytes)) = some (some (.string ⟨#[]⟩), 1, 16) := by kernel_rfl
theorem infoRulO : (Try.prog.info? 46).map (fun i => (i.zero, i.size, i.bytes)) = some (some (.agg #[.string ⟨#[]⟩, .int .u64 0, .slice none 0 0, .int .i64 0, .slice none 0 0, .int .i64 0, .int .u64 0, .string ⟨#[]⟩, .int .u64 0]), 9, 120) := by kernel_rfl
set_option maxRecDepth 100000 in
set_option maxHeartbeats 8000000 in
theorem walk (v0 : Value) (p : Pol) (n0 : Int) (w : World) (w0 : IsPol w v0 p) (w1 : (Lit.int .i64 n0).wf = true) :
    Calls Try.prog 5 #[v0, .int .i64 n0] w fun e w' => e = .returned (.bool true) ∧ Below w.heap.size w w' := by
  have hy : -9223372036854775808 ≤ n0 ∧ n0 ≤ 9223372036854775807 := by simpa [Lit.wf, IntKind.min, IntKind.max, IntKind.signed, IntKind.bits] using w1
  clear w1
  have HFW := Lib.hid (fun u (hu : Below w.heap.size w u) => refFew15 p v0 u (w0.below hu))
  have HPL := Lib.hid w0
  obtain ⟨ht1, ht2, ht3, k, rfl, hk⟩ := id w0
  obtain ⟨A, n, c, rfl, hl, hc1, hc2, _⟩ := id hk
  have hnI : (n : Int) ≤ 9223372036854775807 := by omega
  have HAL := Lib.hid (fun u => tyAlive u)
  obtain ⟨B, hBB⟩ : ∃ B, w.heap.size = B := ⟨_, rfl⟩
  have hb1 := (Below.refl w.heap.size w).alloc (Nat.le_refl _) (.cells #[.string p.arch, .string p.dflt, .int .u64 (p.data : Nat), .slice A n c] 32)
  have hn1 := heap_alloc_new w (.cells #[.string p.arch, .string p.dflt, .int .u64 (p.data : Nat), .slice A n c] 32)
  have HT := Lib.hid (And.intro ht1 (And.intro ht2 ht3)); have HL := Lib.hid hl; have HRL := Lib.hid hk
  clear ht1 ht2 ht3 hl hc1 hc2 hk w0
  go_enter Try.func5, Try.ntmps5
  go_upto_region 1 with fail
  obtain ⟨W, hW⟩ : ∃ W, w.alloc (.cells #[.string p.arch, .string p.dflt, .int .u64 (p.data : Nat), .slice A n c] 32) = W := ⟨_, rfl⟩
  rw [hW] at hb1 hn1 ⊢
  rw [hBB] at hn1
  (try rw [hBB])
  have HB0 := Lib.hid hb1; have HN0 := Lib.hid hn1; have HBB := Lib.hid hBB
  clear hW hb1 hn1 hBB
  have d0 := below_cell (Below.refl _ W) HN0.out 0 rfl
  have d1 := below_cell (Below.refl _ W) HN0.out 1 rfl
  have d2 := below_cell (Below.refl _ W) HN0.out 2 rfl
  have d3 := below_cell (Below.refl _ W) HN0.out 3 rfl
  obtain ⟨fw, hfw⟩ : ∃ fw, p.few = fw := ⟨_, rfl⟩
  rw [hfw] at HFW
  go_upto_region 2 with (first | (go_at_call 14; refine (HFW.out _ HB0.out).mono ?_; rintro e w2 ⟨rfl, hb2⟩; have hN2 := (hb2.block _ (lt_of_block HN0.out)).trans HN0.out; have e0 := below_cell (Below.refl _ w2) hN2 0 rfl; have e1 := below_cell (Below.refl _ w2) hN2 1 rfl; have e2 := below_cell (Below.refl _ w2) hN2 2 rfl; have e3 := below_cell (Below.refl _ w2) hN2 3 rfl; have f0 := block_frozen hN2 0; have f1 := block_frozen hN2 1; have f2 := block_frozen hN2 2; have f3 := block_frozen hN2 3))
  have hN3 := set4_block hN2 (.string p.arch) (.string p.dflt) (.int .u64 (p.data : Nat)) (.slice A n c)
  have hb3 := set4_below (HB0.out.trans (hb2.mono HB0.out.size)) (show w.heap.size ≤ B by rw [HBB.out]; exact Nat.le_refl _) (.string p.arch) (.string p.dflt) (.int .u64 (p.data : Nat)) (.slice A n c)
  obtain ⟨w3, hw3⟩ : ∃ w3, (((w2.setCell ⟨B, 0, none⟩ (.string p.arch)).setCell ⟨B, 1, none⟩ (.string p.dflt)).setCell ⟨B, 2, none⟩ (.int .u64 (p.data : Nat))).setCell ⟨B, 3, none⟩ (.slice A n c) = w3 := ⟨_, rfl⟩
  rw [hw3] at hN3 hb3 ⊢
  have HB3 := Lib.hid hb3; have HN3 := Lib.hid hN3
  clear hw3 hN3 hb3 hN2 hb2 d0 d1 d2 d3 e0 e1 e2 e3 f0 f1 f2 f3 HB0 HN0 HFW
  cases fw with
  | false =>
    go_wp2_with (first | (go_at_call 9; refine (HAL.out _).mono ?_; rintro e w5 ⟨rfl, hb5⟩))
    first
    | (go_ret; exact ⟨by first | rfl | simp, HB3.out.trans (hb5.mono HB3.out.size)⟩)
    | (refine bodyPost_ret (results_tmp rfl _ _ _) rfl ?_; exact ⟨by first | rfl | simp, HB3.out.trans (hb5.mono HB3.out.size)⟩)
  | true =>
    have HNM := Lib.hid (few_names hfw)
    have HNM6 := Lib.hid (show ∀ m ∈ p.rules, m.names.length ≤ 60 from fun m hm => ((Pol.few_le hfw).2 m hm).1)
    have HSZ := Lib.hid (out_size p (fun m hm => ((Pol.few_le hfw).2 m hm).2))
    have HN30 := Lib.hid (show n ≤ 30 by have := (Pol.few_le hfw).1; have := HL.out; omega)
    clear hfw
    have HC := Lib.hid (fun u (hu : Below w.heap.size w u) => (tyCheck p _ u (HPL.out.below hu) HNM.out).mono (fun e w' h => (And.intro (out_of h.1) h.2)))
    have hc2 := fun u k (hk : IsRuls u k (p.spun n0).rules) => (tyCheck (p.spun n0) (.agg #[.string p.arch, .string p.dflt, .int .u64 (p.data : Nat), k]) u ⟨HT.out.1, HT.out.2.1, HT.out.2.2, k, rfl, hk⟩ (spun_names HNM6.out)).mono (fun e w' h => (And.intro (out_of h.1) h.2))
    simp only [outT_spun, spun_err] at hc2
    have HC2 := Lib.hid hc2
    have HTY := Lib.hid (fun u k h => @out_typ p u k h)
    have HLK := Lib.hid (fun va vb u ha hb => refLike16 (outT p) va vb u ha hb HSZ.out)
    have HF0 := Lib.hid (out_fact p); have HF1 := Lib.hid (out_zero p)
    clear hc2
    generalize p.err = ER at *
    generalize outT p = T at *
    have d0 := below_cell (Below.refl _ w3) HN3.out 0 rfl
    have d1 := below_cell (Below.refl _ w3) HN3.out 1 rfl
    have d2 := below_cell (Below.refl _ w3) HN3.out 2 rfl
    have d3 := below_cell (Below.refl _ w3) HN3.out 3 rfl
    go_upto_region 5 with (first | (go_at_call 15; refine (HC.out _ HB3.out).mono ?_; rintro e w4 ⟨⟨A4, m4, c4, rfl, hr4⟩, hb4⟩))
    clear d0 d1 d2 d3
    have hA := heap_alloc_new w4 (.cells #[.int .u32 (T.arch : Nat), .int .u32 (T.dflt : Nat), .slice A4 m4 c4] 38)
    have hA1 := (Below.refl w4.heap.size w4).alloc (Nat.le_refl _) (.cells #[.int .u32 (T.arch : Nat), .int .u32 (T.dflt : Nat), .slice A4 m4 c4] 38)
    obtain ⟨w5, hw5⟩ : ∃ w5, w4.alloc (.cells #[.int .u32 (T.arch : Nat), .int .u32 (T.dflt : Nat), .slice A4 m4 c4] 38) = w5 := ⟨_, rfl⟩
    obtain ⟨b4, hb4'⟩ : ∃ b4, w4.heap.size = b4 := ⟨_, rfl⟩
    rw [hw5] at hA hA1 ⊢
    rw [hb4'] at hA
    (try rw [hb4'])
    have hb5 := hb4.trans (hA1.mono hb4.size)
    have HB5 := Lib.hid (HB3.out.trans (hb5.mono HB3.out.size)); have HN5 := Lib.hid ((hb5.block _ (lt_of_block HN3.out)).trans HN3.out); have HA5 := Lib.hid hA; have HR5 := Lib.hid (hr4.below hA1)
    clear hw5 hA hA1 hb4 hb4' hb5 hr4 HB3 HN3 HC
    have d0 := below_cell (Below.refl _ w5) HN5.out 0 rfl
    have d1 := below_cell (Below.refl _ w5) HN5.out 1 rfl
    have d2 := below_cell (Below.refl _ w5) HN5.out 2 rfl
    have d3 := below_cell (Below.refl _ w5) HN5.out 3 rfl
    have hq := heap_alloc_new w5 (.cells #[.string p.arch, .string p.dflt, .int .u64 (p.data : Nat), .slice A n c] 32)
    have hq1 := (Below.refl w5.heap.size w5).alloc (Nat.le_refl _) (.cells #[.string p.arch, .string p.dflt, .int .u64 (p.data : Nat), .slice A n c] 32)
    go_upto_region 6 with fail
    clear d0 d1 d2 d3
    obtain ⟨w6, hw6⟩ : ∃ w6, w5.alloc (.cells #[.string p.arch, .string p.dflt, .int .u64 (p.data : Nat), .slice A n c] 32) = w6 := ⟨_, rfl⟩
    obtain ⟨Q, hQ⟩ : ∃ Q, w5.heap.size = Q := ⟨_, rfl⟩
    have hs6 : w6.heap.size = Q + 1 := by rw [← hw6, ← hQ]; simp
    rw [hw6] at hq hq1 ⊢
    rw [hQ] at hq
    (try rw [hQ])
    have HQL := Lib.hid (show w.heap.size ≤ Q by rw [← hQ]; exact HB5.out.size)
    have HB6 := Lib.hid hq1; have HW6 := Lib.hid (HB5.out.trans (hq1.mono HB5.out.size)); have HQ6 := Lib.hid hq; have HS6 := Lib.hid hs6; have HQE := Lib.hid hQ
    have HN6 := Lib.hid ((hq1.block _ (lt_of_block HN5.out)).trans HN5.out)
    have HN50 := HN5
    clear hw6 hQ hq hq1 hs6 HN5
    obtain ⟨iM, hi, hz0, hz1, hz2⟩ := info_parts infoRulO
    obtain ⟨vs, hvs, hsrc⟩ := ruls_vs HRL.out
    have hcl : (rulsCells p.rules vs).length = n * 9 := by rw [rulsCells_len _ _ hvs.1, HL.out]
    have hone := rulsCells_one _ _ hvs
    have O1 := World.ownsRow_made (base := w6.heap.size) (e := 46) (size := 9) w6 #[] 0 (Nat.le_refl _) (by unfold maxLen; omega) rfl
    have d3 := below_cell (Below.refl _ w6) HN6.out 3 rfl
    have hal := (Below.refl w6.heap.size w6).alloc (Nat.le_refl _) (.cells #[] 46)
    have d3a := below_cell hal HN6.out 3 rfl
    have hsrc2 : (A = none ∧ n = 0 ∧ c = 0 ∧ rulsCells p.rules vs = []) ∨ ∃ ad, A = some ad ∧ ∀ j x, (rulsCells p.rules vs)[j]? = some x → (w6.alloc (.cells #[] 46)).cell? (ad.add j) = some x := by
      rcases hsrc with h | ⟨ad, h1, h2⟩
      · exact .inl h
      · exact .inr ⟨ad, h1, fun j x hj => ((HW6.out.alloc HW6.out.size (.cells #[] 46)).cell (p := ad.add j) (World.block_lt_of_cell? _ _ (h2 j x hj))).trans (h2 j x hj)⟩
    have HCL := Lib.hid hcl; have HONE := Lib.hid hone; have HSRC := Lib.hid hsrc2; have HO1 := Lib.hid O1; have HVS := Lib.hid hvs; have HAL0 := Lib.hid hal
    have Z1 : Hid ((w6.alloc (.cells #[] 46)).heap.size = w6.heap.size + 1) := Lib.hid (World.size_alloc _ _)
    clear hcl hone hsrc hsrc2 O1 hvs hal
    go_upto_region 7 with (first
      | (at_builtin; go_must (refine wpList_append_at rfl _ _ 30 rfl w6.heap.size 46 Try.underlying30 hi hz0 hz1 hz2 rfl (by decide) _ 0 [] rfl HO1.out A n c _ rfl HCL.out HSRC.out HONE.out (by have := HN30.out; unfold maxLen; omega) (by have := HN30.out; omega) (by rw [Z1.out]; omega) ?_)))
    intro v8 w8 own8 gr8 at8
    have own8 : w8.ownsRow w6.heap.size 46 9 v8 n (rulsCells p.rules vs) := by first | exact own8 | simpa using own8
    obtain ⟨g, qc, rfl, hg, hqc, hqm⟩ : ∃ g qc, v8 = .slice (some ⟨g, 0, none⟩) n qc ∧ w6.heap.size ≤ g ∧ n ≤ qc ∧ qc ≤ maxLen := by
      rcases own8.2 with ⟨rfl, _⟩ | ⟨g, qc, cur, rfl, hg, hh, hn2, hc2, _⟩
      · rcases at8 with h | h <;> cases h
      · exact ⟨g, qc, rfl, hg, hn2, hc2⟩
    have hb8 := HAL0.out.grown gr8 HAL0.out.size (fun k hk => (HO1.out.lt k hk).1)
    have hQ8 := (hb8.block _ (lt_of_block HQ6.out)).trans HQ6.out
    have hQg : Q < g := Nat.lt_of_lt_of_le (lt_of_block HQ6.out) hg
    have hneQ : (Value.slice (some ⟨g, 0, none⟩) n qc).ownBlock ≠ some Q := fun e => by
      simp only [Value.ownBlock, Option.some.injEq] at e
      omega
    have z3 := below_cell (Below.refl _ w8) hQ8 3 rfl
    have f3 := block_frozen hQ8 3
    have HQ11 := Lib.hid (show (w8.setCell ⟨Q, 3, none⟩ (.slice (some ⟨g, 0, none⟩) n qc)).heap[Q]? = some (.cells #[.string p.arch, .string p.dflt, .int .u64 (p.data : Nat), .slice (some ⟨g, 0, none⟩) n qc] 32 (0, 0)) from block_set hQ8 3 (.slice (some ⟨g, 0, none⟩) n qc))
    have own11 := own_put own8 hneQ 3 (.slice (some ⟨g, 0, none⟩) n qc)
    have hb58 := HB6.out.trans (hb8.mono HB6.out.size)
    have HB11 := Lib.hid (hb58.setCell (p := ⟨Q, 3, none⟩) (by rw [HQE.out]; exact Nat.le_refl _) (.slice (some ⟨g, 0, none⟩) n qc))
    have HQA := Lib.hid (QAt.new own11 HL.out HVS.out HW6.out.size (HB5.out.trans (HB11.out.mono HB5.out.size)))
    have HQC := Lib.hid (show n ≤ qc ∧ qc ≤ 9223372036854775807 from ⟨hqc, by unfold maxLen at hqm; exact hqm⟩); have HQG := Lib.hid hQg
    clear own8 own11 gr8 at8 hb8 hb58 hQ8 hQg hneQ hg hqc hqm HCL HONE HSRC HO1 HVS HAL0 Z1 d3 d3a HN6 HW6 HQ6 HB6 HS6 hi hz0 hz1 hz2
    go_upto_region 7 with fail
    obtain ⟨w11, hw11⟩ : ∃ w11, w8.setCell ⟨Q, 3, none⟩ (.slice (some ⟨g, 0, none⟩) n qc) = w11 := ⟨_, rfl⟩
    rw [hw11] at HQ11 HB11 HQA ⊢
    clear hw11 z3 f3
    have q3 := below_cell (Below.refl _ w11) HQ11.out 3 rfl
    go_upto_region 8 with fail
    clear q3
    go_loopw [40] (fun z wr => ∃ j : Nat, z = .int .i64 (j : Nat) ∧ j ≤ n ∧ Hid (QAt w wr g n ((p.rules.take j).map (Rul.spun n0) ++ p.rules.drop j)) ∧ Hid (wr.heap[Q]? = some (.cells #[.string p.arch, .string p.dflt, .int .u64 (p.data : Nat), .slice (some ⟨g, 0, none⟩) n qc] 32 (0, 0))) ∧ Hid (Below w5.heap.size w5 wr)) (fun z _ => n - (intOf z).toNat)
    case atStart => exact ⟨0, rfl, Nat.zero_le _, Lib.hid (by simpa using HQA.out), HQ11, HB11⟩
    case round =>
      clear HQ11 HB11 HQA
      obtain ⟨j, rfl, hj, HQA, HQW, HBW⟩ := hrel
      by_cases hlt : j < n
      · have hjI : (j : Int) < n := by omega
        have hjl : j < p.rules.length := by rw [HL.out]; exact hlt
        obtain ⟨hql, hqg, hqb, ⟨gcs, hgh, hgs⟩, hqr⟩ := HQA.out
        obtain ⟨hbd, ks, kk, hcs, hfs, hkc⟩ := hqr j hlt
        have hat := spun_at n0 p.rules j hjl
        have hstp := spun_step n0 p.rules j hjl
        have hput := fun (u : World) (h : QAt w u g n ((p.rules.take j).map (Rul.spun n0) ++ p.rules.drop j)) ks' l hf => h.put j hlt ks' l hf
        have hsame : (p.rules.getD j rulZ).names.length = 0 → QAt w wr g n ((p.rules.take (j + 1)).map (Rul.spun n0) ++ p.rules.drop (j + 1)) := fun h0 => by
          rw [hstp, show (p.rules.getD j rulZ).spun n0 = p.rules.getD j rulZ from if_pos h0, ← hat, set_self _ j (by rw [hql]; exact hlt)]
          exact HQA.out
        have hnm6 : (p.rules.getD j rulZ).names.length ≤ 60 := HNM6.out _ (by rw [show p.rules.getD j rulZ = p.rules[j] by simp [List.getD, hjl]]; exact List.getElem_mem _)
        rw [hat] at hbd hcs hfs hkc hput
        generalize hM : p.rules.getD j rulZ = m at *
        obtain ⟨act, data, names, kind, kids, arg, mask, sign, value⟩ := m
        obtain ⟨na, nn, nc, rfl, hnl, hnc1, hnc2, hnsz, _⟩ := id hfs.ok
        obtain ⟨ca, cn, cc, rfl, _⟩ := id hkc
        simp only at hnl hnm6 hnsz hfs hsame hput
        have e0 : wr.cell? ⟨g, j * 9, none⟩ = some (.string act) := hcs 0 _ rfl
        have e1 : wr.cell? ⟨g, j * 9 + 1, none⟩ = some (.int .u64 (data : Nat)) := hcs 1 _ rfl
        have e2 : wr.cell? ⟨g, j * 9 + 2, none⟩ = some (.slice na nn nc) := hcs 2 _ rfl
        have e3 : wr.cell? ⟨g, j * 9 + 3, none⟩ = some (.int .i64 kind) := hcs 3 _ rfl
        have e4 : wr.cell? ⟨g, j * 9 + 4, none⟩ = some (.slice ca cn cc) := hcs 4 _ rfl
        have e5 : wr.cell? ⟨g, j * 9 + 5, none⟩ = some (.int .i64 arg) := hcs 5 _ rfl
        have e6 : wr.cell? ⟨g, j * 9 + 6, none⟩ = some (.int .u64 (mask : Nat)) := hcs 6 _ rfl
        have e7 : wr.cell? ⟨g, j * 9 + 7, none⟩ = some (.string sign) := hcs 7 _ rfl
        have e8 : wr.cell? ⟨g, j * 9 + 8, none⟩ = some (.int .u64 (value : Nat)) := hcs 8 _ rfl
        have HSTP := Lib.hid hstp; have HPUT := Lib.hid hput; have HSM := Lib.hid hsame; have HFS := Lib.hid hfs; have HNL := Lib.hid hnl; have HNS := Lib.hid hnsz; have HN60 := Lib.hid hnm6; have HGH := Lib.hid hgh; have HGB := Lib.hid hqg; have HLT := Lib.hid hlt; have HJL := Lib.hid hjl; have HNC := Lib.hid (And.intro hnc1 hnc2); have HMM := Lib.hid hM; have HCE := Lib.hid e2; have HGB2 := Lib.hid (lt_of_block hgh)
        have hnnI : (nn : Int) ≤ 60 := by omega
        clear hql hqg hqb hgh hgs hqr hbd hcs hfs hkc hat hstp hput hsame hnm6 hnl hnsz hlt hjl hnc1 hnc2 hM
        go_upto_region 10 with fail
        have hn7 := heap_alloc_new wr (.cells #[.string act, .int .u64 (data : Nat), .slice na nn nc, .int .i64 kind, .slice ca cn cc, .int .i64 arg, .int .u64 (mask : Nat), .string sign, .int .u64 (value : Nat)] 46)
        have hy7 := (Below.refl wr.heap.size wr).alloc (Nat.le_refl _) (.cells #[.string act, .int .u64 (data : Nat), .slice na nn nc, .int .i64 kind, .slice ca cn cc, .int .i64 arg, .int .u64 (mask : Nat), .string sign, .int .u64 (value : Nat)] 46)
        obtain ⟨w7, hw7⟩ : ∃ w7, wr.alloc (.cells #[.string act, .int .u64 (data : Nat), .slice na nn nc, .int .i64 kind, .slice ca cn cc, .int .i64 arg, .int .u64 (mask : Nat), .string sign, .int .u64 (value : Nat)] 46) = w7 := ⟨_, rfl⟩
        obtain ⟨b7, hb7⟩ : ∃ b7, wr.heap.size = b7 := ⟨_, rfl⟩
        rw [hw7] at hn7 hy7 ⊢
        rw [hb7] at hn7
        (try rw [hb7])
        have HY7 := Lib.hid hy7; have HN7 := Lib.hid hn7; have HB7 := Lib.hid hb7
        clear hn7 hy7 hw7 hb7 e0 e1 e2 e3 e4 e5 e6 e7 e8
        have y2 := below_cell (Below.refl _ w7) HN7.out 2 rfl
        go_upto_region 11 with fail
        clear y2
        by_cases hn0 : nn = 0
        · have hQX := (HSM.out (by rw [HNL.out]; exact hn0)).below HY7.out
          have HQX := Lib.hid hQX; have HWX := Lib.hid ((HY7.out.block _ (lt_of_block HQW.out)).trans HQW.out); have HBX := Lib.hid (HBW.out.trans (HY7.out.mono HBW.out.size))
          subst hn0
          clear hQX HFS HPUT
          go_wp2_with fail
          go_roundw
          case rel => exact ⟨j + 1, by go_num, HLT.out, HQX, HWX, HBX⟩
          case measure => have := HLT.out; simp [intOf]; omega
        · have hn1 : (1 : Int) ≤ nn := by omega
          have hn1b : (0 : Int) < nn := by omega
          obtain ⟨M, hM⟩ : ∃ M : Int, n0.tmod nn = M := ⟨_, rfl⟩
          have hMb : -60 ≤ M ∧ M ≤ 60 := tmod_bound n0 nn M hM hn1 hnnI
          obtain ⟨BB, hBB⟩ : ∃ BB : Nat, (M + nn).tmod nn = (BB : Int) ∧ (BB : Int) < nn := tmod_nat n0 M nn hM hn1
          have hBB1 := hBB.1
          have hBB2 := hBB.2
          have hrn : wrap64 (n0.tmod nn) = M := by rw [hM]; exact IntWalk.wrap64_in _ (by omega)
          have HSPK := Lib.hid (show spinK n0 nn = BB by unfold spinK; rw [hM, hBB1]; rfl)
          go_upto_region 13 with fail
          obtain ⟨b, off, rfl, hcn⟩ : ∃ b off, na = some ⟨b, off, none⟩ ∧ ∀ u, NearB g w7 u → ∀ i, i < names.length → u.cell? ⟨b, off + i, none⟩ = some (.string (names.getD i ByteArray.empty)) := by
            obtain ⟨a, len, cap, hv, h1, _, _, _, h5⟩ := HFS.out.ok
            injection hv with q1 q2 q3
            subst q1 q2 q3
            obtain ⟨b, off, rfl, _, _⟩ := h5.resolve_left hn0
            refine ⟨b, off, rfl, fun u hu => ?_⟩
            obtain ⟨a, len, cap, hv, h1, _, _, _, h5⟩ := HFS.out u (Nat.le_trans HY7.out.size hu.1) (fun k hk hg => (hu.2 k (Nat.lt_of_lt_of_le hk HY7.out.size) hg).trans (HY7.out.block k hk))
            injection hv with q1 q2 q3
            subst q1 q2 q3
            obtain ⟨b', off', e, _, hat⟩ := h5.resolve_left hn0
            injection e with e
            injection e with e1 e2 _
            subst e1 e2
            exact fun i hi => hat i (by rw [h1] at hi; exact hi)
          have hQ7 := (HY7.out.block _ (lt_of_block HQW.out)).trans HQW.out
          have HG7 := Lib.hid ((HY7.out.block _ HGB2.out).trans HGH.out); have HG7L := Lib.hid (Nat.lt_of_lt_of_le HGB2.out HY7.out.size)
          have HCE7 := Lib.hid ((HY7.out.cell (p := ⟨g, j * 9 + 2, none⟩) HGB2.out).trans HCE.out)
          have hbg : b7 ≠ g := by have := HB7.out; have := HGB2.out; omega
          have HXS := Lib.hid (fun (u : World) (hu : NearB g w7 u) => show u.cell? ⟨Q, 3, none⟩ = some (.slice (some ⟨g, 0, none⟩) n qc) ∧ u.cell? ⟨b7, 2, none⟩ = some (.slice (some ⟨b, off, none⟩) nn nc) from ⟨(cell_of_heap (hu.2 Q (lt_of_block hQ7) (by have := HQG.out; omega))).trans (below_cell (Below.refl _ w7) hQ7 3 rfl), (cell_of_heap (hu.2 b7 (lt_of_block HN7.out) hbg)).trans (below_cell (Below.refl _ w7) HN7.out 2 rfl)⟩)
          have HQ7 := Lib.hid hQ7
          have hBn : BB < nn := by omega
          obtain ⟨cs1, hcs1⟩ : ∃ cs1, ((names.drop BB).take (nn - BB)).map Value.string = cs1 := ⟨_, rfl⟩
          obtain ⟨cs2, hcs2⟩ : ∃ cs2, ((names.drop 0).take nn).map Value.string = cs2 := ⟨_, rfl⟩
          obtain ⟨cs3, hcs3⟩ : ∃ cs3, ((names.drop 0).take BB).map Value.string = cs3 := ⟨_, rfl⟩
          have HCL1 := Lib.hid (show cs1.length = (nn - BB) * 1 by rw [← hcs1, List.length_map, List.length_take, List.length_drop, HNL.out]; omega)
          have HCL2 := Lib.hid (show cs2.length = nn * 1 by rw [← hcs2, List.length_map, List.length_take, List.length_drop, HNL.out]; omega)
          have HCL3 := Lib.hid (show cs3.length = BB * 1 by rw [← hcs3, List.length_map, List.length_take, List.length_drop, HNL.out]; omega)
          have hone : ∀ (l : List ByteArray), ∀ u ∈ l.map Value.string, u.oneCell' = true := fun l u hu => by obtain ⟨s, _, rfl⟩ := List.mem_map.1 hu; rfl
          have HONE1 := Lib.hid (hcs1 ▸ hone _ : ∀ u ∈ cs1, u.oneCell' = true); have HONE2 := Lib.hid (hcs2 ▸ hone _ : ∀ u ∈ cs2, u.oneCell' = true); have HONE3 := Lib.hid (hcs3 ▸ hone _ : ∀ u ∈ cs3, u.oneCell' = true)
          have HSRC1 := Lib.hid (fun (u : World) (R : Prop) (hu : NearB g w7 u ∧ R) => show ((some ⟨b, off + BB, none⟩ : Option Addr) = none ∧ nn - BB = 0 ∧ nc - BB = 0 ∧ cs1 = []) ∨ ∃ ad : Addr, (some ⟨b, off + BB, none⟩ : Option Addr) = some ad ∧ ∀ jj x, cs1[jj]? = some x → u.cell? (ad.add jj) = some x from .inr ⟨_, rfl, by rw [← hcs1]; exact str_src (hcn u hu.1) BB (nn - BB) (by rw [HNL.out]; omega)⟩)
          have HSRC2 := Lib.hid (fun (u : World) (R : Prop) (hu : NearB g w7 u ∧ R) => show ((some ⟨b, off, none⟩ : Option Addr) = none ∧ nn = 0 ∧ nc = 0 ∧ cs2 = []) ∨ ∃ ad : Addr, (some ⟨b, off, none⟩ : Option Addr) = some ad ∧ ∀ jj x, cs2[jj]? = some x → u.cell? (ad.add jj) = some x from .inr ⟨_, rfl, by rw [← hcs2]; exact str_src (hcn u hu.1) 0 nn (by rw [HNL.out]; omega)⟩)
          have HSRC3 := Lib.hid (fun (u : World) (R : Prop) (hu : NearB g w7 u ∧ R) => show ((some ⟨b, off, none⟩ : Option Addr) = none ∧ BB = 0 ∧ nc = 0 ∧ cs3 = []) ∨ ∃ ad : Addr, (some ⟨b, off, none⟩ : Option Addr) = some ad ∧ ∀ jj x, cs3[jj]? = some x → u.cell? (ad.add jj) = some x from .inr ⟨_, rfl, by rw [← hcs3]; exact str_src (hcn u hu.1) 0 BB (by rw [HNL.out]; omega)⟩)
          have HAP := Lib.hid (show cs1 ++ cs2 ++ cs3 = (spinL BB names).map Value.string by
            rw [← hcs1, ← hcs2, ← hcs3]
            unfold spinL
            rw [List.map_append, List.map_append, List.drop_zero, List.take_of_length_le (show (names.drop BB).length ≤ nn - BB by rw [List.length_drop, HNL.out]; exact Nat.le_refl _), List.take_of_length_le (show names.length ≤ nn by rw [HNL.out]; exact Nat.le_refl _)])
          have O1 := Lib.hid (World.ownsRow_made (base := w7.heap.size) (e := 9) (size := 1) w7 #[] 0 (Nat.le_refl _) (by unfold maxLen; omega) rfl)
          have Z1 : Hid ((w7.alloc (.cells #[] 9)).heap.size = w7.heap.size + 1) := Lib.hid (World.size_alloc _ _)
          have HAL7 := Lib.hid ((Below.refl w7.heap.size w7).alloc (Nat.le_refl _) (.cells #[] 9))
          obtain ⟨iS, hi, hz0, hz1, hz2⟩ := info_parts infoStrO
          have hcB : (BB : Int) ≤ nc := by have := HNC.out; omega
          have hBjI : (BB : Int) ≤ nn := by omega
          have hBjE : ¬ BB = nn := by omega
          have hBcE : ¬ BB = nc := by have := HNC.out; omega
          have hnc0 : (nn : Int) ≤ nc := by have := HNC.out; omega
          have HBN := Lib.hid hBn
          clear hcs1 hcs2 hcs3 hone hcn hQ7 hrn hM hMb hBB hBB1 hBn HFS HSM
          go_region_held3 (fun u => NearB g w7 u ∧ u.cell? ⟨Q, 3, none⟩ = some (.slice (some ⟨g, 0, none⟩) n qc) ∧ u.cell? ⟨b7, 2, none⟩ = some (.slice (some ⟨b, off, none⟩) nn nc))
            ((refine (fun h => And.intro h (HXS.out _ h)) ?_; first | assumption | exact nearD | exact nearAl (by assumption) _ | exact nearSt (by assumption) _ _))
            (first
            | (refine step_append_at (by rfl) (Operand.tmp 60) (Operand.tmp 64) 44 (by rfl) w7.heap.size 9 Try.underlying44 hi hz0 hz1 hz2 rfl (by decide) (.slice (some ⟨w7.heap.size, 0, none⟩) 0 0) 0 [] (by simp [go_sem]) (by exact O1.out) (some ⟨b, off + BB, none⟩) (nn - BB) (nc - BB) cs1 (by simp [go_sem]; try omega) HCL1.out (HSRC1.out _ _ (by assumption)) HONE1.out (by have := HN60.out; have := HNL.out; unfold maxLen; omega) (by have := HN60.out; have := HNL.out; omega) (by show w7.heap.size ≤ (w7.alloc (.cells #[] 9)).heap.size; have := Z1.out; omega) ?_; intro v1 w61 own1 gr1 at1; rw [Nat.zero_add, List.nil_append] at own1; have hb6 : Below w7.heap.size w7 w61 := (by first | exact keepB HAL7.out.drew gr1 (fun k hk => by have e : w7.heap.size = k := (by simpa [Value.ownBlock] using hk); omega) | exact keepB HAL7.out gr1 (fun k hk => by have e : w7.heap.size = k := (by simpa [Value.ownBlock] using hk); omega)); have hq6 := nearB hb6 g; have hz6 := hb6.size; have hne6 : v1.ownBlock ≠ some g := app_own at1 (by simp only [Value.ownBlock, ne_eq, Option.some.injEq]; have := HG7L.out; omega) (by show g < (w7.alloc (.cells #[] 9)).heap.size; have := Z1.out; have := HG7L.out; omega))
            | (refine step_append_at (by rfl) (Operand.tmp 65) (Operand.tmp 67) 44 (by rfl) w7.heap.size 9 Try.underlying44 hi hz0 hz1 hz2 rfl (by decide) v1 (nn - BB) cs1 (by simp [go_sem]) own1 (some ⟨b, off, none⟩) nn nc cs2 (by simp [go_sem]; try omega) HCL2.out (HSRC2.out _ _ (by assumption)) HONE2.out (by have := HN60.out; have := HNL.out; unfold maxLen; omega) (by have := HN60.out; have := HNL.out; omega) hz6 ?_; intro v2 w62 own2 gr2 at2; have hb7 := keepB hb6 gr2 (fun k hk => (own1.lt k hk).1); have hq7 := nearB hb7 g; have hz7 := hb7.size; have hne7 : v2.ownBlock ≠ some g := app_own at2 hne6 (Nat.lt_of_lt_of_le HG7L.out hz6))
            | (refine step_append_at (by rfl) (Operand.tmp 68) (Operand.tmp 72) 44 (by rfl) w7.heap.size 9 Try.underlying44 hi hz0 hz1 hz2 rfl (by decide) v2 (nn - BB + nn) (cs1 ++ cs2) (by simp [go_sem]) own2 (some ⟨b, off, none⟩) BB nc cs3 (by simp [go_sem]; try omega) HCL3.out (HSRC3.out _ _ (by assumption)) HONE3.out (by have := HN60.out; have := HNL.out; unfold maxLen; omega) (by have := HN60.out; have := HNL.out; omega) hz7 ?_; intro v3 w63 own3 gr3 at3; have hb8 := keepB hb7 gr3 (fun k hk => (own2.lt k hk).1); have hq8 := nearB hb8 g; have hne8 : v3.ownBlock ≠ some g := app_own at3 hne7 (Nat.lt_of_lt_of_le HG7L.out hz7); obtain ⟨A9, c9, e9, _⟩ := own_formS own3; subst e9; have hbm8 := (hb8.block _ HG7L.out).trans HG7.out; have f8 := block_frozen hbm8 (j * 9 + 2); have d8 := (hb8.cell (p := ⟨g, j * 9 + 2, none⟩) HG7L.out).trans HCE7.out)
            | fail)
          all_goals
            have own3' : w63.ownsRow w7.heap.size 9 1 (.slice A9 (nn - BB + nn + BB) c9) (nn - BB + nn + BB) ((spinL BB names).map Value.string) := by rw [← HAP.out]; exact own3
            have hfr := FrS.of (g := g) (own_strsO own3' (fun s hs => HNS.out s ((spin_mem _ _ _).1 hs))) (fun a n' c' e => by rw [e] at hne8; intro e2; exact hne8 (by simp only [Value.ownBlock]; rw [e2]))
            have hqa := HPUT.out w63 ((HQA.out.below HY7.out).below hb8) (.slice A9 (nn - BB + nn + BB) c9) (spinL BB names) hfr
            have hspn : (⟨act, data, names, .mk kind kids arg mask sign value⟩ : Rul).spun n0 = ⟨act, data, spinL BB names, .mk kind kids arg mask sign value⟩ := by
              unfold Rul.spun
              dsimp only
              rw [if_neg (by rw [HNL.out]; exact hn0), HNL.out, HSPK.out]
            have HQX := Lib.hid (show QAt w (w63.setCell ⟨g, j * 9 + 2, none⟩ (.slice A9 (nn - BB + nn + BB) c9)) g n ((p.rules.take (j + 1)).map (Rul.spun n0) ++ p.rules.drop (j + 1)) by rw [HSTP.out, hspn]; exact hqa)
            have HWX := Lib.hid ((Below.heap_setCell w63 ⟨g, j * 9 + 2, none⟩ (.slice A9 (nn - BB + nn + BB) c9) Q (show Q ≠ g by have := HQG.out; omega)).trans ((hb8.block Q (lt_of_block HQ7.out)).trans HQ7.out))
            have HBX := Lib.hid (((HBW.out.trans (HY7.out.mono HBW.out.size)).trans (hb8.mono (HBW.out.trans (HY7.out.mono HBW.out.size)).size)).setCell (p := ⟨g, j * 9 + 2, none⟩) (show w5.heap.size ≤ g by have := HQG.out; have := HQE.out; omega) (.slice A9 (nn - BB + nn + BB) c9))
            go_wp2_with fail
            go_roundw
            case rel => exact ⟨j + 1, by go_num, HLT.out, HQX, HWX, HBX⟩
            case measure => have := HLT.out; simp [intOf]; omega
      · obtain rfl : j = n := by omega
        have hL : (p.rules.take j).map (Rul.spun n0) ++ p.rules.drop j = (p.spun n0).rules := by rw [← HL.out, List.take_length, List.drop_length, List.append_nil]; rfl
        have hru := HQA.out.ruls qc HQC.out.1 HQC.out.2
        rw [hL] at hru
        have HRU := Lib.hid hru
        have HA14 := Lib.hid ((HBW.out.block _ (lt_of_block HA5.out)).trans HA5.out); have HR14 := Lib.hid (HR5.out.below HBW.out); have HW14 := Lib.hid (HB5.out.trans (HBW.out.mono HB5.out.size)); have HN14 := Lib.hid ((HBW.out.block _ (lt_of_block HN50.out)).trans HN50.out)
        clear hL hru HQA HA5 HR5 HBW HB5 HN50
        have q0 := below_cell (Below.refl _ wr) HQW.out 0 rfl
        have q1 := below_cell (Below.refl _ wr) HQW.out 1 rfl
        have q2 := below_cell (Below.refl _ wr) HQW.out 2 rfl
        have q3 := below_cell (Below.refl _ wr) HQW.out 3 rfl
        go_upto_region 16 with (first | (go_at_call 15; refine (HC2.out _ _ HRU.out).mono ?_; rintro e w12 ⟨⟨A7, m7, c7, rfl, hr12⟩, hb12⟩))
        clear q0 q1 q2 q3
        have hA := heap_alloc_new w12 (.cells #[.int .u32 (T.arch : Nat), .int .u32 (T.dflt : Nat), .slice A7 m7 c7] 38)
        have hA1 := (Below.refl w12.heap.size w12).alloc (Nat.le_refl _) (.cells #[.int .u32 (T.arch : Nat), .int .u32 (T.dflt : Nat), .slice A7 m7 c7] 38)
        obtain ⟨w13, hw13⟩ : ∃ w13, w12.alloc (.cells #[.int .u32 (T.arch : Nat), .int .u32 (T.dflt : Nat), .slice A7 m7 c7] 38) = w13 := ⟨_, rfl⟩
        obtain ⟨b12, hb12'⟩ : ∃ b12, w12.heap.size = b12 := ⟨_, rfl⟩
        rw [hw13] at hA hA1 ⊢
        rw [hb12'] at hA
        (try rw [hb12'])
        have hb13 := hb12.trans (hA1.mono hb12.size)
        have HW13 := Lib.hid (HW14.out.trans (hb13.mono HW14.out.size)); have HA13 := Lib.hid ((hb13.block _ (lt_of_block HA14.out)).trans HA14.out); have HN13 := Lib.hid ((hb13.block _ (lt_of_block HN14.out)).trans HN14.out); have HC13 := Lib.hid hA; have HR13 := Lib.hid (HR14.out.below hb13); have HS13 := Lib.hid (hr12.below hA1)
        clear hw13 hA hA1 hb12 hb12' hb13 hr12 HW14 HA14 HN14 HR14 HRU HC2 HQW
        have a0 := below_cell (Below.refl _ w13) HA13.out 0 rfl
        have a1 := below_cell (Below.refl _ w13) HA13.out 1 rfl
        have a2 := below_cell (Below.refl _ w13) HA13.out 2 rfl
        have k0 := below_cell (Below.refl _ w13) HC13.out 0 rfl
        have k1 := below_cell (Below.refl _ w13) HC13.out 1 rfl
        have k2 := below_cell (Below.refl _ w13) HC13.out 2 rfl
        go_upto_region 18 with (first
          | (go_at_call 9; refine (HAL.out _).mono ?_; rintro e w15 ⟨rfl, hb15⟩)
          | (go_at_call 17; refine (HLK.out _ _ _ (HTY.out _ _ HR13.out) (HTY.out _ _ HS13.out)).mono ?_; rintro e w14 ⟨rfl, hb14⟩))
        have hb1315 := hb14.trans (hb15.mono hb14.size)
        have HW15 := Lib.hid (HW13.out.trans (hb1315.mono HW13.out.size)); have HA15 := Lib.hid ((hb1315.block _ (lt_of_block HA13.out)).trans HA13.out); have HN15 := Lib.hid ((hb1315.block _ (lt_of_block HN13.out)).trans HN13.out); have HR15 := Lib.hid (HR13.out.below hb1315)
        clear a0 a1 a2 k0 k1 k2 hb14 hb15 hb1315 HW13 HA13 HN13 HC13 HR13 HS13
        have a0 := below_cell (Below.refl _ w15) HA15.out 0 rfl
        have a1 := below_cell (Below.refl _ w15) HA15.out 1 rfl
        have a2 := below_cell (Below.refl _ w15) HA15.out 2 rfl
        by_cases he : ER = 0
        · subst he
          obtain ⟨hf1, hf2⟩ := HF0.out rfl
          have hm : m4 = j := by
            obtain ⟨_, _, _, hv, h1, _⟩ := HR15.out
            injection hv with _ e2 _
            rw [e2, ← h1, hf1, HL.out]
          subst hm
          rw [HL.out] at hf2
          have HF2 := Lib.hid hf2
          clear hf1 hf2 HF0 HF1
          have n3 := below_cell (Below.refl _ w15) HN15.out 3 rfl
          go_upto_region 21 with fail
          clear a0 a1 a2 n3
          go_loopw [103] (fun z wr => ∃ i : Nat, z = .int .i64 (i : Nat) ∧ i ≤ m4 ∧ Hid (Below w15.heap.size w15 wr)) (fun z _ => m4 - (intOf z).toNat)
          case atStart => exact ⟨0, rfl, Nat.zero_le _, Lib.hid (Below.refl _ _)⟩
          case round =>
            obtain ⟨i, rfl, hi2, HWR⟩ := hrel
            by_cases hit : i < m4
            · have hiI : (i : Int) < m4 := by omega
              have hnge : ¬ (m4 : Int) ≤ (i : Int) := by omega
              obtain ⟨b1, o1, rfl, hc1⟩ := typ_at HR15.out HWR.out i hit
              obtain ⟨h1, h2, h3⟩ := HF2.out i hit
              generalize T.rules.getD i mtcZ = m at *
              obtain ⟨nrs, cd, act⟩ := m
              obtain ⟨hact, hbd1, xk, xn, xc, xa, xb, xd, hu1, hk1, a0, a1, a2, a3, a4, a5, a6, a7⟩ := hc1.cell
              simp only at hact hbd1 hu1 hk1 a0 a1 a2 a3 a4 a5 a6 a7 h1 h2 h3
              have hxl : nrs.length = xn := by obtain ⟨_, _, _, hv, h1, _⟩ := hu1; injection hv with _ q2 _; rw [h1, q2]
              have hxm : (xn : Int) ≤ 9223372036854775807 := by obtain ⟨_, _, _, hv, h1, h2, h3, _⟩ := hu1; injection hv with _ q2 q3; subst q2 q3; omega
              rw [hxl] at h1 h3
              have hx0 : ((xn : Int) == 0) = false := by rw [beq_eq_false_iff_ne]; omega
              have hx1 : (0 : Int) < xn := by omega
              have hcd : IsCnd wr (.agg #[.int .i64 cd.kind, .slice xa xb xd, .int .i64 cd.arg, .int .u64 (cd.mask : Nat), .string cd.sign, .int .u64 (cd.value : Nat)]) cd := ⟨hbd1, _, rfl, hk1⟩
              have HIN := Lib.hid (fun u (hu : Below wr.heap.size wr u) => refNone16_any cd _ u (hcd.below hu)); have HIR := Lib.hid (fun u (hu : Below wr.heap.size wr u) => tyRight_any cd _ u (hcd.below hu))
              have HU1 := Lib.hid hu1; have HZR := Lib.hid h2; have HST3 := Lib.hid h3; have HIT := Lib.hid hit; have HX1 := Lib.hid h1
              clear hc1 hu1 hk1 hcd h2 h3 hit h1 hact hxl
              generalize cd.zero = ZZ at *
              generalize cd.right = RR at *
              obtain ⟨kind, kids, arg, mask, sign, value⟩ := cd
              simp only [Cnd.kind, Cnd.arg, Cnd.mask, Cnd.sign, Cnd.value] at HIN HIR a1 a3 a4 a5 a6
              go_upto_region 23 with fail
              have hn7 := heap_alloc_new wr (.cells #[.slice xk xn xc, .int .i64 kind, .slice xa xb xd, .int .i64 arg, .int .u64 (mask : Nat), .string sign, .int .u64 (value : Nat), .int .u32 (act : Nat)] 49)
              have hy7 := (Below.refl wr.heap.size wr).alloc (Nat.le_refl _) (.cells #[.slice xk xn xc, .int .i64 kind, .slice xa xb xd, .int .i64 arg, .int .u64 (mask : Nat), .string sign, .int .u64 (value : Nat), .int .u32 (act : Nat)] 49)
              obtain ⟨w7, hw7⟩ : ∃ w7, wr.alloc (.cells #[.slice xk xn xc, .int .i64 kind, .slice xa xb xd, .int .i64 arg, .int .u64 (mask : Nat), .string sign, .int .u64 (value : Nat), .int .u32 (act : Nat)] 49) = w7 := ⟨_, rfl⟩
              obtain ⟨b7, hb7⟩ : ∃ b7, wr.heap.size = b7 := ⟨_, rfl⟩
              rw [hw7] at hn7 hy7 ⊢
              rw [hb7] at hn7
              (try rw [hb7])
              have HY7 := Lib.hid hy7; have HN7 := Lib.hid hn7
              have n3 := below_cell (HWR.out.trans (hy7.mono HWR.out.size)) HN15.out 3 rfl
              clear hn7 hy7 hw7 hb7 a0 a1 a2 a3 a4 a5 a6 a7
              have x0 := below_cell (Below.refl _ w7) HN7.out 0 rfl
              have x1 := below_cell (Below.refl _ w7) HN7.out 1 rfl
              have x2 := below_cell (Below.refl _ w7) HN7.out 2 rfl
              have x3 := below_cell (Below.refl _ w7) HN7.out 3 rfl
              have x4 := below_cell (Below.refl _ w7) HN7.out 4 rfl
              have x5 := below_cell (Below.refl _ w7) HN7.out 5 rfl
              have x6 := below_cell (Below.refl _ w7) HN7.out 6 rfl
              have x7 := below_cell (Below.refl _ w7) HN7.out 7 rfl
              go_cut [130] (fun v wx => v = .bool false ∧ Hid (Below w7.heap.size w7 wx))
              case first =>
                cases ZZ with
                | true =>
                  clear HZR HIR
                  go_wp2_with (first
                    | (go_at_call 18; refine (HIN.out _ HY7.out).mono ?_; rintro e w8 ⟨rfl, hb8⟩))
                  go_meet
                  exact ⟨rfl, Lib.hid hb8⟩
                | false =>
                  cases RR with
                  | false => exact absurd HZR.out (by decide)
                  | true =>
                    clear HZR
                    go_wp2_with (first
                      | (go_at_call 18; refine (HIN.out _ HY7.out).mono ?_; rintro e w8 ⟨rfl, hb8⟩; have r1 := below_cell hb8 HN7.out 1 rfl; have r2 := below_cell hb8 HN7.out 2 rfl; have r3 := below_cell hb8 HN7.out 3 rfl; have r4 := below_cell hb8 HN7.out 4 rfl; have r5 := below_cell hb8 HN7.out 5 rfl; have r6 := below_cell hb8 HN7.out 6 rfl)
                      | (go_at_call 10; refine (HIR.out _ (HY7.out.trans (hb8.mono HY7.out.size))).mono ?_; rintro e w9 ⟨rfl, hb9⟩))
                    go_meet
                    exact ⟨rfl, Lib.hid (hb8.trans (hb9.mono hb8.size))⟩
              case rest =>
              obtain ⟨rfl, HBC⟩ := hcut
              obtain ⟨w8, hw8⟩ : ∃ w8, w8 = wc := ⟨_, rfl⟩
              subst hw8
              clear HIN HIR x0 x1 x2 x3 x4 x5 x6 x7 n3
              have HN8 := Lib.hid ((HBC.out.block _ (lt_of_block HN7.out)).trans HN7.out)
              have HY8 := Lib.hid (HY7.out.trans (HBC.out.mono HY7.out.size))
              have HB8 := Lib.hid (HWR.out.trans (HY8.out.mono HWR.out.size))
              clear HBC HN7 HY7
              go_upto_region 26 with fail
              go_loopw [17] (fun z wq => ∃ k : Nat, z = .int .i64 (k : Nat) ∧ 1 ≤ k ∧ k ≤ xn ∧ Hid (Below w8.heap.size w8 wq)) (fun z _ => xn - (intOf z).toNat)
              case atStart => exact ⟨1, rfl, Nat.le_refl _, HX1.out, Lib.hid (Below.refl _ _)⟩
              case round =>
                obtain ⟨k, rfl, hk1, hkx, HWQ⟩ := hrel
                have x0 := below_cell HWQ.out HN8.out 0 rfl
                by_cases hkt : k < xn
                · obtain ⟨q, rfl⟩ : ∃ q, k = q + 1 := ⟨k - 1, by omega⟩
                  have hkI : ((q + 1 : Nat) : Int) < xn := by omega
                  have hbk := HY8.out.trans (HWQ.out.mono HY8.out.size)
                  obtain ⟨b5, o5, rfl, hck, hle1, _⟩ := u32_at HU1.out hbk (q + 1) hkt
                  obtain ⟨_, _, he5, hcq, hle2, _⟩ := u32_at HU1.out hbk q (by omega)
                  injection he5 with he5
                  injection he5 with e1 e2 _
                  subst e1 e2
                  have hst := HST3.out (q + 1) (by omega) hkt
                  rw [Nat.add_sub_cancel] at hst
                  generalize nrs.getD q 0 = X at *
                  generalize nrs.getD (q + 1) 0 = Y at *
                  have hXY : ¬ (Y : Int) ≤ (X : Int) := by omega
                  have hqI : (q : Int) < xn := by omega
                  have HKT := Lib.hid hkt
                  clear hst hkt hbk
                  go_upto_region 28 with fail
                  go_quiet (fail)
                  go_wp2_with fail
                  go_roundw
                  case rel => exact ⟨q + 1 + 1, by go_num, by omega, HKT.out, Lib.hid (below_drewN HWQ.out _)⟩
                  case measure => have := HKT.out; simp [intOf]; omega
                · obtain rfl : k = xn := by omega
                  have HBE := Lib.hid (HB8.out.trans (HWQ.out.mono HB8.out.size))
                  go_wp2_with fail
                  go_roundw
                  case rel => exact ⟨i + 1, by go_num, HIT.out, HBE⟩
                  case measure => have := HIT.out; simp [intOf]; omega
            · obtain rfl : i = m4 := by omega
              have a2 := below_cell HWR.out HA15.out 2 rfl
              have n3 := below_cell HWR.out HN15.out 3 rfl
              have hfin := HW15.out.trans (HWR.out.mono HW15.out.size)
              go_wp2_with fail
              first
              | (go_ret; exact ⟨by first | rfl | simp, hfin⟩)
              | (refine bodyPost_ret (results_tmp rfl _ _ _) rfl ?_; exact ⟨by first | rfl | simp, hfin⟩)
        · have heB : (ER != 0) = true := by simpa using he
          have hzt : ∀ u, IsTyp u (.agg #[.int .u32 0, .int .u32 0, .slice none 0 0]) T := fun u => by
            rw [HF1.out he]
            exact ⟨by decide, by decide, _, rfl, none, 0, 0, rfl, rfl, Nat.le_refl _, by decide, fun _ => rfl, .inl rfl⟩
          have HZT := Lib.hid hzt
          clear hzt he HF0 HF1
          go_wp2_with (first
            | (go_at_call 17; refine (HLK.out _ _ _ (HTY.out _ _ HR15.out) (HZT.out _)).mono ?_; rintro e w16 ⟨rfl, hb16⟩))
          have hfin := HW15.out.trans (hb16.mono HW15.out.size)
          first
          | (go_ret; exact ⟨by first | rfl | simp, hfin⟩)
          | (refine bodyPost_ret (results_tmp rfl _ _ _) rfl ?_; exact ⟨by first | rfl | simp, hfin⟩)
end Go.Proofs.Ytbcoooaoofbboaa.lawTypesOrder
