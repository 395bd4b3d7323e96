/- Wm7, Tm3, U32s, Tm5, Tm6, Tm7, Tm8, in one text. -/
import Derived.Test.YtcejhfpdajbdcaaPkW
import Derived.Test.YtcejhfpdajbdcaaCnd5
import Derived.Test.YtcejhfpdajbdcaaOpOwn
import Derived.BigQuiet
import Derived.Deep.RegionWith
import Derived.Test.YtcejhfpdajbdcaaTm2
import Derived.Maps.AppendAt
import Derived.Laws.AppendOwnNone
import Derived.RegionTactic
import Derived.Test.YtcejhfpdajbdcaaTyp
import Derived.Test.YtcejhfpdajbdcaaTm4
namespace Go.Proofs.Ytcejhfpdajbdcaa
section SWm7
open Go.RowKit Go.ChangeShapes
set_option linter.unusedVariables false

set_option maxRecDepth 100000 in
set_option maxHeartbeats 4000000 in
theorem wordCond_ok (c : Cnd) (k : Value) (w : World) (yes no next : Int) (h : IsCnd w (cndV c k) c) (hr : c.right = true) (hy : 0 ≤ yes) (hn : 0 ≤ no) (hyn : yes ≠ no) (hy2 : yes < next) (hn2 : no < next) (hnx : next ≤ 1000000) :
    Calls Try.prog 67 #[cndV c k, .int .i64 yes, .int .i64 no, .int .i64 next] w fun e w' => ∃ sv, e = .returned (.tuple #[sv, .int .i64 (condS c yes no next).2, .int .i64 0]) ∧ IsOps w' sv (condS c yes no next).1 ∧ Below w.heap.size w w' := by
  obtain ⟨hbd, k', hv, hkk⟩ := id h
  obtain ⟨ka, kn, kc, e, hkn, _⟩ := id hkk
  have e1 : k = k' := by
    unfold cndV Cnd.cells at hv
    injection hv with hv
    have := congrArg Array.toList hv
    simp only [List.cons.injEq, and_true, true_and] at this
    exact this
  subst e1
  subst e
  have hw1 := fun o => (Below.refl w.heap.size w).alloc (Nat.le_refl _) o
  have hnw := fun o => heap_alloc_new w o
  have hR := fun u (hu : Below w.heap.size w u) => tyRight_any c _ u (h.below hu)
  rw [hr] at hR
  have hfs : c.fine = true ∧ c.size ≤ 100 := by unfold Cnd.right at hr; rw [Bool.and_eq_true, decide_eq_true_eq] at hr; exact ⟨hr.2, hr.1⟩
  have hC := fun u B v (hb : w.heap.size ≤ w.heap.size) (hu : Below w.heap.size w u) (M : Mk w.heap.size u B [] next v) => condSays c.size c (Nat.le_refl _) hfs.1 w u (.slice ka kn kc) w.heap.size B [] next v yes no h hb hu M (by omega) (by omega) (by omega) (by omega) (by simp; omega)
  obtain ⟨P, hP⟩ : ∃ P, condS c yes no next = P := ⟨_, rfl⟩
  rw [hP] at hC ⊢
  obtain ⟨kind, kids, arg, mask, sign, value⟩ := c
  change ∀ u, Below w.heap.size w u → Calls _ _ #[.agg #[.int .i64 kind, .slice ka kn kc, .int .i64 arg, .int .u64 (mask : Nat), .string sign, .int .u64 (value : Nat)]] _ _ at hR
  change ∀ u B v, w.heap.size ≤ w.heap.size → Below w.heap.size w u → Mk w.heap.size u B [] next v → Calls _ _ #[_, .agg #[.int .i64 kind, .slice ka kn kc, .int .i64 arg, .int .u64 (mask : Nat), .string sign, .int .u64 (value : Nat)], _, _] _ _ at hC
  show Calls _ _ #[.agg #[.int .i64 kind, .slice ka kn kc, .int .i64 arg, .int .u64 (mask : Nat), .string sign, .int .u64 (value : Nat)], _, _, _] _ _
  obtain ⟨w1, eW⟩ : ∃ w1, w1 = w.alloc (.cells #[.int .i64 kind, .slice ka kn kc, .int .i64 arg, .int .u64 (mask : Nat), .string sign, .int .u64 (value : Nat)] 31) := ⟨_, rfl⟩
  have HN := Lib.hid (hnw (.cells #[.int .i64 kind, .slice ka kn kc, .int .i64 arg, .int .u64 (mask : Nat), .string sign, .int .u64 (value : Nat)] 31)); have HW := Lib.hid (hw1 (.cells #[.int .i64 kind, .slice ka kn kc, .int .i64 arg, .int .u64 (mask : Nat), .string sign, .int .u64 (value : Nat)] 31))
  rw [← eW] at HN HW
  have HR := Lib.hid hR; have HC := Lib.hid hC
  have c0 := below_cell (Below.refl _ _) HN.out 0 rfl
  have c1 := below_cell (Below.refl _ _) HN.out 1 rfl
  have c2 := below_cell (Below.refl _ _) HN.out 2 rfl
  have c3 := below_cell (Below.refl _ _) HN.out 3 rfl
  have c4 := below_cell (Below.refl _ _) HN.out 4 rfl
  have c5 := below_cell (Below.refl _ _) HN.out 5 rfl
  have g1 : (yes == no) = false := by rw [beq_eq_false_iff_ne]; exact hyn
  have g2 : ¬ yes < 0 := by omega
  have g3 : ¬ no < 0 := by omega
  have g4 : ¬ next ≤ yes := by omega
  have g5 : ¬ next ≤ no := by omega
  have g6 : ¬ 1000000 < next := by omega
  clear hw1 hnw hR hC hfs hP h hkk hv hbd hr hkn hy hn hyn hy2 hn2 hnx
  go_enter Try.func67, Try.ntmps67
  go_upto_region 1 with fail
  rw [← eW]
  clear eW
  go_wp2_with fail
  refine (HR.out _ HW.out).mono ?_
  rintro e w2 ⟨rfl, hb2⟩
  have HN2 := Lib.hid ((hb2.block _ (lt_of_block HN.out)).trans HN.out); have HW2 := Lib.hid (HW.out.trans (hb2.mono HW.out.size))
  clear hb2 c0 c1 c2 c3 c4 c5 HR
  go_upto_region 4 with fail
  clear g1 g2 g3 g4 g5 g6
  have hn3 := heap_alloc_new w2 (.cells #[.slice none 0 0, .int .i64 next] 114)
  have hb3 := (Below.refl w2.heap.size w2).alloc (Nat.le_refl _) (.cells #[.slice none 0 0, .int .i64 next] 114)
  generalize w2.alloc (.cells #[.slice none 0 0, .int .i64 next] 114) = w3 at *
  have hs3 := HW2.out.size
  have hN3 := (hb3.block _ (lt_of_block HN2.out)).trans HN2.out
  generalize w2.heap.size = B at *
  have hM : Mk w.heap.size w3 B [] next (.slice none 0 0) := ⟨hn3, ⟨rfl, .inl ⟨rfl, rfl⟩⟩, by simp [Value.ownBlock], hs3, fun i hi => by cases hi⟩
  have hB3 := HW2.out.trans (hb3.mono hs3)
  have hc := HC.out w3 B _ (Nat.le_refl _) hB3 hM
  have HCC := Lib.hid hc; have HB3 := Lib.hid hB3
  have c0 := below_cell (Below.refl _ _) hN3 0 rfl
  have c1 := below_cell (Below.refl _ _) hN3 1 rfl
  have c2 := below_cell (Below.refl _ _) hN3 2 rfl
  have c3 := below_cell (Below.refl _ _) hN3 3 rfl
  have c4 := below_cell (Below.refl _ _) hN3 4 rfl
  have c5 := below_cell (Below.refl _ _) hN3 5 rfl
  clear hn3 hb3 hs3 hN3 hM hB3 hc HC HN2 HW2
  go_wp2_with fail
  refine HCC.out.mono ?_
  rintro e w4 ⟨rfl, v4, M4, K4⟩
  have HB4 := Lib.hid (K4.2.1 _ _ (Nat.le_refl _) HB3.out)
  have HO := Lib.hid (own_ops M4.own rfl M4.bnd)
  obtain ⟨A, cv, e4, _, _⟩ := own_form4 M4.own
  have hm4 := M4.blk
  subst e4
  obtain ⟨PL, PN⟩ := P
  have d0 := fun x : KeepT w4 => below_cell x.below hm4 0 rfl
  have d1 := fun x : KeepT w4 => below_cell x.below hm4 1 rfl
  have hbr := Below.refl w4.heap.size w4
  clear hm4 M4 K4 HCC c0 c1 c2 c3 c4 c5
  go_upto_region 5 with fail
  refine wp_region_keep (w0 := w4) (by kernel_rfl) (by kernel_rfl) hbr ?_
  repeat (go_big_quiet_step (fail))
  refine wpQuiet_nil ?_
  rintro w5 ⟨x5, rfl⟩
  have HB5 := Lib.hid (HB4.out.trans (x5.below.mono HB4.out.size)); have HO5 := Lib.hid (HO.out.below x5.below)
  generalize x5.val = w5 at *
  clear d0 d1 hbr
  go_wp2_with fail
  go_ret3
  exact ⟨_, rfl, HO5.out, HB5.out⟩
end SWm7
section STm3
open Go.RowKit Go.ChangeShapes
set_option linter.unusedVariables false

theorem Tk.box {b B : Nat} {u : World} {l : List Stp} {n m : Int} {fn v : Value} (h : Tk b u B l n m fn v) (o : Obj) : ∃ u1, u1 = u.alloc o ∧ Tk b u1 B l n m fn v ∧ KeepM b B v u v u1 ∧ Bx B u1 v u.heap.size o := by
  have hb := (Below.refl u.heap.size u).alloc (Nat.le_refl _) o
  have hB := lt_of_block h.blk
  refine ⟨_, rfl, h.below hb, KeepM.of_below hb (by have := h.base; omega), heap_alloc_new u o, by omega, fun e => ?_⟩
  have := (h.own.lt _ e).2
  omega
theorem own_set {w : World} {b e size : Nat} {v : Value} {n : Nat} {xs : List Value} (h : w.ownsRow b e size v n xs) (B j : Nat) (x : Value) (hne : v.ownBlock ≠ some B) : (w.setCell ⟨B, j, none⟩ x).ownsRow b e size v n xs :=
  h.kept (row := some B) ⟨rfl, rfl, rfl, by simp [World.setCell], fun k _ hk => Below.heap_setCell _ _ _ _ (fun e => hk (by simp [e]))⟩ (.inr hne)
/-- many steps at once, and the next label -/
theorem Tk.put {b B : Nat} {u w9 : World} {l es : List Stp} {n m n' : Int} {fn v v' : Value} (h : Tk b u B l n m fn v) (hes : ∀ i ∈ es, i.bounded)
    (hown : w9.ownsRow b 67 4 v' (l.length + es.length) (stpCells l ++ stpCells es)) (hgr : u.grownBy w9 v.ownBlock) (hat : v'.ownBlock = v.ownBlock ∨ v'.ownBlock = some u.heap.size) :
    Tk b ((w9.setCell ⟨B, 0, none⟩ v').setCell ⟨B, 1, none⟩ (.int .i64 n')) B (l ++ es) n' m fn v' ∧ KeepM b B v u v' ((w9.setCell ⟨B, 0, none⟩ v').setCell ⟨B, 1, none⟩ (.int .i64 n')) := by
  have hB := lt_of_block h.blk
  have hbase := h.base
  have hne : v'.ownBlock ≠ some B := by
    intro e
    rcases hat with h1 | h1
    · exact h.ne (h1.symm.trans e)
    · rw [h1] at e; injection e with e; omega
  have hd9 := (hgr.block B hB (fun e => h.ne e.symm)).trans h.blk
  have hd1 := block_set hd9 0 v'
  refine ⟨⟨block_set hd1 1 _, ?_, hne, hbase, fun i hi => ?_⟩, ?_, ?_, ?_, ?_⟩
  · rw [stpCells_append, List.length_append]
    exact own_set (own_set hown B 0 _ hne) B 1 _ hne
  · rcases List.mem_append.1 hi with hi | hi
    · exact h.bnd i hi
    · exact hes i hi
  · rw [World.size_setCell, World.size_setCell]; exact hgr.size
  · intro b0 w0 hb0 hw
    refine Below.setCell (p := ⟨B, 1, none⟩) (Below.setCell (p := ⟨B, 0, none⟩) ?_ (Nat.le_trans hb0 hbase) _) (Nat.le_trans hb0 hbase) _
    exact hw.grown hgr (by omega) fun k hk => Nat.le_trans hb0 (h.own.lt k hk).1
  · intro g hg hgB hv
    rw [Below.heap_setCell _ _ _ _ hgB, Below.heap_setCell _ _ _ _ hgB, hgr.block g hg (fun e => hv e.symm)]
  · intro g hg
    rcases hat with h1 | h1
    · exact .inl (h1.symm.trans hg)
    · rw [h1] at hg; injection hg with hg; exact .inr (by omega)
/-- append of none or of some elements of another row, at the operation; where the new row lies -/
theorem wpList_append_any {P : Program} {ops : Array Oper} {rest : List Oper} {o : Oper} {a : Act} {w : World} {Q : Exit → Act → World → Prop} (hgd : o.guard = none) (s x : Operand) (t : TypeId)
    (ho : o.op = .call { callee := .builtin .append, args := #[s, x], argTypes := #[t, t] })
    (base : Nat) (e : TypeId) {i : TypeInfo} {z : Value} {size bytes : Nat} (ht : P.underlying t = some (.slice e)) (hi : P.info? e = some i) (hz : i.zero = some z)
    (hsize : i.size = size) (hby : i.bytes = bytes) (hzs : z.cells.size = size) (hsz : 0 < size)
    (v : Value) (n : Nat) (xs : List Value) (hs : a.eval s = v) (hown : w.ownsRow base e size v n xs)
    (A : Option Addr) (m c : Nat) (news : List Value) (hx : a.eval x = .slice A m c) (hl : news.length = m * size)
    (hA : (A = none ∧ m = 0 ∧ c = 0 ∧ news = []) ∨ ∃ ad, A = some ad ∧ ∀ j u, news[j]? = some u → w.cell? (ad.add j) = some u) (h1 : ∀ u ∈ news, u.oneCell' = true)
    (h63 : n + m ≤ maxLen) (hbytes : (n + m) * bytes ≤ 140737488355328) (hbase : base ≤ w.heap.size)
    (h : ∀ v' w', w'.ownsRow base e size v' (n + m) (xs ++ news) → w.grownBy w' v.ownBlock → (v'.ownBlock = v.ownBlock ∨ v'.ownBlock = some w.heap.size) → wpList P ops Q rest (a.put o.dst v') w') :
    wpList P ops Q (o :: rest) a w := by
  rcases hA with ⟨rfl, rfl, rfl, rfl⟩ | ⟨ad, rfl, hc⟩
  · have hrun := run_append_owned_none (P := P) (w := w) base t o.type e i size ht hi v n xs hown
    have hn := h v w (by rw [List.append_nil]; exact hown) ⟨rfl, rfl, rfl, Nat.le_refl _, fun _ _ _ => rfl⟩ (.inl rfl)
    refine wpList_plain hgd fun K hK => ?_
    unfold Oper.wp execOp
    simp only [ho, resolve, invoke, builtin, Sem.run_bind, Sem.run_pure, Result.andThen_ok, List.map_toArray, List.map_cons, List.map_nil, hs, hx, hrun]
    exact hK _ _ hn
  · exact wpList_append_own_at _ hgd s x t ho base e _ _ size bytes ht hi hz hsize hby hzs hsz v n xs hs hown ad m c news hx hl hc h1 h63 hbytes hbase fun v' w' h2 h3 _ h5 => h v' w' h2 h3 h5
theorem ops_len {w : World} {A : Option Addr} {n c : Nat} {l : List Stp} (h : IsOps w (.slice A n c) l) : l.length = n := by
  obtain ⟨_, _, _, hv, hl, _⟩ := h
  injection hv with _ h2 _
  rw [hl, h2]
/-- the steps of a rule, and the next label -/
def ruleS (m : Mtc) (n : Int) : List Stp × Int := ((condS m.cnd n (n + 1) (n + 2)).1 ++ [stL n, retS m.act, stL (n + 1)], (condS m.cnd n (n + 1) (n + 2)).2)
set_option maxRecDepth 100000 in
set_option maxHeartbeats 2000000 in
theorem tmRule (b B : Nat) (W u : World) (l : List Stp) (n m : Int) (fn v : Value) (mm : Mtc) (mv : Value) (hm : IsMtc W mv mm) (hr : mm.cnd.right = true) (hbw : W.heap.size ≤ b) (hW : Below W.heap.size W u) (h : Tk b u B l n m fn v)
    (hn0 : 0 ≤ n) (hnm : n ≤ 900000) (hl : l.length ≤ 2000000) :
    Calls Try.prog 51 #[.pointer (some ⟨B, 0, none⟩), mv] u (TkPost b B v u (l ++ (ruleS mm n).1) (ruleS mm n).2 m fn) := by
  obtain ⟨iI, hNI, hzI0, hzI1, hzI2⟩ := info_parts infoOp
  obtain ⟨ha, hbd, ks, k, rfl, hks, hk⟩ := id hm
  obtain ⟨ka, kn, kc, rfl, _⟩ := id hk
  obtain ⟨nrs, c, act⟩ := mm
  simp only at ha hbd hks hk hr
  have hC : IsCnd W (cndV c (.slice ka kn kc)) c := ⟨hbd, _, rfl, hk⟩
  have hfs : c.fine = true ∧ c.size ≤ 100 := by unfold Cnd.right at hr; rw [Bool.and_eq_true, decide_eq_true_eq] at hr; exact ⟨hr.2, hr.1⟩
  obtain ⟨u0, eW, T0, K0, bx0⟩ := h.box (.cells #[ks, .int .i64 c.kind, .slice ka kn kc, .int .i64 c.arg, .int .u64 (c.mask : Nat), .string c.sign, .int .u64 (c.value : Nat), .int .u32 (act : Nat)] 33)
  have hL := fun u v n (T : Tk b u B l n m fn v) h1 h2 => tmLabel b B u l n m fn v T h1 h2
  have HL := Lib.hid hL; have HT0 := Lib.hid T0; have HK0 := Lib.hid K0; have HB0 := Lib.hid bx0; have HC := Lib.hid hC; have HW := Lib.hid hW; have HR := Lib.hid hr; have HF := Lib.hid hfs
  clear hL T0 K0 bx0 hC hr hfs
  go_enter Try.func51, Try.ntmps51
  go_upto_region 1 with fail
  rw [← eW]
  clear eW
  go_wp2_with fail
  refine (HL.out _ _ _ HT0.out hn0 (by omega)).mono ?_
  rintro e w1 ⟨rfl, T1, K1⟩
  have HT1 := Lib.hid T1; have HK1 := Lib.hid (HK0.out.trans K1); have HB1 := Lib.hid (HB0.out.keep K1)
  clear T1 K1 HT0 HB0 HK0
  go_wp2_with fail
  refine (HL.out _ _ _ HT1.out (by omega) (by omega)).mono ?_
  rintro e w2 ⟨rfl, T2, K2⟩
  have HT2 := Lib.hid T2; have HK2 := Lib.hid (HK1.out.trans K2); have HB2 := Lib.hid (HB1.out.keep K2)
  clear T2 K2 HT1 HB1 HK1
  go_upto_region 2 with fail
  have q1 := below_cell (Below.refl _ _) HB2.out.blk 1 rfl
  have q2 := below_cell (Below.refl _ _) HB2.out.blk 2 rfl
  have q3 := below_cell (Below.refl _ _) HB2.out.blk 3 rfl
  have q4 := below_cell (Below.refl _ _) HB2.out.blk 4 rfl
  have q5 := below_cell (Below.refl _ _) HB2.out.blk 5 rfl
  have q6 := below_cell (Below.refl _ _) HB2.out.blk 6 rfl
  have d1 := below_cell (Below.refl _ _) HT2.out.blk 1 rfl
  have e2 : n + 1 + 1 = n + 2 := by omega
  rw [e2] at HT2 d1
  have hdr : Below w2.heap.size w2 w2.drew := (Below.refl _ _).drew
  have hc := wordCond_ok c (.slice ka kn kc) w2.drew n (n + 1) (n + 2) (HC.out.below ((HK2.out.bel hbw HW.out).trans (hdr.mono (HK2.out.bel hbw HW.out).size))) HR.out (by omega) (by omega) (by omega) (by omega) (by omega) (by omega)
  unfold cndV at hc
  have HCC := Lib.hid hc
  clear hc
  go_region_with (go_at_call 67; refine Calls.mono HCC.out ?_; rintro e w3 ⟨sv, rfl, hops, hb3⟩)
  all_goals
    have hb3' : Below w2.heap.size w2 w3 := hdr.trans hb3
    obtain ⟨A, n3, c3, rfl, _⟩ := id hops
    have hlen := ops_len hops
    have HT3 := Lib.hid (HT2.out.below hb3'); have HK3 := Lib.hid (HK2.out.trans (KeepM.of_below hb3' (by have := HT2.out.base; have := lt_of_block HT2.out.blk; omega))); have HB3 := Lib.hid (HB2.out.keep (KeepM.of_below (b := b) hb3' (by have := HT2.out.base; have := lt_of_block HT2.out.blk; omega)))
    have HO := Lib.hid hops; have HS := Lib.hid (ops_source hops)
    have hcl := (cond_len c HF.out.1 n (n + 1) (n + 2)).1
    have htl := tests_le_size c
    have hcl2 : (condS c n (n + 1) (n + 2)).1.length ≤ 1000 := by have := HF.out.2; omega
    obtain ⟨P, hP⟩ : ∃ P, condS c n (n + 1) (n + 2) = P := ⟨_, rfl⟩
    rw [hP] at hcl2 HO HS hlen ⊢
    have HP := Lib.hid hP
    clear q1 q2 q3 q4 q5 q6 d1 hb3 hb3' hops hcl htl hP HCC HB2 HT2 HK2 hdr HL
    obtain ⟨PL, PN⟩ := P
    simp only at hlen hcl2
    subst hlen
    have d0 := below_cell (Below.refl _ _) HT3.out.blk 0 rfl
    have g1 : (stpCells PL).length = PL.length * 4 := stpCells_len PL
    have g2 : l.length + PL.length ≤ maxLen := by unfold maxLen; omega
    have g3 : (l.length + PL.length) * 32 ≤ 140737488355328 := by omega
    have g4 : b ≤ w3.heap.size := by have := HT3.out.base; have := lt_of_block HT3.out.blk; omega
    go_upto_region 4 with (first | (at_builtin; go_must (refine wpList_append_any (by rfl) _ _ 41 (by rfl) b 67 Try.underlying41 hNI hzI0 hzI1 hzI2 rfl (by decide) _ _ _ (by rfl) HT3.out.own A PL.length c3 (stpCells PL) (by rfl) g1 HS.out (stpCells_one PL) g2 g3 g4 ?_)))
    intro v' w9 hown hgr hat
    have hown' : w9.ownsRow b 67 4 v' (l.length + PL.length) (stpCells l ++ stpCells PL) := hown
    obtain ⟨A', c', rfl, _, _⟩ := own_form4 hown'
    have hTP := HT3.out.put (n' := PN) HO.out.bnd hown' hgr hat
    have hd9 := (hgr.block B (lt_of_block HT3.out.blk) (fun e => HT3.out.ne e.symm)).trans HT3.out.blk
    have hd1 := block_set hd9 0 (.slice A' (l.length + PL.length) c')
    have f0 := block_frozen hd9 0
    have f1 := block_frozen hd1 1
    have c0 := below_cell (Below.refl _ _) hd9 0 rfl
    have c1 := below_cell (Below.refl _ _) hd1 1 rfl
    have HTP := Lib.hid hTP
    clear hTP hd9 hd1 hown hown' hgr hat d0 g1 g2 g3 g4
    go_upto_region 4 with fail
    have T4 := HTP.out.1
    have K4 := HK3.out.trans HTP.out.2
    have B4 := HB3.out.keep HTP.out.2
    clear HTP f0 f1 c0 c1 HT3 HK3 HB3 HS HO
    generalize hv : (.slice A' (l.length + PL.length) c' : Value) = v' at *
    generalize (w9.setCell ⟨B, 0, none⟩ v').setCell ⟨B, 1, none⟩ (.int .i64 PN) = w4 at *
    have HT4 := Lib.hid T4; have HK4 := Lib.hid K4; have HB4 := Lib.hid B4
    clear T4 K4 B4
    go_wp2_with fail
    refine (tmHere b B w4 (l ++ PL) PN m fn v' n HT4.out (by omega) (by rw [List.length_append]; omega)).mono ?_
    rintro e w5 ⟨rfl, v5, T5, K5⟩
    have HT5 := Lib.hid T5; have HK5 := Lib.hid (HK4.out.trans K5)
    have q7 := below_cell (Below.refl _ _) (HB4.out.keep K5).blk 7 rfl
    clear T5 K5 HT4 HK4 HB4
    go_wp2_with fail
    refine (tmRet b B w5 _ PN m fn v5 act HT5.out ha (by simp; omega)).mono ?_
    rintro e w6 ⟨rfl, v6, T6, K6⟩
    have HT6 := Lib.hid T6; have HK6 := Lib.hid (HK5.out.trans K6)
    clear T6 K6 HT5 HK5 q7
    go_wp2_with fail
    refine (tmHere b B w6 _ PN m fn v6 (n + 1) HT6.out (by omega) (by simp; omega)).mono ?_
    rintro e w7 ⟨rfl, v7, T7, K7⟩
    have HT7 := Lib.hid T7; have HK7 := Lib.hid (HK6.out.trans K7)
    clear T7 K7 HT6 HK6
    go_wp2_with fail
    go_end0
    have hT := HT7.out
    rw [show l ++ PL ++ [stL n] ++ [retS act] ++ [stL (n + 1)] = l ++ (PL ++ [stL n, retS act, stL (n + 1)]) by simp] at hT
    have hE : ruleS ⟨nrs, c, act⟩ n = (PL ++ [stL n, retS act, stL (n + 1)], PN) := by unfold ruleS; simp only; rw [HP.out]
    refine ⟨rfl, v7, ?_, HK7.out⟩
    rw [hE]
    exact hT
end STm3
section SU32s
open Go.RowKit Go.ChangeShapes
set_option linter.unusedVariables false

theorem getD_at (l : List Nat) (j : Nat) (h : j < l.length) : l.getD j 0 = l[j] := by simp [List.getD, h]
set_option maxRecDepth 100000 in
theorem u32Contains (w : World) (A : Option Addr) (m c : Nat) (l : List Nat) (n : Nat) (h : IsU32s w (.slice A m c) l) :
    Calls Try.prog 50 #[.slice A m c, .int .u32 (n : Nat)] w fun e w' => e = .returned (.bool (l.contains n)) ∧ Below w.heap.size w w' := by
  obtain ⟨_, _, _, hv, h1, h2, h3, h4, h5, h6⟩ := h
  injection hv with e1 e2 e3
  subst e1 e2 e3
  have hI : Calls Try.prog 66 #[.slice A m c, .int .u32 (n : Nat)] w fun e w' => (∃ z : Int, e = .returned (.int .i64 z) ∧ decide (0 ≤ z) = l.contains n) ∧ Below w.heap.size w w' := by
    have hmI : (m : Int) ≤ 9223372036854775807 := by omega
    have hat : ∀ j, j < m → ∃ b off, A = some ⟨b, off, none⟩ ∧ ∀ u, Below w.heap.size w u → u.cell? ⟨b, off + j, none⟩ = some (.int .u32 (l.getD j 0 : Nat)) := fun j hj => by
      obtain ⟨b, off, rfl, hlt, hat⟩ := h6.resolve_left (by omega)
      exact ⟨b, off, rfl, fun u hu => (hu.cell (p := ⟨b, off + j, none⟩) hlt).trans (hat j hj)⟩
    have hin : ∀ j, j < m → l.getD j 0 = n → l.contains n = true := fun j hj e => by
      rw [List.contains_iff_mem, ← e, getD_at _ _ (by omega)]
      exact List.getElem_mem _
    have hout : (∀ j, j < m → l.getD j 0 ≠ n) → l.contains n = false := fun h => by
      rw [Bool.eq_false_iff, ne_eq, List.contains_iff_mem]
      intro hm
      obtain ⟨j, hj, e⟩ := List.mem_iff_getElem.1 hm
      exact h j (by omega) (by rw [getD_at _ _ hj]; exact e)
    have HAT := Lib.hid hat; have HIN := Lib.hid hin; have HOUT := Lib.hid hout
    clear hat hin hout h1 h2 h3 h4 h5 h6
    go_enter Try.func66, Try.ntmps66
    go_wp2_with fail
    go_loopw [8] (fun z wr => ∃ j : Nat, z = .int .i64 (j : Nat) ∧ j ≤ m ∧ (∀ i, i < j → l.getD i 0 ≠ n) ∧ Below w.heap.size w wr) (fun z _ => m - (intOf z).toNat)
    case atStart => exact ⟨0, rfl, by omega, fun i hi => absurd hi (Nat.not_lt_zero i), Below.refl _ _⟩
    case round =>
      obtain ⟨j, rfl, hj, hno, hwr⟩ := hrel
      have HNO := Lib.hid hno; have HWR := Lib.hid hwr
      clear hno hwr
      by_cases hlt : j < m
      · obtain ⟨b, off, rfl, hc⟩ := HAT.out j hlt
        have hcell := hc wr HWR.out
        have hjI : (j : Int) < m := by omega
        clear hc
        by_cases hx : l.getD j 0 = n
        · have hy := HIN.out j hlt hx
          have HY := Lib.hid hy
          rw [hx] at hcell
          clear hx hy HIN HOUT HAT
          go_wp2_with fail
          go_ret
          exact ⟨⟨_, rfl, by rw [HY.out]; simp⟩, HWR.out⟩
        · have hne : ((n : Int) == ((l.getD j 0 : Nat) : Int)) = false := by rw [beq_eq_false_iff_ne]; omega
          have HNE := Lib.hid hx
          generalize hgx : l.getD j 0 = x at *
          have HGX := Lib.hid hgx
          clear hx hgx
          go_wp2_with fail
          go_roundw
          case rel => exact ⟨j + 1, by go_num, by omega, fun i hi => by
            by_cases e : i < j
            · exact HNO.out i e
            · obtain rfl : i = j := by omega
              rw [HGX.out]; exact HNE.out, HWR.out⟩
          case measure => simp [intOf]; omega
      · obtain rfl : j = m := by omega
        have hy := HOUT.out HNO.out
        have HY := Lib.hid hy
        clear hy HIN HOUT HAT HNO
        go_wp2_with fail
        go_ret
        exact ⟨⟨_, rfl, by rw [HY.out]; rfl⟩, HWR.out⟩
  have HI := Lib.hid hI
  clear hI h1 h2 h3 h4 h5 h6
  go_enter Try.func50, Try.ntmps50
  go_wp2_with fail
  refine HI.out.mono ?_
  rintro e w2 ⟨⟨z, rfl, hz⟩, hb2⟩
  have HB2 := Lib.hid hb2; have HZ := Lib.hid hz
  clear hb2 hz HI
  go_wp2_with fail
  go_ret
  exact ⟨by rw [← HZ.out]; rfl, HB2.out⟩
end SU32s
section STm5
open Go.RowKit Go.ChangeShapes
set_option linter.unusedVariables false

theorem rulesS_step (d nr : Nat) (l : List Mtc) (j : Nat) (hj : j < l.length) (n : Int) : rulesS d nr (l.drop j) n = if (l.getD j mtcZ).nrs.contains nr = false then rulesS d nr (l.drop (j + 1)) n else if (l.getD j mtcZ).cnd.zero = true then ([retS (l.getD j mtcZ).act], n) else
    ((ruleS (l.getD j mtcZ) n).1 ++ (rulesS d nr (l.drop (j + 1)) (ruleS (l.getD j mtcZ) n).2).1, (rulesS d nr (l.drop (j + 1)) (ruleS (l.getD j mtcZ) n).2).2) := by
  rw [List.drop_eq_getElem_cons hj, rulesS, show l.getD j mtcZ = l[j] by simp [List.getD, hj]]
  unfold ruleS
  simp
/-- how many rules have a number -/
def hitN (nr : Nat) (l : List Mtc) : Nat := (l.filter fun m => m.nrs.contains nr).length
theorem hitN_step (nr : Nat) (l : List Mtc) (j : Nat) (hj : j < l.length) : hitN nr (l.drop j) = (if (l.getD j mtcZ).nrs.contains nr = false then 0 else 1) + hitN nr (l.drop (j + 1)) := by
  unfold hitN
  rw [List.drop_eq_getElem_cons hj, List.filter_cons, show l.getD j mtcZ = l[j] by simp [List.getD, hj]]
  cases h : l[j].nrs.contains nr with
  | false => simp
  | true => simp; omega
theorem rules_at {w u : World} {A : Option Addr} {n c : Nat} {l : List Mtc} (h : IsMtcs w (.slice A n c) l) (hb : Below w.heap.size w u) (j : Nat) (hj : j < n) : ∃ b off, A = some ⟨b, off, none⟩ ∧ MtcAt u (l.getD j mtcZ) b (off + j * 8) := by
  obtain ⟨_, _, _, hv, h1, h2, h3, h4, h5⟩ := h
  injection hv with e1 e2 e3
  subst e1 e2 e3
  obtain ⟨b, off, rfl, hlt, hat⟩ := h5.resolve_left (by omega)
  exact ⟨b, off, rfl, (hat j hj).below hb hlt⟩
theorem rule_len (m : Mtc) (n : Int) (h : m.cnd.right = true) : (ruleS m n).1.length ≤ 1100 ∧ n ≤ (ruleS m n).2 ∧ (ruleS m n).2 ≤ n + 400 := by
  have hf : m.cnd.fine = true ∧ m.cnd.size ≤ 100 := by unfold Cnd.right at h; rw [Bool.and_eq_true, decide_eq_true_eq] at h; exact ⟨h.2, h.1⟩
  have h1 := cond_len m.cnd hf.1 n (n + 1) (n + 2)
  have h2 := tests_le_size m.cnd
  unfold ruleS
  refine ⟨?_, ?_, ?_⟩
  · simp only [List.length_append, List.length_cons, List.length_nil]; omega
  · simp only; omega
  · simp only; omega
/-- what is known ahead of each rule -/
structure RulesAt (b B : Nat) (W u : World) (l : List Stp) (n m : Int) (fn v : Value) (d nr : Nat) (rs : List Mtc) (o : Obj) (g : Nat) (j : Nat) (wr : World) : Prop where
  ex : ∃ lj nj vj, Tk b wr B lj nj m fn vj ∧ KeepM b B v u vj wr ∧ Bx B wr vj g o ∧ lj ++ (rulesS d nr (rs.drop j) nj).1 = l ++ (rulesS d nr rs n).1 ∧ (rulesS d nr (rs.drop j) nj).2 = (rulesS d nr rs n).2 ∧ 0 ≤ nj ∧ nj + 400 * (hitN nr (rs.drop j) : Nat) ≤ 800000 ∧ lj.length + 1100 * hitN nr (rs.drop j) ≤ 1900000
set_option maxRecDepth 100000 in
set_option maxHeartbeats 4000000 in
theorem tmRules (b B : Nat) (W u : World) (l : List Stp) (n m : Int) (fn v : Value) (t : Typ) (A : Option Addr) (nn cc nr : Nat) (hk : IsMtcs W (.slice A nn cc) t.rules) (hd : t.dflt ≤ 4294967295) (hall : ∀ m ∈ t.rules, m.askable = true) (hbw : W.heap.size ≤ b) (hW : Below W.heap.size W u) (h : Tk b u B l n m fn v)
    (hn0 : 0 ≤ n) (hnm : n + 400 * (hitN nr t.rules : Nat) ≤ 800000) (hl : l.length + 1100 * hitN nr t.rules ≤ 1900000) :
    Calls Try.prog 29 #[.pointer (some ⟨B, 0, none⟩), .agg #[.int .u32 (t.arch : Nat), .int .u32 (t.dflt : Nat), .slice A nn cc], .int .u32 (nr : Nat)] u (TkPost b B v u (l ++ (rulesS t.dflt nr t.rules n).1) (rulesS t.dflt nr t.rules n).2 m fn) := by
  have hlen : t.rules.length = nn := by obtain ⟨_, _, _, hv, h1, _⟩ := hk; injection hv with _ h2 _; rw [h1, h2]
  have hnI : (nn : Int) ≤ 9223372036854775807 := by
    obtain ⟨_, _, _, hv, _, h2, h3, _⟩ := id hk
    injection hv with _ q2 q3
    subst q2 q3
    omega
  obtain ⟨u0, eW, T0, K0, bx0⟩ := h.box (.cells #[.int .u32 (t.arch : Nat), .int .u32 (t.dflt : Nat), .slice A nn cc] 25)
  have hmt := fun u (hu : Below W.heap.size W u) j hj => rules_at hk hu j hj
  have g2 := below_cell (Below.refl _ _) bx0.blk 2 rfl
  have hst : RulesAt b B W u l n m fn v t.dflt nr t.rules (.cells #[.int .u32 (t.arch : Nat), .int .u32 (t.dflt : Nat), .slice A nn cc] 25) u.heap.size 0 u0 := ⟨⟨l, n, v, T0, K0, bx0, rfl, rfl, hn0, hnm, hl⟩⟩
  have HMT := Lib.hid hmt; have HST := Lib.hid hst; have HALL := Lib.hid hall; have HL := Lib.hid hlen; have HBW := Lib.hid hbw; have HW := Lib.hid hW; have HD := Lib.hid hd
  have HHIT := Lib.hid (fun j hj => hitN_step nr t.rules j hj)
  have HSTEP := Lib.hid (fun j hj n => rulesS_step t.dflt nr t.rules j hj n)
  clear hmt hst hall hlen hbw hW hd T0 K0 bx0 hk h
  go_enter Try.func29, Try.ntmps29
  go_upto_region 1 with fail
  rw [← eW]
  clear eW
  go_upto_region 2 with fail
  clear g2
  go_loopw [11] (fun z wr => ∃ j : Nat, z = .int .i64 (j : Nat) ∧ j ≤ nn ∧ RulesAt b B W u l n m fn v t.dflt nr t.rules (.cells #[.int .u32 (t.arch : Nat), .int .u32 (t.dflt : Nat), .slice A nn cc] 25) u.heap.size j wr) (fun z _ => nn - (intOf z).toNat)
  case atStart => exact ⟨0, rfl, by omega, HST.out⟩
  case round =>
    obtain ⟨j, rfl, hj, ⟨lj, nj, vj, Tj, Kj, Xj, e1, e2, p1, p2, p3⟩⟩ := hrel
    have HT := Lib.hid Tj; have HK := Lib.hid Kj; have HX := Lib.hid Xj; have HE1 := Lib.hid e1; have HE2 := Lib.hid e2; have HP1 := Lib.hid p1; have HP2 := Lib.hid p2; have HP3 := Lib.hid p3
    clear Tj Kj Xj e1 e2 p1 p2 p3 HST
    by_cases hlt : j < nn
    · have hbel := HK.out.bel HBW.out HW.out
      obtain ⟨b0, off, rfl, hat⟩ := HMT.out W (Below.refl _ _) j hlt
      have hask := HALL.out (t.rules.getD j mtcZ) (by rw [show t.rules.getD j mtcZ = t.rules[j]'(by rw [HL.out]; exact hlt) by simp [List.getD, HL.out, hlt]]; exact List.getElem_mem _)
      have hs := HSTEP.out j (by rw [HL.out]; exact hlt) nj
      have hh := HHIT.out j (by rw [HL.out]; exact hlt)
      have hrl := rule_len (t.rules.getD j mtcZ) nj
      obtain ⟨hact, hbd, ka, kn, kc, ca, cn, c', hu, hkc, e0, e1, e2, e3, e4, e5, e6, e7⟩ := hat.cell
      have hIM : IsMtc W (.agg #[.slice ka kn kc, .int .i64 (t.rules.getD j mtcZ).cnd.kind, .slice ca cn c', .int .i64 (t.rules.getD j mtcZ).cnd.arg, .int .u64 ((t.rules.getD j mtcZ).cnd.mask : Nat), .string (t.rules.getD j mtcZ).cnd.sign, .int .u64 ((t.rules.getD j mtcZ).cnd.value : Nat), .int .u32 ((t.rules.getD j mtcZ).act : Nat)]) (t.rules.getD j mtcZ) := ⟨hact, hbd, _, _, rfl, hu, hkc⟩
      have hbl := World.block_lt_of_cell? _ _ e0
      have x0 := (hbel.cell (p := ⟨b0, off + j * 8, none⟩) hbl).trans e0
      have x1 := (hbel.cell (p := ⟨b0, off + j * 8 + 1, none⟩) hbl).trans e1
      have x2 := (hbel.cell (p := ⟨b0, off + j * 8 + 2, none⟩) hbl).trans e2
      have x3 := (hbel.cell (p := ⟨b0, off + j * 8 + 3, none⟩) hbl).trans e3
      have x4 := (hbel.cell (p := ⟨b0, off + j * 8 + 4, none⟩) hbl).trans e4
      have x5 := (hbel.cell (p := ⟨b0, off + j * 8 + 5, none⟩) hbl).trans e5
      have x6 := (hbel.cell (p := ⟨b0, off + j * 8 + 6, none⟩) hbl).trans e6
      have x7 := (hbel.cell (p := ⟨b0, off + j * 8 + 7, none⟩) hbl).trans e7
      clear e0 e1 e2 e3 e4 e5 e6 e7 hat HALL HSTEP HMT
      have hjI : (j : Int) < nn := by omega
      generalize t.rules.getD j mtcZ = mm at *
      obtain ⟨nrs, c, act⟩ := mm
      simp only at hact hbd hu hkc x0 x1 x2 x3 x4 x5 x6 x7 hs hh hrl hIM hask
      obtain ⟨w7, eW7, T7, K7, X7⟩ := HT.out.box (.cells #[.slice ka kn kc, .int .i64 c.kind, .slice ca cn c', .int .i64 c.arg, .int .u64 (c.mask : Nat), .string c.sign, .int .u64 (c.value : Nat), .int .u32 (act : Nat)] 33)
      have hb7 : Below W.heap.size W w7 := K7.bel HBW.out hbel
      have HT7 := Lib.hid T7; have HK7 := Lib.hid (HK.out.trans K7); have HX7 := Lib.hid X7; have HXT7 := Lib.hid (HX.out.keep K7); have HU := Lib.hid hu; have HIM := Lib.hid hIM; have HASK := Lib.hid hask; have HS := Lib.hid hs; have HRL := Lib.hid hrl; have HB7 := Lib.hid hb7; have HLT := Lib.hid hlt; have HH := Lib.hid hh
      have HACT := Lib.hid hact
      clear T7 K7 X7 hu hkc hbd hIM hask hs hh HHIT hrl hb7 hlt HT HK HX hbel hact
      go_upto_region 4 with fail
      rw [← eW7]
      clear eW7 x0 x1 x2 x3 x4 x5 x6 x7
      generalize wr.heap.size = g7 at *
      have y0 := below_cell (Below.refl _ _) HX7.out.blk 0 rfl
      go_wp2_with fail
      refine (u32Contains w7 ka kn kc nrs nr (HU.out.below HB7.out)).mono ?_
      rintro e w8 ⟨rfl, hb8⟩
      have k8 := KeepM.of_below (b := b) (B := B) (v := vj) hb8 (by have := HT7.out.base; have := lt_of_block HT7.out.blk; omega)
      have HT8 := Lib.hid (HT7.out.below hb8); have HK8 := Lib.hid (HK7.out.trans k8); have HX8 := Lib.hid (HX7.out.keep k8); have HXT8 := Lib.hid (HXT7.out.keep k8); have HB8 := Lib.hid (k8.bel HBW.out HB7.out)
      clear y0 hb8 k8 HT7 HK7 HX7 HXT7 HB7
      generalize nrs.contains nr = q1 at *
      cases q1
      · go_wp2_with fail
        go_roundw
        case rel =>
          have hs := HS.out
          rw [if_pos (by first | trivial | rfl)] at hs
          have hh := HH.out
          rw [if_pos (by first | trivial | rfl)] at hh
          refine ⟨j + 1, by go_num, by have := HLT.out; omega, ⟨lj, nj, vj, HT8.out, HK8.out, HXT8.out, ?_, ?_, HP1.out, ?_, ?_⟩⟩
          · rw [← hs]; exact HE1.out
          · rw [← hs]; exact HE2.out
          · have := HP2.out; omega
          · have := HP3.out; omega
        case measure => have := HLT.out; simp [intOf]; omega
      · have hs := HS.out
        rw [if_neg (by first | decide | simp)] at hs
        have hh := HH.out
        rw [if_neg (by first | decide | simp)] at hh
        have HH2 := Lib.hid hh
        clear hh HH
        have HS2 := Lib.hid hs
        clear hs HS
        have y1 := below_cell (Below.refl _ _) HX8.out.blk 1 rfl
        have y2 := below_cell (Below.refl _ _) HX8.out.blk 2 rfl
        have y3 := below_cell (Below.refl _ _) HX8.out.blk 3 rfl
        have y4 := below_cell (Below.refl _ _) HX8.out.blk 4 rfl
        have y5 := below_cell (Below.refl _ _) HX8.out.blk 5 rfl
        have y6 := below_cell (Below.refl _ _) HX8.out.blk 6 rfl
        have hC : IsCnd W (.agg #[.int .i64 c.kind, .slice ca cn c', .int .i64 c.arg, .int .u64 (c.mask : Nat), .string c.sign, .int .u64 (c.value : Nat)]) c := by
          obtain ⟨_, h2, _, _, e, _, h4⟩ := HIM.out
          injection e with e
          have := congrArg Array.toList e
          simp only [List.cons.injEq, and_true, true_and] at this
          obtain ⟨_, rfl⟩ := this
          exact ⟨h2, _, rfl, h4⟩
        have hz := tmZero_any c _ w8 (hC.below HB8.out)
        have HZ := Lib.hid hz
        clear hz hC
        go_wp2_with fail
        refine HZ.out.mono ?_
        rintro e w9 ⟨rfl, hb9⟩
        have k9 := KeepM.of_below (b := b) (B := B) (v := vj) hb9 (by have := HT8.out.base; have := lt_of_block HT8.out.blk; omega)
        have HT9 := Lib.hid (HT8.out.below hb9); have HK9 := Lib.hid (HK8.out.trans k9); have HX9 := Lib.hid (HX8.out.keep k9); have HXT9 := Lib.hid (HXT8.out.keep k9); have HB9 := Lib.hid (k9.bel HBW.out HB8.out)
        clear y1 y2 y3 y4 y5 y6 hb9 k9 HT8 HK8 HX8 HXT8 HB8 HZ
        cases hq : c.zero
        · have hr : c.right = true := by
            have h1 := HASK.out
            unfold Mtc.askable at h1
            simp only at h1
            rw [hq] at h1
            simpa using h1
          have hc := tmRule b B W w9 lj nj m fn vj _ _ HIM.out hr HBW.out HB9.out HT9.out HP1.out (by have := HP2.out; have := HH2.out; omega) (by have := HP3.out; have := HH2.out; omega)
          have HC := Lib.hid hc; have HR := Lib.hid (HRL.out hr)
          clear hc hr
          have y0 := below_cell (Below.refl _ _) HX9.out.blk 0 rfl
          have y1 := below_cell (Below.refl _ _) HX9.out.blk 1 rfl
          have y2 := below_cell (Below.refl _ _) HX9.out.blk 2 rfl
          have y3 := below_cell (Below.refl _ _) HX9.out.blk 3 rfl
          have y4 := below_cell (Below.refl _ _) HX9.out.blk 4 rfl
          have y5 := below_cell (Below.refl _ _) HX9.out.blk 5 rfl
          have y6 := below_cell (Below.refl _ _) HX9.out.blk 6 rfl
          have y7 := below_cell (Below.refl _ _) HX9.out.blk 7 rfl
          have HQ := Lib.hid hq
          clear hq
          go_wp2_with fail
          refine HC.out.mono ?_
          rintro e w6 ⟨rfl, v6, T6, K6⟩
          have HT6 := Lib.hid T6; have HK6 := Lib.hid (HK9.out.trans K6); have HXT6 := Lib.hid (HXT9.out.keep K6)
          clear T6 K6 HT9 HK9 HXT9 HX9 HC y0 y1 y2 y3 y4 y5 y6 y7
          go_wp2_with fail
          go_roundw
          case rel =>
            have hz := HS2.out
            rw [if_neg (by rw [HQ.out]; decide)] at hz
            have h1 := HE1.out
            have h2 := HE2.out
            rw [hz] at h1 h2
            obtain ⟨r1, r2, r3⟩ := HR.out
            refine ⟨j + 1, by go_num, by have := HLT.out; omega, ⟨_, _, v6, HT6.out, HK6.out, HXT6.out, ?_, h2, ?_, ?_, ?_⟩⟩
            · rw [List.append_assoc]; exact h1
            · have := HP1.out; omega
            · have := HP2.out; have := HH2.out; omega
            · have := HP3.out; have := HH2.out; rw [List.length_append]; omega
          case measure => have := HLT.out; simp [intOf]; omega
        · have y7 := below_cell (Below.refl _ _) HX9.out.blk 7 rfl
          go_wp2_with fail
          refine (tmRet b B w9 lj nj m fn vj act HT9.out HACT.out (by have := HP3.out; omega)).mono ?_
          rintro e w6 ⟨rfl, v6, T6, K6⟩
          have HT6 := Lib.hid T6; have HK6 := Lib.hid (HK9.out.trans K6)
          clear T6 K6 HT9 HK9 y7
          go_wp2_with fail
          go_end0
          have hz := HS2.out
          rw [if_pos hq] at hz
          have h1 := HE1.out
          have h2 := HE2.out
          rw [hz] at h1 h2
          refine ⟨rfl, v6, ?_, HK6.out⟩
          rw [← h1, ← h2]
          exact HT6.out
    · obtain rfl : j = nn := by omega
      have g1 := below_cell (Below.refl _ _) HX.out.blk 1 rfl
      have hlt' : ¬ ((j : Int) < (j : Int)) := by omega
      go_wp2_with fail
      refine (tmRet b B _ lj nj m fn vj t.dflt HT.out HD.out (by have := HP3.out; omega)).mono ?_
      rintro e w6 ⟨rfl, v6, T6, K6⟩
      have HT6 := Lib.hid T6; have HK6 := Lib.hid (HK.out.trans K6)
      clear T6 K6 HT HK g1
      go_wp2_with fail
      go_end0
      have hz : rulesS t.dflt nr (t.rules.drop j) nj = ([retS t.dflt], nj) := by rw [← HL.out, List.drop_length]; rfl
      have h1 := HE1.out
      have h2 := HE2.out
      rw [hz] at h1 h2
      refine ⟨rfl, v6, ?_, HK6.out⟩
      rw [← h1, ← h2]
      exact HT6.out
end STm5
section STm6
open Go.RowKit Go.ChangeShapes
set_option linter.unusedVariables false

def Mtc.fit (m : Mtc) : Bool := decide (1 ≤ m.nrs.length) && decide (m.nrs.length ≤ 40) && (m.cnd.zero || m.cnd.right)
theorem all_step (l : List Mtc) (j : Nat) (hj : j < l.length) : ((l.getD j mtcZ).fit && (l.drop (j + 1)).all Mtc.fit) = (l.drop j).all Mtc.fit := by
  rw [show l.getD j mtcZ = l[j] by simp [List.getD, hj], List.drop_eq_getElem_cons hj, List.all_cons]
def Typ.right (t : Typ) : Bool := decide (t.rules.length ≤ 24) && t.rules.all Mtc.fit
set_option maxRecDepth 100000 in
set_option maxHeartbeats 4000000 in
theorem tmRight (t : Typ) (v : Value) (w : World) (h : IsTyp w v t) : Calls Try.prog 27 #[v] w fun e w' => e = .returned (.bool t.right) ∧ Below w.heap.size w w' := by
  obtain ⟨ht1, ht2, k, rfl, hk⟩ := h
  obtain ⟨A, nn, cc, rfl, hl, hc1, hc2, _⟩ := id hk
  obtain ⟨w0, eW⟩ : ∃ w0, w0 = w.alloc (.cells #[.int .u32 (t.arch : Nat), .int .u32 (t.dflt : Nat), .slice A nn cc] 25) := ⟨_, rfl⟩
  have hb0 : Below w.heap.size w w0 := by rw [eW]; exact (Below.refl _ _).alloc (Nat.le_refl _) _
  have hn0 : w0.heap[w.heap.size]? = some (.cells #[.int .u32 (t.arch : Nat), .int .u32 (t.dflt : Nat), .slice A nn cc] 25 (0, 0)) := by rw [eW]; exact heap_alloc_new w _
  have g2 := below_cell (Below.refl _ _) hn0 2 rfl
  have hmt := fun j hj => rules_at hk (Below.refl w.heap.size w) j hj
  have HMT := Lib.hid hmt; have HB0 := Lib.hid hb0; have HL := Lib.hid hl
  obtain ⟨R, hR⟩ : ∃ R, t.right = R := ⟨_, rfl⟩
  rw [hR]
  have HR := Lib.hid hR
  have hnI : (nn : Int) ≤ 9223372036854775807 := by omega
  clear hmt hb0 hn0 hl hk hR ht1 ht2 hc1 hc2
  by_cases h24 : nn ≤ 24
  · have g24 : ¬ ((24 : Int) < nn) := by omega
    have ha : (t.rules.drop 0).all Mtc.fit = R := by have := HR.out; unfold Typ.right at this; rw [HL.out, decide_eq_true h24, Bool.true_and] at this; exact this
    have HA := Lib.hid ha
    clear ha
    go_enter Try.func27, Try.ntmps27
    go_upto_region 1 with fail
    rw [← eW]
    clear eW
    go_upto_region 4 with fail
    clear g2 g24
    go_loopw [12] (fun z wr => ∃ j : Nat, z = .int .i64 (j : Nat) ∧ j ≤ nn ∧ (t.rules.drop j).all Mtc.fit = R ∧ Below w.heap.size w wr) (fun z _ => nn - (intOf z).toNat)
    case atStart => exact ⟨0, rfl, by omega, HA.out, HB0.out⟩
    case round =>
      obtain ⟨j, rfl, hj, hev, hwr⟩ := hrel
      have HEV := Lib.hid hev; have HWR := Lib.hid hwr
      clear hev hwr HA HB0
      by_cases hlt : j < nn
      · obtain ⟨b0, off, rfl, hat⟩ := HMT.out j hlt
        have hstep : ((t.rules.getD j mtcZ).fit && (t.rules.drop (j + 1)).all Mtc.fit) = R := (all_step _ j (by rw [HL.out]; exact hlt)).trans HEV.out
        obtain ⟨hact, hbd, ka, kn, kc, ca, cn, c', hu, hkc, e0, e1, e2, e3, e4, e5, e6, e7⟩ := hat.cell
        have hbl := World.block_lt_of_cell? _ _ e0
        have x0 := (HWR.out.cell (p := ⟨b0, off + j * 8, none⟩) hbl).trans e0
        have x1 := (HWR.out.cell (p := ⟨b0, off + j * 8 + 1, none⟩) hbl).trans e1
        have x2 := (HWR.out.cell (p := ⟨b0, off + j * 8 + 2, none⟩) hbl).trans e2
        have x3 := (HWR.out.cell (p := ⟨b0, off + j * 8 + 3, none⟩) hbl).trans e3
        have x4 := (HWR.out.cell (p := ⟨b0, off + j * 8 + 4, none⟩) hbl).trans e4
        have x5 := (HWR.out.cell (p := ⟨b0, off + j * 8 + 5, none⟩) hbl).trans e5
        have x6 := (HWR.out.cell (p := ⟨b0, off + j * 8 + 6, none⟩) hbl).trans e6
        have x7 := (HWR.out.cell (p := ⟨b0, off + j * 8 + 7, none⟩) hbl).trans e7
        clear e0 e1 e2 e3 e4 e5 e6 e7 hat HMT HEV
        have hjI : (j : Int) < nn := by omega
        have hkn : (t.rules.getD j mtcZ).nrs.length = kn ∧ kn ≤ 9223372036854775807 := by obtain ⟨_, _, _, hv, h1, h2, h3, _⟩ := hu; injection hv with _ q _; exact ⟨by rw [h1, q], by omega⟩
        unfold Mtc.fit at hstep
        rw [hkn.1] at hstep
        generalize t.rules.getD j mtcZ = mm at *
        obtain ⟨nrs, c, act⟩ := mm
        simp only at hact hbd hu hkc x0 x1 x2 x3 x4 x5 x6 x7 hstep
        have hC : IsCnd w (.agg #[.int .i64 c.kind, .slice ca cn c', .int .i64 c.arg, .int .u64 (c.mask : Nat), .string c.sign, .int .u64 (c.value : Nat)]) c := ⟨hbd, _, rfl, hkc⟩
        have hkI : (kn : Int) ≤ 9223372036854775807 := by have := hkn.2; omega
        have hn7 := heap_alloc_new wr (.cells #[.slice ka kn kc, .int .i64 c.kind, .slice ca cn c', .int .i64 c.arg, .int .u64 (c.mask : Nat), .string c.sign, .int .u64 (c.value : Nat), .int .u32 (act : Nat)] 33)
        have hy7 := (Below.refl wr.heap.size wr).alloc (Nat.le_refl _) (.cells #[.slice ka kn kc, .int .i64 c.kind, .slice ca cn c', .int .i64 c.arg, .int .u64 (c.mask : Nat), .string c.sign, .int .u64 (c.value : Nat), .int .u32 (act : Nat)] 33)
        obtain ⟨w7, eW7⟩ : ∃ w7, w7 = wr.alloc (.cells #[.slice ka kn kc, .int .i64 c.kind, .slice ca cn c', .int .i64 c.arg, .int .u64 (c.mask : Nat), .string c.sign, .int .u64 (c.value : Nat), .int .u32 (act : Nat)] 33) := ⟨_, rfl⟩
        rw [← eW7] at hn7 hy7
        have HN7 := Lib.hid hn7; have HB7 := Lib.hid (HWR.out.trans (hy7.mono HWR.out.size)); have HC := Lib.hid hC; have HS := Lib.hid hstep; have HLT := Lib.hid hlt
        clear hn7 hy7 hC hstep hkn hu hkc hbd hact hlt HWR
        go_upto_region 6 with fail
        rw [← eW7]
        clear eW7 x0 x1 x2 x3 x4 x5 x6 x7
        generalize wr.heap.size = g7 at *
        have y0 := below_cell (Below.refl _ _) HN7.out 0 rfl
        have y1 := below_cell (Below.refl _ _) HN7.out 1 rfl
        have y2 := below_cell (Below.refl _ _) HN7.out 2 rfl
        have y3 := below_cell (Below.refl _ _) HN7.out 3 rfl
        have y4 := below_cell (Below.refl _ _) HN7.out 4 rfl
        have y5 := below_cell (Below.refl _ _) HN7.out 5 rfl
        have y6 := below_cell (Below.refl _ _) HN7.out 6 rfl
        by_cases h1 : kn < 1
        · have z1 : (kn : Int) < 1 := by omega
          have e : R = false := by rw [← HS.out, decide_eq_false (by omega), Bool.false_and, Bool.false_and, Bool.false_and]
          subst e
          go_wp2_with fail
          go_ret
          exact ⟨rfl, HB7.out⟩
        · have z1 : ¬ (kn : Int) < 1 := by omega
          by_cases h2 : 40 < kn
          · have z2 : (40 : Int) < kn := by omega
            have e : R = false := by rw [← HS.out, decide_eq_false (p := kn ≤ 40) (by omega), Bool.and_false, Bool.false_and, Bool.false_and]
            subst e
            go_wp2_with fail
            go_ret
            exact ⟨rfl, HB7.out⟩
          · have z2 : ¬ (40 : Int) < kn := by omega
            have hs := HS.out
            rw [decide_eq_true (p := 1 ≤ kn) (by omega), decide_eq_true (p := kn ≤ 40) (by omega), Bool.true_and, Bool.true_and] at hs
            have HS2 := Lib.hid hs
            clear hs HS h1 h2
            go_wp2_with fail
            refine (tmZero_any c _ w7 (HC.out.below HB7.out)).mono ?_
            rintro e w8 ⟨rfl, hb8⟩
            have HB8 := Lib.hid (HB7.out.trans (hb8.mono HB7.out.size))
            have y1' := below_cell hb8 HN7.out 1 rfl
            have y2' := below_cell hb8 HN7.out 2 rfl
            have y3' := below_cell hb8 HN7.out 3 rfl
            have y4' := below_cell hb8 HN7.out 4 rfl
            have y5' := below_cell hb8 HN7.out 5 rfl
            have y6' := below_cell hb8 HN7.out 6 rfl
            clear hb8 y0 y1 y2 y3 y4 y5 y6
            generalize c.zero = q1 at *
            cases q1
            · go_wp2_with fail
              refine (tyRight_any c _ w8 (HC.out.below HB8.out)).mono ?_
              rintro e w9 ⟨rfl, hb9⟩
              have HB9 := Lib.hid (HB8.out.trans (hb9.mono HB8.out.size))
              clear hb9 y1' y2' y3' y4' y5' y6'
              generalize c.right = q2 at *
              cases q2
              · have e : R = false := by rw [← HS2.out]; rfl
                subst e
                go_wp2_with fail
                go_ret
                exact ⟨rfl, HB9.out⟩
              · have e : (t.rules.drop (j + 1)).all Mtc.fit = R := by rw [← HS2.out]; rfl
                have HE := Lib.hid e
                clear e
                go_wp2_with fail
                go_roundw
                case rel => exact ⟨j + 1, by go_num, by have := HLT.out; omega, HE.out, HB9.out⟩
                case measure => have := HLT.out; simp [intOf]; omega
            · have e : (t.rules.drop (j + 1)).all Mtc.fit = R := by rw [← HS2.out]; rfl
              have HE := Lib.hid e
              clear e
              go_wp2_with fail
              go_roundw
              case rel => exact ⟨j + 1, by go_num, by have := HLT.out; omega, HE.out, HB8.out⟩
              case measure => have := HLT.out; simp [intOf]; omega
      · obtain rfl : j = nn := by omega
        have e : R = true := by rw [← HEV.out, ← HL.out, List.drop_length]; rfl
        subst e
        have hlt' : ¬ ((j : Int) < (j : Int)) := by omega
        go_wp2_with fail
        go_ret
        exact ⟨rfl, HWR.out⟩
  · have g24 : (24 : Int) < nn := by omega
    have e : R = false := by have := HR.out; unfold Typ.right at this; rw [HL.out, decide_eq_false h24, Bool.false_and] at this; exact this.symm
    subst e
    go_enter Try.func27, Try.ntmps27
    go_upto_region 1 with fail
    rw [← eW]
    clear eW
    go_wp2_with fail
    go_ret
    exact ⟨rfl, HB0.out⟩
end STm6
section STm7
open Go.RowKit Go.ChangeShapes
set_option linter.unusedVariables false

set_option maxRecDepth 100000 in
set_option maxHeartbeats 1000000 in
theorem tmLeaf (b B T : Nat) (W u : World) (l : List Stp) (n m : Int) (fn v : Value) (t : Typ) (A : Option Addr) (nn cc nr : Nat) (hx : Bx B u v T (.cells #[.int .u32 (t.arch : Nat), .int .u32 (t.dflt : Nat), .slice A nn cc] 25)) (hk : IsMtcs W (.slice A nn cc) t.rules) (hd : t.dflt ≤ 4294967295) (hall : ∀ m ∈ t.rules, m.askable = true)
    (hbw : W.heap.size ≤ b) (hW : Below W.heap.size W u) (h : Tk b u B l n m fn v) (hn0 : 0 ≤ n) (hnm : n + 400 * (hitN nr t.rules : Nat) ≤ 800000) (hl : l.length + 1100 * hitN nr t.rules ≤ 1900000) :
    Calls Try.prog 28 #[.int .u32 (nr : Nat), .pointer (some ⟨B, 0, none⟩), .pointer (some ⟨T, 0, none⟩)] u (TkPost b B v u (l ++ (rulesS t.dflt nr t.rules n).1) (rulesS t.dflt nr t.rules n).2 m fn) := by
  have hc := tmRules b B W u l n m fn v t A nn cc nr hk hd hall hbw hW h hn0 hnm hl
  have g0 := below_cell (Below.refl _ _) hx.blk 0 rfl
  have g1 := below_cell (Below.refl _ _) hx.blk 1 rfl
  have g2 := below_cell (Below.refl _ _) hx.blk 2 rfl
  have HC := Lib.hid hc
  clear hc h hW hbw hall hd hk hx
  go_enter Try.func28, Try.ntmps28
  go_wp2_with fail
  refine HC.out.mono ?_
  rintro e w2 ⟨rfl, hp⟩
  have HP := Lib.hid hp
  clear hp
  go_wp2_with fail
  go_end0
  exact ⟨rfl, HP.out⟩
end STm7
section STm8
open Go.RowKit Go.ChangeShapes
set_option linter.unusedVariables false
set_option linter.unusedSimpArgs false

def hitsN (l : List Mtc) (nums : List Nat) : Nat := (nums.map fun nr => hitN nr l).sum
theorem hitsN_split (l : List Mtc) (nums : List Nat) (k : Nat) : hitsN l nums = hitsN l (nums.take k) + hitsN l (nums.drop k) := by
  unfold hitsN
  conv => lhs; rw [← List.take_append_drop k nums]
  rw [List.map_append, List.sum_append_nat]
theorem rules_len (d nr : Nat) : ∀ (l : List Mtc), (∀ m ∈ l, m.askable = true) → ∀ n, (rulesS d nr l n).1.length ≤ 1100 * hitN nr l + 1 ∧ n ≤ (rulesS d nr l n).2 ∧ (rulesS d nr l n).2 ≤ n + 400 * (hitN nr l : Nat)
  | [], _, n => by refine ⟨?_, ?_, ?_⟩ <;> simp [rulesS, hitN]
  | m :: l, h, n => by
    have h0 := rulesS_step d nr (m :: l) 0 (by simp) n
    have hh := hitN_step nr (m :: l) 0 (by simp)
    simp only [List.drop_zero, List.getD_cons_zero, Nat.zero_add, List.drop_succ_cons] at h0 hh
    have ih := rules_len d nr l (fun x hx => h x (List.mem_cons_of_mem _ hx))
    cases hc : m.nrs.contains nr with
    | false =>
      rw [hc, if_pos rfl] at h0 hh
      rw [h0, hh]
      have := ih n
      omega
    | true =>
      rw [hc, if_neg (by decide)] at h0 hh
      cases hz : m.cnd.zero with
      | true =>
        rw [hz, if_pos rfl] at h0
        rw [h0]
        refine ⟨?_, ?_, ?_⟩
        · simp
        · simp
        · simp only; omega
      | false =>
        rw [hz, if_neg (by decide)] at h0
        have hr : m.cnd.right = true := by
          have := h m List.mem_cons_self
          unfold Mtc.askable at this
          rw [hz] at this
          simpa using this
        obtain ⟨r1, r2, r3⟩ := rule_len m n hr
        have i1 := ih (ruleS m n).2
        rw [h0, hh]
        refine ⟨?_, ?_, ?_⟩
        · simp only [List.length_append]; omega
        · simp only; omega
        · simp only; omega
theorem branch_len (d : Nat) (l : List Mtc) (hl : ∀ m ∈ l, m.askable = true) (missed : Int) : ∀ (f : Nat) (nums : List Nat), nums.length ≤ f → nums ≠ [] → ∀ n,
    (branchS d l missed f nums n).1.length + 3 ≤ 6 * nums.length + 1100 * hitsN l nums ∧ n ≤ (branchS d l missed f nums n).2 ∧ (branchS d l missed f nums n).2 + 2 ≤ n + 3 * (nums.length : Nat) + 400 * (hitsN l nums : Nat) := by
  intro f
  induction f with
  | zero => intro nums h1 h2; exact absurd (List.eq_nil_of_length_eq_zero (by omega)) h2
  | succ f ih =>
    intro nums hlen hne n
    rw [branchS]
    by_cases h1 : nums.length = 1
    · rw [if_pos h1]
      dsimp only
      match nums, h1 with
      | [x], _ =>
        simp only [List.getD_cons_zero]
        obtain ⟨i1, i2, i3⟩ := rules_len d x l hl (n + 1)
        have hh : hitsN l [x] = hitN x l := by simp [hitsN]
        rw [hh]
        refine ⟨?_, by omega, ?_⟩
        · simp only [List.length_cons, List.length_nil]; omega
        · simp only [List.length_cons, List.length_nil]; omega
    · rw [if_neg h1]
      dsimp only
      have hl2 : 2 ≤ nums.length := by
        have : nums.length ≠ 0 := fun e => hne (List.eq_nil_of_length_eq_zero e)
        omega
      have hs := hitsN_split l nums (nums.length / 2)
      have t1 : (nums.take (nums.length / 2)).length = nums.length / 2 := by rw [List.length_take]; omega
      have t2 : (nums.drop (nums.length / 2)).length = nums.length - nums.length / 2 := by rw [List.length_drop]
      obtain ⟨p1, p2, p3⟩ := ih (nums.take (nums.length / 2)) (by omega) (fun e => by have := congrArg List.length e; rw [t1, List.length_nil] at this; omega) (n + 2)
      generalize branchS d l missed f (nums.take (nums.length / 2)) (n + 2) = P at *
      obtain ⟨q1, q2, q3⟩ := ih (nums.drop (nums.length / 2)) (by omega) (fun e => by have := congrArg List.length e; rw [t2, List.length_nil] at this; omega) P.2
      generalize branchS d l missed f (nums.drop (nums.length / 2)) P.2 = Q at *
      rw [t1] at p1 p3
      rw [t2] at q1 q3
      refine ⟨?_, by omega, by omega⟩
      simp only [List.length_cons, List.length_append]; omega
/-- numbers stand in a block at an offset -/
def NumAt (o : Obj) (off : Nat) (nums : List Nat) : Prop := ∃ cur : Array Value, o = .cells cur 22 (0, 0) ∧ ∀ i, i < nums.length → cur[off + i]? = some (.int .u32 (nums.getD i 0 : Nat))
theorem NumAt.take {o : Obj} {off : Nat} {nums : List Nat} (h : NumAt o off nums) (k : Nat) : NumAt o off (nums.take k) := by
  obtain ⟨cur, e, h⟩ := h
  refine ⟨cur, e, fun i hi => ?_⟩
  rw [List.length_take] at hi
  rw [h i (by omega)]
  simp [List.getD, List.getElem?_take, show i < k by omega]
theorem NumAt.drop {o : Obj} {off : Nat} {nums : List Nat} (h : NumAt o off nums) (k : Nat) : NumAt o (off + k) (nums.drop k) := by
  obtain ⟨cur, e, h⟩ := h
  refine ⟨cur, e, fun i hi => ?_⟩
  rw [List.length_drop] at hi
  rw [Nat.add_assoc, h (k + i) (by omega)]
  simp [List.getD, List.getElem?_drop]
theorem NumAt.cell {B : Nat} {u : World} {v : Value} {g : Nat} {o : Obj} {off : Nat} {nums : List Nat} (h : NumAt o off nums) (hx : Bx B u v g o) (i : Nat) (hi : i < nums.length) : u.cell? ⟨g, off + i, none⟩ = some (.int .u32 (nums.getD i 0 : Nat)) := by
  obtain ⟨cur, rfl, h⟩ := h
  rw [cell_of_row _ _ _ _ _ _ hx.blk, h i hi]
theorem tk_kd {b B : Nat} {u : World} {l : List Stp} {n m : Int} {fn v : Value} (h : Tk b u B l n m fn v) : KeepM b B v u v u.drew := KeepM.of_below (Below.refl _ u).drew (by have := h.base; have := lt_of_block h.blk; omega)
def BranchAt (b B T : Nat) (W : World) (t : Typ) (A : Option Addr) (nn cc : Nat) (m : Int) (f : Nat) : Prop :=
  ∀ (nums : List Nat), nums.length ≤ f → nums ≠ [] → (∀ x ∈ nums, x ≤ 4294967295) → ∀ (u : World) (l : List Stp) (n : Int) (v : Value) (g off c : Nat) (o : Obj), nums.length ≤ c → c ≤ 9223372036854775807 →
    Bx B u v T (.cells #[.int .u32 (t.arch : Nat), .int .u32 (t.dflt : Nat), .slice A nn cc] 25 (0, 0)) → Bx B u v g o → NumAt o off nums → Below W.heap.size W u → Tk b u B l n m (Value.func (Fn.func 28) #[] #[.pointer (some ⟨B, 0, none⟩), .pointer (some ⟨T, 0, none⟩)]) v → 0 ≤ n → n + 3 * (nums.length : Nat) + 400 * (hitsN t.rules nums : Nat) ≤ 800000 → l.length + 6 * nums.length + 1100 * hitsN t.rules nums ≤ 1900000 →
    Calls Try.prog 34 #[.pointer (some ⟨B, 0, none⟩), .slice (some ⟨g, off, none⟩) nums.length c] u (TkPost b B v u (l ++ (branchS t.dflt t.rules m f nums n).1) (branchS t.dflt t.rules m f nums n).2 m (Value.func (Fn.func 28) #[] #[.pointer (some ⟨B, 0, none⟩), .pointer (some ⟨T, 0, none⟩)]))
set_option maxRecDepth 100000 in
set_option maxHeartbeats 4000000 in
theorem tmBranch_step (b B T : Nat) (W : World) (t : Typ) (A : Option Addr) (nn cc : Nat) (hk : IsMtcs W (.slice A nn cc) t.rules) (hd : t.dflt ≤ 4294967295) (hall : ∀ m ∈ t.rules, m.askable = true) (hbw : W.heap.size ≤ b) (m : Int) (hm : 0 ≤ m ∧ m ≤ 1000000) (f : Nat) (ih : BranchAt b B T W t A nn cc m f) : BranchAt b B T W t A nn cc m (f + 1) := by
  intro nums hlen hne h32 u l n v g off c o hc1 hc2 hXT hXN hNA hW hT hn0 hnm hl
  have HIH := Lib.hid ih; have HXT := Lib.hid hXT; have HXN := Lib.hid hXN; have HNA := Lib.hid hNA; have HW := Lib.hid hW; have HT := Lib.hid hT; have H32 := Lib.hid h32
  have HBW := Lib.hid hbw
  have HLF := Lib.hid (fun (u : World) (l : List Stp) (n : Int) (v : Value) (nr : Nat) hx hw h h0 h1 h2 => tmLeaf b B T W u l n m (Value.func (Fn.func 28) #[] #[.pointer (some ⟨B, 0, none⟩), .pointer (some ⟨T, 0, none⟩)]) v t A nn cc nr hx hk hd hall hbw hw h h0 h1 h2)
  have HBL := Lib.hid (fun f nums h1 h2 n => branch_len t.dflt t.rules hall m f nums h1 h2 n)
  have hfn := hT.blk
  by_cases h1 : nums.length = 1
  · rw [branchS, if_pos h1]
    dsimp only
    match nums, h1 with
    | [x], _ =>
      simp only [List.getD_cons_zero, List.length_cons, List.length_nil, Nat.zero_add] at hnm hl hc1 ⊢
      rw [show hitsN t.rules [x] = hitN x t.rules by simp [hitsN]] at hnm hl
      have hx32 := h32 x (by simp)
      have HNM := Lib.hid hnm; have HLL := Lib.hid hl; have HN0 := Lib.hid hn0
      have HL0 := Lib.hid (tmLabel b B u l n m (Value.func (Fn.func 28) #[] #[.pointer (some ⟨B, 0, none⟩), .pointer (some ⟨T, 0, none⟩)]) v hT hn0 (by omega))
      clear hnm hl hT hW hNA hXN hXT h32 hlen hne ih hall hk hd hbw hfn
      go_enter Try.func34, Try.ntmps34
      go_upto_region 2 with (first | (go_at_call 30; refine HL0.out.mono ?_; rintro e w1 ⟨rfl, T1, K1⟩))
      have HX1 := Lib.hid (HXN.out.keep K1); have HT1 := Lib.hid (HXT.out.keep K1); have HK1 := Lib.hid K1; have HTK := Lib.hid T1
      have q0 := HNA.out.cell HX1.out 0 (by simp)
      rw [List.getD_cons_zero, Nat.add_zero] at q0
      have m2 := below_cell (Below.refl _ w1) T1.blk 2 rfl
      have m3 := below_cell (Below.refl _ w1) T1.blk 3 rfl
      have hc1I : (0 : Int) < c := by omega
      have HA := Lib.hid (show Calls Try.prog 31 #[.pointer (some ⟨B, 0, none⟩), .agg #[.int .i64 3, .int .u32 (x : Nat), .int .i64 n, .int .i64 m]] w1.drew (TkPost b B v w1.drew (l ++ [⟨3, x, n, m⟩]) (n + 1) m (Value.func (Fn.func 28) #[] #[.pointer (some ⟨B, 0, none⟩), .pointer (some ⟨T, 0, none⟩)])) from tmAdd b B w1.drew l (n + 1) m (Value.func (Fn.func 28) #[] #[.pointer (some ⟨B, 0, none⟩), .pointer (some ⟨T, 0, none⟩)]) v ⟨3, x, n, m⟩ (T1.below ((Below.refl _ w1).drew)) (stp_bnd (by decide) hx32 (by have := HNM.out; have := HN0.out; omega) (by omega)) (by have := HLL.out; omega))
      clear T1 K1 HL0
      go_cut [] (fun wx => ∃ v2, Tk b wx B (l ++ [⟨3, x, n, m⟩]) (n + 1) m (Value.func (Fn.func 28) #[] #[.pointer (some ⟨B, 0, none⟩), .pointer (some ⟨T, 0, none⟩)]) v2 ∧ KeepM b B v w1 v2 wx)
      case first =>
        go_region_with (go_at_call 31; refine Calls.mono HA.out ?_; rintro e w2 ⟨rfl, v2, T2, K2⟩; have HT2 := Lib.hid T2; have HK2 := Lib.hid K2; clear T2 K2)
        all_goals
          go_wp2_with fail
          go_meet
          exact ⟨v2, HT2.out, (tk_kd HTK.out).trans HK2.out⟩
      case rest =>
      obtain ⟨v2, T2, K2⟩ := hcut
      have HK2 := Lib.hid (HK1.out.trans K2); have HX2 := Lib.hid (HX1.out.keep K2); have HT2 := Lib.hid (HT1.out.keep K2)
      have HH := Lib.hid (tmHere b B wc _ (n + 1) m (Value.func (Fn.func 28) #[] #[.pointer (some ⟨B, 0, none⟩), .pointer (some ⟨T, 0, none⟩)]) v2 n T2 (by have := HNM.out; have := HN0.out; omega) (by have := HLL.out; simp; omega))
      clear T2 K2 HA HK1 HX1 HT1 HTK q0 m2 m3
      go_upto_region 4 with (first | (go_at_call 32; refine HH.out.mono ?_; rintro e w3 ⟨rfl, v3, T3, K3⟩))
      have HK3 := Lib.hid (HK2.out.trans K3); have HX3 := Lib.hid (HX2.out.keep K3); have HT3 := Lib.hid (HT2.out.keep K3)
      have HTK := Lib.hid T3
      have q0 := HNA.out.cell HX3.out 0 (by simp)
      rw [List.getD_cons_zero, Nat.add_zero] at q0
      have m3 := below_cell (Below.refl _ w3) T3.blk 3 rfl
      have hdr : Below w3.heap.size w3 w3.drew := (Below.refl _ _).drew
      have HC := Lib.hid (HLF.out w3.drew _ (n + 1) v3 x ⟨HT3.out.blk, HT3.out.neB, HT3.out.neO⟩ ((HK3.out.bel HBW.out HW.out).drew) (T3.below hdr) (by have := HN0.out; omega) (by have := HNM.out; omega) (by have := HLL.out; simp only [List.length_append, List.length_cons, List.length_nil]; omega))
      clear T3 K3 hdr HH HK2 HX2 HT2
      go_cut [] (fun wx => ∃ v4, Tk b wx B (((l ++ [⟨3, x, n, m⟩]) ++ [stL n]) ++ (rulesS t.dflt x t.rules (n + 1)).1) (rulesS t.dflt x t.rules (n + 1)).2 m (Value.func (Fn.func 28) #[] #[.pointer (some ⟨B, 0, none⟩), .pointer (some ⟨T, 0, none⟩)]) v4 ∧ KeepM b B v u v4 wx)
      case first =>
        go_region_with (go_at_call 28; refine Calls.mono HC.out ?_; rintro e w4 ⟨rfl, v4, T4, K4⟩; have HT4 := Lib.hid T4; have HK4 := Lib.hid K4; clear T4 K4)
        all_goals
          go_wp2_with fail
          go_meet
          exact ⟨v4, HT4.out, (HK3.out.trans (tk_kd HTK.out)).trans HK4.out⟩
      case rest =>
      obtain ⟨v4, T4, K4⟩ := hcut
      have HT4 := Lib.hid T4; have HK4 := Lib.hid K4
      clear T4 K4 HC HK3 HX3 HT3 HTK q0 m3
      go_wp2_with fail
      go_end0
      refine ⟨rfl, v4, ?_, HK4.out⟩
      have h4 := HT4.out
      simpa using h4
  · rw [branchS, if_neg h1]
    dsimp only
    have hl2 : 2 ≤ nums.length := by
      have : nums.length ≠ 0 := fun e => hne (List.eq_nil_of_length_eq_zero e)
      omega
    obtain ⟨k, hkk⟩ : ∃ k, nums.length = k := ⟨_, rfl⟩
    obtain ⟨h, hh⟩ : ∃ h, k / 2 = h := ⟨_, rfl⟩
    rw [hkk] at hl2 hlen hnm hl hc1 h1
    rw [hkk, hh]
    have hq : (k : Int) / 2 = (h : Nat) := by omega
    have hq' : (k : Int).tdiv 2 = (h : Nat) := by rw [Int.tdiv_eq_ediv_of_nonneg (by omega)]; exact hq
    have hs := hitsN_split t.rules nums h
    have t1 : (nums.take h).length = h := by rw [List.length_take]; omega
    have t2 : (nums.drop h).length = k - h := by rw [List.length_drop, hkk]
    have n1 : nums.take h ≠ [] := fun e => by have := congrArg List.length e; rw [t1, List.length_nil] at this; omega
    have n2 : nums.drop h ≠ [] := fun e => by have := congrArg List.length e; rw [t2, List.length_nil] at this; omega
    have b1 := HBL.out f (nums.take h) (by omega) n1 (n + 2)
    obtain ⟨P, hP⟩ : ∃ P, branchS t.dflt t.rules m f (nums.take h) (n + 2) = P := ⟨_, rfl⟩
    have b2 := HBL.out f (nums.drop h) (by omega) n2 P.2
    obtain ⟨Q, hQ⟩ : ∃ Q, branchS t.dflt t.rules m f (nums.drop h) P.2 = Q := ⟨_, rfl⟩
    rw [hP, hQ]
    rw [hP, t1] at b1
    rw [hQ, t2] at b2
    have hmid32 : nums.getD h 0 ≤ 4294967295 := by
      rw [show nums.getD h 0 = nums[h]'(by omega) from by simp [List.getD, show h < nums.length by omega]]
      exact h32 _ (List.getElem_mem _)
    have hcellm := fun (u : World) (v : Value) (hx : Bx B u v g o) => hNA.cell hx h (by omega)
    generalize nums.getD h 0 = mid at *
    have hIH1 := fun (u : World) (l : List Stp) (v : Value) => ih (nums.take h) (by omega) n1 (fun x hx => h32 x (List.mem_of_mem_take hx)) u l (n + 2) v g off c o (by omega) hc2
    have hIH2 := fun (u : World) (l : List Stp) (v : Value) => ih (nums.drop h) (by omega) n2 (fun x hx => h32 x (List.mem_of_mem_drop hx)) u l P.2 v g (off + h) (c - h) o (by omega) (by omega)
    rw [hP, t1] at hIH1
    rw [hQ, t2] at hIH2
    have HA1 := Lib.hid (hNA.take h); have HA2 := Lib.hid (hNA.drop h)
    obtain ⟨H1, hH1⟩ : ∃ H1, hitsN t.rules (nums.take h) = H1 := ⟨_, rfl⟩
    obtain ⟨H2, hH2⟩ : ∃ H2, hitsN t.rules (nums.drop h) = H2 := ⟨_, rfl⟩
    rw [hH1, hH2] at hs
    rw [hH1] at b1 hIH1
    rw [hH2] at b2 hIH2
    rw [hs] at hnm hl
    have HI1 := Lib.hid hIH1; have HI2 := Lib.hid hIH2; have HCM := Lib.hid hcellm; have HB1 := Lib.hid b1; have HB2 := Lib.hid b2; have HNM := Lib.hid hnm; have HLL := Lib.hid hl; have HN0 := Lib.hid hn0
    have HHK := Lib.hid (show 1 ≤ h ∧ h < k ∧ k ≤ c ∧ 2 * h ≤ k from ⟨by omega, by omega, by omega, by omega⟩)
    have hL0 := tmLabel b B u l n m (Value.func (Fn.func 28) #[] #[.pointer (some ⟨B, 0, none⟩), .pointer (some ⟨T, 0, none⟩)]) v hT hn0 (by omega)
    have HL0 := Lib.hid hL0
    have hhk : (h : Int) < k := by omega
    have hkc : (k : Int) ≤ c := by omega
    have hcI : (c : Int) ≤ 9223372036854775807 := by omega
    have hh0 : (1 : Int) ≤ h := by omega
    have hk1 : ¬ (k : Int) = 1 := by omega
    have hk1B : ((k : Int) == 1) = false := by rw [beq_eq_false_iff_ne]; omega
    have hk1N : (k == 1) = false := by rw [beq_eq_false_iff_ne]; omega
    clear hL0 hIH1 hIH2 hcellm b1 b2 hnm hl hn0 hT hW hNA hXN hXT h32 hlen hne ih hall hk hd hbw hfn hs t1 t2 n1 n2 hP hQ hH1 hH2 hl2 hh HIH HLF HBL H32 HNA hkk h1
    go_enter Try.func34, Try.ntmps34
    go_upto_region 7 with (first
      | (go_at_call 30; refine HL0.out.mono ?_; rintro e w1 ⟨rfl, T1, K1⟩; have HL1 := Lib.hid (tmLabel b B w1 l (n + 1) m (Value.func (Fn.func 28) #[] #[.pointer (some ⟨B, 0, none⟩), .pointer (some ⟨T, 0, none⟩)]) v T1 (by have := HN0.out; omega) (by have := HNM.out; omega)); have HX1 := Lib.hid (HXN.out.keep K1); have HT1 := Lib.hid (HXT.out.keep K1); have HK1 := Lib.hid K1; clear T1 K1)
      | (go_at_call 30; refine HL1.out.mono ?_; rintro e w2 ⟨rfl, T2', K2⟩))
    have T2 : Tk b w2 B l (n + 2) m (Value.func (Fn.func 28) #[] #[.pointer (some ⟨B, 0, none⟩), .pointer (some ⟨T, 0, none⟩)]) v := by rw [show n + 2 = n + 1 + 1 by omega]; exact T2'
    have HX2 := Lib.hid (HX1.out.keep K2); have HT2 := Lib.hid (HT1.out.keep K2); have HK2 := Lib.hid (HK1.out.trans K2)
    have q0 := HCM.out _ _ HX2.out
    have HA := Lib.hid (show Calls Try.prog 31 #[.pointer (some ⟨B, 0, none⟩), .agg #[.int .i64 5, .int .u32 (mid : Nat), .int .i64 n, .int .i64 (n + 1)]] w2 (TkPost b B v w2 (l ++ [⟨5, mid, n, n + 1⟩]) (n + 2) m (Value.func (Fn.func 28) #[] #[.pointer (some ⟨B, 0, none⟩), .pointer (some ⟨T, 0, none⟩)])) from tmAdd b B w2 l (n + 2) m (Value.func (Fn.func 28) #[] #[.pointer (some ⟨B, 0, none⟩), .pointer (some ⟨T, 0, none⟩)]) v ⟨5, mid, n, n + 1⟩ T2 (stp_bnd (by decide) hmid32 (by have := HNM.out; have := HN0.out; omega) (by have := HNM.out; have := HN0.out; omega)) (by have := HLL.out; omega))
    clear T2 T2' K2 HL0 HL1 HX1 HT1 HK1
    go_upto_region 8 with (first | (go_at_call 31; refine HA.out.mono ?_; rintro e w3 ⟨rfl, v3, T3, K3⟩))
    have HX3 := Lib.hid (HX2.out.keep K3); have HT3 := Lib.hid (HT2.out.keep K3); have HK3 := Lib.hid (HK2.out.trans K3)
    have HH := Lib.hid (tmHere b B w3 _ (n + 2) m (Value.func (Fn.func 28) #[] #[.pointer (some ⟨B, 0, none⟩), .pointer (some ⟨T, 0, none⟩)]) v3 (n + 1) T3 (by have := HNM.out; have := HN0.out; omega) (by have := HLL.out; simp; omega))
    clear T3 K3 HA q0 HX2 HT2 HK2
    go_upto_region 9 with (first | (go_at_call 32; refine HH.out.mono ?_; rintro e w4 ⟨rfl, v4, T4, K4⟩))
    have HX4 := Lib.hid (HX3.out.keep K4); have HT4 := Lib.hid (HT3.out.keep K4); have HK4 := Lib.hid (HK3.out.trans K4)
    have HC := Lib.hid (HI1.out w4 _ v4 HT4.out HX4.out HA1.out (HK4.out.bel HBW.out HW.out) T4 (by have := HN0.out; omega) (by have := HNM.out; have := HHK.out; omega) (by have := HLL.out; have := HHK.out; simp only [List.length_append, List.length_cons, List.length_nil]; omega))
    clear T4 K4 HH HX3 HT3 HK3 HI1
    go_upto_region 10 with (first | (go_at_call 34; refine HC.out.mono ?_; rintro e w5 ⟨rfl, v5, T5, K5⟩))
    have HX5 := Lib.hid (HX4.out.keep K5); have HT5 := Lib.hid (HT4.out.keep K5); have HK5 := Lib.hid (HK4.out.trans K5)
    have HH := Lib.hid (tmHere b B w5 _ P.2 m (Value.func (Fn.func 28) #[] #[.pointer (some ⟨B, 0, none⟩), .pointer (some ⟨T, 0, none⟩)]) v5 n T5 (by have := HNM.out; have := HN0.out; omega) (by have := HLL.out; have := HB1.out; simp; omega))
    clear T5 K5 HC HX4 HT4 HK4
    go_upto_region 11 with (first | (go_at_call 32; refine HH.out.mono ?_; rintro e w6 ⟨rfl, v6, T6, K6⟩))
    have HX6 := Lib.hid (HX5.out.keep K6); have HT6 := Lib.hid (HT5.out.keep K6); have HK6 := Lib.hid (HK5.out.trans K6)
    have HC := Lib.hid (HI2.out w6 _ v6 HT6.out HX6.out HA2.out (HK6.out.bel HBW.out HW.out) T6 (by have := HB1.out; have := HN0.out; omega) (by have := HNM.out; have := HB1.out; have := HHK.out; omega) (by have := HLL.out; have := HB1.out; have := HHK.out; simp only [List.length_append, List.length_cons, List.length_nil]; omega))
    clear T6 K6 HH HX5 HT5 HK5 HI2
    go_wp2_with (first | (go_at_call 34; refine HC.out.mono ?_; rintro e w7 ⟨rfl, v7, T7, K7⟩; have HT7 := Lib.hid T7; have HK7 := Lib.hid (HK6.out.trans K7); clear T7 K7))
    go_end0
    refine ⟨rfl, v7, ?_, HK7.out⟩
    have h7 := HT7.out
    simpa using h7
set_option maxRecDepth 100000 in
theorem tmBranch (b B T : Nat) (W : World) (t : Typ) (A : Option Addr) (nn cc : Nat) (hk : IsMtcs W (.slice A nn cc) t.rules) (hd : t.dflt ≤ 4294967295) (hall : ∀ m ∈ t.rules, m.askable = true) (hbw : W.heap.size ≤ b) (m : Int) (hm : 0 ≤ m ∧ m ≤ 1000000) (f : Nat) : BranchAt b B T W t A nn cc m f := by
  induction f with
  | zero => intro nums h1 h2; exact absurd (List.eq_nil_of_length_eq_zero (by omega)) h2
  | succ f ih => exact tmBranch_step b B T W t A nn cc hk hd hall hbw m hm f ih
end STm8
end Go.Proofs.Ytcejhfpdajbdcaa
