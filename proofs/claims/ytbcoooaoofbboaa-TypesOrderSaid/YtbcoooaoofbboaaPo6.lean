/- A policy, checked. -/
import Derived.Test.YtbcoooaoofbboaaPo5
import Derived.Test.YtbcoooaoofbboaaPo2
import Derived.Test.YtbcoooaoofbboaaMt1
import Derived.Test.YtbcoooaoofbboaaTyAlive
import Derived.Maps.AppendAt
import Derived.Laws.OwnMore
import Derived.Outline
namespace Go.Proofs.Ytbcoooaoofbboaa
open Go.RowKit Go.ChangeShapes Go.Sort
set_option linter.unusedVariables false
set_option linter.unusedSimpArgs false

/-- 's = append(s, x)' for one element of several cells; where the new row lies, and which block turned -/
theorem wpList_push_at {P : Program} {ops : Array Oper} {rest : List Oper} {o : Oper} {a : Act} {Q : Exit → Act → World → Prop} {w : World}
    (s x : Operand) (t : TypeId) (e : TypeId) {i : TypeInfo} {z : Value} {size bytes : Nat} {base : Nat} {v : Value} {n : Nat} {xs news : List Value}
    (hown : w.ownsRow base e size v n xs) (hbase : base ≤ w.heap.size)
    (ht : P.underlying t = some (.slice e)) (hi : P.info? e = some i) (hz : i.zero = some z)
    (hsize : i.size = size) (hby : i.bytes = bytes) (hzs : z.cells.size = size) (hsz : 0 < size)
    (hgd : o.guard = none) (ho : o.op = .call { callee := .builtin .append, args := #[s, x], argTypes := #[t, t] })
    (hs : a.eval s = v) (hx : a.eval x = .slice (some ⟨w.heap.size, 0, none⟩) 1 1)
    (hl : news.length = size) (h1 : ∀ u ∈ news, u.oneCell' = true)
    (hroom : n ≤ 17592186044416 ∧ n * bytes + bytes ≤ 140737488355328)
    (h : ∀ v' w', w'.ownsRow base e size v' (n + 1) (xs ++ news) → (w.alloc (.cells news.toArray e)).grownBy w' v.ownBlock → (v'.ownBlock = v.ownBlock ∨ v'.ownBlock = some (w.heap.size + 1)) → wpList P ops Q rest (a.put o.dst v') w') :
    wpList P ops Q (o :: rest) a (w.alloc (.cells news.toArray e)) := by
  refine wpList_step fun K hK => ?_
  have hw : Region.wanted o (yielded ops a.tmps) = true := by simp [Region.wanted, hgd]
  simp only [hw, if_true]
  obtain ⟨v', w', hr, h2, h3, _, h5⟩ := run_append_own_at (P := P) (w.alloc (.cells news.toArray e)) base t o.type e i z size bytes ht hi hz hsize hby hzs hsz v n xs (hown.alloc _) ⟨w.heap.size, 0, none⟩ 1 1 news (by simpa using hl) (cells_new w news e) h1 (by unfold maxLen; omega) (by rw [Nat.add_mul]; omega) (by simp; omega)
  have hn := hK _ _ (h v' w' h2 h3 (by simpa using h5))
  unfold Oper.wp execOp
  simp only [ho, resolve, invoke, builtin, Sem.run_bind, Sem.run_pure, Result.andThen_ok, List.map_toArray, List.map_cons, List.map_nil, hs, hx, hr]
  exact hn
/-- what the rules' slices read as hangs on blocks from lo on alone, and not on block b -/
def AwayAll (lo : Nat) (w : World) (b : Option Nat) (l : List Mtc) (vs : List (Value × Value)) : Prop :=
  ∀ w'' : World, w.heap.size ≤ w''.heap.size → (∀ k, lo ≤ k → k < w.heap.size → b ≠ some k → w''.heap[k]? = w.heap[k]?) → VsOk w'' l vs
theorem AwayAll.ok {lo : Nat} {w : World} {b : Option Nat} {l : List Mtc} {vs : List (Value × Value)} (h : AwayAll lo w b l vs) : VsOk w l vs := h w (Nat.le_refl _) fun _ _ _ _ => rfl
theorem AwayAll.below {lo : Nat} {w w' : World} {b : Option Nat} {l : List Mtc} {vs : List (Value × Value)} (h : AwayAll lo w b l vs) (hb : Below w.heap.size w w') : AwayAll lo w' b l vs :=
  fun w'' hs hk => h w'' (Nat.le_trans hb.size hs) fun k hlo hlt hne => (hk k hlo (Nat.lt_of_lt_of_le hlt hb.size) hne).trans (hb.block k hlt)
theorem AwayAll.set {lo : Nat} {w : World} {b : Option Nat} {l : List Mtc} {vs : List (Value × Value)} (h : AwayAll lo w b l vs) (g o : Nat) (x : Value) (hg : g < lo) : AwayAll lo (w.setCell ⟨g, o, none⟩ x) b l vs :=
  fun w'' hs hk => h w'' (by simpa [World.setCell] using hs) fun k hlo hlt hne => (hk k hlo (by simpa [World.setCell] using hlt) hne).trans (Below.heap_setCell _ _ _ _ (show k ≠ g by omega))
theorem AwayAll.grown {lo : Nat} {w w' : World} {b b' : Option Nat} {l : List Mtc} {vs : List (Value × Value)} (h : AwayAll lo w b l vs) (g : w.grownBy w' b) (hb : b' = b ∨ b' = some w.heap.size) : AwayAll lo w' b' l vs := fun w'' hs hk => by
  refine h w'' (Nat.le_trans g.size hs) fun k hlo hlt hne => ?_
  refine (hk k hlo (Nat.lt_of_lt_of_le hlt g.size) ?_).trans (g.block k hlt (fun e => hne e.symm))
  rcases hb with rfl | rfl
  · exact hne
  · intro e; injection e with e; omega
/-- a rule that was made anew, behind those that were -/
theorem AwayAll.snoc {lo : Nat} {w0 w : World} {b : Option Nat} {l : List Mtc} {vs : List (Value × Value)} (h : AwayAll lo w b l vs) (hlo : lo ≤ w0.heap.size) (hb : ∀ k, b = some k → k < w0.heap.size) (m : Mtc) (ks k : Value) (h1 : m.act ≤ 4294967295) (h2 : m.cnd.bounded)
    (hks : ∃ g n c, ks = .slice (some ⟨g, 0, none⟩) n c ∧ w0.heap.size ≤ g) (hu : IsU32s w ks m.nrs) (hk : IsIn w w0.heap.size k m.cnd.kids) : AwayAll lo w b (l ++ [m]) (vs ++ [(ks, k)]) := fun w'' hs hkk => by
  refine (h w'' hs hkk).app ⟨rfl, fun i hi => ?_⟩
  obtain rfl : i = 0 := by simpa using hi
  obtain ⟨g, n, c, rfl, hg⟩ := hks
  have hne : ∀ j, w0.heap.size ≤ j → b ≠ some j := fun j hj e => by have := hb j e; omega
  refine ⟨h1, h2, ?_, ?_⟩
  · by_cases hlt : g < w.heap.size
    · exact u32_move hu (hkk g (by omega) hlt (hne g hg)) hs
    · obtain ⟨_, _, _, hv, q1, q2, q3, q4, q5, q6⟩ := hu
      injection hv with e1 e2 e3
      subst e1 e2 e3
      refine ⟨_, _, _, rfl, q1, q2, q3, q4, q5, q6.imp id ?_⟩
      rintro ⟨b2, o2, e, hb2, _⟩
      injection e with e
      injection e with e1 e2
      subst e1
      exact absurd hb2 hlt
  · exact (hk.same (base' := w0.heap.size) ⟨hs, fun j h1 h2 => hkk j (by omega) h2 (hne j h1)⟩ (Nat.le_refl _)).is
theorem own_form8 {w : World} {base e : Nat} {v : Value} {n : Nat} {xs : List Value} (h : w.ownsRow base e 8 v n xs) : ∃ A c, v = .slice A n c ∧ n ≤ c ∧ (∀ k, v.ownBlock = some k → base ≤ k ∧ k < w.heap.size) := by
  have hlt : ∀ k, v.ownBlock = some k → base ≤ k ∧ k < w.heap.size := fun k hk => h.lt k hk
  rcases h.2 with ⟨rfl, h0⟩ | ⟨g, cap, cur, rfl, hg, hh, hn, hc, _⟩
  · subst h0; exact ⟨_, _, rfl, by omega, hlt⟩
  · exact ⟨_, _, rfl, hn, hlt⟩
def Pol.err (p : Pol) : Int := if p.long = true then 2 else match archOf p.arch, actRes p.dflt (p.data : Int) with
  | some a, some _ => if p.rules.all (Rul.ok a) = true then 0 else 63
  | _, _ => 63
def Pol.typ (p : Pol) : Typ := ⟨(archOf p.arch).getD 0, (actRes p.dflt (p.data : Int)).getD 0, p.rules.map (Rul.mtc ((archOf p.arch).getD 0))⟩
/-- what Check answers -/
def CheckPost (p : Pol) (e : Ending) (w' : World) : Prop :=
  if p.err = 0 then ∃ k, e = .returned (.tuple #[.agg #[.int .u32 (p.typ.arch : Nat), .int .u32 (p.typ.dflt : Nat), k], .int .i64 0]) ∧ IsMtcs w' k p.typ.rules
  else e = .returned (.tuple #[.agg #[.int .u32 0, .int .u32 0, .slice none 0 0], .int .i64 p.err])
theorem infoMtcP : (Try.prog.info? 49).map (fun i => (i.zero, i.size, i.bytes)) = some (some (.agg #[.slice none 0 0, .int .i64 0, .slice none 0 0, .int .i64 0, .int .u64 0, .string ⟨#[]⟩, .int .u64 0, .int .u32 0]), 8, 104) := by kernel_rfl
theorem arch_le (s : ByteArray) : (archOf s).getD 0 ≤ 4294967295 := by
  unfold archOf
  split
  · decide
  · split <;> decide
theorem ok_no (a : Nat) (l : List Rul) (i : Nat) (hi : i < l.length) (h : (l.getD i rulZ).ok a = false) : l.all (Rul.ok a) = false := by
  rw [← Bool.not_eq_true, List.all_eq_true]
  intro hall
  have := hall l[i] (List.getElem_mem _)
  rw [show l.getD i rulZ = l[i] by simp [List.getD, hi]] at h
  rw [h] at this
  cases this
theorem ok_yes (a : Nat) (l : List Rul) (n : Nat) (hn : l.length = n) (h : ∀ i, i < n → (l.getD i rulZ).ok a = true) : l.all (Rul.ok a) = true := by
  rw [List.all_eq_true]
  intro m hm
  obtain ⟨i, hi, rfl⟩ := List.mem_iff_getElem.1 hm
  have := h i (by omega)
  rwa [show l.getD i rulZ = l[i] by simp [List.getD, hi]] at this
theorem mtc_step (a : Nat) (l : List Rul) (j : Nat) (h : j < l.length) : (l.take (j + 1)).map (Rul.mtc a) = (l.take j).map (Rul.mtc a) ++ [(l.getD j rulZ).mtc a] := by
  rw [List.take_succ_eq_append_getElem h, List.map_append, show l.getD j rulZ = l[j] by simp [List.getD, h]]
  rfl
theorem long_no {p : Pol} (h : p.long = false) : p.rules.length ≤ 24 := by
  unfold Pol.long at h
  rw [Bool.or_eq_false_iff] at h
  have := of_decide_eq_false h.1
  omega
set_option maxRecDepth 100000 in
set_option maxHeartbeats 8000000 in
theorem tyCheck (p : Pol) (v : Value) (w : World) (h : IsPol w v p) (hnm : ∀ m ∈ p.rules, m.names.length ≤ 1000) :
    Calls Try.prog 15 #[v] w fun e w' => CheckPost p e w' ∧ Below w.heap.size w w' := by
  obtain ⟨iM, hi, hz0, hz1, hz2⟩ := info_parts infoMtcP
  have HLG := Lib.hid (fun u (hu : Below w.heap.size w u) => tyLong p v u (h.below hu))
  obtain ⟨ht1, ht2, ht3, k, rfl, hk⟩ := h
  obtain ⟨A, n, c, rfl, hl, hc1, hc2, _⟩ := id hk
  have HA := Lib.hid (fun u => callArch_any p.arch u)
  have HC := Lib.hid (fun u => callAction_any p.dflt (p.data : Int) u (by omega) (by omega))
  have hp0 : ∀ e w', p.err ≠ 0 → e = .returned (.tuple #[.agg #[.int .u32 0, .int .u32 0, .slice none 0 0], .int .i64 p.err]) → CheckPost p e w' := fun e w' h1 h2 => by unfold CheckPost; rw [if_neg h1]; exact h2
  have hp1 : ∀ k e w', p.err = 0 → e = .returned (.tuple #[.agg #[.int .u32 (p.typ.arch : Nat), .int .u32 (p.typ.dflt : Nat), k], .int .i64 0]) → IsMtcs w' k p.typ.rules → CheckPost p e w' := fun k e w' h1 h2 h3 => by unfold CheckPost; rw [if_pos h1]; exact ⟨k, h2, h3⟩
  have herr : p.err = if p.long = true then 2 else match archOf p.arch, actRes p.dflt (p.data : Int) with
    | some a, some _ => if p.rules.all (Rul.ok a) = true then 0 else 63
    | _, _ => 63 := rfl
  have htyp : p.typ = ⟨(archOf p.arch).getD 0, (actRes p.dflt (p.data : Int)).getD 0, p.rules.map (Rul.mtc ((archOf p.arch).getD 0))⟩ := rfl
  have hl24 := fun h => long_no (p := p) h
  have hal := arch_le p.arch
  generalize CheckPost p = CP at *
  generalize p.err = ER at *
  generalize p.typ = TY at *
  generalize p.long = LG at *
  have hw1 := ((Below.refl w.heap.size w).alloc (Nat.le_refl _) (.cells #[.string p.arch, .string p.dflt, .int .u64 (p.data : Nat), .slice A n c] 32)).alloc (by simp) (.cells #[.int .u32 0, .int .u32 0, .slice none 0 0] 38)
  have hB := (heap_alloc_old (w.alloc (.cells #[.string p.arch, .string p.dflt, .int .u64 (p.data : Nat), .slice A n c] 32)) (.cells #[.int .u32 0, .int .u32 0, .slice none 0 0] 38) (r := w.heap.size) (by simp)).trans (heap_alloc_new w (.cells #[.string p.arch, .string p.dflt, .int .u64 (p.data : Nat), .slice A n c] 32))
  have hR := heap_alloc_new (w.alloc (.cells #[.string p.arch, .string p.dflt, .int .u64 (p.data : Nat), .slice A n c] 32)) (.cells #[.int .u32 0, .int .u32 0, .slice none 0 0] 38)
  rw [World.size_alloc] at hR
  have HP0 := Lib.hid hp0; have HP1 := Lib.hid hp1; have HER := Lib.hid herr; have HTY := Lib.hid htyp; have HK := Lib.hid hk; have HL := Lib.hid hl; have HL24 := Lib.hid hl24; have HAL := Lib.hid hal
  have HNM := Lib.hid (show ∀ j, j < n → (p.rules.getD j rulZ).names.length ≤ 1000 from fun j hj => hnm _ (by rw [show p.rules.getD j rulZ = p.rules[j] by simp [List.getD, show j < p.rules.length by omega]]; exact List.getElem_mem _))
  have hnI : (n : Int) ≤ 9223372036854775807 := by omega
  clear hp0 hp1 herr htyp hl24 hk hl hc1 hc2 ht1 ht2 ht3 hnm hal
  go_enter Try.func15, Try.ntmps15
  go_upto_region 1 with fail
  obtain ⟨W, hW⟩ : ∃ W, (w.alloc (.cells #[.string p.arch, .string p.dflt, .int .u64 (p.data : Nat), .slice A n c] 32)).alloc (.cells #[.int .u32 0, .int .u32 0, .slice none 0 0] 38) = W := ⟨_, rfl⟩
  rw [hW] at hw1 hB hR ⊢
  obtain ⟨B, hBB⟩ : ∃ B, w.heap.size = B := ⟨_, rfl⟩
  rw [hBB] at hB hR
  (try rw [hBB])
  have HB := Lib.hid hB; have HR := Lib.hid hR; have HW1 := Lib.hid hw1; have HBB := Lib.hid hBB
  clear hW hw1 hB hR hBB
  have q0 := below_cell (Below.refl _ W) HB.out 0 rfl
  have q1 := below_cell (Below.refl _ W) HB.out 1 rfl
  have q2 := below_cell (Below.refl _ W) HB.out 2 rfl
  have q3 := below_cell (Below.refl _ W) HB.out 3 rfl
  cases LG with
  | true =>
    have HER2 := Lib.hid (show ER = 2 from by rw [HER.out, if_pos rfl])
    clear HER
    go_upto_region 2 with (first | (go_at_call 22; refine (HLG.out _ HW1.out).mono ?_; rintro e w2 ⟨rfl, hb2⟩))
    clear q0 q1 q2 q3
    have z0 := below_cell hb2 HR.out 0 rfl
    have z1 := below_cell hb2 HR.out 1 rfl
    have z2 := below_cell hb2 HR.out 2 rfl
    have hRz := (hb2.block _ (lt_of_block HR.out)).trans HR.out
    have f0 := block_frozen hRz 0
    have f1 := block_frozen hRz 1
    have f2 := block_frozen hRz 2
    have HRZ := Lib.hid hRz; have HBZ := Lib.hid (HW1.out.trans (hb2.mono HW1.out.size))
    clear hRz
    go_wp2_with fail
    exact bodyPost_ret (results_row_tmp rfl _ _ (B + 1) 38 #[.int .u32 0, .int .u32 0, .slice none 0 0] (0, 0) _ rfl (set3_block HRZ.out _ _ _) Try.underlying38 rfl (by kernel_rfl)) rfl ⟨HP0.out _ _ (by rw [HER2.out]; decide) (by rw [HER2.out]; rfl), set3_below HBZ.out (by have := HBB.out; omega) _ _ _⟩
  | false =>
    have hn24 : n ≤ 24 := by rw [← HL.out]; exact HL24.out rfl
    have her := HER.out
    rw [if_neg (by decide)] at her
    have HER2 := Lib.hid her
    clear her HER HL24
    go_upto_region 3 with (first | (go_at_call 22; refine (HLG.out _ HW1.out).mono ?_; rintro e w2 ⟨rfl, hb2⟩))
    have HB2 := Lib.hid hb2
    clear hb2 q0 q1 q2 q3 HLG
    have r0 := below_cell HB2.out HB.out 0 rfl
    unfold archV at HA
    generalize archOf p.arch = AO at *
    generalize actRes p.dflt (p.data : Int) = RO at *
    go_upto_region 4 with (first | (go_at_call 23; refine (HA.out _).mono ?_; rintro e w3 ⟨rfl, hb3⟩))
    have HB3 := Lib.hid (HB2.out.trans (hb3.mono HB2.out.size))
    clear hb3 r0 HB2 HA
    have r1 := below_cell HB3.out HB.out 1 rfl
    have r2 := below_cell HB3.out HB.out 2 rfl
    go_upto_region 5 with (first | (go_at_call 24; refine (HC.out _).mono ?_; rintro e w4 ⟨rfl, hb4⟩))
    have HB4 := Lib.hid (HB3.out.trans (hb4.mono HB3.out.size))
    clear hb4 r1 r2 HB3 HC
    cases AO with
    | none =>
      have HER3 := Lib.hid (show ER = 63 from HER2.out)
      clear HER2
      go_upto_region 6 with fail
      have z0 := below_cell HB4.out HR.out 0 rfl
      have z1 := below_cell HB4.out HR.out 1 rfl
      have z2 := below_cell HB4.out HR.out 2 rfl
      have hRz := (HB4.out.block _ (lt_of_block HR.out)).trans HR.out
      have f0 := block_frozen hRz 0
      have f1 := block_frozen hRz 1
      have f2 := block_frozen hRz 2
      have HRZ := Lib.hid hRz; have HBZ := Lib.hid (HW1.out.trans (HB4.out.mono HW1.out.size))
      clear hRz
      go_wp2_with fail
      exact bodyPost_ret (results_row_tmp rfl _ _ (B + 1) 38 #[.int .u32 0, .int .u32 0, .slice none 0 0] (0, 0) _ rfl (set3_block HRZ.out _ _ _) Try.underlying38 rfl (by kernel_rfl)) rfl ⟨HP0.out _ _ (by rw [HER3.out]; decide) (by rw [HER3.out]; rfl), set3_below HBZ.out (by have := HBB.out; omega) _ _ _⟩
    | some aN =>
      cases RO with
      | none =>
        have HER3 := Lib.hid (show ER = 63 from HER2.out)
        clear HER2
        go_upto_region 6 with fail
        have z0 := below_cell HB4.out HR.out 0 rfl
        have z1 := below_cell HB4.out HR.out 1 rfl
        have z2 := below_cell HB4.out HR.out 2 rfl
        have hRz := (HB4.out.block _ (lt_of_block HR.out)).trans HR.out
        have f0 := block_frozen hRz 0
        have f1 := block_frozen hRz 1
        have f2 := block_frozen hRz 2
        have HRZ := Lib.hid hRz; have HBZ := Lib.hid (HW1.out.trans (HB4.out.mono HW1.out.size))
        clear hRz
        go_wp2_with fail
        exact bodyPost_ret (results_row_tmp rfl _ _ (B + 1) 38 #[.int .u32 0, .int .u32 0, .slice none 0 0] (0, 0) _ rfl (set3_block HRZ.out _ _ _) Try.underlying38 rfl (by kernel_rfl)) rfl ⟨HP0.out _ _ (by rw [HER3.out]; decide) (by rw [HER3.out]; rfl), set3_below HBZ.out (by have := HBB.out; omega) _ _ _⟩
      | some dN =>
        simp only [Option.getD_some, Option.isSome_some] at HTY HAL ⊢
        have hn5 := heap_alloc_new w4 (.cells #[.int .u32 (aN : Nat), .int .u32 (dN : Nat), .slice none 0 0] 38)
        have hy5 := (Below.refl w4.heap.size w4).alloc (Nat.le_refl _) (.cells #[.int .u32 (aN : Nat), .int .u32 (dN : Nat), .slice none 0 0] 38)
        have r3 := fun o => below_cell (HB4.out.trans ((Below.refl w4.heap.size w4).alloc (Nat.le_refl _) o |>.mono HB4.out.size)) HB.out 3 rfl
        go_upto_region 8 with fail
        obtain ⟨w5, hw5⟩ : ∃ w5, w4.alloc (.cells #[.int .u32 (aN : Nat), .int .u32 (dN : Nat), .slice none 0 0] 38) = w5 := ⟨_, rfl⟩
        obtain ⟨Tb, hTb⟩ : ∃ Tb, w4.heap.size = Tb := ⟨_, rfl⟩
        have hs5 : w5.heap.size = Tb + 1 := by rw [← hw5, ← hTb]; simp
        have hTW : W.heap.size ≤ Tb := by rw [← hTb]; exact HB4.out.size
        rw [hw5] at hn5 hy5 ⊢
        rw [hTb] at hn5
        (try rw [hTb])
        have HB5 := Lib.hid (HB4.out.trans (hy5.mono HB4.out.size)); have HN5 := Lib.hid hn5; have HTW := Lib.hid hTW; have HS5 := Lib.hid hs5
        clear hn5 hy5 r3 hw5 hTb hs5 hTW HB4
        have r3 := below_cell HB5.out HB.out 3 rfl
        go_upto_region 9 with fail
        clear r3
        have HER4 := Lib.hid (show ER = if p.rules.all (Rul.ok aN) = true then 0 else 63 from HER2.out)
        have HMT := Lib.hid (fun u (hu : Below W.heap.size W u) j hj => rul_at (HK.out.below HW1.out) hu j hj)
        clear HER2
        go_loopw [43] (fun z wr => ∃ (j : Nat) (A3 : Option Addr) (c3 : Nat), z = .int .i64 (j : Nat) ∧ j ≤ n ∧ Hid (∀ i, i < j → (p.rules.getD i rulZ).ok aN = true) ∧ Hid (wr.heap[Tb]? = some (.cells #[.int .u32 (aN : Nat), .int .u32 (dN : Nat), .slice A3 j c3] 38 (0, 0))) ∧ Hid (∃ vs, wr.ownsRow (Tb + 1) 49 8 (.slice A3 j c3) j (mtcsCells ((p.rules.take j).map (Rul.mtc aN)) vs) ∧ AwayAll (Tb + 1) wr (Value.slice A3 j c3).ownBlock ((p.rules.take j).map (Rul.mtc aN)) vs) ∧ Hid (Below W.heap.size W wr) ∧ Hid (Tb + 1 ≤ wr.heap.size)) (fun z _ => n - (intOf z).toNat)
        case atStart => exact ⟨0, none, 0, rfl, Nat.zero_le _, Lib.hid (fun i hi => absurd hi (Nat.not_lt_zero i)), HN5, Lib.hid ⟨[], World.ownsRow_nil _ _ _ _, fun w'' _ _ => ⟨rfl, fun i hi => absurd hi (Nat.not_lt_zero i)⟩⟩, HB5, Lib.hid (by rw [HS5.out]; exact Nat.le_refl _)⟩
        case round =>
          clear HB5 HN5 HS5
          obtain ⟨j, A3, c3, rfl, hj, HEV, HNT, HO, HWR, HSZ⟩ := hrel
          by_cases hlt : j < n
          · obtain ⟨b, off, rfl, _, hat⟩ := HMT.out wr HWR.out j hlt
            have hjI : (j : Int) < n := by omega
            have hjl : j < p.rules.length := by rw [HL.out]; exact hlt
            have hno := ok_no aN p.rules j hjl
            have hstep := mtc_step aN p.rules j hjl
            have hnext : (p.rules.getD j rulZ).ok aN = true → ∀ i, i < j + 1 → (p.rules.getD i rulZ).ok aN = true := fun h i hi => by
              by_cases e : i < j
              · exact HEV.out i e
              · obtain rfl : i = j := by omega
                exact h
            have hnmj := HNM.out j hlt
            have hmat := fun v u (h : IsRul u v (p.rules.getD j rulZ)) => tyMatch aN HAL.out (p.rules.getD j rulZ) v u h hnmj
            obtain ⟨hbd, na, nn, nc, ca, cn, cc, hst, hkc, e0, e1, e2, e3, e4, e5, e6, e7, e8⟩ := hat.cell
            unfold MatchPost at hmat
            have hma := act_le (p.rules.getD j rulZ).act ((p.rules.getD j rulZ).data : Int)
            have hmc : ((p.rules.getD j rulZ).mtc aN).act = (actRes (p.rules.getD j rulZ).act ((p.rules.getD j rulZ).data : Int)).getD 0 := rfl
            rw [← hmc] at hma
            have hmcn : ((p.rules.getD j rulZ).mtc aN).cnd = (p.rules.getD j rulZ).cnd := rfl
            clear hmc
            generalize hQ : (p.rules.getD j rulZ).mtc aN = Q at *
            generalize (p.rules.getD j rulZ).ok aN = OKJ at *
            generalize p.rules.getD j rulZ = m at *
            obtain ⟨act, data, names, kind, kids, arg, mask, sign, value⟩ := m
            simp only [Cnd.kind, Cnd.arg, Cnd.mask, Cnd.sign, Cnd.value, Cnd.kids] at e0 e1 e2 e3 e4 e5 e6 e7 e8 hmat hmcn hkc
            have HNO1 := Lib.hid hno; have HSTP := Lib.hid hstep; have HNX := Lib.hid hnext; have HLT := Lib.hid hlt; have HMA := Lib.hid hma; have HBD := Lib.hid hbd; have HST := Lib.hid hst; have HKC := Lib.hid hkc; have HCN := Lib.hid hmcn; have HMAT := Lib.hid hmat
            clear hno hstep hnext hlt hma hbd hst hkc hmcn hmat hat hjl hnmj hQ HEV
            go_upto_region 11 with fail
            have hn7 := heap_alloc_new wr (.cells #[.string act, .int .u64 (data : Nat), .slice na nn nc, .int .i64 kind, .slice ca cn cc, .int .i64 arg, .int .u64 (mask : Nat), .string sign, .int .u64 (value : Nat)] 46)
            have hy7 := (Below.refl wr.heap.size wr).alloc (Nat.le_refl _) (.cells #[.string act, .int .u64 (data : Nat), .slice na nn nc, .int .i64 kind, .slice ca cn cc, .int .i64 arg, .int .u64 (mask : Nat), .string sign, .int .u64 (value : Nat)] 46)
            obtain ⟨w7, hw7⟩ : ∃ w7, wr.alloc (.cells #[.string act, .int .u64 (data : Nat), .slice na nn nc, .int .i64 kind, .slice ca cn cc, .int .i64 arg, .int .u64 (mask : Nat), .string sign, .int .u64 (value : Nat)] 46) = w7 := ⟨_, rfl⟩
            obtain ⟨b7, hb7⟩ : ∃ b7, wr.heap.size = b7 := ⟨_, rfl⟩
            rw [hw7] at hn7 hy7 ⊢
            rw [hb7] at hn7
            (try rw [hb7])
            have HB7 := Lib.hid (HWR.out.trans (hy7.mono HWR.out.size)); have HY7 := Lib.hid hy7
            have HM7 := Lib.hid (HMAT.out (.agg #[.string act, .int .u64 (data : Nat), .slice na nn nc, .int .i64 kind, .slice ca cn cc, .int .i64 arg, .int .u64 (mask : Nat), .string sign, .int .u64 (value : Nat)]) w7 ⟨HBD.out, _, _, rfl, HST.out.belowP hy7, HKC.out.below hy7⟩)
            have y0 := below_cell (Below.refl _ w7) hn7 0 rfl
            have y1 := below_cell (Below.refl _ w7) hn7 1 rfl
            have y2 := below_cell (Below.refl _ w7) hn7 2 rfl
            have y3 := below_cell (Below.refl _ w7) hn7 3 rfl
            have y4 := below_cell (Below.refl _ w7) hn7 4 rfl
            have y5 := below_cell (Below.refl _ w7) hn7 5 rfl
            have y6 := below_cell (Below.refl _ w7) hn7 6 rfl
            have y7 := below_cell (Below.refl _ w7) hn7 7 rfl
            have y8 := below_cell (Below.refl _ w7) hn7 8 rfl
            have HNT7 := Lib.hid ((hy7.block _ (lt_of_block HNT.out)).trans HNT.out)
            clear hn7 hy7 hw7 hb7 e0 e1 e2 e3 e4 e5 e6 e7 e8 HMAT HST HKC HNT
            cases OKJ with
            | false =>
              have HER5 := Lib.hid (show ER = 63 from by rw [HER4.out, HNO1.out rfl]; rfl)
              have hm7 := HM7.out
              simp only [Bool.false_eq_true, if_false] at hm7
              have HM8 := Lib.hid hm7
              clear hm7 HM7 HER4 HNO1 HNX HSTP
              go_upto_region 13 with (first | (go_at_call 25; refine HM8.out.mono ?_; rintro e w8 ⟨rfl, hb8⟩))
              have HB8 := Lib.hid (HB7.out.trans (hb8.mono HB7.out.size))
              have hb8a := HB8.out.alloc HB8.out.size (.cells #[.slice none 0 0, .int .i64 0, .slice none 0 0, .int .i64 0, .int .u64 0, .string ⟨#[]⟩, .int .u64 0, .int .u32 0] 49)
              generalize w8.alloc (.cells #[.slice none 0 0, .int .i64 0, .slice none 0 0, .int .i64 0, .int .u64 0, .string ⟨#[]⟩, .int .u64 0, .int .u32 0] 49) = w9 at *
              have HB9 := Lib.hid hb8a
              clear hb8 hb8a y0 y1 y2 y3 y4 y5 y6 y7 y8 HO HWR
              have z0 := below_cell HB9.out HR.out 0 rfl
              have z1 := below_cell HB9.out HR.out 1 rfl
              have z2 := below_cell HB9.out HR.out 2 rfl
              have hRz := (HB9.out.block _ (lt_of_block HR.out)).trans HR.out
              have f0 := block_frozen hRz 0
              have f1 := block_frozen hRz 1
              have f2 := block_frozen hRz 2
              have HRZ := Lib.hid hRz; have HBZ := Lib.hid (HW1.out.trans (HB9.out.mono HW1.out.size))
              clear hRz
              go_wp2_with fail
              exact bodyPost_ret (results_row_tmp rfl _ _ (B + 1) 38 #[.int .u32 0, .int .u32 0, .slice none 0 0] (0, 0) _ rfl (set3_block HRZ.out _ _ _) Try.underlying38 rfl (by kernel_rfl)) rfl ⟨HP0.out _ _ (by rw [HER5.out]; decide) (by rw [HER5.out]; rfl), set3_below HBZ.out (by have := HBB.out; omega) _ _ _⟩
            | true =>
              have hm7 := HM7.out
              simp only [if_true] at hm7
              have HM8 := Lib.hid hm7
              clear hm7 HM7 HNO1
              go_upto_region 12 with (first | (go_at_call 25; refine HM8.out.mono ?_; rintro e w8 ⟨⟨ks, k8, rfl, ⟨g2, n2, c2, rfl, hg2⟩, hu8, hk8⟩, hb8⟩; obtain ⟨ka8, kn8, kc8, rfl, _⟩ := id hk8))
              obtain ⟨MA, hMA⟩ : ∃ MA, Q.act = MA := ⟨_, rfl⟩
              rw [hMA] at HMA
              (try rw [hMA])
              have hn9 := heap_alloc_new w8 (.cells #[.slice (some ⟨g2, 0, none⟩) n2 c2, .int .i64 kind, .slice ka8 kn8 kc8, .int .i64 arg, .int .u64 (mask : Nat), .string sign, .int .u64 (value : Nat), .int .u32 (MA : Nat)] 49)
              have hy9 := (Below.refl w8.heap.size w8).alloc (Nat.le_refl _) (.cells #[.slice (some ⟨g2, 0, none⟩) n2 c2, .int .i64 kind, .slice ka8 kn8 kc8, .int .i64 arg, .int .u64 (mask : Nat), .string sign, .int .u64 (value : Nat), .int .u32 (MA : Nat)] 49)
              obtain ⟨w9, hw9⟩ : ∃ w9, w8.alloc (.cells #[.slice (some ⟨g2, 0, none⟩) n2 c2, .int .i64 kind, .slice ka8 kn8 kc8, .int .i64 arg, .int .u64 (mask : Nat), .string sign, .int .u64 (value : Nat), .int .u32 (MA : Nat)] 49) = w9 := ⟨_, rfl⟩
              obtain ⟨b9, hb9⟩ : ∃ b9, w8.heap.size = b9 := ⟨_, rfl⟩
              rw [hw9] at hn9 hy9 ⊢
              rw [hb9] at hn9
              (try rw [hb9])
              obtain ⟨vs, ho, haw⟩ := HO.out
              have hy89 := hb8.trans (hy9.mono hb8.size)
              have hy79 := HY7.out.trans (hy89.mono HY7.out.size)
              have ho9 := own_stays ho hy79
              obtain ⟨_, _, _, _, hownlt⟩ := own_form8 ho
              have haw9 := ((haw.below HY7.out).below hb8).snoc (w0 := w7) (by have := HSZ.out; have := HY7.out.size; omega) (fun k hk => Nat.lt_of_lt_of_le (hownlt k hk).2 HY7.out.size) Q (.slice (some ⟨g2, 0, none⟩) n2 c2) (.slice ka8 kn8 kc8) (by rw [hMA]; exact HMA.out) (by rw [HCN.out]; exact HBD.out.2.2) ⟨_, _, _, rfl, hg2⟩ hu8 (by rw [HCN.out]; exact hk8)
              have haw10 := haw9.below hy9
              have HO9 := Lib.hid ho9; have HAW := Lib.hid haw10; have HOL := Lib.hid hownlt; have HVL := Lib.hid (haw.ok.1)
              have HNT9 := Lib.hid ((hy89.block _ (lt_of_block HNT7.out)).trans HNT7.out)
              have HB9 := Lib.hid (HB7.out.trans (hy89.mono HB7.out.size))
              have HSZ9 := Lib.hid (show Tb + 1 ≤ w9.heap.size by have := HSZ.out; have := hy79.size; omega)
              have HQC := Lib.hid (show Q.cells (.slice (some ⟨g2, 0, none⟩) n2 c2) (.slice ka8 kn8 kc8) = [.slice (some ⟨g2, 0, none⟩) n2 c2, .int .i64 kind, .slice ka8 kn8 kc8, .int .i64 arg, .int .u64 (mask : Nat), .string sign, .int .u64 (value : Nat), .int .u32 (MA : Nat)] from by unfold Mtc.cells; rw [HCN.out, hMA]; rfl)
              have t2 := below_cell (Below.refl _ w9) HNT9.out 2 rfl
              have m0 := below_cell (Below.refl _ w9) hn9 0 rfl
              have m1 := below_cell (Below.refl _ w9) hn9 1 rfl
              have m2 := below_cell (Below.refl _ w9) hn9 2 rfl
              have m3 := below_cell (Below.refl _ w9) hn9 3 rfl
              have m4 := below_cell (Below.refl _ w9) hn9 4 rfl
              have m5 := below_cell (Below.refl _ w9) hn9 5 rfl
              have m6 := below_cell (Below.refl _ w9) hn9 6 rfl
              have m7 := below_cell (Below.refl _ w9) hn9 7 rfl
              clear hn9 hy9 hw9 hb9 ho haw hy89 hy79 ho9 hownlt haw9 haw10 hb8 hu8 hk8 hg2 y0 y1 y2 y3 y4 y5 y6 y7 y8 HNT7 HM8 HWR HO HB7 HY7 HSZ
              have hj24 : (j : Int) ≤ 24 := by omega
              go_wp2_with (first
                | (at_builtin; go_must (refine wpList_push_at _ _ 36 49 (news := [.slice (some ⟨g2, 0, none⟩) n2 c2, .int .i64 kind, .slice ka8 kn8 kc8, .int .i64 arg, .int .u64 (mask : Nat), .string sign, .int .u64 (value : Nat), .int .u32 (MA : Nat)]) HO9.out HSZ9.out Try.underlying36 hi hz0 hz1 hz2 rfl (by decide) rfl rfl rfl rfl rfl (by intro u hu; simp only [List.mem_cons, List.not_mem_nil, or_false] at hu; rcases hu with rfl | rfl | rfl | rfl | rfl | rfl | rfl | rfl <;> rfl) ?c1 ?_)))
              case c1 => omega
              intro v' w10 own10 gr10 at10
              obtain ⟨A4, c4, rfl, _, _⟩ := own_form8 own10
              have hmc : mtcsCells ((p.rules.take (j + 1)).map (Rul.mtc aN)) (vs ++ [(.slice (some ⟨g2, 0, none⟩) n2 c2, .slice ka8 kn8 kc8)]) = mtcsCells ((p.rules.take j).map (Rul.mtc aN)) vs ++ [.slice (some ⟨g2, 0, none⟩) n2 c2, .int .i64 kind, .slice ka8 kn8 kc8, .int .i64 arg, .int .u64 (mask : Nat), .string sign, .int .u64 (value : Nat), .int .u32 (MA : Nat)] := by
                rw [HSTP.out, mtcsCells_app _ _ _ _ HVL.out]
                simp only [mtcsCells, List.zip_cons_cons, List.zip_nil_right, List.flatMap_cons, List.flatMap_nil, List.append_nil, HQC.out]
              have hneT : (Value.slice A3 j c3).ownBlock ≠ some Tb := fun e => by have := (HOL.out Tb e).1; omega
              have hTb9 := (heap_alloc_old w9 (.cells #[.slice (some ⟨g2, 0, none⟩) n2 c2, .int .i64 kind, .slice ka8 kn8 kc8, .int .i64 arg, .int .u64 (mask : Nat), .string sign, .int .u64 (value : Nat), .int .u32 (MA : Nat)] 49) (lt_of_block HNT9.out)).trans HNT9.out
              have hTb10 := (gr10.block Tb (lt_of_block hTb9) (fun e => hneT e.symm)).trans hTb9
              have hneT4 : (Value.slice A4 (j + 1) c4).ownBlock ≠ some Tb := fun e => by have := (own10.lt Tb e).1; omega
              have z2 := below_cell (Below.refl _ w10) hTb10 2 rfl
              have f2 := block_frozen hTb10 2
              have hb10 := (HB9.out.alloc HB9.out.size (.cells #[.slice (some ⟨g2, 0, none⟩) n2 c2, .int .i64 kind, .slice ka8 kn8 kc8, .int .i64 arg, .int .u64 (mask : Nat), .string sign, .int .u64 (value : Nat), .int .u32 (MA : Nat)] 49)).grown gr10 (HB9.out.alloc HB9.out.size (.cells #[.slice (some ⟨g2, 0, none⟩) n2 c2, .int .i64 kind, .slice ka8 kn8 kc8, .int .i64 arg, .int .u64 (mask : Nat), .string sign, .int .u64 (value : Nat), .int .u32 (MA : Nat)] 49)).size (fun k hk => by have := (HOL.out k hk).1; have := HTW.out; omega)
              have hsz10 : Tb + 1 ≤ w10.heap.size := by have h1 := gr10.size; rw [World.size_alloc] at h1; have := HSZ9.out; omega
              have ha10 := ((HAW.out.below ((Below.refl w9.heap.size w9).alloc (Nat.le_refl _) (.cells #[.slice (some ⟨g2, 0, none⟩) n2 c2, .int .i64 kind, .slice ka8 kn8 kc8, .int .i64 arg, .int .u64 (mask : Nat), .string sign, .int .u64 (value : Nat), .int .u32 (MA : Nat)] 49))).grown gr10 (b' := (Value.slice A4 (j + 1) c4).ownBlock) (by rcases at10 with h | h; exact .inl h; exact .inr (by rw [h, World.size_alloc]))).set Tb 2 (.slice A4 (j + 1) c4) (Nat.lt_succ_self _)
              have ho10 := own_put own10 hneT4 2 (.slice A4 (j + 1) c4)
              rw [← List.map_take, ← hmc] at ho10
              have HOX := Lib.hid (show ∃ vs, (w10.setCell ⟨Tb, 2, none⟩ (.slice A4 (j + 1) c4)).ownsRow (Tb + 1) 49 8 (.slice A4 (j + 1) c4) (j + 1) (mtcsCells ((p.rules.take (j + 1)).map (Rul.mtc aN)) vs) ∧ AwayAll (Tb + 1) (w10.setCell ⟨Tb, 2, none⟩ (.slice A4 (j + 1) c4)) (Value.slice A4 (j + 1) c4).ownBlock ((p.rules.take (j + 1)).map (Rul.mtc aN)) vs from ⟨_, ho10, by rw [HSTP.out]; exact ha10⟩)
              have HNX8 := Lib.hid (HNX.out (by first | trivial | rfl))
              have HNTX := Lib.hid (block_set hTb10 2 (.slice A4 (j + 1) c4))
              have HBX := Lib.hid (hb10.setCell (p := ⟨Tb, 2, none⟩) HTW.out (.slice A4 (j + 1) c4))
              have HSX := Lib.hid (show Tb + 1 ≤ (w10.setCell ⟨Tb, 2, none⟩ (.slice A4 (j + 1) c4)).heap.size by simp [World.setCell]; exact hsz10)
              clear hmc hneT hTb9 hTb10 hneT4 hb10 hsz10 ha10 ho10 own10 gr10 at10 t2 m0 m1 m2 m3 m4 m5 m6 m7 HAW HO9 HNT9 HB9 HSZ9
              go_wp2_with fail
              obtain ⟨w11, hw11⟩ : ∃ w11, w10.setCell ⟨Tb, 2, none⟩ (.slice A4 (j + 1) c4) = w11 := ⟨_, rfl⟩
              rw [hw11] at HOX HNTX HBX HSX ⊢
              clear hw11
              go_roundw
              case rel =>
                first
                | exact ⟨j + 1, A4, c4, by go_num, by have := HLT.out; omega, HNX8, HNTX, HOX, HBX, HSX⟩
                | (repeat apply Exists.intro; exact ⟨⟨j + 1, A4, c4, by go_num, by have := HLT.out; omega, HNX8, HNTX, HOX, HBX, HSX⟩, rfl⟩)
              case measure => have := HLT.out; simp [intOf]; omega
          · obtain rfl : j = n := by omega
            have HER5 := Lib.hid (show ER = 0 from by rw [HER4.out, ok_yes aN p.rules j HL.out HEV.out]; rfl)
            have htk : p.rules.take j = p.rules := by rw [← HL.out, List.take_length]
            obtain ⟨vs, ho, haw⟩ := HO.out
            rw [htk] at ho haw
            have hBlt : B + 1 < Tb := Nat.lt_of_lt_of_le (lt_of_block HR.out) HTW.out
            have hneB : (Value.slice A3 j c3).ownBlock ≠ some (B + 1) := fun e => by have := (ho.lt _ e).1; omega
            have hof := own_put (own_put (own_put ho hneB 0 (.int .u32 (aN : Nat))) hneB 1 (.int .u32 (dN : Nat))) hneB 2 (.slice A3 j c3)
            have haf := ((haw.set (B + 1) 0 (.int .u32 (aN : Nat)) (by omega)).set (B + 1) 1 (.int .u32 (dN : Nat)) (by omega)).set (B + 1) 2 (.slice A3 j c3) (by omega)
            have HMS := Lib.hid (own_mtcs hof (by rw [List.length_map, HL.out]) haf.ok)
            clear ho haw htk hneB hof haf hBlt HO HEV hlt
            have t0 := below_cell (Below.refl _ wr) HNT.out 0 rfl
            have t1 := below_cell (Below.refl _ wr) HNT.out 1 rfl
            have t2 := below_cell (Below.refl _ wr) HNT.out 2 rfl
            have z0 := below_cell HWR.out HR.out 0 rfl
            have z1 := below_cell HWR.out HR.out 1 rfl
            have z2 := below_cell HWR.out HR.out 2 rfl
            have hRz := (HWR.out.block _ (lt_of_block HR.out)).trans HR.out
            have f0 := block_frozen hRz 0
            have f1 := block_frozen hRz 1
            have f2 := block_frozen hRz 2
            have HRZ := Lib.hid hRz; have HBZ := Lib.hid (HW1.out.trans (HWR.out.mono HW1.out.size))
            clear hRz
            go_wp2_with fail
            exact bodyPost_ret (results_row_tmp rfl _ _ (B + 1) 38 #[.int .u32 (aN : Nat), .int .u32 (dN : Nat), .slice A3 j c3] (0, 0) _ rfl (set3_block HRZ.out _ _ _) Try.underlying38 rfl (by kernel_rfl)) rfl ⟨HP1.out (.slice A3 j c3) _ _ HER5.out (by rw [HTY.out]; rfl) (by rw [HTY.out]; exact HMS.out), set3_below HBZ.out (by have := HBB.out; omega) _ _ _⟩
end Go.Proofs.Ytbcoooaoofbboaa
