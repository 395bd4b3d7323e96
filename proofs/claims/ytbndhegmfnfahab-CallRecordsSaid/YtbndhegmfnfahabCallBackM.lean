/- What CallBack is about: packed and unpacked; a name and its number. -/
import Derived.Test.YtbndhegmfnfahabCallUnp
import Derived.Test.YtbndhegmfnfahabCallLaw
import Derived.Test.YtbndhegmfnfahabCallName
import Derived.DeepKeys
namespace Go.Proofs.Ytbndhegmfnfahab
open Go.RowKit
set_option linter.unusedVariables false

/-- six numbers are the same as themselves -/
theorem eqArr6 (a0 a1 a2 a3 a4 a5 : Int) (u : World) : Sem.run Try.prog (Op.equalIn 9999 36 (.agg #[.int .u64 a0, .int .u64 a1, .int .u64 a2, .int .u64 a3, .int .u64 a4, .int .u64 a5]) (.agg #[.int .u64 a0, .int .u64 a1, .int .u64 a2, .int .u64 a3, .int .u64 a4, .int .u64 a5])) u = .ok true u := by
  have u3 := Try.underlying35
  have a3 := Try.isAgg35
  have z3 := Try.sizeOf35
  rw [show (9999 : Nat) = 9998 + 1 from rfl, Op.equalIn]
  simp only [Sem.run_bind, run_underlying Try.underlying36, Result.andThen_ok]
  simp only [Std.Legacy.Range.forIn_eq_forIn_range', Std.Legacy.Range.size, Nat.sub_zero, Nat.add_sub_cancel, Nat.div_one, List.range'_succ, List.range'_zero, List.forIn_cons, List.forIn_nil]
  go_simp
theorem cut_here (a r : List UInt8) (k : Nat) (h : a.length = k) : ((a ++ r).drop 0).take k = a := by simp [← h]
theorem cut_skip (a r : List UInt8) (p q k : Nat) (h : p = a.length + q) : ((a ++ r).drop p).take k = (r.drop q).take k := by
  rw [h, List.drop_append, List.drop_eq_nil_of_le (by omega), List.nil_append, Nat.add_sub_cancel_left]
theorem cut_args (l : List Nat) (i : Nat) (hi : i < l.length) : ((argsL l).drop (8 * i)).take 8 = putL (l.getD i 0) 8 := by
  induction l generalizing i with
  | nil => simp at hi
  | cons a l ih =>
    rw [argsL_cons]
    cases i with
    | zero => exact cut_here _ _ _ (putL_length a 8)
    | succ i =>
      rw [cut_skip _ _ _ (8 * i) _ (by rw [putL_length]; omega), ih i (by simpa using hi)]
      rfl
theorem unp_rec (c : Cal) (h : c.ok) : unpCal (c.recB 6) = c := by
  obtain ⟨h1, h2, h3, h4, h5⟩ := h
  have e1 : getL (cutL (c.recB 6) 0 4) = c.nr := by
    rw [cutL, Cal.recB_list, cut_here _ _ _ (putL_length _ _), getL_putL, pow256_4, Nat.mod_eq_of_lt (by omega)]
  have e2 : getL (cutL (c.recB 6) 4 4) = c.arch := by
    rw [cutL, Cal.recB_list, cut_skip _ _ _ 0 _ (by rw [putL_length]), cut_here _ _ _ (putL_length _ _), getL_putL, pow256_4, Nat.mod_eq_of_lt (by omega)]
  have e3 : getL (cutL (c.recB 6) 8 8) = c.ip := by
    rw [cutL, Cal.recB_list, cut_skip _ _ _ 4 _ (by rw [putL_length]), cut_skip _ _ _ 0 _ (by rw [putL_length]), cut_here _ _ _ (putL_length _ _), getL_putL, pow256_8, Nat.mod_eq_of_lt (by omega)]
  have e4 : ∀ i, i < 6 → unpArg (c.recB 6) i = c.args.getD i 0 := by
    intro i hi
    have hb : c.args.getD i 0 ≤ 18446744073709551615 := by
      have hg : c.args.getD i 0 = c.args[i]'(by omega) := by simp [List.getD, h4, hi]
      rw [hg]
      exact h5 _ (List.getElem_mem _)
    rw [unpArg, cutL, Cal.recB_list, cut_skip _ _ _ (12 + 8 * i) _ (by rw [putL_length]; omega), cut_skip _ _ _ (8 + 8 * i) _ (by rw [putL_length]; omega), cut_skip _ _ _ (8 * i) _ (by rw [putL_length]), List.take_of_length_le (l := c.args) (by omega), cut_args _ _ (by omega), getL_putL, pow256_8, Nat.mod_eq_of_lt (by omega)]
  obtain ⟨nr, arch, ip, args⟩ := c
  dsimp only at e1 e2 e3 e4 h4
  obtain ⟨a0, a1, a2, a3, a4, a5, rfl⟩ : ∃ a0 a1 a2 a3 a4 a5, args = [a0, a1, a2, a3, a4, a5] := by
    match args, h4 with
    | [a0, a1, a2, a3, a4, a5], _ => exact ⟨a0, a1, a2, a3, a4, a5, rfl⟩
  have h0 := e4 0 (by omega); have h1 := e4 1 (by omega); have h2 := e4 2 (by omega); have h3 := e4 3 (by omega); have h4 := e4 4 (by omega); have h5 := e4 5 (by omega)
  have hr : List.range 6 = [0, 1, 2, 3, 4, 5] := rfl
  rw [unpCal, hr, e1, e2, e3]
  simp only [List.map_cons, List.map_nil, h0, h1, h2, h3, h4, h5]
  rfl
theorem put_cut (s : ByteArray) (p k : Nat) (h : p + k ≤ s.size) : putL (getL (cutL s p k)) k ++ s.data.toList.drop (p + k) = s.data.toList.drop p := by
  have := putL_getL (cutL s p k)
  rw [cutL_length _ _ _ h] at this
  rw [this, cutL, ← List.drop_drop, List.take_append_drop]
theorem rec_unp (s : ByteArray) (h : s.size = 64) : (unpCal s).recB 6 = s := by
  apply ba_ext
  have hr : List.range 6 = [0, 1, 2, 3, 4, 5] := rfl
  have hz : s.data.toList.drop 64 = [] := List.drop_eq_nil_of_le (by rw [ba_len]; omega)
  have k0 := put_cut s 0 4 (by omega)
  have k1 := put_cut s 4 4 (by omega)
  have k2 := put_cut s 8 8 (by omega)
  have k3 := put_cut s 16 8 (by omega)
  have k4 := put_cut s 24 8 (by omega)
  have k5 := put_cut s 32 8 (by omega)
  have k6 := put_cut s 40 8 (by omega)
  have k7 := put_cut s 48 8 (by omega)
  have k8 := put_cut s 56 8 (by omega)
  rw [Cal.recB_list, List.take_of_length_le (by simp [unpCal])]
  simp only [unpCal, hr, List.map_cons, List.map_nil, argsL_cons, unpArg]
  simp only [Nat.mul_zero, Nat.reduceMul, Nat.reduceAdd] at *
  rw [show argsL [] = [] from rfl, ← hz, k8, k7, k6, k5, k4, k3, k2, k1, k0, List.drop_zero]

theorem nameOf_mem {l : List (List UInt8 × Nat)} {a : Int} {x : ByteArray} (h : nameOf l a = some x) : ∃ i, i < l.length ∧ keyOfR (l.getD i ([], 0)) = a ∧ keyOfN (l.getD i ([], 0)) = x := by
  unfold nameOf at h
  cases hf : l.find? fun e => decide (keyOfR e = a) with
  | none => rw [hf] at h; cases h
  | some e =>
    rw [hf] at h
    injection h with h
    have h1 := List.find?_some hf
    obtain ⟨j, hj, he⟩ := List.mem_iff_getElem.1 (List.mem_of_find?_eq_some hf)
    have he' : l.getD j ([], 0) = e := by simp [List.getD, hj, he]
    exact ⟨j, hj, by rw [he']; exact of_decide_eq_true h1, by rw [he']; exact h⟩
theorem nrOf_some {l : List (List UInt8 × Nat)} {i : Nat} (hi : i < l.length) : ∃ x, nrOf l (keyOfN (l.getD i ([], 0))) = some x := by
  unfold nrOf
  cases hf : l.find? fun e => decide (keyOfN e = keyOfN (l.getD i ([], 0))) with
  | none =>
    have := List.find?_eq_none.1 hf (l[i]) (List.getElem_mem hi)
    simp [List.getD, hi] at this
  | some e => exact ⟨_, rfl⟩
theorem nameOf_some {l : List (List UInt8 × Nat)} {i : Nat} (hi : i < l.length) : ∃ x, nameOf l (keyOfR (l.getD i ([], 0))) = some x := by
  unfold nameOf
  cases hf : l.find? fun e => decide (keyOfR e = keyOfR (l.getD i ([], 0))) with
  | none =>
    have := List.find?_eq_none.1 hf (l[i]) (List.getElem_mem hi)
    simp [List.getD, hi] at this
  | some e => exact ⟨_, rfl⟩
theorem name_nr (a n : Int) {t : ByteArray} (h : nameOf (tabOf a) n = some t) : ∃ x : Nat, nrOf (tabOf a) t = some x ∧ (x : Int) = n := by
  obtain ⟨i, hi, hk, ht⟩ := nameOf_mem h
  obtain ⟨x, hx⟩ := nrOf_some hi
  rw [ht] at hx
  obtain ⟨j, hj, hkj, hyj⟩ := nrOf_mem hx
  have : i = j := nodup_keys _ (tab_nodup a).1 i j hi hj (by rw [ht, hkj])
  subst this
  exact ⟨x, hx, by rw [← hk, ← hyj]; rfl⟩
theorem nrOf_le {a : Int} {s : ByteArray} {x : Nat} (h : nrOf (tabOf a) s = some x) : x ≤ 317 := by
  obtain ⟨i, hi, hk, rfl⟩ := nrOf_mem h
  have hm : ∀ e ∈ tabOf a, e.2 ≤ 317 := by
    unfold tabOf
    split
    · decide
    · split
      · decide
      · intro e he; cases he
  have hg : (tabOf a).getD i ([], 0) = (tabOf a)[i] := by simp [List.getD, hi]
  rw [hg]
  exact hm _ (List.getElem_mem hi)
theorem nr_name (a : Int) {s : ByteArray} {x : Nat} (h : nrOf (tabOf a) s = some x) : nameOf (tabOf a) (x : Int) = some s := by
  obtain ⟨i, hi, hk, hx⟩ := nrOf_mem h
  obtain ⟨t, ht⟩ := nameOf_some hi
  have hkr : keyOfR ((tabOf a).getD i ([], 0)) = (x : Int) := by rw [← hx]; rfl
  rw [hkr] at ht
  obtain ⟨j, hj, hkj, hyj⟩ := nameOf_mem ht
  have : i = j := nodup_nrs _ (tab_nodup a).2 i j hi hj (by
    have h1 : (((tabOf a).getD i ([], 0)).2 : Int) = x := hkr
    have h2 : (((tabOf a).getD j ([], 0)).2 : Int) = x := hkj
    omega)
  subst this
  rw [ht, ← hyj, hk]
end Go.Proofs.Ytbndhegmfnfahab
