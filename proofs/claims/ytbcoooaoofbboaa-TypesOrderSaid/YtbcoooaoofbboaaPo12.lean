/- Policies whose names stand in another order and are told twice: what the checking answers of them is the same. -/
import Derived.Test.YtbcoooaoofbboaaPo6
import Derived.Test.YtbcoooaoofbboaaPo10
namespace Go.Proofs.Ytbcoooaoofbboaa
set_option linter.unusedVariables false

/-- names in another order, all told twice -/
def spinL (k : Nat) (l : List ByteArray) : List ByteArray := l.drop k ++ l ++ l.take k
theorem spin_mem (k : Nat) (l : List ByteArray) (s : ByteArray) : s ∈ spinL k l ↔ s ∈ l := by
  unfold spinL
  simp only [List.mem_append]
  exact ⟨fun h => h.elim (fun h => h.elim List.mem_of_mem_drop id) List.mem_of_mem_take, fun h => .inl (.inr h)⟩
theorem spin_len (k : Nat) (l : List ByteArray) (h : k ≤ l.length) : (spinL k l).length = 2 * l.length := by
  unfold spinL
  simp only [List.length_append, List.length_drop, List.length_take]
  omega
theorem spin_nrs (f : ByteArray → Nat) (k : Nat) (l : List ByteArray) : nrsU ((spinL k l).map f) = nrsU (l.map f) :=
  strictN_unique _ _ (nrsU_strict _) (nrsU_strict _) fun x => by
    rw [nrsU_mem, nrsU_mem, List.mem_map, List.mem_map]
    exact ⟨fun ⟨s, h, e⟩ => ⟨s, (spin_mem k l s).1 h, e⟩, fun ⟨s, h, e⟩ => ⟨s, (spin_mem k l s).2 h, e⟩⟩
theorem spin_all (P : ByteArray → Bool) (k : Nat) (l : List ByteArray) : (spinL k l).all P = l.all P := by
  rw [Bool.eq_iff_iff, List.all_eq_true, List.all_eq_true]
  exact ⟨fun h s hs => h s ((spin_mem k l s).2 hs), fun h s hs => h s ((spin_mem k l s).1 hs)⟩
/-- the turn that a whole number is of so many -/
def spinK (y : Int) (n : Nat) : Nat := ((y.tmod n + n).tmod n).toNat
theorem spinK_le (y : Int) (n : Nat) (hn0 : 0 < n) : spinK y n ≤ n := by
  unfold spinK
  rcases Nat.eq_zero_or_pos n with rfl | hn
  · exact absurd hn0 (by decide)
  · have := Int.tmod_lt_of_pos (y.tmod n + n) (show (0 : Int) < n by omega)
    omega
def Rul.spun (y : Int) (m : Rul) : Rul := if m.names.length = 0 then m else ⟨m.act, m.data, spinL (spinK y m.names.length) m.names, m.cnd⟩
def Pol.spun (y : Int) (p : Pol) : Pol := ⟨p.arch, p.dflt, p.data, p.rules.map (Rul.spun y)⟩
theorem spun_ok (y : Int) (a : Nat) (m : Rul) : (m.spun y).ok a = m.ok a := by
  unfold Rul.spun
  by_cases h : m.names.length = 0
  · rw [if_pos h]
  · rw [if_neg h]
    unfold Rul.ok
    dsimp only
    rw [spin_all, spin_len _ _ (spinK_le _ _ (Nat.pos_of_ne_zero h)), decide_eq_false h, decide_eq_false (show ¬ 2 * m.names.length = 0 by omega)]
theorem spun_mtc (y : Int) (a : Nat) (m : Rul) : (m.spun y).mtc a = m.mtc a := by
  unfold Rul.spun
  by_cases h : m.names.length = 0
  · rw [if_pos h]
  · rw [if_neg h]
    unfold Rul.mtc Rul.nums
    dsimp only
    rw [spin_nrs]
theorem spun_lots (y : Int) (m : Rul) : (m.spun y).lots = m.lots := by
  unfold Rul.spun
  split <;> rfl
theorem spun_err (y : Int) (p : Pol) : (p.spun y).err = p.err := by
  have h1 : ∀ a, (p.rules.map (Rul.spun y)).all (Rul.ok a) = p.rules.all (Rul.ok a) := fun a => by
    rw [List.all_map]
    exact congrArg (fun f => p.rules.all f) (funext fun m => spun_ok y a m)
  have h2 : (p.spun y).long = p.long := by
    unfold Pol.long Pol.spun
    dsimp only
    rw [List.length_map, List.any_map]
    exact congrArg (fun f => (decide (24 < p.rules.length) || p.rules.any f)) (funext fun m => spun_lots y m)
  unfold Pol.err
  rw [h2]
  unfold Pol.spun
  dsimp only
  simp only [h1]
theorem spun_typ (y : Int) (p : Pol) : (p.spun y).typ = p.typ := by
  unfold Pol.typ Pol.spun
  dsimp only
  rw [List.map_map]
  refine congrArg (fun l => (⟨_, _, l⟩ : Typ)) ?_
  exact List.map_congr_left fun m _ => spun_mtc y _ m
/-- a rule that may be has a number, and a condition that may be or none -/
theorem ok_facts {a : Nat} {m : Rul} (h : m.ok a = true) : 0 < (m.mtc a).nrs.length ∧ (m.cnd.zero || m.cnd.right) = true := by
  unfold Rul.ok at h
  simp only [Bool.and_eq_true, Bool.not_eq_true', decide_eq_false_iff_not] at h
  obtain ⟨⟨⟨_, h1⟩, h2⟩, _⟩ := h
  refine ⟨?_, h2⟩
  obtain ⟨s, hs⟩ : ∃ s, s ∈ m.names := by
    cases hn : m.names with
    | nil => rw [hn] at h1; exact absurd rfl h1
    | cons s l => exact ⟨s, List.mem_cons_self⟩
  exact List.length_pos_of_mem ((nrsU_mem (m.nums a) ((nrQ a s).getD 0)).2 (List.mem_map_of_mem hs))
theorem err_ok {p : Pol} (h : p.err = 0) (i : Nat) (hi : i < p.rules.length) : (p.rules.getD i rulZ).ok ((archOf p.arch).getD 0) = true := by
  unfold Pol.err at h
  split at h
  · exact absurd h (by decide)
  · revert h
    cases archOf p.arch with
    | none => intro h; exact absurd (show (63 : Int) = 0 from h) (by decide)
    | some a =>
      cases actRes p.dflt (p.data : Int) with
      | none => intro h; exact absurd (show (63 : Int) = 0 from h) (by decide)
      | some d =>
        intro h
        dsimp only at h
        by_cases hall : p.rules.all (Rul.ok a) = true
        · rw [show p.rules.getD i rulZ = p.rules[i] by simp [List.getD, hi]]
          exact (List.all_eq_true.1 hall) _ (List.getElem_mem hi)
        · rw [if_neg hall] at h
          exact absurd h (by decide)
end Go.Proofs.Ytbcoooaoofbboaa
