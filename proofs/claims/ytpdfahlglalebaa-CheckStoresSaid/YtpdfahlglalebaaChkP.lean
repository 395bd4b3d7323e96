/- Filters put behind one another: plain facts. -/
import Derived.Test.YtpdfahlglalebaaChkM
namespace Go.Proofs.Ytpdfahlglalebaa
open Go.RowKit Go.ChangeShapes
set_option linter.unusedVariables false

theorem okC_iff {l : List Ins} (hb : ∀ i ∈ l, i.bounded) : okC l ↔ allWell l ∧ ∀ i, i < l.length → ((l.getD i insZ).code = 96 ∨ (l.getD i insZ).code = 97) → rch l (l.getD i insZ).k.toNat i = false := by
  unfold okC
  constructor
  · rintro ⟨h1, h2⟩
    refine ⟨h1, fun i hi hc => ?_⟩
    refine Bool.eq_false_iff.2 fun h => ?_
    have := (rdBad_iff h1 hb hi).2 ⟨hc, h⟩
    rw [h2 i hi] at this
    cases this
  · rintro ⟨h1, h2⟩
    refine ⟨h1, fun i hi => ?_⟩
    refine Bool.eq_false_iff.2 fun h => ?_
    obtain ⟨hc, h3⟩ := (rdBad_iff h1 hb hi).1 h
    rw [h2 i hi hc] at h3
    cases h3
theorem getD_app (l x : List Ins) (i : Nat) (h : i < l.length) : (l ++ x).getD i insZ = l.getD i insZ := by
  rw [List.getD_eq_getElem?_getD, List.getD_eq_getElem?_getD, List.getElem?_append_left h]
theorem getD_app2 (l x : List Ins) (i : Nat) : (l ++ x).getD (l.length + i) insZ = x.getD i insZ := by
  rw [List.getD_eq_getElem?_getD, List.getD_eq_getElem?_getD, List.getElem?_append_right (by omega), show l.length + i - l.length = i by omega]
theorem rch_app (l x : List Ins) (cell : Nat) : ∀ k, k ≤ l.length → rch (l ++ x) cell k = rch l cell k := by
  intro k
  induction k using Nat.strongRecOn with
  | _ k ih =>
    intro hk
    rw [Bool.eq_iff_iff, rch_iff, rch_iff]
    constructor
    · rintro (h | ⟨p, hp, h2, h3, h4⟩)
      · exact .inl h
      · rw [getD_app l x p (by omega)] at h3 h4
        exact .inr ⟨p, hp, by rw [← ih p hp (by omega)]; exact h2, h3, h4⟩
    · rintro (h | ⟨p, hp, h2, h3, h4⟩)
      · exact .inl h
      · refine .inr ⟨p, hp, by rw [ih p hp (by omega)]; exact h2, ?_⟩
        rw [getD_app l x p (by omega)]
        exact ⟨h3, h4⟩
theorem landsB_iff (l : List Ins) (i : Nat) : landsB l i = true ↔ ∀ t ∈ folL i (l.getD i insZ), t < (l.length : Int) := by
  unfold landsB
  rw [List.all_eq_true]
  exact ⟨fun h t ht => of_decide_eq_true (h t ht), fun h t ht => decide_eq_true (h t ht)⟩
theorem wellB_iff (l : List Ins) (i : Nat) : wellB l i = true ↔ fitsB (l.getD i insZ) = true ∧ ∀ t ∈ folL i (l.getD i insZ), t < (l.length : Int) := by
  unfold wellB; rw [Bool.and_eq_true, landsB_iff]
/-- with an instruction that returns put behind it -/
theorem okC_ret {l : List Ins} (hb : ∀ i ∈ l, i.bounded) (hN : l.length ≤ 60) (h : okC l) : okC (l ++ [⟨22, 0, 0, 0⟩]) := by
  have hb' : ∀ i ∈ l ++ [(⟨22, 0, 0, 0⟩ : Ins)], i.bounded := by
    intro i hi
    rcases List.mem_append.1 hi with hi | hi
    · exact hb i hi
    · obtain rfl : i = ⟨22, 0, 0, 0⟩ := by simpa using hi
      unfold Ins.bounded; simp only; omega
  obtain ⟨h1, h2⟩ := (okC_iff hb).1 h
  have hlast : (l ++ [(⟨22, 0, 0, 0⟩ : Ins)]).getD l.length insZ = ⟨22, 0, 0, 0⟩ := by
    simp [List.getD]
  refine (okC_iff hb').2 ⟨⟨by simp, by simp; omega, fun i hi => ?_⟩, fun i hi hc => ?_⟩
  · rw [List.length_append, List.length_singleton] at hi
    rw [wellB_iff]
    by_cases e : i < l.length
    · rw [getD_app l _ i e, List.length_append, List.length_singleton]
      obtain ⟨h3, h4⟩ := (wellB_iff l i).1 (h1.2.2 i e)
      exact ⟨h3, fun t ht => by have := h4 t ht; omega⟩
    · obtain rfl : i = l.length := by omega
      rw [hlast]
      refine ⟨by decide +kernel, fun t ht => ?_⟩
      rw [folL_ret _ _ (.inr rfl)] at ht
      cases ht
  · rw [List.length_append, List.length_singleton] at hi
    by_cases e : i < l.length
    · rw [getD_app l _ i e] at hc ⊢
      rw [rch_app l _ _ i (by omega)]
      exact h2 i e hc
    · obtain rfl : i = l.length := by omega
      rw [hlast] at hc
      rcases hc with hc | hc <;> cases hc
/-- without its last one -/
theorem okC_less {l : List Ins} (hb : ∀ i ∈ l, i.bounded) (h : okC (l.take (l.length - 1))) : 1 < l.length ∧ ((l.getD (l.length - 2) insZ).code = 6 ∨ (l.getD (l.length - 2) insZ).code = 22) := by
  obtain ⟨⟨h1, h2, h3⟩, _⟩ := h
  rw [List.length_take] at h1 h2 h3
  have hn : 1 < l.length := by omega
  have hg : (l.take (l.length - 1)).getD (l.length - 2) insZ = l.getD (l.length - 2) insZ := by
    rw [List.getD_eq_getElem?_getD, List.getD_eq_getElem?_getD, List.getElem?_take, if_pos (by omega)]
  have hw := h3 (l.length - 2) (by omega)
  obtain ⟨hf, hl⟩ := (wellB_iff _ _).1 hw
  rw [hg] at hf hl
  rw [List.length_take] at hl
  refine ⟨hn, ?_⟩
  have hbi : (l.getD (l.length - 2) insZ).bounded := by
    rw [List.getD_eq_getElem?_getD, List.getElem?_eq_getElem (by omega)]
    exact hb _ (List.getElem_mem _)
  refine Classical.byContradiction fun hc => ?_
  obtain ⟨_, ht, _⟩ := fits_parts hf
  have hk := hbi.2.2.2
  by_cases h5 : (l.getD (l.length - 2) insZ).code = 5
  · rw [folL_ja _ _ h5] at hl
    have := hl _ (List.mem_singleton.2 rfl)
    omega
  · by_cases hj : (l.getD (l.length - 2) insZ).code % 8 = 5
    · rw [folL_jump _ _ hc h5 hj] at hl
      have := hl _ (List.mem_cons_self ..)
      omega
    · rw [folL_next _ _ hc h5 hj] at hl
      have := hl _ (List.mem_singleton.2 rfl)
      omega
/-- all cells stored -/
def st16 : List Ins := (List.range 16).map fun (j : Nat) => (⟨2, 0, 0, (j : Int)⟩ : Ins)
theorem st16_len : st16.length = 16 := rfl
theorem st16_get (i : Nat) (h : i < 16) : st16.getD i insZ = ⟨2, 0, 0, (i : Int)⟩ := by simp [st16, List.getD, h]
theorem st16_bounded : ∀ i ∈ st16, i.bounded := by
  intro i hi
  obtain ⟨j, hj, rfl⟩ := List.mem_map.1 hi
  have := List.mem_range.1 hj
  unfold Ins.bounded; simp only; omega
theorem folL_shift (p n : Nat) (i : Ins) (t : Int) : t ∈ folL (n + p) i ↔ t - n ∈ folL p i := by
  unfold folL
  split
  · simp
  · split
    · simp only [List.mem_singleton]; constructor <;> intro h <;> (rw [Int.natCast_add] at *; omega)
    · split
      · simp only [List.mem_cons, List.not_mem_nil, or_false]; constructor <;> intro h <;> (rw [Int.natCast_add] at *; omega)
      · simp only [List.mem_singleton]; constructor <;> intro h <;> (rw [Int.natCast_add] at *; omega)
theorem rch_st (l : List Ins) (cell : Nat) (hc : cell < 16) (hgt : ∀ p, p < l.length → ∀ t ∈ folL p (l.getD p insZ), (p : Int) + 1 ≤ t) : ∀ k, cell < k → rch (st16 ++ l) cell k = false := by
  intro k
  induction k using Nat.strongRecOn with
  | _ k ih =>
    intro hk
    refine Bool.eq_false_iff.2 fun h => ?_
    rcases (rch_iff _ _ _).1 h with h | ⟨p, hp, h2, h3, h4⟩
    · omega
    · by_cases e : cell < p
      · rw [ih p hp e] at h2; cases h2
      · have hg : (st16 ++ l).getD p insZ = ⟨2, 0, 0, (p : Int)⟩ := by rw [getD_app _ _ _ (by rw [st16_len]; omega), st16_get p (by omega)]
        rw [hg] at h3 h4
        by_cases e2 : p = cell
        · subst e2
          unfold wrI at h3
          simp at h3
        · rw [folL_next _ _ (by dsimp only; omega) (by dsimp only; omega) (by dsimp only; omega)] at h4
          have := List.mem_singleton.1 h4
          omega
theorem st16_ok {l : List Ins} (hb : ∀ i ∈ l, i.bounded) (hN : l.length ≤ 60) : okC (st16 ++ l) ↔ allWell l := by
  have hb' : ∀ i ∈ st16 ++ l, i.bounded := fun i hi => (List.mem_append.1 hi).elim (st16_bounded i) (hb i)
  have hlen : (st16 ++ l).length = 16 + l.length := by rw [List.length_append, st16_len]
  rw [okC_iff hb']
  constructor
  · rintro ⟨⟨_, _, h3⟩, _⟩
    rw [hlen] at h3
    refine ⟨?_, by omega, fun i hi => ?_⟩
    · have h15 := h3 15 (by omega)
      rw [wellB_iff, getD_app _ _ _ (by rw [st16_len]; omega), st16_get 15 (by omega), folL_next _ _ (by dsimp only; omega) (by dsimp only; omega) (by dsimp only; omega), hlen] at h15
      have := h15.2 _ (List.mem_singleton.2 rfl)
      omega
    · have := h3 (16 + i) (by omega)
      rw [wellB_iff, show 16 + i = st16.length + i from rfl, getD_app2, hlen] at this
      rw [wellB_iff]
      refine ⟨this.1, fun t ht => ?_⟩
      have h4 := this.2 (t + 16) ((folL_shift i st16.length _ _).2 (by rw [st16_len, show t + 16 - (16 : Nat) = t by omega]; exact ht))
      omega
  · intro h
    refine ⟨⟨by omega, by omega, fun i hi => ?_⟩, fun i hi hc => ?_⟩
    · rw [hlen] at hi
      by_cases e : i < 16
      · rw [wellB_iff, getD_app _ _ _ (by rw [st16_len]; exact e), st16_get i e, folL_next _ _ (by dsimp only; omega) (by dsimp only; omega) (by dsimp only; omega), hlen]
        refine ⟨?_, fun t ht => ?_⟩
        · have : ∀ j : Fin 16, fitsB ⟨2, 0, 0, ((j.val : Nat) : Int)⟩ = true := by decide +kernel
          exact this ⟨i, e⟩
        · have := List.mem_singleton.1 ht
          have := h.1
          omega
      · obtain ⟨j, rfl⟩ : ∃ j, i = 16 + j := ⟨i - 16, by omega⟩
        obtain ⟨h3, h4⟩ := (wellB_iff l j).1 (h.2.2 j (by omega))
        rw [wellB_iff, show 16 + j = st16.length + j from rfl, getD_app2, hlen]
        refine ⟨h3, fun t ht => ?_⟩
        have := h4 _ ((folL_shift j st16.length _ _).1 ht)
        rw [st16_len] at this
        omega
    · rw [hlen] at hi
      by_cases e : i < 16
      · rw [getD_app _ _ _ (by rw [st16_len]; exact e), st16_get i e] at hc
        rcases hc with hc | hc <;> cases hc
      · obtain ⟨j, rfl⟩ : ∃ j, i = 16 + j := ⟨i - 16, by omega⟩
        rw [show 16 + j = st16.length + j from rfl, getD_app2] at hc ⊢
        have hf := allWell_fits h j (by omega)
        have hk : (l.getD j insZ).k.toNat < 16 := by
          have := (fits_parts hf).2.2
          unfold fitsK at this
          rw [if_neg (by omega), if_pos (by omega)] at this
          have := of_decide_eq_true this
          omega
        exact rch_st l _ hk (fun p hp => folL_gt h.2.1 hb hp (allWell_fits h p hp)) _ (by rw [st16_len]; omega)
end Go.Proofs.Ytpdfahlglalebaa
