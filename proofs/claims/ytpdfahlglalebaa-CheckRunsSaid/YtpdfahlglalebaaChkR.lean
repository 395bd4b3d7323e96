/- A filter that is well never goes wrong. -/
import Derived.Test.YtpdfahlglalebaaChkM
import Derived.Test.YtpdfahlglalebaaVmA
namespace Go.Proofs.Ytpdfahlglalebaa
open Go.RowKit Go.ChangeShapes
set_option linter.unusedVariables false

theorem sumD_class (c a v : Nat) : (∃ x, sumD c a v = .setA x) ∨ ∃ x, sumD c a v = .answer x := by
  unfold sumD
  split
  · exact .inr ⟨_, rfl⟩
  · exact .inl ⟨_, rfl⟩
theorem jumpD_class (c a v k : Nat) (jt jf : Int) (h : c ≠ 5) : jumpD c a v k jt jf = .over jt ∨ jumpD c a v k jt jf = .over jf := by
  unfold jumpD
  rw [if_neg h]
  split
  · exact .inl rfl
  · exact .inr rfl
/-- what a known code does -/
theorem deed_class (m : Mach) (c k : Nat) (jt jf : Int) (hc : c ∈ codeList) :
    ((c = 6 ∨ c = 22) ∧ ∃ x, deedD m c k jt jf = .answer x) ∨ (c = 5 ∧ deedD m c k jt jf = .over k) ∨
    (¬ (c = 6 ∨ c = 22) ∧ c ≠ 5 ∧ c % 8 = 5 ∧ (deedD m c k jt jf = .over jt ∨ deedD m c k jt jf = .over jf)) ∨
    (¬ (c = 6 ∨ c = 22) ∧ c ≠ 5 ∧ c % 8 ≠ 5 ∧ ((∃ x, deedD m c k jt jf = .setA x) ∨ (∃ x, deedD m c k jt jf = .setX x) ∨ (∃ x, deedD m c k jt jf = .answer x) ∨ (c = 96 ∧ deedD m c k jt jf = .ldm k) ∨ (c = 97 ∧ deedD m c k jt jf = .lxm k) ∨ (c = 2 ∧ deedD m c k jt jf = .st k) ∨ (c = 3 ∧ deedD m c k jt jf = .stx k) ∨ (c = 32 ∧ deedD m c k jt jf = .abs k))) := by
  have hne13 : c ≠ 13 := by rintro rfl; revert hc; decide
  have hl : ∀ x ∈ codeList, x % 8 ≠ 4 → x % 8 ≠ 5 → x ∈ [6, 22, 32, 96, 97, 2, 3, 128, 129, 0, 1, 135, 7] := by decide
  by_cases h4 : c % 8 = 4
  · have hd : deedD m c k jt jf = sumD (if c / 8 % 2 = 1 then c - 8 else c) m.a (if c / 8 % 2 = 1 then m.x else k) := if_pos h4
    refine .inr (.inr (.inr ⟨by omega, by omega, by omega, ?_⟩))
    rw [hd]
    rcases sumD_class (if c / 8 % 2 = 1 then c - 8 else c) m.a (if c / 8 % 2 = 1 then m.x else k) with ⟨x, h⟩ | ⟨x, h⟩
    · exact .inl ⟨x, h⟩
    · exact .inr (.inr (.inl ⟨x, h⟩))
  · by_cases h5 : c % 8 = 5
    · have hd : deedD m c k jt jf = jumpD (if c / 8 % 2 = 1 then c - 8 else c) m.a (if c / 8 % 2 = 1 then m.x else k) k jt jf := by
        unfold deedD; rw [if_neg h4, if_pos h5]
      by_cases e : c = 5
      · subst e
        exact .inr (.inl ⟨rfl, rfl⟩)
      · refine .inr (.inr (.inl ⟨by omega, e, h5, ?_⟩))
        rw [hd]
        refine jumpD_class _ _ _ _ _ _ ?_
        split <;> omega
    · have hm := hl c hc h4 h5
      simp only [List.mem_cons, List.not_mem_nil, or_false] at hm
      rcases hm with rfl | rfl | rfl | rfl | rfl | rfl | rfl | rfl | rfl | rfl | rfl | rfl | rfl
      · exact .inl ⟨.inl rfl, _, rfl⟩
      · exact .inl ⟨.inr rfl, _, rfl⟩
      · exact .inr (.inr (.inr ⟨by decide, by decide, by decide, .inr (.inr (.inr (.inr (.inr (.inr (.inr ⟨rfl, rfl⟩))))))⟩))
      · exact .inr (.inr (.inr ⟨by decide, by decide, by decide, .inr (.inr (.inr (.inl ⟨rfl, rfl⟩)))⟩))
      · exact .inr (.inr (.inr ⟨by decide, by decide, by decide, .inr (.inr (.inr (.inr (.inl ⟨rfl, rfl⟩))))⟩))
      · exact .inr (.inr (.inr ⟨by decide, by decide, by decide, .inr (.inr (.inr (.inr (.inr (.inl ⟨rfl, rfl⟩)))))⟩))
      · exact .inr (.inr (.inr ⟨by decide, by decide, by decide, .inr (.inr (.inr (.inr (.inr (.inr (.inl ⟨rfl, rfl⟩))))))⟩))
      · exact .inr (.inr (.inr ⟨by decide, by decide, by decide, .inl ⟨_, rfl⟩⟩))
      · exact .inr (.inr (.inr ⟨by decide, by decide, by decide, .inr (.inl ⟨_, rfl⟩)⟩))
      · exact .inr (.inr (.inr ⟨by decide, by decide, by decide, .inl ⟨_, rfl⟩⟩))
      · exact .inr (.inr (.inr ⟨by decide, by decide, by decide, .inr (.inl ⟨_, rfl⟩)⟩))
      · exact .inr (.inr (.inr ⟨by decide, by decide, by decide, .inl ⟨_, rfl⟩⟩))
      · exact .inr (.inr (.inr ⟨by decide, by decide, by decide, .inr (.inl ⟨_, rfl⟩)⟩))
theorem well_step {l : List Ins} (h : allWell l) (hb : ∀ i ∈ l, i.bounded) (rec : ByteArray) (m : Mach) (hm : m.next < l.length) :
    insKnown (l.getD m.next insZ).code = true ∧ (stepM l rec m).1 = true ∧ ((stepM l rec m).2.ret = true ∨ (m.next < (stepM l rec m).2.next ∧ (stepM l rec m).2.next < l.length)) := by
  have hf := allWell_fits h m.next hm
  have hland : ∀ t ∈ folL m.next (l.getD m.next insZ), t < (l.length : Int) := by
    have := h.2.2 m.next hm
    unfold wellB at this
    rw [Bool.and_eq_true] at this
    exact fun t ht => of_decide_eq_true (List.all_eq_true.1 this.2 t ht)
  have hbi : (l.getD m.next insZ).bounded := by
    rw [List.getD_eq_getElem?_getD, List.getElem?_eq_getElem hm]
    exact hb _ (List.getElem_mem _)
  obtain ⟨hk, ht, hfk⟩ := fits_parts hf
  have hst : stepM l rec m = (deedD m (l.getD m.next insZ).code.toNat (l.getD m.next insZ).k.toNat (l.getD m.next insZ).jt (l.getD m.next insZ).jf).run rec l.length { m with next := m.next + 1 } := rfl
  rw [hst]
  refine ⟨hk, ?_⟩
  generalize l.getD m.next insZ = i at *
  obtain ⟨c, jt, jf, k⟩ := i
  obtain ⟨cn, rfl, hcn⟩ := chk_code c hk
  obtain ⟨_, _, _, bk, bk1⟩ := hbi
  dsimp only at bk bk1 ht hst ⊢
  obtain ⟨k, rfl⟩ := Int.eq_ofNat_of_zero_le bk
  rw [Int.toNat_natCast, Int.toNat_natCast]
  have hN := h.2.1
  unfold fitsK at hfk
  dsimp only at hfk
  have over : ∀ v : Int, 0 ≤ v → (m.next : Int) + 1 + v < l.length → ((Deed.over v).run rec l.length { m with next := m.next + 1 }).1 = true ∧
      (((Deed.over v).run rec l.length { m with next := m.next + 1 }).2.ret = true ∨ (m.next < ((Deed.over v).run rec l.length { m with next := m.next + 1 }).2.next ∧ ((Deed.over v).run rec l.length { m with next := m.next + 1 }).2.next < l.length)) := by
    intro v h0 h1
    refine ⟨rfl, .inr ?_⟩
    show m.next < m.next + 1 + (min (max v 0) (l.length : Int)).toNat ∧ m.next + 1 + (min (max v 0) (l.length : Int)).toNat < l.length
    omega
  rcases deed_class m cn k jt jf hcn with ⟨h1, x, hd⟩ | ⟨h1, hd⟩ | ⟨h1, h2, h3, hd⟩ | ⟨h1, h2, h3, hd⟩
  · rw [hd]
    exact ⟨rfl, .inl rfl⟩
  · rw [hd]
    rw [folL_ja _ _ (show ((cn : Int)) = 5 by omega)] at hland
    have := hland _ (List.mem_singleton.2 rfl)
    exact over k (by omega) (by simpa using this)
  · rw [folL_jump _ _ (by dsimp only; omega) (by dsimp only; omega) (by dsimp only; omega)] at hland
    have j1 := hland ((m.next : Int) + 1 + jt) (by simp)
    have j2 := hland ((m.next : Int) + 1 + jf) (by simp)
    rcases hd with hd | hd
    · rw [hd]; exact over jt (by omega) j1
    · rw [hd]; exact over jf (by omega) j2
  · rw [folL_next _ _ (by dsimp only; omega) (by dsimp only; omega) (by dsimp only; omega)] at hland
    have j1 := hland ((m.next : Int) + 1) (by simp)
    rcases hd with ⟨x, hd⟩ | ⟨x, hd⟩ | ⟨x, hd⟩ | ⟨hc, hd⟩ | ⟨hc, hd⟩ | ⟨hc, hd⟩ | ⟨hc, hd⟩ | ⟨hc, hd⟩
    · rw [hd]; exact ⟨rfl, .inr ⟨by show m.next < m.next + 1; omega, by show m.next + 1 < l.length; omega⟩⟩
    · rw [hd]; exact ⟨rfl, .inr ⟨by show m.next < m.next + 1; omega, by show m.next + 1 < l.length; omega⟩⟩
    · rw [hd]; exact ⟨rfl, .inl rfl⟩
    · rw [hd]
      rw [if_neg (by omega), if_pos (by omega)] at hfk
      have hk16 : k < 16 := by have := of_decide_eq_true hfk; omega
      rw [show Deed.run rec l.length { m with next := m.next + 1 } (.ldm k) = (true, { m with next := m.next + 1, a := m.cells.getD k 0 }) from if_pos hk16]
      exact ⟨rfl, .inr ⟨by show m.next < m.next + 1; omega, by show m.next + 1 < l.length; omega⟩⟩
    · rw [hd]
      rw [if_neg (by omega), if_pos (by omega)] at hfk
      have hk16 : k < 16 := by have := of_decide_eq_true hfk; omega
      rw [show Deed.run rec l.length { m with next := m.next + 1 } (.lxm k) = (true, { m with next := m.next + 1, x := m.cells.getD k 0 }) from if_pos hk16]
      exact ⟨rfl, .inr ⟨by show m.next < m.next + 1; omega, by show m.next + 1 < l.length; omega⟩⟩
    · rw [hd]
      rw [if_neg (by omega), if_pos (by omega)] at hfk
      have hk16 : k < 16 := by have := of_decide_eq_true hfk; omega
      rw [show Deed.run rec l.length { m with next := m.next + 1 } (.st k) = (true, { m with next := m.next + 1, cells := m.cells.set k m.a }) from if_pos hk16]
      exact ⟨rfl, .inr ⟨by show m.next < m.next + 1; omega, by show m.next + 1 < l.length; omega⟩⟩
    · rw [hd]
      rw [if_neg (by omega), if_pos (by omega)] at hfk
      have hk16 : k < 16 := by have := of_decide_eq_true hfk; omega
      rw [show Deed.run rec l.length { m with next := m.next + 1 } (.stx k) = (true, { m with next := m.next + 1, cells := m.cells.set k m.x }) from if_pos hk16]
      exact ⟨rfl, .inr ⟨by show m.next < m.next + 1; omega, by show m.next + 1 < l.length; omega⟩⟩
    · rw [hd]
      rw [if_pos (by omega), Bool.and_eq_true] at hfk
      have ho : wordOk k = true := (wordOk_iff k).2 (by have := of_decide_eq_true hfk.1; have := of_decide_eq_true hfk.2; omega)
      rw [show Deed.run rec l.length { m with next := m.next + 1 } (.abs k) = (true, { m with next := m.next + 1, a := getL (cutL rec k 4) }) from if_pos ho]
      exact ⟨rfl, .inr ⟨by show m.next < m.next + 1; omega, by show m.next + 1 < l.length; omega⟩⟩
theorem well_runF {l : List Ins} (h : allWell l) (hb : ∀ i ∈ l, i.bounded) (rec : ByteArray) : ∀ f m s, m.next < l.length → l.length ≤ m.next + f → ∃ a n, runF l rec f m s = (a, n, 0) ∧ s ≤ n ∧ n < s + f
  | 0, m, s, h1, h2 => by omega
  | f + 1, m, s, h1, h2 => by
    obtain ⟨h3, h4, h5⟩ := well_step h hb rec m h1
    unfold runF
    rw [if_pos h1, if_pos h3, if_pos h4]
    by_cases hr : (stepM l rec m).2.ret = true
    · rw [if_pos hr]
      exact ⟨_, s, rfl, Nat.le_refl _, by omega⟩
    · rw [if_neg hr]
      obtain ⟨h6, h7⟩ := h5.resolve_left hr
      obtain ⟨a, n, e, e1, e2⟩ := well_runF h hb rec f (stepM l rec m).2 (s + 1) h7 (by omega)
      exact ⟨a, n, e, by omega, by omega⟩
theorem well_run {l : List Ins} (h : allWell l) (hb : ∀ i ∈ l, i.bounded) (rec : ByteArray) (hs : rec.size = 64) : ∃ a n, runR l rec = (a, n, 0) ∧ 1 ≤ n ∧ n ≤ l.length := by
  obtain ⟨a, n, e, e1, e2⟩ := well_runF h hb rec l.length mach0 1 h.1 (by omega)
  refine ⟨a, n, ?_, e1, by omega⟩
  unfold runR
  rw [if_pos hs]
  exact e
end Go.Proofs.Ytpdfahlglalebaa
