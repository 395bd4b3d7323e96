/- Ways and truths: plain facts. -/
import Derived.Test.YtpdfahlglalebaaChk7
namespace Go.Proofs.Ytpdfahlglalebaa
open Go.RowKit Go.ChangeShapes
set_option linter.unusedVariables false

/-- is a cell written by an instruction? -/
def wrI (i : Ins) (cell : Nat) : Bool := (decide (i.code = 2) || decide (i.code = 3)) && decide (i.k.toNat = cell)
/-- of the first so many instructions: does a way go to each, on which a cell is not written? -/
def rOut (l : List Ins) (cell : Nat) : Nat → List Bool
  | 0 => []
  | n + 1 => rOut l cell n ++ [decide (n = 0) || (List.range n).any fun p => (rOut l cell n).getD p false && !wrI (l.getD p insZ) cell && decide ((n : Int) ∈ folL p (l.getD p insZ))]
theorem rOut_len (l : List Ins) (cell n : Nat) : (rOut l cell n).length = n := by
  induction n with
  | zero => rfl
  | succ n ih => simp [rOut, ih]
def rch (l : List Ins) (cell k : Nat) : Bool := (rOut l cell (k + 1)).getD k false
theorem rOut_get (l : List Ins) (cell n k : Nat) (h : k < n) : (rOut l cell n).getD k false = rch l cell k := by
  induction n with
  | zero => omega
  | succ n ih =>
    by_cases e : k = n
    · subst e; rfl
    · have hk : k < n := by omega
      rw [← ih hk]
      show (rOut l cell n ++ _).getD k false = _
      simp [List.getD, List.getElem?_append_left (show k < (rOut l cell n).length by rw [rOut_len]; exact hk)]
theorem rch_iff (l : List Ins) (cell k : Nat) : rch l cell k = true ↔ k = 0 ∨ ∃ p, p < k ∧ rch l cell p = true ∧ wrI (l.getD p insZ) cell = false ∧ (k : Int) ∈ folL p (l.getD p insZ) := by
  have h1 : rch l cell k = (decide (k = 0) || (List.range k).any fun p => (rOut l cell k).getD p false && !wrI (l.getD p insZ) cell && decide ((k : Int) ∈ folL p (l.getD p insZ))) := by
    unfold rch
    show (rOut l cell k ++ _).getD k false = _
    simp [List.getD, rOut_len]
  rw [h1]
  simp only [Bool.or_eq_true, decide_eq_true_eq, List.any_eq_true, List.mem_range, Bool.and_eq_true, Bool.not_eq_true']
  constructor
  · rintro (h | ⟨p, hp, ⟨h2, h3⟩, h4⟩)
    · exact .inl h
    · rw [rOut_get l cell k p hp] at h2
      exact .inr ⟨p, hp, h2, h3, h4⟩
  · rintro (h | ⟨p, hp, h2, h3, h4⟩)
    · exact .inl h
    · exact .inr ⟨p, hp, ⟨by rw [rOut_get l cell k p hp]; exact h2, h3⟩, h4⟩
theorem rch_mono (l : List Ins) (cell : Nat) (h16 : ∀ p, wrI (l.getD p insZ) 16 = false) : ∀ k, rch l cell k = true → rch l 16 k = true := by
  intro k
  induction k using Nat.strongRecOn with
  | _ k ih =>
    intro h
    rcases (rch_iff l cell k).1 h with h | ⟨p, hp, h2, h3, h4⟩
    · exact (rch_iff l 16 k).2 (.inl h)
    · exact (rch_iff l 16 k).2 (.inr ⟨p, hp, ih p hp h2, h16 p, h4⟩)
theorem folL_gt {l : List Ins} (hN : l.length ≤ 4096) (hb : ∀ i ∈ l, i.bounded) {p : Nat} (hp : p < l.length) (hf : fitsB (l.getD p insZ) = true) : ∀ t ∈ folL p (l.getD p insZ), (p : Int) + 1 ≤ t := by
  have hbi : (l.getD p insZ).bounded := by
    rw [List.getD_eq_getElem?_getD, List.getElem?_eq_getElem hp]
    exact hb _ (List.getElem_mem _)
  exact fun t ht => (folL_le p (l.getD p insZ) (by omega) hbi.2.2.2 (fits_parts hf).2.1 t ht).1
/-- a way to k whose last step but the last one is before a -/
def pB (l : List Ins) (a cell k : Nat) : Prop := k = 0 ∨ ∃ p, p < a ∧ rch l cell p = true ∧ wrI (l.getD p insZ) cell = false ∧ (k : Int) ∈ folL p (l.getD p insZ)
theorem fold_merge (bh : Nat → Bool) (k : Nat) : ∀ (fl : List Int) (s : St), fl.foldl (fun s t => mergeS bh s t.toNat) s k =
    if k ∈ fl.map Int.toNat then some (fun j => (match s k with | none => true | some o => o j) && bh j) else s k
  | [], s => by simp
  | t :: fl, s => by
    rw [List.foldl_cons, fold_merge bh k fl (mergeS bh s t.toNat)]
    have hm : mergeS bh s t.toNat k = if k = t.toNat then some (fun j => (match s k with | none => true | some o => o j) && bh j) else s k := by
      unfold mergeS
      by_cases e : k = t.toNat
      · rw [if_pos e, ← e]
        cases hs : s k with
        | none => simp only [St.set_same, Bool.true_and]
        | some o => simp only [St.set_same]
      · rw [if_neg e]
        cases hs : s t.toNat with
        | none => exact St.set_other _ _ _ _ e
        | some o => exact St.set_other _ _ _ _ e
    rw [hm]
    by_cases e : k = t.toNat
    · rw [if_pos e]
      by_cases h2 : k ∈ fl.map Int.toNat
      · rw [if_pos h2, if_pos (by simp only [List.map_cons, List.mem_cons]; exact .inr h2)]
        congr 1
        funext j
        simp only
        cases bh j <;> simp
      · rw [if_neg h2, if_pos (by simp only [List.map_cons, List.mem_cons]; exact .inl e)]
    · rw [if_neg e]
      by_cases h2 : k ∈ fl.map Int.toNat
      · rw [if_pos h2, if_pos (by simp only [List.map_cons, List.mem_cons]; exact .inr h2)]
      · rw [if_neg h2, if_neg (by simp only [List.map_cons, List.mem_cons]; rintro (h | h); exact e h; exact h2 h)]
theorem wrI_16 {i : Ins} (hf : fitsB i = true) (hb : i.bounded) : wrI i 16 = false := by
  unfold wrI
  by_cases h : i.code = 2 ∨ i.code = 3
  · have := (fits_parts hf).2.2
    unfold fitsK at this
    rw [if_neg (by omega), if_pos (by omega)] at this
    have := of_decide_eq_true this
    have hk := hb.2.2.2
    rw [show decide (i.k.toNat = 16) = false from decide_eq_false (by omega), Bool.and_false]
  · rw [show decide (i.code = 2) = false from decide_eq_false (by omega), show decide (i.code = 3) = false from decide_eq_false (by omega)]
    rfl
theorem wrB_eq (r : Nat → Bool) (i : Ins) (j : Nat) : wrB r i j = (wrI i j || r j) := by
  unfold wrB wrI
  by_cases h : i.code = 2 ∨ i.code = 3
  · rw [if_pos h]
    have : (decide (i.code = 2) || decide (i.code = 3)) = true := by simpa using h
    rw [this, Bool.true_and]
    by_cases e : j = i.k.toNat
    · rw [if_pos e, decide_eq_true e.symm]; rfl
    · rw [if_neg e, decide_eq_false (fun h => e h.symm)]; rfl
  · rw [if_neg h]
    have : (decide (i.code = 2) || decide (i.code = 3)) = false := by simpa using h
    rw [this]
    simp
structure Joined (l : List Ins) (a : Nat) : Prop where
  none : ∀ k, joinS l a k = .none ↔ ¬ pB l a 16 k
  bit : ∀ k o j, joinS l a k = some o → j < 16 → (o j = false ↔ pB l a j k)
theorem pB_self {l : List Ins} (hN : l.length ≤ 4096) (hb : ∀ i ∈ l, i.bounded) (hw : ∀ i, i < l.length → wellB l i = true) {a cell k : Nat} (ha : a ≤ l.length) (hk : k ≤ a) : pB l a cell k ↔ rch l cell k = true := by
  rw [rch_iff]
  unfold pB
  constructor
  · rintro (h | ⟨p, hp, h2, h3, h4⟩)
    · exact .inl h
    · have hf : fitsB (l.getD p insZ) = true := by
        have := hw p (by omega); unfold wellB at this; rw [Bool.and_eq_true] at this; exact this.1
      have := folL_gt hN hb (by omega) hf _ h4
      exact .inr ⟨p, by omega, h2, h3, h4⟩
  · rintro (h | ⟨p, hp, h2, h3, h4⟩)
    · exact .inl h
    · exact .inr ⟨p, by omega, h2, h3, h4⟩
theorem getD_out (l : List Ins) (p : Nat) (h : l.length ≤ p) : l.getD p insZ = insZ := by
  rw [List.getD_eq_getElem?_getD, List.getElem?_eq_none h]; rfl
theorem joined {l : List Ins} (hN : l.length ≤ 4096) (hb : ∀ i ∈ l, i.bounded) (hw : ∀ i, i < l.length → wellB l i = true) : ∀ a, a ≤ l.length → Joined l a := by
  have hbi : ∀ p, p < l.length → (l.getD p insZ).bounded := fun p hp => by
    rw [List.getD_eq_getElem?_getD, List.getElem?_eq_getElem hp]
    exact hb _ (List.getElem_mem _)
  have hfi : ∀ p, p < l.length → fitsB (l.getD p insZ) = true := fun p hp => by
    have := hw p hp; unfold wellB at this; rw [Bool.and_eq_true] at this; exact this.1
  have h16 : ∀ p, wrI (l.getD p insZ) 16 = false := fun p => by
    by_cases hp : p < l.length
    · exact wrI_16 (hfi p hp) (hbi p hp)
    · rw [getD_out l p (by omega)]; rfl
  have mono : ∀ a cell k, pB l a cell k → pB l a 16 k := by
    rintro a cell k (h | ⟨p, hp, h2, h3, h4⟩)
    · exact .inl h
    · exact .inr ⟨p, hp, rch_mono l cell h16 p h2, h16 p, h4⟩
  intro a
  induction a with
  | zero =>
    intro _
    refine ⟨fun k => ?_, fun k o j h _ => ?_⟩
    · show (if k = 0 then some (fun _ => false) else .none) = .none ↔ _
      unfold pB
      by_cases e : k = 0
      · rw [if_pos e]; exact ⟨fun h => (by cases h), fun h => absurd (.inl e) h⟩
      · rw [if_neg e]; exact ⟨fun _ h => by rcases h with h | ⟨p, hp, _⟩; exact e h; omega, fun _ => rfl⟩
    · have h' : (if k = 0 then some (fun _ => false) else .none) = some o := h
      by_cases e : k = 0
      · rw [if_pos e] at h'
        injection h' with h'
        subst h'
        exact ⟨fun _ => .inl e, fun _ => rfl⟩
      · rw [if_neg e] at h'; cases h'
  | succ a ih =>
    intro ha
    have J := ih (by omega)
    have hself : ∀ cell, pB l a cell a ↔ rch l cell a = true := fun cell => pB_self hN hb hw (by omega) (Nat.le_refl _)
    have hsucc : ∀ cell k, pB l (a + 1) cell k ↔ pB l a cell k ∨ (rch l cell a = true ∧ wrI (l.getD a insZ) cell = false ∧ (k : Int) ∈ folL a (l.getD a insZ)) := by
      intro cell k
      unfold pB
      constructor
      · rintro (h | ⟨p, hp, h2, h3, h4⟩)
        · exact .inl (.inl h)
        · by_cases e : p = a
          · subst e; exact .inr ⟨h2, h3, h4⟩
          · exact .inl (.inr ⟨p, by omega, h2, h3, h4⟩)
      · rintro ((h | ⟨p, hp, h2, h3, h4⟩) | ⟨h2, h3, h4⟩)
        · exact .inl h
        · exact .inr ⟨p, by omega, h2, h3, h4⟩
        · exact .inr ⟨a, by omega, h2, h3, h4⟩
    have hst : joinS l (a + 1) = stepJ l (joinS l a) a := rfl
    cases hs : joinS l a a with
    | none =>
      have hna : rch l 16 a = false := by
        have := (J.none a).1 hs
        rw [hself] at this
        exact Bool.eq_false_iff.2 this
      have hnc : ∀ cell, rch l cell a ≠ true := fun cell h => by
        have := rch_mono l cell h16 a h
        rw [hna] at this; cases this
      have he : joinS l (a + 1) = joinS l a := by rw [hst]; unfold stepJ; rw [hs]
      have hsame : ∀ cell k, pB l (a + 1) cell k ↔ pB l a cell k := fun cell k => by
        rw [hsucc]
        exact ⟨fun h => h.resolve_right (fun h => hnc cell h.1), .inl⟩
      refine ⟨fun k => ?_, fun k o j h hj => ?_⟩
      · rw [he, hsame]; exact J.none k
      · rw [he] at h; rw [hsame]; exact J.bit k o j h hj
    | some r =>
      have hya : rch l 16 a = true := by
        rw [← hself]
        refine Classical.byContradiction fun h => ?_
        rw [(J.none a).2 h] at hs
        cases hs
      have hr : ∀ j, j < 16 → (r j = false ↔ rch l j a = true) := fun j hj => by rw [← hself]; exact J.bit a r j hs hj
      have he : ∀ k, joinS l (a + 1) k = if k ∈ (folL a (l.getD a insZ)).map Int.toNat then some (fun j => (match joinS l a k with | none => true | some o => o j) && wrB r (l.getD a insZ) j) else joinS l a k := by
        intro k
        rw [hst]
        unfold stepJ
        rw [hs]
        exact fold_merge _ _ _ _
      have hmem : ∀ k : Nat, k ∈ (folL a (l.getD a insZ)).map Int.toNat ↔ (k : Int) ∈ folL a (l.getD a insZ) := by
        intro k
        rw [List.mem_map]
        constructor
        · rintro ⟨t, ht, rfl⟩
          have := folL_gt hN hb (by omega) (hfi a (by omega)) t ht
          rwa [Int.toNat_of_nonneg (by omega)]
        · intro h
          exact ⟨k, h, Int.toNat_natCast k⟩
      have hbh : ∀ j, j < 16 → (wrB r (l.getD a insZ) j = false ↔ (rch l j a = true ∧ wrI (l.getD a insZ) j = false)) := by
        intro j hj
        rw [wrB_eq, Bool.or_eq_false_iff, hr j hj]
        exact ⟨fun h => ⟨h.2, h.1⟩, fun h => ⟨h.2, h.1⟩⟩
      refine ⟨fun k => ?_, fun k o j h hj => ?_⟩
      · rw [he, hsucc]
        by_cases hk : (k : Int) ∈ folL a (l.getD a insZ)
        · rw [if_pos ((hmem k).2 hk)]
          exact ⟨fun h => (by cases h), fun h => absurd (.inr ⟨hya, h16 a, hk⟩) h⟩
        · rw [if_neg (fun h => hk ((hmem k).1 h)), J.none]
          exact ⟨fun h h2 => h (h2.resolve_right (fun h3 => hk h3.2.2)), fun h h2 => h (.inl h2)⟩
      · rw [he] at h
        rw [hsucc]
        by_cases hk : (k : Int) ∈ folL a (l.getD a insZ)
        · rw [if_pos ((hmem k).2 hk)] at h
          injection h with h
          subst h
          show ((match joinS l a k with | none => true | some o => o j) && wrB r (l.getD a insZ) j) = false ↔ _
          rw [Bool.and_eq_false_iff, hbh j hj]
          cases hks : joinS l a k with
          | none =>
            have hn := (J.none k).1 hks
            constructor
            · rintro (h | h)
              · cases h
              · exact .inr ⟨h.1, h.2, hk⟩
            · rintro (h | h)
              · exact absurd (mono a j k h) hn
              · exact .inr ⟨h.1, h.2.1⟩
          | some o =>
            have hbt := J.bit k o j hks hj
            constructor
            · rintro (h | h)
              · exact .inl (hbt.1 h)
              · exact .inr ⟨h.1, h.2, hk⟩
            · rintro (h | h)
              · exact .inl (hbt.2 h)
              · exact .inr ⟨h.1, h.2.1⟩
        · rw [if_neg (fun h => hk ((hmem k).1 h))] at h
          rw [J.bit k o j h hj]
          exact ⟨.inl, fun h2 => h2.resolve_right (fun h3 => hk h3.2.2)⟩
theorem allWell_fits {l : List Ins} (h : allWell l) : ∀ p, p < l.length → fitsB (l.getD p insZ) = true := fun p hp => by
  have := h.2.2 p hp; unfold wellB at this; rw [Bool.and_eq_true] at this; exact this.1
/-- a load is bad just if a way goes to it on which its cell is not written -/
theorem rdBad_iff {l : List Ins} (h : allWell l) (hb : ∀ i ∈ l, i.bounded) {i : Nat} (hi : i < l.length) :
    rdBad l (joinS l l.length) i = true ↔ ((l.getD i insZ).code = 96 ∨ (l.getD i insZ).code = 97) ∧ rch l (l.getD i insZ).k.toNat i = true := by
  have J := joined h.2.1 hb h.2.2 l.length (Nat.le_refl _)
  have hself : ∀ cell, pB l l.length cell i ↔ rch l cell i = true := fun cell => pB_self h.2.1 hb h.2.2 (Nat.le_refl _) (by omega)
  have hbi : (l.getD i insZ).bounded := by
    rw [List.getD_eq_getElem?_getD, List.getElem?_eq_getElem hi]
    exact hb _ (List.getElem_mem _)
  unfold rdBad
  rw [Bool.and_eq_true, Bool.or_eq_true, decide_eq_true_eq, decide_eq_true_eq]
  by_cases hc : (l.getD i insZ).code = 96 ∨ (l.getD i insZ).code = 97
  · have hk : (l.getD i insZ).k.toNat < 16 := by
      have := (fits_parts (allWell_fits h i hi)).2.2
      unfold fitsK at this
      rw [if_neg (by omega), if_pos (by omega)] at this
      have := of_decide_eq_true this
      omega
    have h16 : ∀ p, wrI (l.getD p insZ) 16 = false := fun p => by
      by_cases hp : p < l.length
      · have hbp : (l.getD p insZ).bounded := by
          rw [List.getD_eq_getElem?_getD, List.getElem?_eq_getElem hp]
          exact hb _ (List.getElem_mem _)
        exact wrI_16 (allWell_fits h p hp) hbp
      · rw [getD_out l p (by omega)]; rfl
    cases hs : joinS l l.length i with
    | none =>
      have := (J.none i).1 hs
      rw [hself] at this
      constructor
      · rintro ⟨_, h⟩; cases h
      · rintro ⟨_, h2⟩; exact absurd (rch_mono l _ h16 i h2) this
    | some o =>
      have := J.bit i o _ hs hk
      rw [hself] at this
      constructor
      · rintro ⟨_, h2⟩
        exact ⟨hc, this.1 (by simpa using h2)⟩
      · rintro ⟨_, h2⟩
        exact ⟨hc, by simpa using this.2 h2⟩
  · exact ⟨fun h => absurd h.1 hc, fun h => absurd h.1 hc⟩
/-- what is told: all is well -/
def okC (l : List Ins) : Prop := allWell l ∧ ∀ i, i < l.length → rdBad l (joinS l l.length) i = false
theorem checkV_cases (l : List Ins) : (okC l ∧ checkV l = .tuple #[.int .i64 0, .int .i64 0]) ∨ (¬ okC l ∧ ∃ (x : Nat) (y : Int), checkV l = .tuple #[.int .i64 (x : Int), .int .i64 y] ∧ y ≠ 0) := by
  unfold checkV
  by_cases h : allWell l
  · rw [if_pos h]
    unfold readV
    rcases firstBad_cases (fun i => !rdBad l (joinS l l.length) i) l.length with ⟨h1, h2⟩ | ⟨k, h1, h2, h3, _⟩
    · rw [h1]
      exact .inl ⟨⟨h, fun i hi => by simpa using h2 i hi⟩, rfl⟩
    · rw [h1]
      refine .inr ⟨fun h4 => ?_, k, 51, rfl, by decide⟩
      rw [h4.2 k h2] at h3
      cases h3
  · rw [if_neg h]
    rcases wellV_cases l with ⟨h1, _⟩ | ⟨_, x, y, h2, h3⟩
    · exact absurd h1 h
    · exact .inr ⟨fun h4 => h h4.1, x, y, h2, h3⟩
end Go.Proofs.Ytpdfahlglalebaa
