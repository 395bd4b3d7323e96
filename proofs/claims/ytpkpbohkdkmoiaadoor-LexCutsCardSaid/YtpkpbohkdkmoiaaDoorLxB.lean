/- A source's tokens over lists: what stands behind changes nothing; plain. -/
import Derived.Test.YtpkpbohkdkmoiaaDoorLxP
namespace Go.Proofs.YtpkpbohkdkmoiaaDoor
set_option linter.unusedVariables false

/-! the same over lists -/
def runl (l : List UInt8) (p : Nat → Bool) : Nat := (l.takeWhile fun c => p c.toNat).length
def signl (l : List UInt8) : Nat := match signsL.find? (fun t => t.isPrefixOf (l.map UInt8.toNat)) with
  | none => 0
  | some t => t.length
def fstl (l : List UInt8) : Int × Nat :=
  if (l.headD 0).toNat = 32 ∨ (l.headD 0).toNat = 9 ∨ (l.headD 0).toNat = 13 then (-1, 1)
  else if (l.headD 0).toNat = 35 then (-1, runl l notLine)
  else if (l.headD 0).toNat = 10 then (4, 1)
  else if letB (l.headD 0).toNat = true then (1, runl l wrdB)
  else if digB (l.headD 0).toNat = true then (2, if (numL (l.take (runl l wrdB))).isSome = true then runl l wrdB else 0)
  else (3, signl l)
theorem fstL_list (s : ByteArray) : fstL s = fstl s.data.toList := by
  have e : ∀ n, numS' (s.extract 0 n) = numL (s.data.toList.take n) := fun n => by
    unfold numS'; rw [ByteArray.data_extract]; simp
  unfold fstL fst0 fstl
  rw [e]
  rfl
theorem runl_app (u v : List UInt8) (p : Nat → Bool) : runl (u ++ v) p = if runl u p < u.length then runl u p else u.length + runl v p := by
  induction u with
  | nil => simp [runl]
  | cons a u ih =>
    unfold runl at *
    rw [List.cons_append, List.takeWhile_cons, List.takeWhile_cons]
    by_cases h : p a.toNat = true
    · rw [if_pos h, if_pos h, List.length_cons, List.length_cons, List.length_cons, ih]
      split <;> split <;> omega
    · rw [if_neg h, if_neg h]; simp
theorem runl_len (u : List UInt8) (p : Nat → Bool) : runl u p ≤ u.length := (List.takeWhile_sublist _).length_le
theorem runl_appA (u v : List UInt8) (p : Nat → Bool) (h : runl (u ++ v) p ≤ u.length) : runl (u ++ v) p = runl u p := by
  have h1 := runl_app u v p
  have h2 := runl_len u p
  split at h1 <;> omega
theorem runl_zero (v : List UInt8) (p : Nat → Bool) (h : v = [] ∨ p (v.headD 0).toNat = false) : runl v p = 0 := by
  rcases h with rfl | h
  · rfl
  · cases v with
    | nil => rfl
    | cons a v => unfold runl; rw [List.takeWhile_cons, if_neg (by simpa using h)]; rfl
theorem runl_appB (u v : List UInt8) (p : Nat → Bool) (h : runl u p < u.length ∨ v = [] ∨ p (v.headD 0).toNat = false) : runl (u ++ v) p = runl u p := by
  have h1 := runl_app u v p
  have h2 := runl_len u p
  rcases h with h | h
  · rw [if_pos h] at h1; exact h1
  · have := runl_zero v p h
    split at h1 <;> omega
theorem signl_le (l : List UInt8) : signl l ≤ l.length := by
  unfold signl
  split
  · omega
  · rename_i t ht
    have := List.find?_some ht
    have h2 := (List.isPrefixOf_iff_prefix.1 this).length_le
    simpa using h2
theorem signl_two (a b : UInt8) (u v : List UInt8) : signl (a :: b :: u ++ v) = signl (a :: b :: u) := by
  have : (fun t : List Nat => t.isPrefixOf ((a :: b :: u ++ v).map UInt8.toNat)) = (fun t : List Nat => t.isPrefixOf ((a :: b :: (u ++ v)).map UInt8.toNat)) := rfl
  unfold signl
  rw [this]
  simp only [signsL, List.find?, List.isPrefixOf, List.map_cons, Bool.and_true]
theorem signl_one (a : UInt8) (v : List UInt8) (h : v = [] ∨ (v.headD 0).toNat ≠ 61) : signl (a :: v) = signl [a] := by
  rcases h with rfl | h
  · rfl
  · cases v with
    | nil => rfl
    | cons b v =>
      have hb : ((61 : Nat) == b.toNat) = false := by rw [beq_eq_false_iff_ne]; intro e; exact h e.symm
      unfold signl
      simp only [signsL, List.find?, List.isPrefixOf, List.map_cons, List.map_nil, hb, Bool.and_true, Bool.and_false]
theorem signl_oneA (a : UInt8) (v : List UInt8) (h : signl (a :: v) ≤ 1) : signl (a :: v) = signl [a] := by
  cases v with
  | nil => rfl
  | cons b v =>
    by_cases hb : b.toNat = 61
    · have e : ((61 : Nat) == b.toNat) = true := by rw [beq_iff_eq]; exact hb.symm
      unfold signl at h ⊢
      simp only [signsL, List.find?, List.isPrefixOf, List.map_cons, List.map_nil, e, Bool.and_true, Bool.and_false] at h ⊢
      cases h1 : ((61 : Nat) == a.toNat) <;> cases h2 : ((33 : Nat) == a.toNat) <;> cases h3 : ((60 : Nat) == a.toNat) <;> cases h4 : ((62 : Nat) == a.toNat) <;> simp [h1, h2, h3, h4] at h ⊢
    · exact signl_one a (b :: v) (.inr (by simpa using hb))
/-- what stands there is as long as it is, whatever stands behind it -/
theorem fstl_appA (u v : List UInt8) (hu : u ≠ []) (h0 : (fstl (u ++ v)).2 ≠ 0) (h : (fstl (u ++ v)).2 ≤ u.length) : fstl (u ++ v) = fstl u := by
  cases u with
  | nil => exact absurd rfl hu
  | cons a u =>
    have hd : ∀ x : List UInt8, ((a :: u ++ x).headD 0) = a := fun x => rfl
    have hd' : ((a :: u : List UInt8).headD 0) = a := rfl
    unfold fstl at h h0 ⊢
    rw [hd, hd'] at *
    split
    · rfl
    rename_i h1; rw [if_neg h1] at h h0
    split
    · rename_i h2; rw [if_pos h2] at h; rw [runl_appA _ _ _ h]
    rename_i h2; rw [if_neg h2] at h h0
    split
    · rfl
    rename_i h3; rw [if_neg h3] at h h0
    split
    · rename_i h4; rw [if_pos h4] at h; rw [runl_appA _ _ _ h]
    rename_i h4; rw [if_neg h4] at h h0
    split
    · rename_i h5
      rw [if_pos h5] at h h0
      simp only at h h0
      have h6 : (numL ((a :: u ++ v).take (runl (a :: u ++ v) wrdB))).isSome = true := by
        by_cases hh : (numL ((a :: u ++ v).take (runl (a :: u ++ v) wrdB))).isSome = true
        · exact hh
        · rw [if_neg hh] at h0; exact absurd rfl h0
      rw [if_pos h6] at h
      have e := runl_appA _ _ _ h
      rw [e] at h6 ⊢
      rw [List.take_append_of_le_length (runl_len _ _)]
    · rename_i h5; rw [if_neg h5] at h
      simp only at h
      congr 1
      cases u with
      | nil => exact signl_oneA a v h
      | cons b u => exact signl_two a b u v
theorem fstl_appB (u v : List UInt8) (hu : u ≠ []) (hv : v = [] ∨ wrdB (v.headD 0).toNat = false ∧ (v.headD 0).toNat ≠ 61) (hr : (u.headD 0).toNat = 35 → runl u notLine < u.length ∨ v = [] ∨ (v.headD 0).toNat = 10) : fstl (u ++ v) = fstl u := by
  cases u with
  | nil => exact absurd rfl hu
  | cons a u =>
    have hd : ∀ x : List UInt8, ((a :: u ++ x).headD 0) = a := fun x => rfl
    have hd' : ((a :: u : List UInt8).headD 0) = a := rfl
    have hw : runl (a :: u ++ v) wrdB = runl (a :: u) wrdB := runl_appB _ _ _ (.inr (hv.imp id (·.1)))
    unfold fstl
    rw [hd, hd'] at *
    split
    · rfl
    split
    · rename_i h2
      rw [runl_appB]
      rcases hr h2 with h | h | h
      · exact .inl h
      · exact .inr (.inl h)
      · exact .inr (.inr (by rw [h]; rfl))
    split
    · rfl
    split
    · rw [hw]
    split
    · rw [hw, List.take_append_of_le_length (runl_len _ _)]
    · congr 1
      cases u with
      | nil => exact signl_one a v (hv.imp id (·.2))
      | cons b u => exact signl_two a b u v

/-- the tokens of what is left, from a place on -/
def lexq (l : List UInt8) (p : Nat) : Lx :=
  if h : l = [] then .ok []
  else (if h2 : (fstl l).2 = 0 then .bad p
    else (lexq (l.drop (fstl l).2) (p + (fstl l).2)).pre (if (fstl l).1 = -1 then [] else [⟨(fstl l).1, ⟨(l.take (fstl l).2).toArray⟩, p⟩]))
termination_by l.length
decreasing_by
  have : l.length ≠ 0 := fun e => h (List.length_eq_zero_iff.1 e)
  simp; omega
theorem lexq_nil (p : Nat) : lexq [] p = .ok [] := by unfold lexq; rw [dif_pos rfl]
theorem lexq_bad {l : List UInt8} {p : Nat} (h : l ≠ []) (hz : (fstl l).2 = 0) : lexq l p = .bad p := by unfold lexq; rw [dif_neg h, dif_pos hz]
theorem lexq_step {l : List UInt8} {p : Nat} (h : l ≠ []) (hz : (fstl l).2 ≠ 0) : lexq l p = (lexq (l.drop (fstl l).2) (p + (fstl l).2)).pre (if (fstl l).1 = -1 then [] else [⟨(fstl l).1, ⟨(l.take (fstl l).2).toArray⟩, p⟩]) := by
  rw [lexq, dif_neg h, dif_neg hz]
theorem lexR_lexq (s : ByteArray) : ∀ n p, s.size - p ≤ n → lexR s p = lexq (s.data.toList.drop p) p := by
  have hl := ba_len s
  intro n
  induction n with
  | zero =>
    intro p hn
    rw [lexR_end s p (by omega), List.drop_eq_nil_of_le (by omega), lexq_nil]
  | succ n ih =>
    intro p hn
    by_cases hp : p < s.size
    case neg => rw [lexR_end s p (by omega), List.drop_eq_nil_of_le (by omega), lexq_nil]
    have hne : s.data.toList.drop p ≠ [] := by
      intro e
      have := congrArg List.length e
      simp at this; omega
    have hf : fstL (s.extract p s.size) = fstl (s.data.toList.drop p) := by
      rw [fstL_list]
      congr 1
      rw [ByteArray.data_extract]
      simp only [Array.toList_extract, List.extract_eq_take_drop]
      rw [List.take_of_length_le (by simp)]
    by_cases hz : (fstl (s.data.toList.drop p)).2 = 0
    · rw [lexq_bad hne hz]
      exact lexR_bad s p hp (k := (fstl (s.data.toList.drop p)).1) (by rw [hf, ← hz])
    · rw [lexq_step hne hz, lexR_step s p hp (k := (fstl (s.data.toList.drop p)).1) (z := (fstl (s.data.toList.drop p)).2) hf hz, ih _ (by omega), List.drop_drop]
      congr 1
      split
      · rfl
      · congr 2
        apply ByteArray.ext
        apply Array.toList_inj.1
        rw [ByteArray.data_extract]
        simp only [Array.toList_extract, List.extract_eq_take_drop]
        rw [Nat.add_sub_cancel_left]
theorem lexS_lexq (s : ByteArray) : lexS s = lexq s.data.toList 0 := by
  unfold lexS
  have := lexR_lexq s _ 0 (Nat.le_refl _)
  simpa using this
/-- at another place -/
def Tk.at (t : Tk) (d : Nat) : Tk := ⟨t.kind, t.text, d + t.pos⟩
def Lx.at (d : Nat) : Lx → Lx
  | .bad p => .bad (d + p)
  | .ok l => .ok (l.map (·.at d))
theorem Lx.at_pre (d : Nat) (l : List Tk) (r : Lx) : (r.pre l).at d = (r.at d).pre (l.map (·.at d)) := by
  cases r <;> simp [Lx.pre, Lx.at]
theorem lexq_at (d : Nat) : ∀ n l p, List.length l ≤ n → lexq l (d + p) = (lexq l p).at d := by
  intro n
  induction n with
  | zero =>
    intro l p hn
    obtain rfl := List.length_eq_zero_iff.1 (by omega : l.length = 0)
    rw [lexq_nil, lexq_nil]; rfl
  | succ n ih =>
    intro l p hn
    by_cases hl : l = []
    · subst hl; rw [lexq_nil, lexq_nil]; rfl
    have h0 : l.length ≠ 0 := fun e => hl (List.length_eq_zero_iff.1 e)
    by_cases hz : (fstl l).2 = 0
    · rw [lexq_bad hl hz, lexq_bad hl hz]; rfl
    · rw [lexq_step hl hz, lexq_step hl hz, Lx.at_pre, Nat.add_assoc, ih _ _ (by simp; omega)]
      congr 1
      split <;> rfl
theorem lexq_shift (l : List UInt8) (d : Nat) : lexq l d = (lexq l 0).at d := lexq_at d _ l 0 (Nat.le_refl _)
end Go.Proofs.YtpkpbohkdkmoiaaDoor
