/- The ways joined: what lies in memory. -/
import Derived.Test.YtpdfahlglalebaaChk4
namespace Go.Proofs.Ytpdfahlglalebaa
open Go.RowKit Go.ChangeShapes
set_option linter.unusedVariables false

/-- of each instruction: whether a way goes to it, and which cells are written on all of them -/
def St : Type := Nat → Option (Nat → Bool)
def St.set (s : St) (k : Nat) (b : Nat → Bool) : St := fun k' => if k' = k then some b else s k'
theorem St.set_same (s : St) (k : Nat) (b : Nat → Bool) : s.set k b k = some b := if_pos rfl
theorem St.set_other (s : St) (k k' : Nat) (b : Nat → Bool) (h : k' ≠ k) : s.set k b k' = s k' := if_neg h
def rowCell (gA k : Nat) (o : Option (Nat → Bool)) : Value := match o with
  | none => .slice none 0 0
  | some _ => .slice (some ⟨gA, 16 * k, none⟩) 16 16
def bitOf (o : Option (Nat → Bool)) (j : Nat) : Bool := match o with
  | none => false
  | some b => b j
structure JS (w : World) (gA gR n : Nat) (s : St) : Prop where
  a : ∃ cs : List Value, w.heap[gA]? = some (.cells cs.toArray 4 (0, 0)) ∧ cs.length = 16 * n ∧ (∀ v ∈ cs, v.oneCell' = true) ∧ ∀ k j, k < n → j < 16 → cs[16 * k + j]? = some (.bool (bitOf (s k) j))
  r : ∃ cs : List Value, w.heap[gR]? = some (.cells cs.toArray 44 (0, 0)) ∧ cs.length = n ∧ ∀ k, k < n → cs[k]? = some (rowCell gA k (s k))
  ne : gA ≠ gR
theorem JS.row {w : World} {gA gR n : Nat} {s : St} (h : JS w gA gR n s) (k : Nat) (hk : k < n) : w.cell? ⟨gR, k, none⟩ = some (rowCell gA k (s k)) := by
  obtain ⟨cs, h1, h2, h3⟩ := h.r
  rw [cell_of_row _ _ _ _ _ _ h1, List.getElem?_toArray, h3 k hk]
theorem JS.bit {w : World} {gA gR n : Nat} {s : St} (h : JS w gA gR n s) (k j : Nat) (hk : k < n) (hj : j < 16) : w.cell? ⟨gA, 16 * k + j, none⟩ = some (.bool (bitOf (s k) j)) := by
  obtain ⟨cs, h1, h2, _, h3⟩ := h.a
  rw [cell_of_row _ _ _ _ _ _ h1, List.getElem?_toArray, h3 k j hk hj]
theorem JS.below {w w' : World} {gA gR n : Nat} {s : St} (h : JS w gA gR n s) (hb : Below w.heap.size w w') : JS w' gA gR n s := by
  obtain ⟨ca, a1, a2⟩ := h.a
  obtain ⟨cr, r1, r2⟩ := h.r
  exact ⟨⟨ca, (hb.block _ (lt_of_block a1)).trans a1, a2⟩, ⟨cr, (hb.block _ (lt_of_block r1)).trans r1, r2⟩, h.ne⟩
theorem JS.congr {w : World} {gA gR n : Nat} {s t : St} (h : JS w gA gR n s) (h1 : ∀ k, k < n → (s k).isSome = (t k).isSome) (h2 : ∀ k j, k < n → j < 16 → bitOf (s k) j = bitOf (t k) j) : JS w gA gR n t := by
  obtain ⟨ca, a1, a2, a0, a3⟩ := h.a
  obtain ⟨cr, r1, r2, r3⟩ := h.r
  refine ⟨⟨ca, a1, a2, a0, fun k j hk hj => by rw [a3 k j hk hj, h2 k j hk hj]⟩, ⟨cr, r1, r2, fun k hk => ?_⟩, h.ne⟩
  rw [r3 k hk]
  have := h1 k hk
  cases hs : s k with
  | none =>
    rw [hs] at this
    cases ht : t k with
    | none => rfl
    | some y => rw [ht] at this; cases this
  | some x =>
    rw [hs] at this
    cases ht : t k with
    | none => rw [ht] at this; cases this
    | some y => rfl
/-- a row laid: all its truths are false as yet -/
theorem JS.lay {w : World} {gA gR n : Nat} {s : St} (h : JS w gA gR n s) (t : Nat) (ht : t < n) (hs : s t = none) : JS (w.setCell ⟨gR, t, none⟩ (.slice (some ⟨gA, 16 * t, none⟩) 16 16)) gA gR n (s.set t fun _ => false) := by
  obtain ⟨ca, a1, a2, a0, a3⟩ := h.a
  obtain ⟨cr, r1, r2, r3⟩ := h.r
  refine ⟨⟨ca, (Below.heap_setCell w ⟨gR, t, none⟩ _ gA (by show gA ≠ gR; exact h.ne)).trans a1, a2, a0, fun k j hk hj => ?_⟩, ⟨cr.set t (.slice (some ⟨gA, 16 * t, none⟩) 16 16), ?_, by rw [List.length_set]; exact r2, fun k hk => ?_⟩, h.ne⟩
  · rw [a3 k j hk hj]
    by_cases e : k = t
    · subst e; rw [St.set_same, hs]; rfl
    · rw [St.set_other _ _ _ _ e]
  · have := block_set r1 t (.slice (some ⟨gA, 16 * t, none⟩) 16 16)
    rwa [List.setIfInBounds_toArray] at this
  · by_cases e : k = t
    · subst e; rw [List.getElem?_set_self (by omega), St.set_same]; rfl
    · rw [List.getElem?_set_ne (fun h => e h.symm), St.set_other _ _ _ _ e]; exact r3 k hk
theorem splice_at (L cs : List Value) (off i : Nat) (h : off + cs.length ≤ L.length) (hi : i < L.length) : (splice L off cs)[i]? = if off ≤ i ∧ i < off + cs.length then cs[i - off]? else L[i]? := by
  unfold splice
  by_cases h1 : i < off
  · rw [if_neg (by omega), List.getElem?_append_left (by rw [List.length_take]; omega), List.getElem?_take, if_pos h1]
  · rw [List.getElem?_append_right (by rw [List.length_take]; omega), List.length_take, Nat.min_eq_left (by omega)]
    by_cases h2 : i < off + cs.length
    · rw [if_pos (by omega), List.getElem?_append_left (by omega)]
    · rw [if_neg (by omega), List.getElem?_append_right (by omega), List.getElem?_drop]
      congr 1
      omega
/-- a row copied over -/
theorem JS.copied {w w' : World} {gA gR n : Nat} {s : St} (h : JS w gA gR n s) (t : Nat) (ht : t < n) (b : Nat → Bool) (hs : (s t).isSome = true)
    (hR : w'.heap[gR]? = w.heap[gR]?) (cur : List Value) (hc : w.heap[gA]? = some (.cells cur.toArray 4 (0, 0))) (hA : w'.heap[gA]? = some (.cells (splice cur (16 * t) (bits16 b)).toArray 4 (0, 0))) : JS w' gA gR n (s.set t b) := by
  obtain ⟨ca, a1, a2, a0, a3⟩ := h.a
  obtain ⟨cr, r1, r2, r3⟩ := h.r
  have hcc : ca = cur := by
    rw [hc] at a1
    injection a1 with a1
    injection a1 with a1
    have := congrArg Array.toList a1
    simpa using this.symm
  subst hcc
  have hfit : 16 * t + (bits16 b).length ≤ ca.length := by rw [bits16_len]; omega
  refine ⟨⟨splice ca (16 * t) (bits16 b), hA, by rw [length_splice _ _ _ hfit, a2], ?_, fun k j hk hj => ?_⟩, ⟨cr, hR.trans r1, r2, fun k hk => ?_⟩, h.ne⟩
  · intro v hv
    unfold splice at hv
    rcases List.mem_append.1 hv with hv | hv
    · exact a0 v (List.mem_of_mem_take hv)
    · rcases List.mem_append.1 hv with hv | hv
      · exact bits16_one b v hv
      · exact a0 v (List.mem_of_mem_drop hv)
  · rw [splice_at _ _ _ _ hfit (by omega), bits16_len]
    by_cases e : k = t
    · subst e
      rw [if_pos (by omega), St.set_same, show 16 * k + j - 16 * k = j by omega, bits16_get _ _ hj]
      rfl
    · rw [if_neg (by omega), a3 k j hk hj, St.set_other _ _ _ _ e]
  · rw [r3 k hk]
    by_cases e : k = t
    · subst e
      rw [St.set_same]
      cases hk2 : s k with
      | none => rw [hk2] at hs; cases hs
      | some x => rfl
    · rw [St.set_other _ _ _ _ e]
/-- one truth set -/
theorem JS.setBit {w : World} {gA gR n : Nat} {s : St} (h : JS w gA gR n s) (t j : Nat) (ht : t < n) (hj : j < 16) (o : Nat → Bool) (hs : s t = some o) (x : Bool) :
    JS (w.setCell ⟨gA, 16 * t + j, none⟩ (.bool x)) gA gR n (s.set t fun j' => if j' = j then x else o j') := by
  obtain ⟨ca, a1, a2, a0, a3⟩ := h.a
  obtain ⟨cr, r1, r2, r3⟩ := h.r
  refine ⟨⟨ca.set (16 * t + j) (.bool x), ?_, by rw [List.length_set]; exact a2, ?_, fun k i hk hi => ?_⟩, ⟨cr, (Below.heap_setCell w ⟨gA, 16 * t + j, none⟩ _ gR (by show gR ≠ gA; exact h.ne.symm)).trans r1, r2, fun k hk => ?_⟩, h.ne⟩
  · have := block_set a1 (16 * t + j) (.bool x)
    rwa [List.setIfInBounds_toArray] at this
  · intro v hv
    rcases List.mem_or_eq_of_mem_set hv with hv | rfl
    · exact a0 v hv
    · rfl
  · by_cases e : 16 * k + i = 16 * t + j
    · obtain rfl : k = t := by omega
      obtain rfl : i = j := by omega
      rw [List.getElem?_set_self (by omega), St.set_same]
      show some (Value.bool x) = some (.bool (if i = i then x else o i))
      rw [if_pos rfl]
    · rw [List.getElem?_set_ne (fun h => e h.symm), a3 k i hk hi]
      by_cases e2 : k = t
      · subst e2
        rw [St.set_same, hs]
        show some (Value.bool (o i)) = some (.bool (if i = j then x else o i))
        rw [if_neg (by omega)]
      · rw [St.set_other _ _ _ _ e2]
  · rw [r3 k hk]
    by_cases e : k = t
    · subst e
      rw [St.set_same, hs]
      rfl
    · rw [St.set_other _ _ _ _ e]
def mergeS (bh : Nat → Bool) (s : St) (t : Nat) : St := match s t with
  | none => s.set t bh
  | some o => s.set t fun j => o j && bh j
def stepJ (l : List Ins) (s : St) (a : Nat) : St := match s a with
  | none => s
  | some r => (folL a (l.getD a insZ)).foldl (fun s t => mergeS (wrB r (l.getD a insZ)) s t.toNat) s
def joinS (l : List Ins) : Nat → St
  | 0 => fun k => if k = 0 then some (fun _ => false) else none
  | a + 1 => stepJ l (joinS l a) a
/-- all blocks but the truths' two are as they were -/
def KeepAR (gA gR : Nat) (u u' : World) : Prop := u.heap.size ≤ u'.heap.size ∧ ∀ g, g ≠ gA → g ≠ gR → g < u.heap.size → u'.heap[g]? = u.heap[g]?
theorem KeepAR.refl (gA gR : Nat) (u : World) : KeepAR gA gR u u := ⟨Nat.le_refl _, fun _ _ _ _ => rfl⟩
theorem KeepAR.set {gA gR : Nat} {u u' : World} (h : KeepAR gA gR u u') {g : Nat} (hg : g = gA ∨ g = gR) (j : Nat) (v : Value) : KeepAR gA gR u (u'.setCell ⟨g, j, none⟩ v) :=
  ⟨by rw [World.size_setCell]; exact h.1, fun k h1 h2 h3 => (Below.heap_setCell u' ⟨g, j, none⟩ v k (by show k ≠ g; omega)).trans (h.2 k h1 h2 h3)⟩
theorem KeepAR.setRow {gA gR : Nat} {u u' : World} (h : KeepAR gA gR u u') {g : Nat} (hg : g = gA ∨ g = gR) (cs : Array Value) : KeepAR gA gR u (u'.setRow g cs) :=
  ⟨by simp [World.setRow]; exact h.1, fun k h1 h2 h3 => by
    rw [← h.2 k h1 h2 h3]
    simp only [World.setRow, Array.getElem?_modify]
    rw [if_neg (by omega)]⟩
theorem KeepAR.drew {gA gR : Nat} {u u' : World} (h : KeepAR gA gR u u') : KeepAR gA gR u u'.drew := ⟨h.1, h.2⟩
theorem KeepAR.cell {gA gR : Nat} {u u' : World} (h : KeepAR gA gR u u') {g j : Nat} {v : Value} (h1 : g ≠ gA) (h2 : g ≠ gR) (hv : u.cell? ⟨g, j, none⟩ = some v) : u'.cell? ⟨g, j, none⟩ = some v :=
  (World.cell?_of_block (a := ⟨g, j, none⟩) (h.2 g h1 h2 (World.block_lt_of_cell? _ _ hv))).trans hv
theorem JS.apart {w : World} {gA gR n : Nat} {s : St} (h : JS w gA gR n s) {g j : Nat} {x : Int} (hc : w.cell? ⟨g, j, none⟩ = some (.int .i64 x)) : g ≠ gA ∧ g ≠ gR := by
  constructor
  · rintro rfl
    obtain ⟨cs, h1, h2, _, h3⟩ := h.a
    rw [cell_of_row _ _ _ _ _ _ h1, List.getElem?_toArray] at hc
    have hj : j < cs.length := (List.getElem?_eq_some_iff.1 hc).1
    have := h3 (j / 16) (j % 16) (by omega) (by omega)
    rw [show 16 * (j / 16) + j % 16 = j by omega, hc] at this
    cases this
  · rintro rfl
    obtain ⟨cs, h1, h2, h3⟩ := h.r
    rw [cell_of_row _ _ _ _ _ _ h1, List.getElem?_toArray] at hc
    have hj : j < cs.length := (List.getElem?_eq_some_iff.1 hc).1
    have := h3 j (by omega)
    rw [hc] at this
    cases hs : s j with
    | none => rw [hs] at this; cases this
    | some o => rw [hs] at this; cases this
theorem JS.drew {w : World} {gA gR n : Nat} {s : St} (h : JS w gA gR n s) : JS w.drew gA gR n s := ⟨h.a, h.r, h.ne⟩
theorem JS.frozen {w : World} {gA gR n : Nat} {s : St} (h : JS w gA gR n s) (j : Nat) : w.frozen? ⟨gA, j, none⟩ = false ∧ w.frozen? ⟨gR, j, none⟩ = false := by
  obtain ⟨ca, a1, _⟩ := h.a
  obtain ⟨cr, r1, _⟩ := h.r
  exact ⟨block_frozen a1 j, block_frozen r1 j⟩
/-- the truths of one row, joined up to one of them -/
def mixB (o b : Nat → Bool) (q : Nat) : Nat → Bool := fun j => if j < q then o j && b j else o j
theorem JS.mixed {w : World} {gA gR n : Nat} {s : St} {t q : Nat} {o b : Nat → Bool} (ht : t < n) (hq : q < 16) (h : JS w gA gR n (s.set t (mixB o b q))) :
    JS (w.setCell ⟨gA, 16 * t + q, none⟩ (.bool (o q && b q))) gA gR n (s.set t (mixB o b (q + 1))) := by
  refine (h.setBit t q ht hq (mixB o b q) (St.set_same _ _ _) (o q && b q)).congr ?_ ?_
  · intro k hk
    by_cases e : k = t
    · subst e; rw [St.set_same, St.set_same]; rfl
    · rw [St.set_other _ _ _ _ e, St.set_other _ _ _ _ e, St.set_other _ _ _ _ e]
  · intro k j hk hj
    by_cases e : k = t
    · subst e
      rw [St.set_same, St.set_same]
      show (if j = q then _ else mixB o b q j) = mixB o b (q + 1) j
      unfold mixB
      by_cases e2 : j = q
      · subst e2; rw [if_pos rfl, if_pos (by omega)]
      · rw [if_neg e2]
        by_cases e3 : j < q
        · rw [if_pos e3, if_pos (by omega)]
        · rw [if_neg e3, if_neg (by omega)]
    · rw [St.set_other _ _ _ _ e, St.set_other _ _ _ _ e, St.set_other _ _ _ _ e]
theorem JS.mix_start {w : World} {gA gR n : Nat} {s : St} {t : Nat} {o : Nat → Bool} (b : Nat → Bool) (hs : s t = some o) (h : JS w gA gR n s) : JS w gA gR n (s.set t (mixB o b 0)) := by
  refine h.congr ?_ ?_
  · intro k hk
    by_cases e : k = t
    · subst e; rw [St.set_same, hs]; rfl
    · rw [St.set_other _ _ _ _ e]
  · intro k j hk hj
    by_cases e : k = t
    · subst e; rw [St.set_same, hs]; unfold mixB; rfl
    · rw [St.set_other _ _ _ _ e]
theorem JS.mix_end {w : World} {gA gR n : Nat} {s : St} {t : Nat} {o b : Nat → Bool} (hs : s t = some o) (h : JS w gA gR n (s.set t (mixB o b 16))) : JS w gA gR n (mergeS b s t) := by
  have e0 : mergeS b s t = s.set t fun j => o j && b j := by unfold mergeS; rw [hs]
  rw [e0]
  refine h.congr ?_ ?_
  · intro k hk
    by_cases e : k = t
    · subst e; rw [St.set_same, St.set_same]; rfl
    · rw [St.set_other _ _ _ _ e, St.set_other _ _ _ _ e]
  · intro k j hk hj
    by_cases e : k = t
    · subst e
      rw [St.set_same, St.set_same]
      show mixB o b 16 j = (o j && b j)
      unfold mixB
      rw [if_pos hj]
    · rw [St.set_other _ _ _ _ e, St.set_other _ _ _ _ e]
/-- a copy into a row, as one step of a region that draws its order: the world behind it is known whole -/
theorem step_copy_row {P : Program} {ops : Array Oper} {o : Oper} {a : Act} {w : World} {K : Act → World → Prop} {Q : Exit → Act → World → Prop} {E : Prop} (hgd : o.guard = none) (d s : Operand) (dT sT : TypeId)
    (ho : o.op = .call { callee := .builtin .copy, args := #[d, s], argTypes := #[dT, sT] }) (elem : TypeId) (hu : P.underlying dT = some (.slice elem)) (hsz : (P.info? elem).map (·.size) = some 1)
    (g off dLen dCap : Nat) (ad : Addr) (sLen sCap : Nat) (hd : a.eval d = .slice (some ⟨g, off, none⟩) dLen dCap) (hs : a.eval s = .slice (some ad) sLen sCap)
    (cur : List Value) (t : TypeId) (hg : w.heap[g]? = some (.cells cur.toArray t (0, 0))) (cs : List Value) (hn : cs.length = Nat.min sLen dLen)
    (hsrc : ∀ j v, cs[j]? = some v → w.cell? (ad.add j) = some v) (hfit : off + cs.length ≤ cur.length) (h1 : ∀ v ∈ cs, v.oneCell' = true)
    (h : K (a.put o.dst (goInt cs.length)) (w.setRow g (splice cur off cs).toArray)) : if Region.wanted o (yielded ops a.tmps) = true then Oper.wp P o a w K Q else E := by
  have hw : Region.wanted o (yielded ops a.tmps) = true := by simp [Region.wanted, hgd]
  rw [if_pos hw]
  have hrun := run_copy_row (P := P) w dT sT o.type elem g off dLen dCap ad sLen sCap cur.toArray t cs hu hsz hg hn hsrc (by simpa using hfit) h1
  unfold Oper.wp
  simp [execOp, ho, resolve, invoke, builtin, hd, hs, hrun, Result.andThen]
  have h2 : K (a.put o.dst (goInt cs.length)) (w.setRow g (List.take off cur ++ (cs ++ List.drop (off + cs.length) cur)).toArray) := by simpa [splice] using h
  exact h2
end Go.Proofs.Ytpdfahlglalebaa
