/- A row of rules of the call's own, that a policy's rules were copied to. -/
import Derived.Test.YtbcoooaoofbboaaPo12
namespace Go.Proofs.Ytbcoooaoofbboaa
open Go.RowKit Go.ChangeShapes
set_option linter.unusedVariables false
set_option linter.unusedSimpArgs false

/-- a slice of names that does not hang on block g -/
def FrS (g : Nat) (w : World) (ks : Value) (l : List ByteArray) : Prop := ∀ w'' : World, w.heap.size ≤ w''.heap.size → (∀ b, b < w.heap.size → b ≠ g → w''.heap[b]? = w.heap[b]?) → IsStrs w'' ks l
theorem FrS.ok {g : Nat} {w : World} {ks : Value} {l : List ByteArray} (h : FrS g w ks l) : IsStrs w ks l := h w (Nat.le_refl _) fun _ _ _ => rfl
theorem FrS.below {g : Nat} {w w' : World} {ks : Value} {l : List ByteArray} (h : FrS g w ks l) (hb : Below w.heap.size w w') : FrS g w' ks l :=
  fun w'' hs hk => h w'' (Nat.le_trans hb.size hs) fun b hb1 hb2 => (hk b (Nat.lt_of_lt_of_le hb1 hb.size) hb2).trans (hb.block b hb1)
theorem FrS.set {g : Nat} {w : World} {ks : Value} {l : List ByteArray} (h : FrS g w ks l) (o : Nat) (x : Value) : FrS g (w.setCell ⟨g, o, none⟩ x) ks l :=
  fun w'' hs hk => h w'' (by simpa [World.setCell] using hs) fun b hb1 hb2 => (hk b (by simpa [World.setCell] using hb1) hb2).trans (Below.heap_setCell _ _ _ _ hb2)
theorem FrS.of {g : Nat} {w : World} {ks : Value} {l : List ByteArray} (h : IsStrs w ks l) (hg : ∀ a n c, ks = .slice (some a) n c → a.block ≠ g) : FrS g w ks l := fun w'' hs hk => by
  obtain ⟨a, len, cap, rfl, h1, h2, h3, h4, h5⟩ := h
  refine ⟨a, len, cap, rfl, h1, h2, h3, h4, h5.imp id ?_⟩
  rintro ⟨b, off, rfl, hlt, hat⟩
  exact ⟨b, off, rfl, Nat.lt_of_lt_of_le hlt hs, fun i hi => (cell_of_heap (hk b hlt (hg _ _ _ rfl))).trans (hat i hi)⟩
/-- the own row's n rules, its block being g; the conditions lie as they lay in w0 -/
def QAt (w0 w : World) (g n : Nat) (L : List Rul) : Prop :=
  L.length = n ∧ w0.heap.size ≤ g ∧ Below w0.heap.size w0 w ∧ (∃ cs : Array Value, w.heap[g]? = some (.cells cs 46 (0, 0)) ∧ n * 9 ≤ cs.size) ∧
    ∀ i, i < n → (L.getD i rulZ).bounded ∧ ∃ ks k, (∀ t u, ((L.getD i rulZ).cells ks k)[t]? = some u → w.cell? ⟨g, i * 9 + t, none⟩ = some u) ∧ FrS g w ks (L.getD i rulZ).names ∧ IsCnds w0 k (L.getD i rulZ).cnd.kids
theorem QAt.ruls {w0 w : World} {g n : Nat} {L : List Rul} (h : QAt w0 w g n L) (c : Nat) (hc : n ≤ c) (hc2 : c ≤ 9223372036854775807) : IsRuls w (.slice (some ⟨g, 0, none⟩) n c) L := by
  obtain ⟨h1, h2, h3, ⟨cs, h4, h5⟩, h6⟩ := h
  refine ⟨_, n, c, rfl, h1, hc, hc2, (fun e => by cases e), .inr ⟨g, 0, rfl, lt_of_block h4, fun i hi => ?_⟩⟩
  obtain ⟨q1, ks, k, q2, q3, q4⟩ := h6 i hi
  exact ⟨q1, ks, k, fun j u hj => by rw [Nat.zero_add]; exact q2 j u hj, q3.ok, q4.below h3⟩
theorem QAt.below {w0 w w' : World} {g n : Nat} {L : List Rul} (h : QAt w0 w g n L) (hb : Below w.heap.size w w') : QAt w0 w' g n L := by
  obtain ⟨h1, h2, h3, ⟨cs, h4, h5⟩, h6⟩ := h
  have hlt := lt_of_block h4
  refine ⟨h1, h2, h3.trans (hb.mono h3.size), ⟨cs, (hb.block g hlt).trans h4, h5⟩, fun i hi => ?_⟩
  obtain ⟨q1, ks, k, q2, q3, q4⟩ := h6 i hi
  exact ⟨q1, ks, k, fun t u ht => (hb.cell (p := ⟨g, i * 9 + t, none⟩) hlt).trans (q2 t u ht), q3.below hb, q4⟩
theorem rul_names (m : Rul) (ks k ks' : Value) (l : List ByteArray) (t : Nat) : ((⟨m.act, m.data, l, m.cnd⟩ : Rul).cells ks' k)[t]? = if t = 2 then some ks' else (m.cells ks k)[t]? := by
  match t with
  | 0 => rfl
  | 1 => rfl
  | 2 => rfl
  | t + 3 => rw [if_neg (by omega)]; rfl
/-- another slice of names in rule j's cell -/
theorem QAt.put {w0 w : World} {g n : Nat} {L : List Rul} (h : QAt w0 w g n L) (j : Nat) (hj : j < n) (ks' : Value) (l : List ByteArray) (hf : FrS g w ks' l) :
    QAt w0 (w.setCell ⟨g, j * 9 + 2, none⟩ ks') g n (L.set j ⟨(L.getD j rulZ).act, (L.getD j rulZ).data, l, (L.getD j rulZ).cnd⟩) := by
  obtain ⟨h1, h2, h3, ⟨cs, h4, h5⟩, h6⟩ := h
  refine ⟨by rw [List.length_set]; exact h1, h2, h3.setCell (p := ⟨g, j * 9 + 2, none⟩) h2 _, ?_, fun i hi => ?_⟩
  · exact ⟨_, block_set h4 (j * 9 + 2) ks', by simpa using h5⟩
  · by_cases e : i = j
    · subst e
      obtain ⟨q1, ks, k, q2, q3, q4⟩ := h6 i hi
      rw [show (L.set i ⟨(L.getD i rulZ).act, (L.getD i rulZ).data, l, (L.getD i rulZ).cnd⟩).getD i rulZ = ⟨(L.getD i rulZ).act, (L.getD i rulZ).data, l, (L.getD i rulZ).cnd⟩ by simp [List.getD, h1, hi]]
      refine ⟨q1, ks', k, fun t u ht => ?_, hf.set _ _, q4⟩
      rw [rul_names _ ks] at ht
      by_cases e2 : t = 2
      · subst e2
        rw [if_pos rfl] at ht
        injection ht with ht
        subst ht
        exact World.cell?_setCell_same _ _ _ (q2 2 ks rfl)
      · rw [if_neg e2] at ht
        rw [World.cell?_setCell_other _ _ _ _ (by intro h; injection h with _ h1 _; omega)]
        exact q2 t u ht
    · obtain ⟨q1, ks, k, q2, q3, q4⟩ := h6 i hi
      rw [show (L.set j ⟨(L.getD j rulZ).act, (L.getD j rulZ).data, l, (L.getD j rulZ).cnd⟩).getD i rulZ = L.getD i rulZ by simp [List.getD, List.getElem?_set, show ¬ j = i from fun h => e h.symm]]
      refine ⟨q1, ks, k, fun t u ht => ?_, q3.set _ _, q4⟩
      have ht9 : t < 9 := by
        have := (List.getElem?_eq_some_iff.1 ht).1
        simpa [Rul.cells, Cnd.cells] using this
      rw [World.cell?_setCell_other _ _ _ _ (by intro h; injection h with _ h1 _; omega)]
      exact q2 t u ht
theorem Rul.cells_len (m : Rul) (ks k : Value) : (m.cells ks k).length = 9 := rfl
/-- the cells of a row of rules, each with its two slices -/
def rulsCells (l : List Rul) (vs : List (Value × Value)) : List Value := (l.zip vs).flatMap fun p => p.1.cells p.2.1 p.2.2
theorem rulsCells_len (l : List Rul) (vs : List (Value × Value)) (h : vs.length = l.length) : (rulsCells l vs).length = l.length * 9 := by
  induction l generalizing vs with
  | nil => rfl
  | cons m l ih =>
    cases vs with
    | nil => simp at h
    | cons v vs =>
      have := ih vs (by simpa using h)
      unfold rulsCells at this ⊢
      rw [List.zip_cons_cons, List.flatMap_cons, List.length_append, this, Rul.cells_len, List.length_cons]
      omega
theorem rulsCells_get (l : List Rul) (vs : List (Value × Value)) (h : vs.length = l.length) (i : Nat) (hi : i < l.length) (j : Nat) (hj : j < 9) : (rulsCells l vs)[i * 9 + j]? = ((l.getD i rulZ).cells (vs.getD i (undef, undef)).1 (vs.getD i (undef, undef)).2)[j]? := by
  induction l generalizing vs i with
  | nil => simp at hi
  | cons m l ih =>
    cases vs with
    | nil => simp at h
    | cons v vs =>
      unfold rulsCells
      rw [List.zip_cons_cons, List.flatMap_cons]
      cases i with
      | zero =>
        rw [Nat.zero_mul, Nat.zero_add, List.getElem?_append_left (by rw [Rul.cells_len]; exact hj), List.getD_cons_zero, List.getD_cons_zero]
      | succ i =>
        rw [List.getElem?_append_right (by rw [Rul.cells_len]; omega), Rul.cells_len, show (i + 1) * 9 + j - 9 = i * 9 + j by omega, List.getD_cons_succ, List.getD_cons_succ]
        exact ih vs (by simpa using h) i (by simpa using hi)
/-- what the two slices of each rule read as -/
def RvOk (w : World) (l : List Rul) (vs : List (Value × Value)) : Prop := vs.length = l.length ∧ ∀ i, i < l.length → (l.getD i rulZ).bounded ∧ IsStrs w (vs.getD i (undef, undef)).1 (l.getD i rulZ).names ∧ IsCnds w (vs.getD i (undef, undef)).2 (l.getD i rulZ).cnd.kids
theorem RvOk.below {w w' : World} {l : List Rul} {vs : List (Value × Value)} (h : RvOk w l vs) (hb : Below w.heap.size w w') : RvOk w' l vs :=
  ⟨h.1, fun i hi => ⟨(h.2 i hi).1, (h.2 i hi).2.1.belowP hb, (h.2 i hi).2.2.below hb⟩⟩
theorem ruls_vs {w : World} {A : Option Addr} {n c : Nat} {l : List Rul} (h : IsRuls w (.slice A n c) l) : ∃ vs, RvOk w l vs ∧ ((A = none ∧ n = 0 ∧ c = 0 ∧ rulsCells l vs = []) ∨ ∃ ad, A = some ad ∧ ∀ j u, (rulsCells l vs)[j]? = some u → w.cell? (ad.add j) = some u) := by
  obtain ⟨_, _, _, hv, h1, h2, h3, h4, h5⟩ := h
  injection hv with e1 e2 e3
  subst e1 e2 e3
  rcases h5 with h0 | ⟨b, off, rfl, hlt, hat⟩
  · have hnil : l = [] := List.eq_nil_of_length_eq_zero (by omega)
    subst hnil
    refine ⟨[], ⟨rfl, fun i hi => absurd hi (by simp)⟩, ?_⟩
    cases A with
    | none => exact .inl ⟨rfl, h0, h4 rfl, rfl⟩
    | some ad => exact .inr ⟨ad, rfl, fun j u hj => by simp [rulsCells] at hj⟩
  · obtain ⟨vs, hvl, hvs⟩ := list_of (P := fun i (v : Value × Value) => (∀ j u, ((l.getD i rulZ).cells v.1 v.2)[j]? = some u → w.cell? ⟨b, off + i * 9 + j, none⟩ = some u) ∧ (l.getD i rulZ).bounded ∧ IsStrs w v.1 (l.getD i rulZ).names ∧ IsCnds w v.2 (l.getD i rulZ).cnd.kids) (undef, undef) n fun i hi => by
      obtain ⟨g1, ks, k, g3, g4, g5⟩ := hat i hi
      exact ⟨(ks, k), g3, g1, g4, g5⟩
    refine ⟨vs, ⟨by omega, fun i hi => (hvs i (by omega)).2⟩, .inr ⟨_, rfl, fun j u hj => ?_⟩⟩
    have hjl : j < n * 9 := by
      have := (List.getElem?_eq_some_iff.1 hj).1
      rw [rulsCells_len l vs (by omega), h1] at this
      exact this
    have hd : j = j / 9 * 9 + j % 9 := by omega
    rw [hd, rulsCells_get l vs (by omega) (j / 9) (by omega) (j % 9) (by omega)] at hj
    have := (hvs (j / 9) (by omega)).1 _ _ hj
    rw [addr_add]
    rwa [show off + j = off + j / 9 * 9 + j % 9 by omega]
theorem rulsCells_one (l : List Rul) (vs : List (Value × Value)) {w : World} (h : RvOk w l vs) : ∀ u ∈ rulsCells l vs, u.oneCell' = true := by
  intro u hu
  obtain ⟨p, hp, hu⟩ := List.mem_flatMap.1 hu
  obtain ⟨i, hi, e⟩ := List.mem_iff_getElem.1 hp
  rw [List.length_zip] at hi
  rw [List.getElem_zip] at e
  have h0 := h.2 i (by omega)
  have e1 : l.getD i rulZ = p.1 := by rw [← e]; simp [List.getD, show i < l.length by omega]
  have e2 : vs.getD i (undef, undef) = p.2 := by rw [← e]; simp [List.getD, show i < vs.length by omega]
  rw [e1, e2] at h0
  obtain ⟨_, ⟨a1, n1, c1, q1, _⟩, q2⟩ := h0
  obtain ⟨a2, n2, c2, q2, _⟩ := id q2
  unfold Rul.cells Cnd.cells at hu
  rw [q1, q2] at hu
  simp only [List.mem_cons, List.mem_append, List.not_mem_nil, or_false] at hu
  rcases hu with rfl | rfl | rfl | rfl | rfl | rfl | rfl | rfl | rfl <;> rfl
theorem FrS.old {g : Nat} {w0 w : World} {ks : Value} {l : List ByteArray} (h : IsStrs w0 ks l) (hb : Below w0.heap.size w0 w) (hg : w0.heap.size ≤ g) : FrS g w ks l := fun w'' hs hk => by
  obtain ⟨a, len, cap, rfl, h1, h2, h3, h4, h5⟩ := h
  refine ⟨a, len, cap, rfl, h1, h2, h3, h4, h5.imp id ?_⟩
  rintro ⟨b, off, rfl, hlt, hat⟩
  have hbs := hb.size
  exact ⟨b, off, rfl, by omega, fun i hi => (cell_of_heap ((hk b (by omega) (by omega)).trans (hb.block b hlt))).trans (hat i hi)⟩
/-- a new row that the rules' cells were copied to -/
theorem QAt.new {w0 w : World} {base g n c : Nat} {L : List Rul} {vs : List (Value × Value)} (h : w.ownsRow base 46 9 (.slice (some ⟨g, 0, none⟩) n c) n (rulsCells L vs)) (hn : L.length = n) (hv : RvOk w0 L vs) (hb : w0.heap.size ≤ base) (hw : Below w0.heap.size w0 w) : QAt w0 w g n L := by
  rcases id h.2 with ⟨he, _⟩ | ⟨g2, cap, cur, he, hg, hh, hn2, hc, hcs, htake⟩
  · cases he
  · injection he with e1 e2 e3
    injection e1 with e1
    injection e1 with e1
    subst e1
    refine ⟨hn, by omega, hw, ⟨cur, hh, by rw [hcs]; exact Nat.mul_le_mul_right _ hn2⟩, fun i hi => ?_⟩
    obtain ⟨q1, q2, q3⟩ := hv.2 i (by omega)
    refine ⟨q1, _, _, fun t u ht => ?_, FrS.old q2 hw (by omega), q3⟩
    have ht9 : t < 9 := by have := (List.getElem?_eq_some_iff.1 ht).1; rwa [Rul.cells_len] at this
    have := h.cells (g := g) rfl (i * 9 + t) u (by rw [rulsCells_get L vs hv.1 i (by omega) t ht9]; exact ht)
    rw [addr_add] at this
    rwa [show 0 + (i * 9 + t) = i * 9 + t by omega] at this
end Go.Proofs.Ytbcoooaoofbboaa
