/- Conditions whose parts lie in new blocks alone; rows of conditions that are made anew one by one: the plain side. -/
import Derived.Test.YtbcoooaoofbboaaCnd3
namespace Go.Proofs.Ytbcoooaoofbboaa
open Go.RowKit Go.ChangeShapes
set_option linter.unusedVariables false
set_option linter.unusedSimpArgs false

mutual
/-- the condition stands at six cells, and all within it in blocks from base on -/
def CndIn (w : World) (base : Nat) : Cnd → Nat → Nat → Prop
  | .mk kind kids arg mask sign value, b, o => (Cnd.mk kind kids arg mask sign value).bounded ∧ ∃ a len cap, (∀ j u, ((Cnd.mk kind kids arg mask sign value).cells (.slice a len cap))[j]? = some u → w.cell? ⟨b, o + j, none⟩ = some u) ∧
      kids.length = len ∧ len ≤ cap ∧ cap ≤ 9223372036854775807 ∧ (a = none → cap = 0) ∧ (len = 0 ∨ ∃ b' o', a = some ⟨b', o', none⟩ ∧ base ≤ b' ∧ b' < w.heap.size ∧ KidsIn w base kids b' o')
def KidsIn (w : World) (base : Nat) : List Cnd → Nat → Nat → Prop
  | [], _, _ => True
  | k :: ks, b, o => CndIn w base k b o ∧ KidsIn w base ks b (o + 6)
end
def IsIn (w : World) (base : Nat) (v : Value) (l : List Cnd) : Prop :=
  ∃ a len cap, v = .slice a len cap ∧ l.length = len ∧ len ≤ cap ∧ cap ≤ 9223372036854775807 ∧ (a = none → cap = 0) ∧ (len = 0 ∨ ∃ b o, a = some ⟨b, o, none⟩ ∧ base ≤ b ∧ b < w.heap.size ∧ KidsIn w base l b o)
theorem cndIn_iff (w : World) (base : Nat) (c : Cnd) (b o : Nat) : CndIn w base c b o ↔ c.bounded ∧ ∃ k, (∀ j u, (c.cells k)[j]? = some u → w.cell? ⟨b, o + j, none⟩ = some u) ∧ IsIn w base k c.kids := by
  cases c with
  | mk kind kids arg mask sign value =>
    rw [CndIn]
    constructor
    · rintro ⟨hb, a, len, cap, h1, h2⟩
      exact ⟨hb, _, h1, a, len, cap, rfl, h2⟩
    · rintro ⟨hb, k, h1, a, len, cap, rfl, h2⟩
      exact ⟨hb, a, len, cap, h1, h2⟩
theorem kidsIn_of (w : World) (base : Nat) : ∀ (l : List Cnd) (b o : Nat), (∀ i, i < l.length → CndIn w base (l.getD i cndZ) b (o + i * 6)) → KidsIn w base l b o
  | [], _, _, _ => by rw [KidsIn]; trivial
  | k :: ks, b, o, h => by
    rw [KidsIn]
    refine ⟨by simpa using h 0 (by simp), kidsIn_of w base ks b (o + 6) fun i hi => ?_⟩
    have := h (i + 1) (by simpa using hi)
    rw [show o + (i + 1) * 6 = o + 6 + i * 6 by omega] at this
    simpa using this
mutual
theorem CndIn.at {w : World} {base : Nat} : ∀ (c : Cnd) (b o : Nat), CndIn w base c b o → CndAt w c b o
  | .mk kind kids arg mask sign value, b, o, h => by
    rw [CndIn] at h
    rw [CndAt]
    obtain ⟨hbd, a, len, cap, h1, h2, h3, h4, h5, h6⟩ := h
    refine ⟨hbd, a, len, cap, h1, h2, h3, h4, h5, h6.imp id ?_⟩
    rintro ⟨b', o', e, _, hlt', hk⟩
    exact ⟨b', o', e, hlt', KidsIn.at kids b' o' hk⟩
theorem KidsIn.at {w : World} {base : Nat} : ∀ (l : List Cnd) (b o : Nat), KidsIn w base l b o → KidsAt w l b o
  | [], _, _, _ => by rw [KidsAt]; trivial
  | k :: ks, b, o, h => by
    rw [KidsIn] at h
    rw [KidsAt]
    exact ⟨CndIn.at k b o h.1, KidsIn.at ks b (o + 6) h.2⟩
end
theorem IsIn.is {w : World} {base : Nat} {v : Value} {l : List Cnd} (h : IsIn w base v l) : IsCnds w v l := by
  obtain ⟨a, len, cap, rfl, h1, h2, h3, h4, h5⟩ := h
  refine ⟨a, len, cap, rfl, h1, h2, h3, h4, h5.imp id ?_⟩
  rintro ⟨b, o, e, _, hlt, hk⟩
  exact ⟨b, o, e, hlt, KidsIn.at l b o hk⟩
/-- the blocks from base on are as they were -/
def SameOn (base : Nat) (w w' : World) : Prop := w.heap.size ≤ w'.heap.size ∧ ∀ k, base ≤ k → k < w.heap.size → w'.heap[k]? = w.heap[k]?
theorem cell_of_heap {w w' : World} {b o : Nat} (h : w'.heap[b]? = w.heap[b]?) : w'.cell? ⟨b, o, none⟩ = w.cell? ⟨b, o, none⟩ := by
  unfold World.cell?
  rw [h]
mutual
theorem CndIn.same {w w' : World} {base base' : Nat} (hs : SameOn base w w') (hbb : base' ≤ base) : ∀ (c : Cnd) (b o : Nat), base ≤ b → b < w.heap.size → CndIn w base c b o → CndIn w' base' c b o
  | .mk kind kids arg mask sign value, b, o, hb, hlt, h => by
    rw [CndIn] at h ⊢
    obtain ⟨hbd, a, len, cap, h1, h2, h3, h4, h5, h6⟩ := h
    refine ⟨hbd, a, len, cap, fun j u hu => (cell_of_heap (hs.2 b hb hlt)).trans (h1 j u hu), h2, h3, h4, h5, h6.imp id ?_⟩
    rintro ⟨b', o', e, hb', hlt', hk⟩
    exact ⟨b', o', e, Nat.le_trans hbb hb', Nat.lt_of_lt_of_le hlt' hs.1, KidsIn.same hs hbb kids b' o' hb' hlt' hk⟩
theorem KidsIn.same {w w' : World} {base base' : Nat} (hs : SameOn base w w') (hbb : base' ≤ base) : ∀ (l : List Cnd) (b o : Nat), base ≤ b → b < w.heap.size → KidsIn w base l b o → KidsIn w' base' l b o
  | [], _, _, _, _, _ => by rw [KidsIn]; trivial
  | k :: ks, b, o, hb, hlt, h => by
    rw [KidsIn] at h ⊢
    exact ⟨CndIn.same hs hbb k b o hb hlt h.1, KidsIn.same hs hbb ks b (o + 6) hb hlt h.2⟩
end
theorem IsIn.same {w w' : World} {base base' : Nat} {v : Value} {l : List Cnd} (h : IsIn w base v l) (hs : SameOn base w w') (hbb : base' ≤ base) : IsIn w' base' v l := by
  obtain ⟨a, len, cap, rfl, h1, h2, h3, h4, h5⟩ := h
  refine ⟨a, len, cap, rfl, h1, h2, h3, h4, h5.imp id ?_⟩
  rintro ⟨b, o, e, hb, hlt, hk⟩
  exact ⟨b, o, e, Nat.le_trans hbb hb, Nat.lt_of_lt_of_le hlt hs.1, KidsIn.same hs hbb l b o hb hlt hk⟩
theorem SameOn.of_below {w w' : World} (base : Nat) (h : Below w.heap.size w w') : SameOn base w w' := ⟨h.size, fun k _ hk => h.block k hk⟩
theorem SameOn.trans {base : Nat} {w w' w'' : World} (h : SameOn base w w') (h2 : SameOn base w' w'') : SameOn base w w'' :=
  ⟨Nat.le_trans h.1 h2.1, fun k hb hk => (h2.2 k hb (Nat.lt_of_lt_of_le hk h.1)).trans (h.2 k hb hk)⟩
theorem SameOn.set {base : Nat} {w w' : World} (h : SameOn base w w') {p : Addr} (hp : p.block < base) (v : Value) : SameOn base w (w'.setCell p v) :=
  ⟨by simp [World.setCell]; exact h.1, fun k hb hk => (Below.heap_setCell _ _ _ _ (by omega)).trans (h.2 k hb hk)⟩
theorem six_get (cur : Array Value) (o p : Nat) (v0 v1 v2 v3 v4 v5 : Value) :
    ((((((cur.setIfInBounds o v0).setIfInBounds (o + 1) v1).setIfInBounds (o + 2) v2).setIfInBounds (o + 3) v3).setIfInBounds (o + 4) v4).setIfInBounds (o + 5) v5)[p]? =
      if p < o ∨ o + 6 ≤ p then cur[p]? else if p < cur.size then [v0, v1, v2, v3, v4, v5][p - o]? else none := by
  simp only [Array.getElem?_setIfInBounds, Array.size_setIfInBounds]
  by_cases h : p < o ∨ o + 6 ≤ p
  · rw [if_pos h, if_neg (by omega), if_neg (by omega), if_neg (by omega), if_neg (by omega), if_neg (by omega), if_neg (by omega)]
  · rw [if_neg h]
    obtain ⟨q, hq, rfl⟩ : ∃ q, q < 6 ∧ p = o + q := ⟨p - o, by omega, by omega⟩
    rw [Nat.add_sub_cancel_left]
    rcases (by omega : q = 0 ∨ q = 1 ∨ q = 2 ∨ q = 3 ∨ q = 4 ∨ q = 5) with rfl | rfl | rfl | rfl | rfl | rfl
    · by_cases hs : o < cur.size
      · simp [hs]; try omega
      · simp [hs]; try omega
    · by_cases hs : o + 1 < cur.size
      · simp [hs]; try omega
      · simp [hs]; try omega
    · by_cases hs : o + 2 < cur.size
      · simp [hs]; try omega
      · simp [hs]; try omega
    · by_cases hs : o + 3 < cur.size
      · simp [hs]; try omega
      · simp [hs]; try omega
    · by_cases hs : o + 4 < cur.size
      · simp [hs]; try omega
      · simp [hs]; try omega
    · by_cases hs : o + 5 < cur.size
      · simp [hs]; try omega
      · simp [hs]; try omega
/-- the row of conditions l stands in block g; the first j of them are made anew -/
structure RowC (w wr : World) (g : Nat) (l : List Cnd) (js : List Value) (j : Nat) : Prop where
  blk : ∃ cur : Array Value, wr.heap[g]? = some (.cells cur 25 (0, 0)) ∧ l.length * 6 ≤ cur.size ∧ ∀ i, i < l.length → ∀ q u, ((l.getD i cndZ).cells (js.getD i undef))[q]? = some u → cur[i * 6 + q]? = some u
  len : js.length = l.length
  done : ∀ i, i < j → IsIn wr (g + 1) (js.getD i undef) (l.getD i cndZ).kids
  rest : ∀ i, j ≤ i → i < l.length → IsCnds w (js.getD i undef) (l.getD i cndZ).kids
theorem cells_six (c : Cnd) (k : Value) (q : Nat) (u : Value) (h : (c.cells k)[q]? = some u) : q < 6 := by
  have := (List.getElem?_eq_some_iff.1 h).1
  simpa [Cnd.cells] using this
theorem RowC.step {w wr w8 : World} {g : Nat} {l : List Cnd} {js : List Value} {j : Nat} (h : RowC w wr g l js j) (hj : j < l.length) (hb : Below wr.heap.size wr w8) {k' : Value} (hk : IsIn w8 (g + 1) k' (l.getD j cndZ).kids) :
    RowC w ((((((w8.setCell ⟨g, j * 6, none⟩ (.int .i64 (l.getD j cndZ).kind)).setCell ⟨g, j * 6 + 1, none⟩ k').setCell ⟨g, j * 6 + 2, none⟩ (.int .i64 (l.getD j cndZ).arg)).setCell ⟨g, j * 6 + 3, none⟩ (.int .u64 ((l.getD j cndZ).mask : Nat))).setCell ⟨g, j * 6 + 4, none⟩ (.string (l.getD j cndZ).sign)).setCell ⟨g, j * 6 + 5, none⟩ (.int .u64 ((l.getD j cndZ).value : Nat))) g l (js.set j k') (j + 1) := by
  obtain ⟨cur, hcur, hsz, hcells⟩ := h.blk
  have hb8 := (hb.block _ (lt_of_block hcur)).trans hcur
  have hs : SameOn (g + 1) w8 _ := ((((((SameOn.of_below (g + 1) (Below.refl w8.heap.size w8)).set (p := ⟨g, j * 6, none⟩) (Nat.lt_succ_self g) (.int .i64 (l.getD j cndZ).kind)).set (p := ⟨g, j * 6 + 1, none⟩) (Nat.lt_succ_self g) k').set (p := ⟨g, j * 6 + 2, none⟩) (Nat.lt_succ_self g) (.int .i64 (l.getD j cndZ).arg)).set (p := ⟨g, j * 6 + 3, none⟩) (Nat.lt_succ_self g) (.int .u64 ((l.getD j cndZ).mask : Nat))).set (p := ⟨g, j * 6 + 4, none⟩) (Nat.lt_succ_self g) (.string (l.getD j cndZ).sign)).set (p := ⟨g, j * 6 + 5, none⟩) (Nat.lt_succ_self g) (.int .u64 ((l.getD j cndZ).value : Nat))
  refine ⟨⟨_, block_set (block_set (block_set (block_set (block_set (block_set hb8 _ _) _ _) _ _) _ _) _ _) _ _, by simpa using hsz, fun i hi q u hq => ?_⟩, by rw [List.length_set]; exact h.len, fun i hi => ?_, fun i hi1 hi2 => ?_⟩
  · have hq6 := cells_six _ _ _ _ hq
    rw [six_get]
    by_cases hij : i = j
    · subst hij
      rw [if_neg (by omega), if_pos (by omega), Nat.add_sub_cancel_left]
      have e : (js.set i k').getD i undef = k' := by simp [List.getD, h.len, hj]
      rw [e] at hq
      exact hq
    · rw [if_pos (by omega)]
      have e : (js.set j k').getD i undef = js.getD i undef := by simp [List.getD, List.getElem?_set, show ¬ j = i by omega]
      rw [e] at hq
      exact hcells i hi q u hq
  · by_cases hij : i = j
    · subst hij
      have e : (js.set i k').getD i undef = k' := by simp [List.getD, h.len, hj]
      rw [e]
      exact hk.same hs (Nat.le_refl _)
    · have e : (js.set j k').getD i undef = js.getD i undef := by simp [List.getD, List.getElem?_set, show ¬ j = i by omega]
      rw [e]
      exact (h.done i (by omega)).same ((SameOn.of_below (g + 1) hb).trans hs) (Nat.le_refl _)
  · have e : (js.set j k').getD i undef = js.getD i undef := by simp [List.getD, List.getElem?_set, show ¬ j = i by omega]
    rw [e]
    exact h.rest i (by omega) hi2
/-- all are made anew -/
theorem RowC.all {w wr : World} {g cap base : Nat} {l : List Cnd} {js : List Value} (h : RowC w wr g l js l.length) (hbd : ∀ i, i < l.length → (l.getD i cndZ).bounded) (hc : l.length ≤ cap) (hc2 : cap ≤ 9223372036854775807) (hbase : base ≤ g) :
    IsIn wr base (.slice (some ⟨g, 0, none⟩) l.length cap) l := by
  obtain ⟨cur, hcur, hsz, hcells⟩ := h.blk
  refine ⟨_, _, cap, rfl, rfl, hc, hc2, (fun e => by cases e), .inr ⟨g, 0, rfl, hbase, lt_of_block hcur, kidsIn_of _ _ _ _ _ fun i hi => ?_⟩⟩
  refine (cndIn_iff _ _ _ _ _).2 ⟨hbd i hi, _, fun q u hq => ?_, (h.done i hi).same (SameOn.of_below _ (Below.refl _ _)) (by omega)⟩
  rw [Nat.zero_add, cell_of_row wr g _ _ _ (0, 0) hcur]
  exact hcells i hi q u hq
end Go.Proofs.Ytbcoooaoofbboaa
