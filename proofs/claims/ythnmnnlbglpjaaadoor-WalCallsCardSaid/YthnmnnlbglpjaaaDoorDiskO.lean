/- What follows of a write. -/
import Derived.Test.YthnmnnlbglpjaaaDoorDiskWr
namespace Go.Proofs.YthnmnnlbglpjaaaDoor
open Go.RowKit
set_option linter.unusedVariables false

theorem fits_trim (x : ByteArray) (h : (trimS x).size ≤ 512) : fitsB (trimS x) = true := decide_eq_true ⟨h, trimS_twice x⟩
theorem write_right (d : Dsk) (s : Int) (x : ByteArray) (h : rightD d = true) (hs : 0 ≤ s ∧ s < d.secs.length) (hx : (trimS x).size ≤ 512) : rightD (writeD d s x) = true := by
  unfold rightD at h ⊢
  simp only [Bool.and_eq_true] at h
  show (decide (1 ≤ d.secs.length ∧ d.secs.length ≤ 256) && d.secs.all fitsB && (d.pend ++ [(⟨s, trimS x⟩ : Wrt)]).all (Wrt.fits d.secs.length)) = true
  rw [h.1.1, h.1.2, List.all_append, h.2, List.all_cons, List.all_nil]
  simp only [Wrt.fits, fits_trim x hx, decide_eq_true hs, Bool.and_self]
theorem tellsL_append (d : Dsk) (y : Wrt) (n : Nat) : ∀ k, k ≤ d.pend.length → tellsL ⟨d.secs, d.pend ++ [y]⟩ n k = tellsL d n k
  | 0, _ => rfl
  | k + 1, h => by
    have e : (d.pend ++ [y]).getD k wrtZ = d.pend.getD k wrtZ := by
      rw [List.getD_eq_getElem?_getD, List.getElem?_append_left (by omega), ← List.getD_eq_getElem?_getD]
    rw [tellsL, tellsL, tellsL_append d y n k (by omega)]
    show (if ((d.pend ++ [y]).getD k wrtZ).sector = n then ((d.pend ++ [y]).getD k wrtZ).bytes else _) = _
    rw [e]
theorem write_tells (d : Dsk) (s : Int) (x : ByteArray) (n : Nat) : tells (writeD d s x) n = if s = n then trimS x else tells d n := by
  unfold tells writeD
  show tellsL ⟨d.secs, d.pend ++ [(⟨s, trimS x⟩ : Wrt)]⟩ n (d.pend ++ [(⟨s, trimS x⟩ : Wrt)]).length = _
  rw [List.length_append, List.length_singleton, tellsL, tellsL_append d _ n _ (Nat.le_refl _)]
  have e : (d.pend ++ [(⟨s, trimS x⟩ : Wrt)]).getD d.pend.length wrtZ = ⟨s, trimS x⟩ := by
    rw [List.getD_eq_getElem?_getD, List.getElem?_append_right (Nat.le_refl _)]; simp
  show (if ((d.pend ++ [(⟨s, trimS x⟩ : Wrt)]).getD d.pend.length wrtZ).sector = n then ((d.pend ++ [(⟨s, trimS x⟩ : Wrt)]).getD d.pend.length wrtZ).bytes else _) = _
  rw [e]
theorem IsPower.below {w w' : World} {v : Value} {d : Dsk} {left : Int} (h : IsPower w v d left) (hb : Below w.heap.size w w') : IsPower w' v d left := by
  obtain ⟨sv, pv, rfl, h1, h2⟩ := h
  exact ⟨sv, pv, rfl, h1.below hb, h2.below hb⟩
theorem IsPower.form {w : World} {v : Value} {d : Dsk} {left : Int} (h : IsPower w v d left) : ∃ a cap a' cap', v = .agg #[.slice a d.secs.length cap, .slice a' d.pend.length cap', .int .i64 left] ∧ IsDisk w (.agg #[.slice a d.secs.length cap, .slice a' d.pend.length cap']) d := by
  obtain ⟨sv, pv, rfl, h1, h2⟩ := h
  have h3 := h1; have h4 := h2
  obtain ⟨a, len, cap, rfl, rfl, _⟩ := h1
  obtain ⟨a', len', cap', rfl, rfl, _⟩ := h2
  exact ⟨a, cap, a', cap', rfl, ⟨_, _, rfl, h3, h4⟩⟩
theorem power_of {w : World} {sv pv : Value} {d : Dsk} (left : Int) (h : IsDisk w (.agg #[sv, pv]) d) : IsPower w (.agg #[sv, pv, .int .i64 left]) d left := ⟨sv, pv, rfl, h.secs, h.pend⟩
theorem rot_in (x : Int) (i : Nat) (h0 : 0 < i) (h1 : i ≤ 300) : ∃ B : Nat, (wrap64 (x.tmod i + i)).tmod i = B ∧ B < i ∧ wrap64 (x.tmod i + i) = x.tmod i + i ∧ (x.tmod i + i).tmod i = B := by
  have ha : x.tmod i < i := Int.tmod_lt_of_pos x (by omega)
  have hb : -(i : Int) < x.tmod i := Int.lt_tmod_of_pos x (by omega)
  have hw : wrap64 (x.tmod i + i) = x.tmod i + i := by unfold wrap64; omega
  have he : (x.tmod i + i).tmod i = (x.tmod i + i) % i := Int.tmod_eq_emod_of_nonneg (by omega)
  rw [hw, he]
  refine ⟨((x.tmod i + i) % i).toNat, ?_, ?_, rfl, ?_⟩
  · have := Int.emod_nonneg (x.tmod i + i) (show (i : Int) ≠ 0 by omega); omega
  · have := Int.emod_lt_of_pos (x.tmod i + i) (show (0 : Int) < i by omega); omega
  · have := Int.emod_nonneg (x.tmod i + i) (show (i : Int) ≠ 0 by omega); omega
theorem IsStrs.apart {w w' : World} {v : Value} {l : List ByteArray} (h : IsStrs w v l) {g : Nat} {cs : Array Value} {t : TypeId} {fr : Nat × Nat} (hg : w.heap[g]? = some (.cells cs t fr)) (hno : ∀ (j : Nat) (s : ByteArray), cs[j]? ≠ some (Value.string s))
    (hs : w.heap.size ≤ w'.heap.size) (hk : ∀ b, b ≠ g → w'.heap[b]? = w.heap[b]?) : IsStrs w' v l := by
  obtain ⟨a, len, cap, rfl, hl, h1, h2, h3, hat⟩ := h
  refine ⟨a, len, cap, rfl, hl, h1, h2, h3, ?_⟩
  by_cases h0 : len = 0
  · exact .inl h0
  · obtain ⟨b, off, rfl, hb, hat⟩ := hat.resolve_left h0
    by_cases e : b = g
    · subst e
      have := hat 0 (by omega)
      rw [cell_of_row _ _ _ _ _ _ hg] at this
      exact absurd this (hno _ _)
    · exact .inr ⟨b, off, rfl, Nat.lt_of_lt_of_le hb hs, fun i hi => (World.cell?_of_block (a := ⟨b, off + i, none⟩) (hk b e)).trans (hat i hi)⟩
theorem IsWrts.apart {w w' : World} {v : Value} {l : List Wrt} (h : IsWrts w v l) {g : Nat} {cs : Array Value} {t : TypeId} {fr : Nat × Nat} (hg : w.heap[g]? = some (.cells cs t fr)) (hno : ∀ (j : Nat) (s : ByteArray), cs[j]? ≠ some (Value.string s))
    (hs : w.heap.size ≤ w'.heap.size) (hk : ∀ b, b ≠ g → w'.heap[b]? = w.heap[b]?) : IsWrts w' v l := by
  obtain ⟨a, len, cap, rfl, hl, h1, h2, h3, hat⟩ := h
  refine ⟨a, len, cap, rfl, hl, h1, h2, h3, ?_⟩
  by_cases h0 : len = 0
  · exact .inl h0
  · obtain ⟨b, off, rfl, hb, hat⟩ := hat.resolve_left h0
    by_cases e : b = g
    · subst e
      have := (hat 0 (by omega)).2
      rw [cell_of_row _ _ _ _ _ _ hg] at this
      exact absurd this (hno _ _)
    · exact .inr ⟨b, off, rfl, Nat.lt_of_lt_of_le hb hs, fun i hi => ⟨(World.cell?_of_block (a := ⟨b, off + i * 2, none⟩) (hk b e)).trans (hat i hi).1, (World.cell?_of_block (a := ⟨b, off + i * 2 + 1, none⟩) (hk b e)).trans (hat i hi).2⟩⟩
theorem IsPower.apart {w w' : World} {v : Value} {d : Dsk} {left : Int} (h : IsPower w v d left) {g : Nat} {cs : Array Value} {t : TypeId} {fr : Nat × Nat} (hg : w.heap[g]? = some (.cells cs t fr)) (hno : ∀ (j : Nat) (s : ByteArray), cs[j]? ≠ some (Value.string s))
    (hs : w.heap.size ≤ w'.heap.size) (hk : ∀ b, b ≠ g → w'.heap[b]? = w.heap[b]?) : IsPower w' v d left := by
  obtain ⟨sv, pv, rfl, h1, h2⟩ := h
  exact ⟨sv, pv, rfl, h1.apart hg hno hs hk, h2.apart hg hno hs hk⟩
theorem no_text (a b : Option Addr) (n c n' c' : Nat) (x : Int) : ∀ (j : Nat) (s : ByteArray), (#[Value.slice a n c, .slice b n' c', .int .i64 x] : Array Value)[j]? ≠ some (Value.string s)
  | 0, _ => by simp
  | 1, _ => by simp
  | 2, _ => by simp
  | j + 3, _ => by simp
/-- three cells of a block of three are set -/
def set3 (w : World) (g : Nat) (x y z : Value) : World := ((w.setCell ⟨g, 0, none⟩ x).setCell ⟨g, 1, none⟩ y).setCell ⟨g, 2, none⟩ z
theorem set3_size (w : World) (g : Nat) (x y z : Value) : (set3 w g x y z).heap.size = w.heap.size := by simp [set3]
theorem set3_other (w : World) (g : Nat) (x y z : Value) (b : Nat) (h : b ≠ g) : (set3 w g x y z).heap[b]? = w.heap[b]? :=
  (Below.heap_setCell _ _ _ _ h).trans ((Below.heap_setCell _ _ _ _ h).trans (Below.heap_setCell _ _ _ _ h))
theorem set3_block {w : World} {g : Nat} {x0 y0 z0 : Value} {t : TypeId} (h : w.heap[g]? = some (.cells #[x0, y0, z0] t (0, 0))) (x y z : Value) : (set3 w g x y z).heap[g]? = some (.cells #[x, y, z] t (0, 0)) :=
  block_set (block_set (block_set h 0 x) 1 y) 2 z
theorem set3_below {a w : World} {B g : Nat} (h : Below B a w) (hg : B ≤ g) (x y z : Value) : Below B a (set3 w g x y z) :=
  ((h.setCell (p := ⟨g, 0, none⟩) hg _).setCell (p := ⟨g, 1, none⟩) hg _).setCell (p := ⟨g, 2, none⟩) hg _
end Go.Proofs.YthnmnnlbglpjaaaDoor
