/- Slices that came in, element by element: over any program. -/
import Derived.Test.YtbcoooaoofbboaaGen
import Derived.ProofKit
import Derived.Lib.SmallJoins
import Derived.Deep.Slices
namespace Go.Proofs.Ytbcoooaoofbboaa
open Go.ChangeShapes Go.WideShapes Go.ChangeAt Go.RowKit Go.Joins Go.Deep
set_option linter.unusedVariables false

theorem addr_add (b off k : Nat) : (⟨b, off, none⟩ : Addr).add k = ⟨b, off + k, none⟩ := by unfold Addr.add; split <;> simp_all
theorem wf_i64 {a : Int} (h : (Lit.int .i64 a).wf = true) : -9223372036854775808 ≤ a ∧ a ≤ 9223372036854775807 := by simpa [Lit.wf, IntKind.min, IntKind.max, IntKind.signed, IntKind.bits] using h
theorem wf_u32 {a : Int} (h : (Lit.int .u32 a).wf = true) : 0 ≤ a ∧ a ≤ 4294967295 := by simpa [Lit.wf, IntKind.min, IntKind.max, IntKind.signed, IntKind.bits] using h
theorem wf_u64 {a : Int} (h : (Lit.int .u64 a).wf = true) : 0 ≤ a ∧ a ≤ 18446744073709551615 := by simpa [Lit.wf, IntKind.min, IntKind.max, IntKind.signed, IntKind.bits] using h

/-- a list out of what is said of each place -/
theorem list_of {α : Type} {P : Nat → α → Prop} (z : α) (n : Nat) (h : ∀ i, i < n → ∃ a, P i a) : ∃ l : List α, l.length = n ∧ ∀ i, i < n → P i (l.getD i z) := by
  induction n with
  | zero => exact ⟨[], rfl, fun i hi => by omega⟩
  | succ n ih =>
    obtain ⟨l, hl, hP⟩ := ih fun i hi => h i (by omega)
    obtain ⟨a, ha⟩ := h n (by omega)
    refine ⟨l ++ [a], by simp [hl], fun i hi => ?_⟩
    by_cases hlt : i < n
    · have := hP i hlt
      rwa [show (l ++ [a]).getD i z = l.getD i z from by simp [List.getD, List.getElem?_append_left (show i < l.length by omega)]]
    · obtain rfl : i = n := by omega
      rwa [show (l ++ [a]).getD i z = a from by simp [List.getD, ← hl]]

/-- a slice whose elements have C cells each, wherever it stands -/
theorem openElemsS {P : Program} {H : Type} {enc : TypeId × Value → H} {W : World} {v : Value} {d : DataW H} {p : List MemPlace} {t e : TypeId} (C : Nat) (z : Value)
    (ht : P.underlying t = some (.slice e)) (hC : P.cellsOf e = C) (hpos : 0 < C)
    (hv : ∃ a len cap, v = .slice a len cap) (h : DataW.Trod enc P W 0 (fun _ => true) true t v d p) :
    ∃ a len cap, v = .slice a len cap ∧ len ≤ cap ∧ cap ≤ 9223372036854775807 ∧
      (len = 0 ∨ ∃ b off, a = some ⟨b, off, none⟩ ∧ b < W.heap.size ∧ ∀ i, i < len → ∃ cs n y, cs.length = C ∧ (∀ j, j < C → W.cell? ⟨b, off + i * C + j, none⟩ = some (cs.getD j z)) ∧
        DataW.trod enc P W 0 (fun _ => true) true n e cs = some y) := by
  obtain ⟨a0, len, cap, rfl⟩ := hv
  obtain ⟨fuel, hf⟩ := h
  rcases open_slice ht hf with ⟨hcs, _⟩ | ⟨x, l, c, m, n, D, Pl, hcs, _, hl, hm, hmm, _, hi⟩
  · simp [Value.cells] at hcs
    obtain ⟨rfl, rfl, rfl⟩ := hcs
    exact ⟨none, 0, 0, rfl, Nat.le_refl _, by omega, .inl rfl⟩
  · simp [Value.cells] at hcs
    obtain ⟨rfl, rfl, rfl⟩ := hcs
    simp only [if_true] at hmm
    subst hmm
    unfold maxLen at hm
    refine ⟨_, len, _, rfl, hl, hm, ?_⟩
    by_cases h0 : len = 0
    · exact .inl h0
    · right
      have hat : ∀ i, i < len → ∃ cs, cs.length = C ∧ (∀ j, j < C → W.cell? (x.add (i * C + j)) = some (cs.getD j z)) ∧ DataW.trod enc P W 0 (fun _ => true) true n e cs = some (D i, Pl i) := by
        intro i hlt
        obtain ⟨cs, hc, htr⟩ := hi i (by omega)
        rw [hC] at hc
        obtain ⟨_, hcl, hat⟩ := World.cells?_some hc
        refine ⟨cs, hcl, fun j hj => ?_, htr⟩
        have := hat j hj
        rw [Go.Deep.add_add] at this
        rw [this, List.getElem?_eq_getElem (by omega)]
        simp [List.getD, List.getElem?_eq_getElem (show j < cs.length by omega)]
      obtain ⟨b, off, spot⟩ := x
      obtain ⟨cs0, _, hc0, _⟩ := hat 0 (by omega)
      have hc00 := hc0 0 hpos
      have hspot : spot = none := by simpa [Addr.add] using World.cell?_spot hc00
      subst hspot
      have hb : b < W.heap.size := by
        have := World.block_lt_of_cell? _ _ hc00
        rw [addr_add] at this
        exact this
      refine ⟨b, off, rfl, hb, fun i hlt => ?_⟩
      obtain ⟨cs, hl, hc, htr⟩ := hat i hlt
      refine ⟨cs, n, _, hl, fun j hj => ?_, htr⟩
      have := hc j hj
      rw [addr_add, ← Nat.add_assoc] at this
      exact this
/-- a slice whose elements have C cells each -/
theorem openElems {P : Program} {H : Type} {enc : TypeId × Value → H} {W : World} {base : Nat} {v : Value} {d : DataW H} {p : List MemPlace} {t e : TypeId} (C : Nat) (z : Value)
    (ht : P.underlying t = some (.slice e)) (hC : P.cellsOf e = C) (hpos : 0 < C)
    (hok : Value.okWide P W .any base t v) (h : DataW.Trod enc P W 0 (fun _ => true) true t v d p) :
    ∃ a len cap, v = .slice a len cap ∧ len ≤ cap ∧ cap ≤ 9223372036854775807 ∧
      (len = 0 ∨ ∃ b off, a = some ⟨b, off, none⟩ ∧ b < W.heap.size ∧ ∀ i, i < len → ∃ cs n y, cs.length = C ∧ (∀ j, j < C → W.cell? ⟨b, off + i * C + j, none⟩ = some (cs.getD j z)) ∧
        DataW.trod enc P W 0 (fun _ => true) true n e cs = some y) := openElemsS C z ht hC hpos (okWide_slice ht hok) h
/-- a slice that lies in a struct -/
theorem slice_of_trod {P : Program} {H : Type} {enc : TypeId × Value → H} {W : World} {t e : TypeId} {fuel : Nat} {c : Value} {y : DataW H × List MemPlace} (ht : P.underlying t = some (.slice e))
    (h : DataW.trod enc P W 0 (fun _ => true) true fuel t [c] = some y) : (∃ a len cap, c = .slice a len cap) ∧ ∃ d p, DataW.Trod enc P W 0 (fun _ => true) true t c d p := by
  have hv : ∃ a len cap, c = .slice a len cap := by
    rcases DataW.trod_slice ht h with ⟨hcs, _⟩ | ⟨a, len, cap, elems, rest, n, _, hcs, _⟩
    · exact ⟨none, 0, 0, by simpa using hcs⟩
    · exact ⟨_, _, _, by simpa using hcs⟩
  refine ⟨hv, ?_⟩
  obtain ⟨a, len, cap, rfl⟩ := hv
  exact ⟨y.1, y.2, fuel, h⟩
end Go.Proofs.Ytbcoooaoofbboaa
