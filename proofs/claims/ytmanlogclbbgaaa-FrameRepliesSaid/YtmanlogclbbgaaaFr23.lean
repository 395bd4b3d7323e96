/- Lines of an answer, whose numbers lie in rows of the call's own; what a line read holds. -/
import Derived.Test.YtmanlogclbbgaaaFr22
namespace Go.Proofs.Ytmanlogclbbgaaa
open Go.RowKit
set_option linter.unusedVariables false
set_option linter.unusedSimpArgs false

def RowV (w : World) (B : Nat) (xs : List Value) (l : List Ln) : Prop :=
  xs.length = l.length * 3 ∧ ∀ j, j < l.length → (l.getD j lnZ).bounded ∧ xs[j * 3]? = some (.string (l.getD j lnZ).name) ∧ xs[j * 3 + 1]? = some (.int .i64 (l.getD j lnZ).cur) ∧
    ∃ k, xs[j * 3 + 2]? = some k ∧ w.ownsRow B 3 1 k (l.getD j lnZ).nos.length (nosV (l.getD j lnZ).nos)
theorem own_tag {w : World} {base : Nat} {e T : TypeId} {size : Nat} {v : Value} {n : Nat} {xs : List Value} (h : w.ownsRow base e size v n xs) {B : Nat} {cs : Array Value} (hB : w.heap[B]? = some (.cells cs T (0, 0))) (hT : T ≠ e) : v.ownBlock ≠ some B := by
  rcases h.2 with ⟨rfl, _⟩ | ⟨g, cap, cur, rfl, _, hg, _⟩
  · simp [Value.ownBlock]
  · intro he
    have he : g = B := by simpa [Value.ownBlock] using he
    subst he
    rw [hg] at hB
    injection hB with hB
    injection hB with _ hB
    exact hT hB.symm
theorem RowV.kept {w w' : World} {B : Nat} {xs : List Value} {l : List Ln} (h : RowV w B xs l) {X : Nat} (hg : w.grownBy w' (some X)) (hX : X < B ∨ ∃ cs, w.heap[X]? = some (.cells cs 66 (0, 0))) : RowV w' B xs l := by
  refine ⟨h.1, fun j hj => ?_⟩
  obtain ⟨a, c, d, k, f, g⟩ := h.2 j hj
  refine ⟨a, c, d, k, f, g.kept hg (.inr ?_)⟩
  rcases hX with hX | ⟨cs, hX⟩
  · intro hk
    have := (g.lt X hk).1
    omega
  · exact own_tag g hX (by decide)
theorem RowV.drew {w : World} {B : Nat} {xs : List Value} {l : List Ln} (h : RowV w B xs l) : RowV w.drew B xs l :=
  ⟨h.1, fun j hj => by
    obtain ⟨a, c, d, k, f, g⟩ := h.2 j hj
    exact ⟨a, c, d, k, f, g.drew⟩⟩
theorem RowV.snoc {w : World} {B : Nat} {xs : List Value} {l : List Ln} {e : Ln} {k : Value} (h : RowV w B xs l) (hb : e.bounded) (hk : w.ownsRow B 3 1 k e.nos.length (nosV e.nos)) : RowV w B (xs ++ e.cells k) (l ++ [e]) := by
  obtain ⟨h1, h2⟩ := h
  refine ⟨by rw [List.length_append, List.length_append, h1]; simp [Ln.cells]; omega, fun j hj => ?_⟩
  by_cases hl : j < l.length
  · obtain ⟨a, b, c, k', e', f⟩ := h2 j hl
    rw [show (l ++ [e]).getD j lnZ = l.getD j lnZ from by simp [List.getD, List.getElem?_append_left hl]]
    refine ⟨a, ?_, ?_, k', ?_, f⟩ <;> (rw [List.getElem?_append_left (by omega)]; assumption)
  · have hj' : j = l.length := by rw [List.length_append] at hj; simp at hj; omega
    subst hj'
    rw [show (l ++ [e]).getD l.length lnZ = e from by simp [List.getD]]
    refine ⟨hb, ?_, ?_, k, ?_, hk⟩ <;> (rw [List.getElem?_append_right (by omega), h1]; simp [Ln.cells])
theorem nos_own {w : World} {B : Nat} {k : Value} {l : List Int} (h : w.ownsRow B 3 1 k l.length (nosV l)) : Reads1 encI w k l := by
  rcases h.2 with ⟨rfl, h0⟩ | ⟨g, cap, cur, rfl, hg, hh, hn, hc, hcs, htake⟩
  · exact ⟨none, 0, 0, rfl, h0, by omega, by omega, .inl rfl⟩
  · refine ⟨_, _, cap, rfl, rfl, hn, by unfold maxLen at hc; exact hc, ?_⟩
    by_cases h0 : l.length = 0
    · exact .inl h0
    · refine .inr ⟨g, 0, rfl, (h.lt g rfl).2, fun i hi => ?_⟩
      have := h.cells (g := g) rfl i (.int .i64 l[i]) (by simp [nosV, hi])
      rw [show (⟨g, 0, none⟩ : Addr).add i = ⟨g, i, none⟩ from by unfold Addr.add; split <;> simp_all] at this
      rw [Nat.zero_add]
      exact this
theorem RowV.row {w : World} {B : Nat} {xs : List Value} {l : List Ln} (h : RowV w B xs l) : RowL w xs l :=
  ⟨h.1, fun j hj => by
    obtain ⟨a, c, d, k, e, f⟩ := h.2 j hj
    exact ⟨a, c, d, k, e, nos_own f⟩⟩
theorem RowV.grew {w w' : World} {B : Nat} {xs ys : List Value} {l : List Ln} (h : RowV w B xs l) {v v' : Value} {n m : Nat} {zs : List Value} (_ : w'.ownsRow B 66 3 v' m ys) (hg : w.grownBy w' v.ownBlock) (hv : w.ownsRow B 66 3 v n zs) : RowV w' B xs l := by
  cases hX : v.ownBlock with
  | none =>
    rw [hX] at hg
    refine ⟨h.1, fun j hj => ?_⟩
    obtain ⟨a, c, d, k, f, g⟩ := h.2 j hj
    exact ⟨a, c, d, k, f, g.kept hg (Classical.em _)⟩
  | some X =>
    rw [hX] at hg
    refine h.kept hg (.inr ?_)
    rcases hv.2 with ⟨rfl, _⟩ | ⟨g, cap, cur, rfl, _, hh, _⟩
    · simp [Value.ownBlock] at hX
    · have : g = X := by simpa [Value.ownBlock] using hX
      subst this
      exact ⟨cur, hh⟩
/-- what has been taken, and what is still to be read -/
def concL (acc : List Ln) (o : Option (List Ln × Nat)) : Option (List Ln × Nat) := o.map fun x => (acc ++ x.1, x.2)
theorem prLns_none {s : ByteArray} {acc : List Ln} {n p : Nat} (h : prLn s p = none) : concL acc (prLns s (n + 1) p) = none := by
  rw [prLns, h]; rfl
theorem prLns_some {s : ByteArray} {acc : List Ln} {n p q : Nat} {x : Ln} (h : prLn s p = some (x, q)) : concL acc (prLns s (n + 1) p) = concL (acc ++ [x]) (prLns s n q) := by
  rw [prLns, h]
  simp only [Option.bind_some]
  unfold concL
  cases prLns s n q with
  | none => rfl
  | some y => obtain ⟨l, r⟩ := y; simp
end Go.Proofs.Ytmanlogclbbgaaa
