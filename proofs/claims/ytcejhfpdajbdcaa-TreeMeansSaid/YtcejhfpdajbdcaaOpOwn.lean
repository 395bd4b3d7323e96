/- Rows of steps of the call's own. -/
import Derived.Test.YtcejhfpdajbdcaaOp
import Derived.Test.YtcejhfpdajbdcaaRow1
import Derived.Laws.AppendOwnNone
namespace Go.Proofs.Ytcejhfpdajbdcaa
open Go.ChangeShapes Go.WideShapes Go.ChangeAt Go.RowKit Go.Joins Go.Deep
set_option linter.unusedVariables false

/-- 's = append(s, x, y ..)': the new ones lie in the block that was laid last; s is the call's own. -/
theorem wpList_pushes {P : Program} {ops : Array Oper} {rest : List Oper} {o : Oper} {a : Act} {Q : Exit → Act → World → Prop} {w w0 : World}
    (s x : Operand) (t : TypeId) (e : TypeId) {i : TypeInfo} {z : Value} {size bytes m : Nat} {base : Nat} {v : Value} {n : Nat} {xs news : List Value}
    (hown : w.ownsRow base e size v n xs) (hbel : Below base w0 w) (hbase : base ≤ w0.heap.size)
    (ht : P.underlying t = some (.slice e)) (hi : P.info? e = some i) (hz : i.zero = some z)
    (hsize : i.size = size) (hby : i.bytes = bytes) (hzs : z.cells.size = size) (hsz : 0 < size)
    (hgd : o.guard = none) (ho : o.op = .call { callee := .builtin .append, args := #[s, x], argTypes := #[t, t] })
    (hs : a.eval s = v) (hx : a.eval x = .slice (some ⟨w.heap.size, 0, none⟩) m m)
    (hl : news.length = m * size) (h1 : ∀ u ∈ news, u.oneCell' = true)
    (hroom : n + m ≤ 17592186044416 ∧ (n + m) * bytes ≤ 140737488355328)
    (h : ∀ v' w', w'.ownsRow base e size v' (n + m) (xs ++ news) → Below base w0 w' → wpList P ops Q rest (a.put o.dst v') w') :
    wpList P ops Q (o :: rest) a (w.alloc (.cells news.toArray e)) := by
  refine wpList_append_own (w := w.alloc (.cells news.toArray e)) hgd s x t ho base e i z size bytes ht hi hz hsize hby hzs hsz v n xs hs (hown.alloc _) ⟨w.heap.size, 0, none⟩ m m news hx hl (cells_new w news e) h1
    (by unfold maxLen; omega) hroom.2 (by have := hbel.size; simp; omega) ?_
  intro v' w' h2 h3 h4
  refine h v' w' h2 ?_
  have hb1 : Below base w0 (w.alloc (.cells news.toArray e)) := hbel.alloc (by have := hbel.size; omega) _
  refine hb1.grown h3 (by have := hbel.size; simp; omega) ?_
  intro k hk
  exact (hown.lt k hk).1

def stpCells (l : List Stp) : List Value := l.flatMap Stp.cells
theorem stpCells_len (l : List Stp) : (stpCells l).length = l.length * 4 := by
  induction l with
  | nil => rfl
  | cons a l ih => rw [stpCells, List.flatMap_cons, List.length_append, ← stpCells, ih, List.length_cons]; simp [Stp.cells]; omega
theorem stpCells_one (l : List Stp) : ∀ u ∈ stpCells l, u.oneCell' = true := by
  intro u hu
  obtain ⟨i, _, hi⟩ := List.mem_flatMap.1 hu
  simp only [Stp.cells, List.mem_cons, List.not_mem_nil, or_false] at hi
  rcases hi with rfl | rfl | rfl | rfl <;> rfl
theorem stpCells_append (l m : List Stp) : stpCells (l ++ m) = stpCells l ++ stpCells m := by simp [stpCells]
theorem stpCells_at (l : List Stp) (i j : Nat) (hi : i < l.length) (hj : j < 4) : (stpCells l)[i * 4 + j]? = (l.getD i stpZ).cells[j]? := by
  induction l generalizing i with
  | nil => simp at hi
  | cons a l ih =>
    rw [stpCells, List.flatMap_cons, ← stpCells]
    cases i with
    | zero => rw [List.getElem?_append_left (by simp [Stp.cells]; omega)]; simp
    | succ i =>
      rw [List.getElem?_append_right (by simp [Stp.cells]; omega), show (i + 1) * 4 + j - a.cells.length = i * 4 + j from by simp [Stp.cells]; omega, ih i (by simpa using hi)]
      rfl
theorem own_ops {w : World} {base : Nat} {v : Value} {l : List Stp} {n : Nat} (h : w.ownsRow base 67 4 v n (stpCells l)) (hn : n = l.length) (hb : ∀ i ∈ l, i.bounded) : IsOps w v l := by
  subst hn
  rcases h.2 with ⟨rfl, h0⟩ | ⟨g, cap, cur, rfl, hg, hh, hn, hc, hcs, htake⟩
  · exact ⟨none, 0, 0, rfl, h0, by omega, by omega, hb, fun _ => rfl, .inl rfl⟩
  · refine ⟨_, _, cap, rfl, rfl, hn, by unfold maxLen at hc; exact hc, hb, (fun h => by cases h), ?_⟩
    by_cases h0 : l.length = 0
    · exact .inl h0
    · refine .inr ⟨g, 0, rfl, (h.lt g rfl).2, fun i hi => ?_⟩
      have hat : ∀ j u, j < 4 → (l.getD i stpZ).cells[j]? = some u → w.cell? ⟨g, i * 4 + j, none⟩ = some u := by
        intro j u hj hu
        have := h.cells (g := g) rfl (i * 4 + j) u (by rw [stpCells_at l i j hi hj]; exact hu)
        rwa [addr_add, Nat.zero_add] at this
      have h0 := hat 0 _ (by omega) rfl
      have h1 := hat 1 _ (by omega) rfl
      have h2 := hat 2 _ (by omega) rfl
      have h3 := hat 3 _ (by omega) rfl
      exact ⟨by simpa using h0, by simpa using h1, by simpa using h2, by simpa using h3⟩
theorem ops_source {w : World} {A : Option Addr} {len cap : Nat} {l : List Stp} (h : IsOps w (.slice A len cap) l) :
    (A = none ∧ len = 0 ∧ cap = 0 ∧ stpCells l = []) ∨ ∃ ad, A = some ad ∧ ∀ j u, (stpCells l)[j]? = some u → w.cell? (ad.add j) = some u := by
  obtain ⟨a, len', cap', hv, hlen, hc1, hc2, hbd, hn, hat⟩ := h
  injection hv with h1 h2 h3
  subst h1 h2 h3
  cases A with
  | none =>
    left
    have := hn rfl
    subst this
    obtain rfl : len = 0 := by omega
    exact ⟨rfl, rfl, rfl, by rw [List.eq_nil_of_length_eq_zero hlen]; rfl⟩
  | some ad =>
    refine .inr ⟨ad, rfl, fun j u hj => ?_⟩
    have hlt : j < (stpCells l).length := (List.getElem?_eq_some_iff.1 hj).1
    rw [stpCells_len] at hlt
    obtain ⟨b, off, hab, hb, hat2⟩ := hat.resolve_left (by omega)
    injection hab with hab
    subst hab
    have hdiv : j = j / 4 * 4 + j % 4 := by omega
    have hi : j / 4 < l.length := by omega
    rw [hdiv, stpCells_at l (j / 4) (j % 4) hi (by omega)] at hj
    obtain ⟨c0, c1, c2, c3⟩ := hat2 (j / 4) (by omega)
    rw [addr_add, hdiv, ← Nat.add_assoc]
    have h4 : j % 4 = 0 ∨ j % 4 = 1 ∨ j % 4 = 2 ∨ j % 4 = 3 := by omega
    rcases h4 with h4 | h4 | h4 | h4 <;> rw [h4] at hj ⊢ <;> (simp only [Stp.cells] at hj; injection hj with hj; subst hj; assumption)
theorem infoOp : (Try.prog.info? 67).map (fun i => (i.zero, i.size, i.bytes)) = some (some (.agg #[.int .i64 0, .int .u32 0, .int .i64 0, .int .i64 0]), 4, 32) := by kernel_rfl
end Go.Proofs.Ytcejhfpdajbdcaa
