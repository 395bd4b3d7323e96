/- Two rows of the call's own beside one another. -/
import Derived.Test.YtgglejicbojiaaaDoorRow1
namespace Go.Proofs.YtgglejicbojiaaaDoor
open Go.RowKit
set_option linter.unusedVariables false

/-- 's = append(s, x)': a row of other elements stays the call's own. -/
theorem wpList_push3 {P : Program} {ops : Array Oper} {rest : List Oper} {o : Oper} {a : Act} {Q : Exit → Act → World → Prop} {w w0 : World}
    (s x : Operand) (t : TypeId) (e : TypeId) {i : TypeInfo} {z : Value} {bytes : Nat} {base : Nat} {v : Value} {n : Nat} {xs : List Value} (u : Value)
    {e2 : TypeId} {v2 : Value} {n2 : Nat} {xs2 : List Value} (hown2 : w.ownsRow base e2 1 v2 n2 xs2) (h12 : e2 ≠ e)
    (hown : w.ownsRow base e 1 v n xs) (hbel : Below base w0 w) (hbase : base ≤ w0.heap.size)
    (ht : P.underlying t = some (.slice e)) (hi : P.info? e = some i) (hz : i.zero = some z)
    (hsize : i.size = 1) (hby : i.bytes = bytes) (hzs : z.cells.size = 1)
    (hgd : o.guard = none) (ho : o.op = .call { callee := .builtin .append, args := #[s, x], argTypes := #[t, t] })
    (hs : a.eval s = v) (hx : a.eval x = .slice (some ⟨w.heap.size, 0, none⟩) 1 1)
    (h1 : u.oneCell' = true)
    (hroom : n ≤ 17592186044416 ∧ n * bytes + bytes ≤ 140737488355328)
    (h : ∀ v' w', w'.ownsRow base e 1 v' (n + 1) (xs ++ [u]) → Below base w0 w' → w'.ownsRow base e2 1 v2 n2 xs2 → wpList P ops Q rest (a.put o.dst v') w') :
    wpList P ops Q (o :: rest) a (w.alloc (.cells #[u] e)) := by
  refine wpList_append_own (w := w.alloc (.cells #[u] e)) hgd s x t ho base e i z 1 bytes ht hi hz hsize hby hzs (by decide) v n xs hs (hown.alloc _) ⟨w.heap.size, 0, none⟩ 1 1 [u] hx (by simp) (cells_new w [u] e) (by intro y hy; rw [List.mem_singleton.1 hy]; exact h1)
    (by unfold maxLen; omega) (by rw [Nat.add_mul]; omega) (by have := hbel.size; simp; omega) ?_
  intro v' w' hA hB _
  refine h v' w' hA ?_ ?_
  · have hb1 : Below base w0 (w.alloc (.cells #[u] e)) := hbel.alloc (by have := hbel.size; omega) _
    refine hb1.grown hB (by have := hbel.size; simp; omega) ?_
    intro k hk
    exact (hown.lt k hk).1
  · refine (hown2.alloc (.cells #[u] e)).kept hB ?_
    rcases (hown2.alloc (.cells #[u] e)).2 with ⟨rfl, _⟩ | ⟨g, cap, cur, rfl, hg, hh, _⟩
    · exact .inl rfl
    · right
      intro hc
      have := Lib.ownBlock_ne (hown.alloc (.cells #[u] e)) hh h12
      exact this hc.symm
end Go.Proofs.YtgglejicbojiaaaDoor
