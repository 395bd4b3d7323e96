/- Rows of instructions, read, cut, joined. -/
import Derived.Test.YtpdfahlglalebaaInsnRow
import Derived.Test.YtpdfahlglalebaaRow1
import Derived.Laws.AppendOwnNone
namespace Go.Proofs.Ytpdfahlglalebaa
open Go.ChangeShapes Go.WideShapes Go.ChangeAt Go.RowKit Go.Joins Go.Deep
set_option linter.unusedVariables false

theorem infoInsn : (Try.prog.info? 38).map (fun i => (i.zero, i.size, i.bytes)) = some (some (.agg #[.int .i64 0, .int .i64 0, .int .i64 0, .int .u32 0]), 4, 32) := by kernel_rfl
def insCells (l : List Ins) : List Value := l.flatMap Ins.cells
theorem insCells_len (l : List Ins) : (insCells l).length = l.length * 4 := by
  induction l with
  | nil => rfl
  | cons a l ih => rw [insCells, List.flatMap_cons, List.length_append, ← insCells, ih, List.length_cons]; simp [Ins.cells]; omega
/-- a slice of the call's own that holds these instructions -/
def OwnIns (w : World) (base : Nat) (v : Value) (l : List Ins) : Prop := w.ownsRow base 38 4 v l.length (insCells l)
theorem IsInsns.take {w : World} {v : Value} {l : List Ins} (h : IsInsns w v l) : ∃ a len cap, v = .slice a len cap ∧ l.length = len ∧ len ≤ cap ∧ cap ≤ 9223372036854775807 ∧
    ∀ m, m ≤ len → IsInsns w (.slice a m cap) (l.take m) := by
  obtain ⟨a, len, cap, rfl, hlen, hc1, hc2, hbd, hat⟩ := h
  refine ⟨a, len, cap, rfl, hlen, hc1, hc2, fun m hm => ⟨a, m, cap, rfl, by rw [List.length_take]; omega, by omega, hc2, fun i hi => hbd i (List.mem_of_mem_take hi), ?_⟩⟩
  rcases hat with h0 | ⟨b, off, rfl, hb, hat⟩
  · exact .inl (by omega)
  · refine .inr ⟨b, off, rfl, hb, fun i hi => ?_⟩
    have := hat i (by omega)
    rwa [show (l.take m).getD i insZ = l.getD i insZ from by simp [List.getD, hi]]
theorem IsInsns.below {w w' : World} {v : Value} {l : List Ins} (h : IsInsns w v l) (hb : Below w.heap.size w w') : IsInsns w' v l := by
  obtain ⟨a, len, cap, rfl, hlen, hc1, hc2, hbd, hat⟩ := h
  refine ⟨a, len, cap, rfl, hlen, hc1, hc2, hbd, hat.imp id ?_⟩
  rintro ⟨b, off, rfl, hlt, hat⟩
  exact ⟨b, off, rfl, Nat.lt_of_lt_of_le hlt hb.size, fun i hi => (hat i hi).below hb hlt⟩
theorem insCells_at (l : List Ins) (i j : Nat) (hi : i < l.length) (hj : j < 4) : (insCells l)[i * 4 + j]? = (l.getD i insZ).cells[j]? := by
  induction l generalizing i with
  | nil => simp at hi
  | cons a l ih =>
    rw [insCells, List.flatMap_cons, ← insCells]
    cases i with
    | zero => rw [List.getElem?_append_left (by simp [Ins.cells]; omega)]; simp
    | succ i =>
      rw [List.getElem?_append_right (by simp [Ins.cells]; omega), show (i + 1) * 4 + j - a.cells.length = i * 4 + j from by simp [Ins.cells]; omega, ih i (by simpa using hi)]
      rfl
theorem OwnIns.reads {w : World} {base : Nat} {v : Value} {l : List Ins} (h : OwnIns w base v l) (hb : ∀ i ∈ l, i.bounded) : IsInsns w v l := by
  unfold OwnIns at h
  rcases h.2 with ⟨rfl, h0⟩ | ⟨g, cap, cur, rfl, hg, hh, hn, hc, hcs, htake⟩
  · exact ⟨none, 0, 0, rfl, h0, by omega, by omega, hb, .inl rfl⟩
  · refine ⟨_, _, cap, rfl, rfl, hn, by unfold maxLen at hc; exact hc, hb, ?_⟩
    by_cases h0 : l.length = 0
    · exact .inl h0
    · refine .inr ⟨g, 0, rfl, (h.lt g rfl).2, fun i hi => ?_⟩
      have hat : ∀ j u, j < 4 → (l.getD i insZ).cells[j]? = some u → w.cell? ⟨g, i * 4 + j, none⟩ = some u := by
        intro j u hj hu
        have := h.cells (g := g) rfl (i * 4 + j) u (by rw [insCells_at l i j hi hj]; exact hu)
        rwa [show (⟨g, 0, none⟩ : Addr).add (i * 4 + j) = ⟨g, i * 4 + j, none⟩ from by unfold Addr.add; split <;> simp_all] at this
      have h0 := hat 0 _ (by omega) rfl
      have h1 := hat 1 _ (by omega) rfl
      have h2 := hat 2 _ (by omega) rfl
      have h3 := hat 3 _ (by omega) rfl
      exact ⟨by simpa using h0, by simpa using h1, by simpa using h2, by simpa using h3⟩

def IsIns (w : World) (v : Value) (l : List Ins) : Prop := IsInsns w v l ∧ ∀ len cap, v = .slice none len cap → cap = 0
theorem openIns {H : Type} {enc : TypeId × Value → H} {W : World} {base : Nat} {v : Value} {d : DataW H} {p : List MemPlace}
    (hok : Value.okWide Try.prog W .any base 22 v) (h : DataW.Trod enc Try.prog W 0 (fun _ => true) true 22 v d p) : ∃ l, IsIns W v l := by
  obtain ⟨l, hl⟩ := openInsns hok h
  refine ⟨l, hl, ?_⟩
  rintro len cap rfl
  obtain ⟨fuel, hf⟩ := h
  rcases open_slice Try.underlying22 hf with ⟨hcs, _⟩ | ⟨x, l', c, m, n, D, Pl, hcs, _⟩
  · simp [Value.cells] at hcs
    exact hcs.2
  · simp [Value.cells] at hcs

theorem cells_of {w : World} {A : Option Addr} {len cap : Nat} {l : List Ins} (h : IsIns w (.slice A len cap) l) (m : Nat) (hm : m ≤ len) :
    (A = none ∧ m = 0 ∧ cap = 0 ∧ insCells (l.take m) = []) ∨ ∃ ad, A = some ad ∧ ∀ j u, (insCells (l.take m))[j]? = some u → w.cell? (ad.add j) = some u := by
  obtain ⟨⟨a, len', cap', hv, hlen, hc1, hc2, hbd, hat⟩, hn⟩ := h
  injection hv with h1 h2 h3
  subst h1 h2 h3
  cases A with
  | none =>
    left
    have := hn _ _ rfl
    subst this
    obtain rfl : m = 0 := by omega
    exact ⟨rfl, rfl, rfl, rfl⟩
  | some ad =>
    refine .inr ⟨ad, rfl, fun j u hj => ?_⟩
    have hlt : j < (insCells (l.take m)).length := (List.getElem?_eq_some_iff.1 hj).1
    rw [insCells_len, List.length_take] at hlt
    rcases hat with h0 | ⟨b, off, hab, hb, hat⟩
    · omega
    · injection hab with hab
      subst hab
      have hdiv : j = j / 4 * 4 + j % 4 := by omega
      have hi : j / 4 < (l.take m).length := by rw [List.length_take]; omega
      rw [hdiv, insCells_at (l.take m) (j / 4) (j % 4) hi (by omega)] at hj
      rw [show (l.take m).getD (j / 4) insZ = l.getD (j / 4) insZ from by rw [List.length_take] at hi; simp [List.getD, show j / 4 < m by omega]] at hj
      obtain ⟨c0, c1, c2, c3⟩ := hat (j / 4) (by rw [List.length_take] at hi; omega)
      rw [addr_add, hdiv, ← Nat.add_assoc]
      have h4 : j % 4 = 0 ∨ j % 4 = 1 ∨ j % 4 = 2 ∨ j % 4 = 3 := by omega
      rcases h4 with h4 | h4 | h4 | h4 <;> rw [h4] at hj ⊢ <;> (simp only [Ins.cells] at hj; injection hj with hj; subst hj; assumption)
theorem IsIns.below {w w' : World} {v : Value} {l : List Ins} (h : IsIns w v l) (hb : Below w.heap.size w w') : IsIns w' v l := ⟨h.1.below hb, h.2⟩

theorem insCells_one (l : List Ins) : ∀ u ∈ insCells l, u.oneCell' = true := by
  intro u hu
  obtain ⟨i, _, hi⟩ := List.mem_flatMap.1 hu
  simp only [Ins.cells, List.mem_cons, List.not_mem_nil, or_false] at hi
  rcases hi with rfl | rfl | rfl | rfl <;> rfl

end Go.Proofs.Ytpdfahlglalebaa
