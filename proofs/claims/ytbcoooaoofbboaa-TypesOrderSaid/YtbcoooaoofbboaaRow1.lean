/- Slices of elements of one cell, as lists: over any program. -/
import Derived.Test.YtbcoooaoofbboaaRowOpen
import Derived.Test.YtbcoooaoofbboaaResRow
import Derived.Lib.Builder
import Derived.Laws.AppendOwnNone
namespace Go.Proofs.Ytbcoooaoofbboaa
open Go.ChangeShapes Go.WideShapes Go.ChangeAt Go.RowKit Go.Joins Go.Deep
set_option linter.unusedVariables false

/-- v is a slice that reads as l. -/
def Reads1 {α : Type} (enc : α → Value) (w : World) (v : Value) (l : List α) : Prop :=
  ∃ a len cap, v = .slice a len cap ∧ l.length = len ∧ len ≤ cap ∧ cap ≤ 9223372036854775807 ∧
    (len = 0 ∨ ∃ b off, a = some ⟨b, off, none⟩ ∧ b < w.heap.size ∧ ∀ i (h : i < l.length), w.cell? ⟨b, off + i, none⟩ = some (enc l[i]))
variable {α : Type} {enc : α → Value}
theorem Reads1.below {w w' : World} {v : Value} {l : List α} (h : Reads1 enc w v l) (hb : Below w.heap.size w w') : Reads1 enc w' v l := by
  obtain ⟨a, len, cap, rfl, hlen, hc1, hc2, hat⟩ := h
  refine ⟨a, len, cap, rfl, hlen, hc1, hc2, hat.imp id ?_⟩
  rintro ⟨b, off, rfl, hlt, hat⟩
  exact ⟨b, off, rfl, Nat.lt_of_lt_of_le hlt hb.size, fun i hi => (hb.cell (p := ⟨b, off + i, none⟩) hlt).trans (hat i hi)⟩
theorem Reads1.take {w : World} {v : Value} {l : List α} (h : Reads1 enc w v l) : ∃ a len cap, v = .slice a len cap ∧ l.length = len ∧ len ≤ cap ∧ cap ≤ 9223372036854775807 ∧
    ∀ m, m ≤ len → Reads1 enc w (.slice a m cap) (l.take m) := by
  obtain ⟨a, len, cap, rfl, hlen, hc1, hc2, hat⟩ := h
  refine ⟨a, len, cap, rfl, hlen, hc1, hc2, fun m hm => ⟨a, m, cap, rfl, by rw [List.length_take]; omega, by omega, hc2, ?_⟩⟩
  rcases hat with h0 | ⟨b, off, rfl, hb, hat⟩
  · exact .inl (by omega)
  · refine .inr ⟨b, off, rfl, hb, fun i hi => ?_⟩
    have hi' : i < l.length := by rw [List.length_take] at hi; omega
    rw [hat i hi']
    simp
/-- a row of the call's own reads as its list -/
theorem own_reads1 {w : World} {base : Nat} {e : TypeId} {v : Value} {n : Nat} {l : List α} (h : w.ownsRow base e 1 v n (l.map enc)) (hn : l.length = n) : Reads1 enc w v l := by
  subst hn
  rcases h.2 with ⟨rfl, h0⟩ | ⟨g, cap, cur, rfl, hg, hh, hn, hc, hcs, htake⟩
  · exact ⟨none, 0, 0, rfl, h0, by omega, by omega, .inl rfl⟩
  · refine ⟨_, _, cap, rfl, rfl, hn, by unfold maxLen at hc; exact hc, ?_⟩
    by_cases h0 : l.length = 0
    · exact .inl h0
    · refine .inr ⟨g, 0, rfl, (h.lt g rfl).2, fun i hi => ?_⟩
      have := h.cells (g := g) rfl i (enc l[i]) (by simp [hi])
      rwa [addr_add] at this
/-- a block that is known whole reads as its list -/
theorem block_reads1 {w : World} {g : Nat} {t : TypeId} {l : List α} (h : w.heap[g]? = some (.cells (l.map enc).toArray t (0, 0))) (hm : l.length ≤ 9223372036854775807) : Reads1 enc w (.slice (some ⟨g, 0, none⟩) l.length l.length) l := by
  refine ⟨_, _, _, rfl, rfl, Nat.le_refl _, hm, ?_⟩
  by_cases h0 : l.length = 0
  · exact .inl h0
  · refine .inr ⟨g, 0, rfl, lt_of_block h, fun i hi => ?_⟩
    rw [Nat.zero_add, cell_of_row _ _ _ _ _ _ h]
    simp [hi]
theorem arr_set (l : List α) (i : Nat) (x : α) : ((l.map enc).toArray).setIfInBounds i (enc x) = ((l.set i x).map enc).toArray := by
  simp [List.map_set]

theorem own_form1 {w : World} {base : Nat} {e : TypeId} {v : Value} {n : Nat} {xs : List Value} (h : w.ownsRow base e 1 v n xs) : ∃ A c, v = .slice A n c ∧ n ≤ c ∧ c ≤ 9223372036854775807 := by
  rcases h.2 with ⟨rfl, h0⟩ | ⟨g, cap, cur, rfl, hg, hh, hn, hc, _⟩
  · subst h0; exact ⟨_, _, rfl, by omega, by omega⟩
  · exact ⟨_, _, rfl, hn, by unfold maxLen at hc; exact hc⟩
theorem own_setCell {w : World} {base : Nat} {e T : TypeId} {v : Value} {n : Nat} {xs : List Value} {g : Nat} {cs : Array Value} (h : w.ownsRow base e 1 v n xs) (hg : w.heap[g]? = some (.cells cs T (0, 0))) (hT : T ≠ e) (i : Nat) (x : Value) :
    (w.setCell ⟨g, i, none⟩ x).ownsRow base e 1 v n xs :=
  h.kept (row := some g) ⟨rfl, rfl, rfl, by simp [World.setCell], fun k _ hk => Below.heap_setCell _ _ _ _ (fun e => hk (by simp [e]))⟩ (Or.inr (Lib.ownBlock_ne h hg hT))

/-- 's = append(s, x)': blocks of other elements stay as they were. -/
theorem wpList_push2 {P : Program} {ops : Array Oper} {rest : List Oper} {o : Oper} {a : Act} {Q : Exit → Act → World → Prop} {w w0 : World}
    (s x : Operand) (t : TypeId) (e : TypeId) {i : TypeInfo} {z : Value} {bytes : Nat} {base : Nat} {v : Value} {n : Nat} {xs : List Value} (u : Value)
    (hown : w.ownsRow base e 1 v n xs) (hbel : Below base w0 w) (hbase : base ≤ w0.heap.size)
    (ht : P.underlying t = some (.slice e)) (hi : P.info? e = some i) (hz : i.zero = some z)
    (hsize : i.size = 1) (hby : i.bytes = bytes) (hzs : z.cells.size = 1)
    (hgd : o.guard = none) (ho : o.op = .call { callee := .builtin .append, args := #[s, x], argTypes := #[t, t] })
    (hs : a.eval s = v) (hx : a.eval x = .slice (some ⟨w.heap.size, 0, none⟩) 1 1)
    (h1 : u.oneCell' = true)
    (hroom : n ≤ 17592186044416 ∧ n * bytes + bytes ≤ 140737488355328)
    (h : ∀ v' w', w'.ownsRow base e 1 v' (n + 1) (xs ++ [u]) → Below base w0 w' → (∀ (g : Nat) (cs : Array Value) (T : TypeId), w.heap[g]? = some (Obj.cells cs T (0, 0)) → T ≠ e → w'.heap[g]? = some (Obj.cells cs T (0, 0))) → wpList P ops Q rest (a.put o.dst v') w') :
    wpList P ops Q (o :: rest) a (w.alloc (.cells #[u] e)) := by
  refine wpList_append_own (w := w.alloc (.cells #[u] e)) hgd s x t ho base e i z 1 bytes ht hi hz hsize hby hzs (by decide) v n xs hs (hown.alloc _) ⟨w.heap.size, 0, none⟩ 1 1 [u] hx (by simp) (cells_new w [u] e) (by intro y hy; rw [List.mem_singleton.1 hy]; exact h1)
    (by unfold maxLen; omega) (by rw [Nat.add_mul]; omega) (by have := hbel.size; simp; omega) ?_
  intro v' w' h2 h3 h4
  refine h v' w' h2 ?_ ?_
  · have hb1 : Below base w0 (w.alloc (.cells #[u] e)) := hbel.alloc (by have := hbel.size; omega) _
    refine hb1.grown h3 (by have := hbel.size; simp; omega) ?_
    intro k hk
    exact (hown.lt k hk).1
  · intro g cs T hg hT
    have hg2 := (heap_alloc_old w (.cells #[u] e) (lt_of_block hg)).trans hg
    have hne := Lib.ownBlock_ne (hown.alloc (.cells #[u] e)) hg2 hT
    rw [h3.block g (lt_of_block hg2) (fun e => hne e.symm)]
    exact hg2
/-- 's = append(s, t...)': s is the call's own, t is whatever can be read. -/
theorem wpList_extend {P : Program} {ops : Array Oper} {rest : List Oper} {o : Oper} {a : Act} {Q : Exit → Act → World → Prop} {w w0 : World}
    (s x : Operand) (t : TypeId) (e : TypeId) {i : TypeInfo} {z : Value} {size bytes m c : Nat} {base : Nat} {v : Value} {n : Nat} {xs : List Value} {A : Option Addr} (news : List Value)
    (hown : w.ownsRow base e size v n xs) (hbel : Below base w0 w) (hbase : base ≤ w0.heap.size)
    (ht : P.underlying t = some (.slice e)) (hi : P.info? e = some i) (hz : i.zero = some z)
    (hsize : i.size = size) (hby : i.bytes = bytes) (hzs : z.cells.size = size) (hsz : 0 < size)
    (hgd : o.guard = none) (ho : o.op = .call { callee := .builtin .append, args := #[s, x], argTypes := #[t, t] })
    (hs : a.eval s = v) (hx : a.eval x = .slice A m c)
    (hA : (A = none ∧ m = 0 ∧ c = 0 ∧ news = []) ∨ ∃ ad, A = some ad ∧ ∀ j u, news[j]? = some u → w.cell? (ad.add j) = some u)
    (hl : news.length = m * size) (h1 : ∀ u ∈ news, u.oneCell' = true)
    (hroom : n + m ≤ 17592186044416 ∧ (n + m) * bytes ≤ 140737488355328)
    (h : ∀ v' w', w'.ownsRow base e size v' (n + m) (xs ++ news) → Below base w0 w' → wpList P ops Q rest (a.put o.dst v') w') :
    wpList P ops Q (o :: rest) a w := by
  rcases hA with ⟨rfl, rfl, rfl, rfl⟩ | ⟨ad, rfl, hc⟩
  · refine wpList_append_own_none hgd s x t ho base e i size ht hi v n xs hs hown hx ?_
    refine h v w ?_ hbel
    rw [List.append_nil]
    exact hown
  · refine wpList_append_own (w := w) hgd s x t ho base e i z size bytes ht hi hz hsize hby hzs hsz v n xs hs hown ad m c news hx hl hc h1 (by unfold maxLen; omega) hroom.2 (Nat.le_trans hbase hbel.size) ?_
    intro v' w' h2 h3 _
    exact h v' w' h2 (hbel.grown h3 (Nat.le_trans hbase hbel.size) (fun k hk => (hown.lt k hk).1))
/-- a slice that can be read, to be appended -/
theorem Reads1.source {w : World} {A : Option Addr} {len cap : Nat} {l : List α} (h : Reads1 enc w (.slice A len cap) l) (hn : A = none → cap = 0) :
    (A = none ∧ len = 0 ∧ cap = 0 ∧ l.map enc = []) ∨ ∃ ad, A = some ad ∧ ∀ j u, (l.map enc)[j]? = some u → w.cell? (ad.add j) = some u := by
  obtain ⟨a, len', cap', hv, hlen, hc1, hc2, hat⟩ := h
  injection hv with h1 h2 h3
  subst h1 h2 h3
  cases A with
  | none =>
    left
    have := hn rfl
    subst this
    obtain rfl : len = 0 := by omega
    exact ⟨rfl, rfl, rfl, by rw [List.eq_nil_of_length_eq_zero hlen]; rfl⟩
  | some ad =>
    refine .inr ⟨ad, rfl, fun j u hj => ?_⟩
    have hjl : j < l.length := by have := (List.getElem?_eq_some_iff.1 hj).1; simpa using this
    obtain ⟨b, off, hab, hb, hat2⟩ := hat.resolve_left (by omega)
    injection hab with hab
    subst hab
    rw [addr_add, hat2 j hjl]
    rw [List.getElem?_map, List.getElem?_eq_getElem hjl] at hj
    exact hj
end Go.Proofs.Ytbcoooaoofbboaa
