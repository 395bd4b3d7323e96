/- Lines of answers: what is taken of them; rows of the call's own. -/
import Derived.Test.YtmanlogclbbgaaaLn
import Derived.Test.YtmanlogclbbgaaaResRow
import Derived.Laws.OwnMore
namespace Go.Proofs.Ytmanlogclbbgaaa
open Go.RowKit
set_option linter.unusedVariables false
set_option linter.unusedSimpArgs false

def cutR (s : ByteArray) (n : Nat) : ByteArray := s.extract 0 (min s.size n)
theorem cutR_size (s : ByteArray) (n : Nat) : (cutR s n).size ≤ n := by
  unfold cutR; rw [ByteArray.size_extract]; omega
def cutLn (e : Ln) : Ln := ⟨cutR e.name 60, e.cur, e.nos.take 12⟩
def fewL (l : List Ln) : List Ln := (l.take 12).map cutLn
def fewU (l : List Ln) (i : Nat) : List Ln := (l.take i).map cutLn ++ l.drop i
def fewR (r : Rp) : Rp := ⟨r.why, r.at_, r.no, cutR r.source 2100, r.insns, r.action, fewL r.lines⟩
theorem fewL_len (l : List Ln) : (fewL l).length ≤ 12 := by unfold fewL; rw [List.length_map, List.length_take]; omega
theorem fewL_nos (l : List Ln) : ∀ e ∈ fewL l, e.nos.length ≤ 12 ∧ e.name.size ≤ 60 := by
  intro e he
  obtain ⟨a, _, rfl⟩ := List.mem_map.1 he
  refine ⟨?_, cutR_size _ _⟩
  show (a.nos.take 12).length ≤ 12
  rw [List.length_take]; omega
theorem fewU_len (l : List Ln) (i : Nat) : (fewU l i).length = l.length := by
  unfold fewU; rw [List.length_append, List.length_map, List.length_take, List.length_drop]; omega
theorem fewU_get (l : List Ln) (i : Nat) (hi : i < l.length) : (fewU l i).getD i lnZ = l.getD i lnZ := by
  unfold fewU
  have : ((l.take i).map cutLn).length = i := by rw [List.length_map, List.length_take]; omega
  simp only [List.getD]
  rw [List.getElem?_append_right (by omega), this, Nat.sub_self, List.getElem?_drop, Nat.add_zero]
theorem fewU_succ (l : List Ln) (i : Nat) (hi : i < l.length) : fewU l (i + 1) = (fewU l i).set i (cutLn (l.getD i lnZ)) := by
  unfold fewU
  have h1 : ((l.take i).map cutLn).length = i := by rw [List.length_map, List.length_take]; omega
  rw [List.set_append_right _ _ (by omega), h1, Nat.sub_self, List.drop_eq_getElem_cons hi, List.set_cons_zero, ← List.take_append_getElem hi, List.map_append,
    show l.getD i lnZ = l[i] from by simp [List.getD, hi]]
  simp
/-- these cells are these lines' -/
def RowL (w : World) (xs : List Value) (l : List Ln) : Prop :=
  xs.length = l.length * 3 ∧ ∀ j, j < l.length → (l.getD j lnZ).bounded ∧ xs[j * 3]? = some (.string (l.getD j lnZ).name) ∧ xs[j * 3 + 1]? = some (.int .i64 (l.getD j lnZ).cur) ∧
    ∃ k, xs[j * 3 + 2]? = some k ∧ Reads1 encI w k (l.getD j lnZ).nos
theorem RowL.snoc {w : World} {xs : List Value} {l : List Ln} {e : Ln} {k : Value} (h : RowL w xs l) (hb : e.bounded) (hk : Reads1 encI w k e.nos) : RowL w (xs ++ e.cells k) (l ++ [e]) := by
  obtain ⟨h1, h2⟩ := h
  refine ⟨by rw [List.length_append, List.length_append, h1]; simp [Ln.cells]; omega, fun j hj => ?_⟩
  by_cases hl : j < l.length
  · obtain ⟨a, b, c, k', e', f⟩ := h2 j hl
    rw [show (l ++ [e]).getD j lnZ = l.getD j lnZ from by simp [List.getD, List.getElem?_append_left hl]]
    refine ⟨a, ?_, ?_, k', ?_, f⟩ <;> (rw [List.getElem?_append_left (by omega)]; assumption)
  · have hj' : j = l.length := by rw [List.length_append] at hj; simp at hj; omega
    subst hj'
    rw [show (l ++ [e]).getD l.length lnZ = e from by simp [List.getD]]
    refine ⟨hb, ?_, ?_, k, ?_, hk⟩ <;> (rw [List.getElem?_append_right (by omega), h1]; simp [Ln.cells])
theorem RowL.set {w : World} {xs : List Value} {l : List Ln} (h : RowL w xs l) (i : Nat) (hi : i < l.length) (nm : ByteArray) (k' : Value) (ns : List Int) (hk : Reads1 encI w k' ns) (hb : (⟨nm, (l.getD i lnZ).cur, ns⟩ : Ln).bounded) :
    RowL w ((xs.set (i * 3) (.string nm)).set (i * 3 + 2) k') (l.set i ⟨nm, (l.getD i lnZ).cur, ns⟩) := by
  obtain ⟨h1, h2⟩ := h
  refine ⟨by rw [List.length_set, List.length_set, List.length_set, h1], fun j hj => ?_⟩
  rw [List.length_set] at hj
  obtain ⟨a, b, c, k, e, f⟩ := h2 j hj
  by_cases hij : i = j
  · subst hij
    rw [show (l.set i ⟨nm, (l.getD i lnZ).cur, ns⟩).getD i lnZ = ⟨nm, (l.getD i lnZ).cur, ns⟩ from by simp [List.getD, hi]]
    refine ⟨hb, ?_, ?_, k', ?_, hk⟩
    · rw [List.getElem?_set_ne (by omega), List.getElem?_set_self (by omega)]
    · rw [List.getElem?_set_ne (by omega), List.getElem?_set_ne (by omega)]; exact c
    · rw [List.getElem?_set_self (by rw [List.length_set]; omega)]
  · rw [show (l.set i ⟨nm, (l.getD i lnZ).cur, ns⟩).getD j lnZ = l.getD j lnZ from by simp [List.getD, List.getElem?_set_ne hij]]
    refine ⟨a, ?_, ?_, k, ?_, f⟩
    · rw [List.getElem?_set_ne (by omega), List.getElem?_set_ne (by omega)]; exact b
    · rw [List.getElem?_set_ne (by omega), List.getElem?_set_ne (by omega)]; exact c
    · rw [List.getElem?_set_ne (by omega), List.getElem?_set_ne (by omega)]; exact e
theorem RowL.reads {w w' : World} {base : Nat} {v : Value} {n : Nat} {xs : List Value} {l : List Ln} (h : RowL w xs l) (hown : w'.ownsRow base 66 3 v n xs) (hn : l.length = n) (hb : Below w.heap.size w w') : IsLns w' v l := by
  subst hn
  obtain ⟨h1, h2⟩ := h
  rcases hown.2 with ⟨rfl, h0⟩ | ⟨g, cap, cur, rfl, hg, hh, hn, hc, hcs, htake⟩
  · exact ⟨none, 0, 0, rfl, h0, by omega, by omega, fun _ => rfl, .inl rfl⟩
  · refine ⟨_, _, cap, rfl, rfl, hn, by unfold maxLen at hc; exact hc, (fun e => by cases e), ?_⟩
    by_cases h0 : l.length = 0
    · exact .inl h0
    · refine .inr ⟨g, 0, rfl, (hown.lt g rfl).2, fun i hi => ?_⟩
      have hat : ∀ j u, xs[j]? = some u → w'.cell? ⟨g, j, none⟩ = some u := by
        intro j u hu
        have := hown.cells (g := g) rfl j u hu
        rwa [show (⟨g, 0, none⟩ : Addr).add j = ⟨g, j, none⟩ from by unfold Addr.add; split <;> simp_all] at this
      obtain ⟨a, b, c, k, e, f⟩ := h2 i hi
      rw [Nat.zero_add]
      exact ⟨a, k, f.below hb, hat _ _ b, hat _ _ c, hat _ _ e⟩
/-- a part of the lines from their beginning, as cells -/
theorem lns_cells {w : World} {l : List Ln} {b off len : Nat} (hat : ∀ i, i < len → LnAt w b (off + i * 3) (l.getD i lnZ)) : ∀ m, m ≤ len → m ≤ l.length →
    ∃ xs, (∀ u ∈ xs, u.oneCell' = true) ∧ (∀ j u, xs[j]? = some u → w.cell? ⟨b, off + j, none⟩ = some u) ∧ RowL w xs (l.take m)
  | 0, _, _ => ⟨[], by simp, by simp, rfl, fun j hj => by simp at hj⟩
  | m + 1, h1, h2 => by
    obtain ⟨xs, a, b', c⟩ := lns_cells hat m (by omega) (by omega)
    obtain ⟨hb, k, hvs, e0, e1, e2⟩ := hat m (by omega)
    obtain ⟨va, vc, rfl, _⟩ := reads1_form hvs
    have hxl : xs.length = m * 3 := by rw [c.1, List.length_take]; omega
    refine ⟨xs ++ (l.getD m lnZ).cells (.slice va (l.getD m lnZ).nos.length vc), fun u hu => ?_, fun j u hu => ?_, ?_⟩
    · rcases List.mem_append.1 hu with hu | hu
      · exact a u hu
      · simp only [Ln.cells, List.mem_cons, List.not_mem_nil, or_false] at hu
        rcases hu with rfl | rfl | rfl <;> rfl
    · by_cases hj : j < m * 3
      · rw [List.getElem?_append_left (by omega)] at hu
        exact b' j u hu
      · rw [List.getElem?_append_right (by omega), hxl] at hu
        have hj4 : j - m * 3 < 3 := by
          have := (List.getElem?_eq_some_iff.1 hu).1
          simpa [Ln.cells] using this
        have hcs : j = m * 3 ∨ j = m * 3 + 1 ∨ j = m * 3 + 2 := by omega
        rcases hcs with rfl | rfl | rfl
        · rw [show m * 3 - m * 3 = 0 by omega] at hu; simp only [Ln.cells, List.getElem?_cons_zero] at hu; injection hu with hu; subst hu; exact e0
        · rw [show m * 3 + 1 - m * 3 = 1 by omega] at hu; simp only [Ln.cells, List.getElem?_cons_succ, List.getElem?_cons_zero] at hu; injection hu with hu; subst hu; rw [← Nat.add_assoc]; exact e1
        · rw [show m * 3 + 2 - m * 3 = 2 by omega] at hu; simp only [Ln.cells, List.getElem?_cons_succ, List.getElem?_cons_zero] at hu; injection hu with hu; subst hu; rw [← Nat.add_assoc]; exact e2
    · have hl : m < l.length := by omega
      rw [← List.take_append_getElem hl, show l[m] = l.getD m lnZ from by simp [List.getD, hl]]
      exact c.snoc hb hvs
theorem lns_source {w : World} {A : Option Addr} {n cap : Nat} {l : List Ln} (h : IsLns w (.slice A n cap) l) (m : Nat) (hm : m ≤ n) :
    ∃ xs, (∀ u ∈ xs, u.oneCell' = true) ∧ ((A = none ∧ m = 0 ∧ cap = 0 ∧ xs = []) ∨ ∃ ad, A = some ad ∧ ∀ j u, xs[j]? = some u → w.cell? (ad.add j) = some u) ∧ RowL w xs (l.take m) := by
  obtain ⟨a, len', cap', hv, hlen, hc1, hc2, hnil, hat⟩ := h
  injection hv with h1 h2 h3
  subst h1 h2 h3
  cases A with
  | none =>
    have hc := hnil rfl
    obtain rfl : m = 0 := by omega
    exact ⟨[], by simp, .inl ⟨rfl, rfl, hc, rfl⟩, rfl, fun j hj => by simp at hj⟩
  | some ad =>
    rcases hat with h0 | ⟨b, off, hab, hb, hat⟩
    · obtain rfl : m = 0 := by omega
      exact ⟨[], by simp, .inr ⟨ad, rfl, by simp⟩, rfl, fun j hj => by simp at hj⟩
    · injection hab with hab
      subst hab
      obtain ⟨xs, x1, x2, x3⟩ := lns_cells hat m hm (by omega)
      exact ⟨xs, x1, .inr ⟨_, rfl, fun j u hu => by rw [addr_add]; exact x2 j u hu⟩, x3⟩
theorem infoLn : (Try.prog.info? 66).map (fun i => (i.zero, i.size, i.bytes)) = some (some (.agg #[.string ⟨#[]⟩, .int .i64 0, .slice none 0 0]), 3, 48) := by kernel_rfl
theorem own_formS {w : World} {base e : Nat} {size : Nat} {v : Value} {n : Nat} {xs : List Value} (h : w.ownsRow base e size v n xs) : ∃ A c, v = .slice A n c ∧ n ≤ c ∧ c ≤ 9223372036854775807 ∧ (0 < n → ∃ g, A = some ⟨g, 0, none⟩) := by
  rcases h.2 with ⟨rfl, h0⟩ | ⟨g, cap, cur, rfl, hg, hh, hn, hc, _⟩
  · subst h0; exact ⟨_, _, rfl, by omega, by omega, fun h => by omega⟩
  · exact ⟨_, _, rfl, hn, by unfold maxLen at hc; exact hc, fun _ => ⟨g, rfl⟩⟩
theorem own_stay {w w' : World} {base : Nat} {e : TypeId} {size : Nat} {v : Value} {n : Nat} {xs : List Value} (h : w.ownsRow base e size v n xs) (hb : Below w.heap.size w w') : w'.ownsRow base e size v n xs := by
  refine ⟨h.1, h.2.imp id ?_⟩
  rintro ⟨g, cap, cur, rfl, hg, hh, hr⟩
  exact ⟨g, cap, cur, rfl, hg, (hb.block g (lt_of_block hh)).trans hh, hr⟩
end Go.Proofs.Ytmanlogclbbgaaa
