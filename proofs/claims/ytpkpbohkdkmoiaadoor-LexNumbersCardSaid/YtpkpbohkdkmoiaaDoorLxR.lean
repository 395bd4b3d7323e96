/- Rows of tokens, read; the first statement of each law of the layer. -/
import Derived.Test.YtpkpbohkdkmoiaaDoorLx9
namespace Go.Proofs.YtpkpbohkdkmoiaaDoor
open Go.RowKit
set_option linter.unusedVariables false

/-- a slice that holds these tokens -/
def IsTks (w : World) (v : Value) (l : List Tk) : Prop :=
  ∃ a cap, v = .slice a l.length cap ∧ l.length ≤ cap ∧ cap ≤ 9223372036854775807 ∧ (l.length = 0 ∨ ∃ b, a = some ⟨b, 0, none⟩ ∧ b < w.heap.size ∧
    ∀ i (h : i < l.length), w.cell? ⟨b, i * 3, none⟩ = some (.int .i64 l[i].kind) ∧ w.cell? ⟨b, i * 3 + 1, none⟩ = some (.string l[i].text) ∧ w.cell? ⟨b, i * 3 + 2, none⟩ = some (.int .i64 (l[i].pos : Int)))
theorem IsTks.below {w w' : World} {v : Value} {l : List Tk} (h : IsTks w v l) (hb : Below w.heap.size w w') : IsTks w' v l := by
  obtain ⟨a, cap, rfl, hc1, hc2, hat⟩ := h
  refine ⟨a, cap, rfl, hc1, hc2, hat.imp id ?_⟩
  rintro ⟨b, rfl, hlt, hat⟩
  refine ⟨b, rfl, Nat.lt_of_lt_of_le hlt hb.size, fun i hi => ?_⟩
  obtain ⟨h1, h2, h3⟩ := hat i hi
  exact ⟨(hb.cell (p := ⟨b, i * 3, none⟩) hlt).trans h1, (hb.cell (p := ⟨b, i * 3 + 1, none⟩) hlt).trans h2, (hb.cell (p := ⟨b, i * 3 + 2, none⟩) hlt).trans h3⟩
theorem tkCells_at (l : List Tk) (i j : Nat) (hi : i < l.length) (hj : j < 3) : (tkCells l)[i * 3 + j]? = l[i].cells[j]? := by
  induction l generalizing i with
  | nil => simp at hi
  | cons a l ih =>
    rw [tkCells, List.flatMap_cons, ← tkCells]
    cases i with
    | zero => rw [List.getElem?_append_left (by simp [Tk.cells]; omega)]; simp
    | succ i =>
      rw [List.getElem?_append_right (by simp [Tk.cells]; omega), show (i + 1) * 3 + j - a.cells.length = i * 3 + j from by simp [Tk.cells]; omega, ih i (by simpa using hi)]
      rfl
theorem own_tks {w : World} {base : Nat} {v : Value} {l : List Tk} (h : w.ownsRow base 34 3 v l.length (tkCells l)) : IsTks w v l := by
  rcases h.2 with ⟨rfl, h0⟩ | ⟨g, cap, cur, rfl, hg, hh, hn, hc, hcs, htake⟩
  · have h0' : l.length = 0 := h0
    exact ⟨none, 0, by rw [h0'], by omega, by omega, .inl h0'⟩
  · refine ⟨_, cap, rfl, hn, by unfold maxLen at hc; exact hc, ?_⟩
    by_cases h0 : l.length = 0
    · exact .inl h0
    · refine .inr ⟨g, rfl, (h.lt g rfl).2, fun i hi => ?_⟩
      have hat : ∀ j u, j < 3 → l[i].cells[j]? = some u → w.cell? ⟨g, i * 3 + j, none⟩ = some u := by
        intro j u hj hu
        have := h.cells (g := g) rfl (i * 3 + j) u (by rw [tkCells_at l i j hi hj]; exact hu)
        rwa [show (⟨g, 0, none⟩ : Addr).add (i * 3 + j) = ⟨g, i * 3 + j, none⟩ from by unfold Addr.add; split <;> simp_all] at this
      have h0 := hat 0 _ (by omega) rfl
      have h1 := hat 1 _ (by omega) rfl
      have h2 := hat 2 _ (by omega) rfl
      exact ⟨by simpa using h0, h1, h2⟩
/-- what Lex answers, read -/
def LexGot (s : ByteArray) (w : World) (e : Ending) (w' : World) : Prop :=
  ∃ v, e = .returned (.tuple #[v, .int .i64 (lexE s : Nat), .int .i64 (lexAt s : Nat)]) ∧ IsTks w' v (lexToks s) ∧ Below w.heap.size w w'
theorem lxGot (s : ByteArray) (w : World) (hs : s.size ≤ 1000000) (hE : Errs w) : Calls Tryd.prog 9 #[.string s] w (LexGot s w) := by
  refine (lxLex s w hs hE).mono ?_
  rintro e w' ⟨v, rfl, ho, hb⟩
  exact ⟨v, rfl, own_tks ho, hb⟩
/-- what the tokens of a source are -/
theorem lexGood (s : ByteArray) : if lexE s = 0 then ∃ l, lexToks s = l ++ [endTk s] ∧ Placed s 0 l else lexToks s = [] ∧ lexAt s ≤ s.size := by
  unfold lexE lexToks lexAt
  by_cases h2 : 2000 < s.size
  · rw [if_pos h2, if_pos h2, if_pos h2]
    exact ⟨rfl, by omega⟩
  · rw [if_neg h2, if_neg h2, if_neg h2]
    cases h : lexS s with
    | bad p =>
      rw [if_neg (show ¬ (60 : Nat) = 0 by decide)]
      exact ⟨rfl, Nat.le_of_lt (lexR_bad_le s _ 0 p (Nat.le_refl _) h)⟩
    | ok l =>
      rw [if_pos rfl]
      exact ⟨l, rfl, lexS_placed h⟩
def lxShortS (s : ByteArray) : ByteArray := s.extract 0 (min s.size 2100)
theorem lxShortS_size (s : ByteArray) : (lxShortS s).size ≤ 2100 := by rw [lxShortS, ByteArray.size_extract]; omega
theorem lxShort (s : ByteArray) (w : World) (hs : s.size ≤ 9223372036854775807) : Calls Tryd.prog 8 #[.string s] w fun e w' => e = .returned (.string (lxShortS s)) ∧ w = w' := by
  have e : (min (s.size : Int) 2100).toNat = min s.size 2100 := by omega
  have E := Lib.hid e; clear e
  go_enter Tryd.func8, Tryd.ntmps8
  go_wp2
  go_ret
  refine ⟨?_, rfl⟩
  show Ending.returned (.string (s.extract 0 (min (s.size : Int) 2100).toNat)) = _
  rw [E.out]; rfl
theorem lex_none : lexS ⟨#[]⟩ = .ok [] := by unfold lexS; exact lexR_end _ 0 (by decide)
set_option maxRecDepth 100000 in
theorem lxAlive (w : World) (hE : Errs w) : Calls Tryd.prog 13 #[] w fun e w' => e = .returned (.bool true) ∧ Below w.heap.size w w' := by
  have HG := Lib.hid (lxGot ⟨#[]⟩ w (by decide) hE)
  have h1 : lexE ⟨#[]⟩ = 0 := by unfold lexE; rw [lex_none]; rfl
  have h2 : lexAt ⟨#[]⟩ = 0 := by unfold lexAt; rw [lex_none]; rfl
  have h3 : lexToks ⟨#[]⟩ = [⟨0, ⟨#[]⟩, 0⟩] := by unfold lexToks; rw [lex_none]; rfl
  unfold LexGot at HG
  rw [h1, h2, h3] at HG
  clear h1 h2 h3 hE
  go_enter Tryd.func13, Tryd.ntmps13
  go_wp2_with fail
  refine HG.out.mono ?_
  rintro e w2 ⟨v, rfl, ⟨a, cap, rfl, hc1, hc2, hat⟩, hb⟩
  rcases hat with h0 | ⟨b, rfl, hlt, hat⟩
  · simp at h0
  obtain ⟨k1, k2, k3⟩ := hat 0 (by simp)
  simp only [Nat.zero_mul, List.getElem_cons_zero, List.length_singleton] at k1 hc1 ⊢
  clear k2 k3 hat
  go_wp2_with fail
  go_ret
  exact ⟨rfl, hb⟩
end Go.Proofs.YtpkpbohkdkmoiaaDoor
