/- A request that a law is given. -/
import Derived.Test.YtmanlogclbbgaaaFr2
import Derived.Test.YtmanlogclbbgaaaRowOpen
import Derived.Test.YtmanlogclbbgaaaRows
import Derived.WideShapes
namespace Go.Proofs.Ytmanlogclbbgaaa
open Go.RowKit Go.ChangeShapes Go.WideShapes Go.ChangeAt
set_option linter.unusedVariables false

def IsAsk (w : World) (v : Value) (q : Asq) : Prop := v = q.value ∧ (-9223372036854775808 ≤ q.kind ∧ q.kind ≤ 9223372036854775807) ∧ (-9223372036854775808 ≤ q.no ∧ q.no ≤ 9223372036854775807) ∧ q.name.size ≤ maxLen ∧ q.source.size ≤ maxLen ∧ q.record.size ≤ maxLen
set_option maxRecDepth 100000 in
theorem openAsk {H : Type} {enc : TypeId × Value → H} {W : World} {base : Nat} {v : Value} {d : DataW H} {p : List MemPlace}
    (hok : Value.okWide Try.prog W .any base 23 v) (h : DataW.Trod enc Try.prog W 0 (fun _ => true) true 23 v d p) : ∃ q, IsAsk W v q := by
  obtain ⟨cs, rfl, hsz⟩ := okWide_struct Try.underlying23 hok
  obtain ⟨fuel, hf⟩ := h
  obtain ⟨xs, n, _, _, hl, hlen, hf⟩ := DataW.trod_struct Try.underlying23 hf
  have h5 : Try.prog.cellsOf 23 = 5 := by kernel_rfl
  rw [h5] at hl
  have z3 : Try.prog.cellsOf 3 = 1 := by kernel_rfl
  have z4 : Try.prog.cellsOf 9 = 1 := by kernel_rfl
  obtain ⟨cl⟩ := cs
  simp only [Value.cells] at hl hf
  match xs, hlen, cl, hl with
  | [x0, x1, x2, x3, x4], _, [c0, c1, c2, c3, c4], _ =>
    have k0 := hf 0 _ rfl
    have k1 := hf 1 _ rfl
    have k2 := hf 2 _ rfl
    have k3 := hf 3 _ rfl
    have k4 := hf 4 _ rfl
    simp [z3, z4] at k0 k1 k2 k3 k4
    obtain ⟨a0, e0, _, w0⟩ := DataW.trod_int Try.underlying3 k0
    obtain ⟨a1, e1, _, w1⟩ := DataW.trod_string Try.underlying9 k1
    obtain ⟨a2, e2, _, w2⟩ := DataW.trod_int Try.underlying3 k2
    obtain ⟨a3, e3, _, w3⟩ := DataW.trod_string Try.underlying9 k3
    obtain ⟨a4, e4, _, w4⟩ := DataW.trod_string Try.underlying9 k4
    simp at e0 e1 e2 e3 e4
    subst e0 e1 e2 e3 e4
    exact ⟨⟨a0, a1, a2, a3, a4⟩, rfl, wf_i64 w0, wf_i64 w2, w1, w3, w4⟩
end Go.Proofs.Ytmanlogclbbgaaa
