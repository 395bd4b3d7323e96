/- Rows of bools that came in. -/
import Derived.Test.YthnmnnlbglpjaaaDoorRow1
import Derived.Test.YthnmnnlbglpjaaaDoorRows
import Derived.Outline
namespace Go.Proofs.YthnmnnlbglpjaaaDoor
open Go.ChangeShapes Go.WideShapes Go.ChangeAt Go.RowKit Go.Joins Go.Deep
set_option linter.unusedVariables false

abbrev IsBools (w : World) (v : Value) (l : List Bool) : Prop := Reads1 Value.bool w v l
set_option maxRecDepth 4000 in
theorem openBools {H : Type} {enc : TypeId × Value → H} {W : World} {base : Nat} {v : Value} {d : DataW H} {p : List MemPlace}
    (hok : Value.okWide Tryd.prog W .any base 116 v) (h : DataW.Trod enc Tryd.prog W 0 (fun _ => true) true 116 v d p) : ∃ l, IsBools W v l := by
  obtain ⟨a, len, cap, rfl, hl, hm, hat⟩ := openElems (e := 4) 1 undef Tryd.underlying116 (by kernel_rfl) (by omega) hok h
  rcases hat with rfl | ⟨b, off, rfl, hb, hat⟩
  · exact ⟨[], _, 0, _, rfl, rfl, by omega, hm, .inl rfl⟩
  · obtain ⟨l, hll, hP⟩ := list_of (P := fun i (k : Bool) => W.cell? ⟨b, off + i, none⟩ = some (.bool k)) true len fun i hlt => by
      obtain ⟨cs, n, y, hcl, hc, htr⟩ := hat i hlt
      match cs, hcl with
      | [c0], _ =>
        obtain ⟨a0, e0, _⟩ := DataW.trod_bool Tryd.underlying4 htr
        simp at e0
        subst e0
        have := hc 0 (by omega)
        exact ⟨a0, by simpa using this⟩
    refine ⟨l, _, len, _, rfl, hll, hl, hm, .inr ⟨b, off, rfl, hb, fun i hi => ?_⟩⟩
    have := hP i (by omega)
    rwa [show l.getD i true = l[i] from by simp [List.getD, hi]] at this

end Go.Proofs.YthnmnnlbglpjaaaDoor
