/- What the laid variables hold. -/
import Derived.Test.YtpkpbohkdkmoiaaDoorLxR
import Derived.LaidLaws
import Derived.MakeChecks
namespace Go.Proofs.YtpkpbohkdkmoiaaDoor
open Go.RowKit
set_option linter.unusedVariables false

theorem laid_get {P : Program} {w : World} : ∀ (l : List (String × DataW Unit)) (ps : List MemPlace), DataW.LaidVars P w l ps → ∀ x ∈ l,
    ∃ g t cs fuel p, P.globalNamed x.1 = some g ∧ (P.globals[g]?).map (·.type) = some t ∧ w.var? P x.1 = some cs ∧ DataW.trod (fun _ => ()) P w 0 (fun _ => true) false fuel t cs.toList = some (x.2, p) := by
  intro l
  induction l with
  | nil => intro ps _ x hx; cases hx
  | cons a l ih =>
    intro ps h x hx
    obtain ⟨n, d⟩ := a
    obtain ⟨g, t, cs, fuel, p, q, h1, h2, h3, h4, h5, _⟩ := h
    rcases List.mem_cons.1 hx with rfl | hx
    · exact ⟨g, t, cs, fuel, p, h1, h2, h3, h4⟩
    · exact ih q h5 x hx
theorem errs_of {W : World} {l : List (String × DataW Unit)} (h : laidMetH Tryd.prog l W) (hp : (l.all fun x => x.2.handleName?.isNone) = true)
    (h1 : ("strconv.ErrSyntax", Rows.laid_strconv_ErrSyntax) ∈ l) (h2 : ("strconv.ErrRange", Rows.laid_strconv_ErrRange) ∈ l) : Errs W := by
  rw [MakeChecks.laidMetH_plain _ _ _ hp] at h
  obtain ⟨ps, hl, _, _⟩ := h
  obtain ⟨g, t, cs, fuel, p, e1, e2, e3, e4⟩ := laid_get l ps hl _ h1
  obtain ⟨g', t', cs', fuel', p', k1, k2, k3, k4⟩ := laid_get l ps hl _ h2
  obtain rfl := Option.some.inj ((show Tryd.prog.globalNamed "strconv.ErrSyntax" = some 1 by kernel_rfl).symm.trans e1)
  obtain rfl := Option.some.inj ((show (Tryd.prog.globals[1]?).map (·.type) = some 46 by kernel_rfl).symm.trans e2)
  obtain rfl := Option.some.inj ((show Tryd.prog.globalNamed "strconv.ErrRange" = some 2 by kernel_rfl).symm.trans k1)
  obtain rfl := Option.some.inj ((show (Tryd.prog.globals[2]?).map (·.type) = some 46 by kernel_rfl).symm.trans k2)
  obtain ⟨_, u, v, ec, _⟩ := iface_of_trod Tryd.underlying46 e4
  obtain ⟨_, u', v', ec', _⟩ := iface_of_trod Tryd.underlying46 k4
  obtain rfl : cs = #[.iface u v] := Array.toList_inj.1 ec
  obtain rfl : cs' = #[.iface u' v'] := Array.toList_inj.1 ec'
  exact ⟨u, v, u', v', by have h0 := World.var?_cell e1 e3 0; simpa using h0, by have h0 := World.var?_cell k1 k3 0; simpa using h0⟩
end Go.Proofs.YtpkpbohkdkmoiaaDoor
