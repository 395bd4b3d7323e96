/- A slice of instructions that came in. -/
import Derived.Test.YtpdfahlglalebaaInsnOpen
namespace Go.Proofs.Ytpdfahlglalebaa
open Go.ChangeShapes Go.WideShapes Go.ChangeAt Go.RowKit Go.Joins Go.Deep
set_option linter.unusedVariables false

def insZ : Ins := ⟨0, 0, 0, 0⟩
def Ins.cells (i : Ins) : List Value := [.int .i64 i.code, .int .i64 i.jt, .int .i64 i.jf, .int .u32 i.k]
/-- four cells at a place are an instruction's -/
def InsAt (w : World) (b o : Nat) (i : Ins) : Prop :=
  w.cell? ⟨b, o, none⟩ = some (.int .i64 i.code) ∧ w.cell? ⟨b, o + 1, none⟩ = some (.int .i64 i.jt) ∧ w.cell? ⟨b, o + 2, none⟩ = some (.int .i64 i.jf) ∧ w.cell? ⟨b, o + 3, none⟩ = some (.int .u32 i.k)
theorem InsAt.below {w w' : World} {B b o : Nat} {i : Ins} (h : InsAt w b o i) (hb : Below B w w') (hB : b < B) : InsAt w' b o i :=
  ⟨(hb.cell (p := ⟨b, o, none⟩) hB).trans h.1, (hb.cell (p := ⟨b, o + 1, none⟩) hB).trans h.2.1, (hb.cell (p := ⟨b, o + 2, none⟩) hB).trans h.2.2.1, (hb.cell (p := ⟨b, o + 3, none⟩) hB).trans h.2.2.2⟩
/-- v is a slice whose elements are the instructions l. -/
def IsInsns (w : World) (v : Value) (l : List Ins) : Prop :=
  ∃ a len cap, v = .slice a len cap ∧ l.length = len ∧ len ≤ cap ∧ cap ≤ 9223372036854775807 ∧ (∀ i ∈ l, i.bounded) ∧
    (len = 0 ∨ ∃ b off, a = some ⟨b, off, none⟩ ∧ b < w.heap.size ∧ ∀ i, i < len → InsAt w b (off + i * 4) (l.getD i insZ))

theorem openInsns {H : Type} {enc : TypeId × Value → H} {W : World} {base : Nat} {v : Value} {d : DataW H} {p : List MemPlace}
    (hok : Value.okWide Try.prog W .any base 22 v) (h : DataW.Trod enc Try.prog W 0 (fun _ => true) true 22 v d p) : ∃ l, IsInsns W v l := by
  obtain ⟨a, len, cap, rfl, hl, hm, hat⟩ := openElems (e := 38) 4 undef Try.underlying22 (by kernel_rfl) (by omega) hok h
  rcases hat with rfl | ⟨b, off, rfl, hb, hat⟩
  · exact ⟨[], _, 0, _, rfl, rfl, by omega, hm, by simp, .inl rfl⟩
  · obtain ⟨l, hll, hP⟩ := list_of (P := fun i (k : Ins) => k.bounded ∧ InsAt W b (off + i * 4) k) insZ len fun i hlt => by
      obtain ⟨cs, n, y, hcl, hc, htr⟩ := hat i hlt
      match cs, hcl with
      | [c0, c1, c2, c3], _ =>
        obtain ⟨y0, y1, y2, y3, n', _, _, k0, k1, k2, k3⟩ := trod_struct4 Try.underlying38 htr
        have h8 : Try.prog.cellsOf 3 = 1 := by kernel_rfl
        have h4 : Try.prog.cellsOf 33 = 1 := by kernel_rfl
        simp [h8, h4] at k0 k1 k2 k3
        obtain ⟨a0, e0, _, w0⟩ := DataW.trod_int Try.underlying3 k0
        obtain ⟨a1, e1, _, w1⟩ := DataW.trod_int Try.underlying3 k1
        obtain ⟨a2, e2, _, w2⟩ := DataW.trod_int Try.underlying3 k2
        obtain ⟨a3, e3, _, w3⟩ := DataW.trod_int Try.underlying33 k3
        simp at e0 e1 e2 e3
        subst e0 e1 e2 e3
        exact ⟨⟨a0, a1, a2, a3⟩, ⟨wf_i64 w0, wf_i64 w1, wf_i64 w2, wf_u32 w3⟩, hc 0 (by omega), hc 1 (by omega), hc 2 (by omega), hc 3 (by omega)⟩
    refine ⟨l, _, len, _, rfl, hll, hl, hm, fun i hmem => ?_, .inr ⟨b, off, rfl, hb, fun i hlt => (hP i hlt).2⟩⟩
    obtain ⟨k, hk, rfl⟩ := List.mem_iff_getElem.1 hmem
    have := (hP k (by omega)).1
    rwa [show l.getD k insZ = l[k] from by simp [List.getD, hk]] at this
end Go.Proofs.Ytpdfahlglalebaa
