/- A system call that came in by value: where no record is written. -/
import Derived.Test.YtcejhfpdajbdcaaRowOpen
import Derived.Test.YtcejhfpdajbdcaaRows
namespace Go.Proofs.Ytcejhfpdajbdcaa
open Go.ChangeShapes Go.WideShapes Go.ChangeAt Go.RowKit Go.Joins
set_option linter.unusedVariables false

/-- a system call -/
structure Cal where
  nr : Nat
  arch : Nat
  ip : Nat
  args : List Nat
def Cal.ok (c : Cal) : Prop := c.nr ≤ 4294967295 ∧ c.arch ≤ 4294967295 ∧ c.ip ≤ 18446744073709551615 ∧ c.args.length = 6 ∧ ∀ a ∈ c.args, a ≤ 18446744073709551615
def Cal.cells (c : Cal) : List Value := .int .u32 (c.nr : Nat) :: .int .u32 (c.arch : Nat) :: .int .u64 (c.ip : Nat) :: c.args.map fun a => .int .u64 (a : Nat)
def Cal.value (c : Cal) : Value := .agg c.cells.toArray
def IsCal (w : World) (v : Value) (c : Cal) : Prop := v = c.value ∧ c.ok
theorem nat_u32 {a : Int} (h : (Lit.int .u32 a).wf = true) : ∃ n : Nat, a = n ∧ n ≤ 4294967295 := by
  have : 0 ≤ a ∧ a ≤ 4294967295 := by simpa [Lit.wf, IntKind.min, IntKind.max, IntKind.signed, IntKind.bits] using h
  exact ⟨a.toNat, by omega, by omega⟩
theorem nat_u64 {a : Int} (h : (Lit.int .u64 a).wf = true) : ∃ n : Nat, a = n ∧ n ≤ 18446744073709551615 := by
  have : 0 ≤ a ∧ a ≤ 18446744073709551615 := by simpa [Lit.wf, IntKind.min, IntKind.max, IntKind.signed, IntKind.bits] using h
  exact ⟨a.toNat, by omega, by omega⟩
theorem list9 {α : Type} (l : List α) (h : l.length = 9) : ∃ a b c d e f g i j, l = [a, b, c, d, e, f, g, i, j] := by
  match l, h with
  | [a, b, c, d, e, f, g, i, j], _ => exact ⟨a, b, c, d, e, f, g, i, j, rfl⟩

set_option maxRecDepth 4000 in
theorem openCall {H : Type} {enc : TypeId × Value → H} {W : World} {base : Nat} {v : Value} {d : DataW H} {p : List MemPlace}
    (hok : Value.okWide Try.prog W .any base 39 v) (h : DataW.Trod enc Try.prog W 0 (fun _ => true) true 39 v d p) : ∃ c, IsCal W v c := by
  obtain ⟨cs, rfl, hsz⟩ := okWide_struct Try.underlying39 hok
  have hC : Try.prog.cellsOf 39 = 9 := by kernel_rfl
  have h1 : Try.prog.cellsOf 22 = 1 := by kernel_rfl
  have h8 : Try.prog.cellsOf 29 = 1 := by kernel_rfl
  have h6 : Try.prog.cellsOf 37 = 6 := by kernel_rfl
  obtain ⟨c0, c1, c2, c3, c4, c5, c6, c7, c8, hl⟩ := list9 cs.toList (by rw [Array.length_toList, hsz, hC])
  obtain rfl : cs = #[c0, c1, c2, c3, c4, c5, c6, c7, c8] := Array.toList_inj.1 hl
  clear hl hsz hok
  obtain ⟨fuel, hf⟩ := h
  obtain ⟨y0, y1, y2, y3, n, _, _, k0, k1, k2, k3⟩ := trod_struct4 Try.underlying39 hf
  simp [Value.cells, h1, h8, h6] at k0 k1 k2 k3
  obtain ⟨a0, e0, rfl, w0⟩ := DataW.trod_int Try.underlying22 k0
  obtain ⟨a1, e1, rfl, w1⟩ := DataW.trod_int Try.underlying22 k1
  obtain ⟨a2, e2, rfl, w2⟩ := DataW.trod_int Try.underlying29 k2
  obtain ⟨xs, m, _, _, _, hxl, hx⟩ := DataW.trod_array Try.underlying37 k3
  have get : ∀ (i : Nat) (v : Value), i < 6 → ([c3, c4, c5, c6, c7, c8].drop i).take 1 = [v] → ∃ a : Nat, v = .int .u64 a ∧ a ≤ 18446744073709551615 := by
    intro i v hi hv
    have := hx i hi
    rw [h8, Nat.mul_one, hv, List.getElem?_eq_getElem (by omega)] at this
    obtain ⟨a, e, _, wf⟩ := DataW.trod_int Try.underlying29 this
    obtain ⟨b, rfl, hb⟩ := nat_u64 wf
    simp at e
    exact ⟨b, e, hb⟩
  obtain ⟨b0, rfl, g0⟩ := get 0 c3 (by omega) rfl
  obtain ⟨b1, rfl, g1⟩ := get 1 c4 (by omega) rfl
  obtain ⟨b2, rfl, g2⟩ := get 2 c5 (by omega) rfl
  obtain ⟨b3, rfl, g3⟩ := get 3 c6 (by omega) rfl
  obtain ⟨b4, rfl, g4⟩ := get 4 c7 (by omega) rfl
  obtain ⟨b5, rfl, g5⟩ := get 5 c8 (by omega) rfl
  obtain ⟨n0, rfl, f0⟩ := nat_u32 w0
  obtain ⟨n1, rfl, f1⟩ := nat_u32 w1
  obtain ⟨n2, rfl, f2⟩ := nat_u64 w2
  simp at e0 e1 e2
  subst e0 e1 e2
  exact ⟨⟨n0, n1, n2, [b0, b1, b2, b3, b4, b5]⟩, rfl, f0, f1, f2, rfl, by simp; omega⟩
end Go.Proofs.Ytcejhfpdajbdcaa
