/- Writes: a row of them. -/
import Derived.Test.YtimiooiaohfelaaDoorGen
import Derived.Test.YtimiooiaohfelaaDoorRows
import Derived.Test.YtimiooiaohfelaaDoorRowOpen
import Derived.ChangeSame
namespace Go.Proofs.YtimiooiaohfelaaDoor
open Go.ChangeShapes Go.WideShapes Go.ChangeAt Go.RowKit Go.Joins Go.Deep
set_option linter.unusedVariables false

/-- a write on its way -/
structure Wrt where
  sector : Int
  bytes : ByteArray
  deriving DecidableEq
def wrtZ : Wrt := ⟨0, ⟨#[]⟩⟩
def Wrt.bounded (x : Wrt) : Prop := (-9223372036854775808 ≤ x.sector ∧ x.sector ≤ 9223372036854775807) ∧ x.bytes.size ≤ 9223372036854775807
def WrtAt (w : World) (b o : Nat) (x : Wrt) : Prop :=
  w.cell? ⟨b, o, none⟩ = some (.int .i64 x.sector) ∧ w.cell? ⟨b, o + 1, none⟩ = some (.string x.bytes)
theorem WrtAt.below {w w' : World} {B b o : Nat} {i : Wrt} (h : WrtAt w b o i) (hb : Below B w w') (hB : b < B) : WrtAt w' b o i :=
  ⟨(hb.cell (p := ⟨b, o, none⟩) hB).trans h.1, (hb.cell (p := ⟨b, o + 1, none⟩) hB).trans h.2⟩
/-- v is a slice whose elements are the writes l. -/
def IsWrts (w : World) (v : Value) (l : List Wrt) : Prop :=
  ∃ a len cap, v = .slice a len cap ∧ l.length = len ∧ len ≤ cap ∧ cap ≤ 9223372036854775807 ∧ (∀ i ∈ l, i.bounded) ∧
    (len = 0 ∨ ∃ b off, a = some ⟨b, off, none⟩ ∧ b < w.heap.size ∧ ∀ i, i < len → WrtAt w b (off + i * 2) (l.getD i wrtZ))
theorem IsWrts.below {w w' : World} {v : Value} {l : List Wrt} (h : IsWrts w v l) (hb : Below w.heap.size w w') : IsWrts w' v l := by
  obtain ⟨a, len, cap, rfl, hlen, hc1, hc2, hbd, hat⟩ := h
  refine ⟨a, len, cap, rfl, hlen, hc1, hc2, hbd, hat.imp id ?_⟩
  rintro ⟨b, off, rfl, hlt, hat⟩
  exact ⟨b, off, rfl, Nat.lt_of_lt_of_le hlt hb.size, fun i hi => (hat i hi).below hb hlt⟩
theorem IsWrts.take {w : World} {v : Value} {l : List Wrt} (h : IsWrts w v l) : ∃ a len cap, v = .slice a len cap ∧ l.length = len ∧ len ≤ cap ∧ cap ≤ 9223372036854775807 ∧
    ∀ m, m ≤ len → IsWrts w (.slice a m cap) (l.take m) := by
  obtain ⟨a, len, cap, rfl, hlen, hc1, hc2, hbd, hat⟩ := h
  refine ⟨a, len, cap, rfl, hlen, hc1, hc2, fun m hm => ⟨a, m, cap, rfl, by rw [List.length_take]; omega, by omega, hc2, fun i hi => hbd i (List.mem_of_mem_take hi), ?_⟩⟩
  rcases hat with h0 | ⟨b, off, rfl, hb, hat⟩
  · exact .inl (by omega)
  · refine .inr ⟨b, off, rfl, hb, fun i hi => ?_⟩
    have := hat i (by omega)
    rwa [show (l.take m).getD i wrtZ = l.getD i wrtZ from by simp [List.getD, hi]]
set_option maxRecDepth 100000 in
theorem openWrts {H : Type} {enc : TypeId × Value → H} {W : World} {v : Value} {d : DataW H} {p : List MemPlace}
    (hv : ∃ a len cap, v = .slice a len cap) (h : DataW.Trod enc Tryd.prog W 0 (fun _ => true) true 23 v d p) : ∃ l, IsWrts W v l := by
  obtain ⟨a, len, cap, rfl, hl, hm, hat⟩ := openElemsS (e := 49) 2 undef Tryd.underlying23 (by kernel_rfl) (by omega) hv h
  rcases hat with rfl | ⟨b, off, rfl, hb, hat⟩
  · exact ⟨[], _, 0, _, rfl, rfl, by omega, hm, by simp, .inl rfl⟩
  · obtain ⟨l, hll, hP⟩ := list_of (P := fun i (k : Wrt) => k.bounded ∧ WrtAt W b (off + i * 2) k) wrtZ len fun i hlt => by
      obtain ⟨cs, n, y, hcl, hc, htr⟩ := hat i hlt
      match cs, hcl with
      | [c0, c1], _ =>
        obtain ⟨y0, y1, n', _, _, k0, k1⟩ := trod_struct2 Tryd.underlying49 htr
        have h8 : Tryd.prog.cellsOf 3 = 1 := by kernel_rfl
        have h4 : Tryd.prog.cellsOf 9 = 1 := by kernel_rfl
        simp [h8, h4] at k0 k1
        obtain ⟨a0, e0, _, w0⟩ := DataW.trod_int Tryd.underlying3 k0
        obtain ⟨a1, e1, _, w1⟩ := DataW.trod_string Tryd.underlying9 k1
        simp at e0 e1
        subst e0 e1
        have w1' : a1.size ≤ 9223372036854775807 := by unfold maxLen at w1; omega
        exact ⟨⟨a0, a1⟩, ⟨wf_i64 w0, w1'⟩, hc 0 (by omega), hc 1 (by omega)⟩
    refine ⟨l, _, len, _, rfl, hll, hl, hm, fun i hmem => ?_, .inr ⟨b, off, rfl, hb, fun i hlt => (hP i hlt).2⟩⟩
    obtain ⟨k, hk, rfl⟩ := List.mem_iff_getElem.1 hmem
    have := (hP k (by omega)).1
    rwa [show l.getD k wrtZ = l[k] from by simp [List.getD, hk]] at this
theorem nilWrts (w : World) : IsWrts w (.slice none 0 0) [] := ⟨none, 0, 0, rfl, rfl, by omega, by omega, by simp, .inl rfl⟩
end Go.Proofs.YtimiooiaohfelaaDoor
