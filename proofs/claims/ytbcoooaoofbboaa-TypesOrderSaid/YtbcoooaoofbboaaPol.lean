/- Policies that came in, to the bottom. -/
import Derived.Test.YtbcoooaoofbboaaCnd
import Derived.Test.YtbcoooaoofbboaaStrs
namespace Go.Proofs.Ytbcoooaoofbboaa
open Go.ChangeShapes Go.WideShapes Go.ChangeAt Go.RowKit Go.Joins Go.Deep
set_option linter.unusedVariables false

/-- a rule -/
structure Rul where
  act : ByteArray
  data : Nat
  names : List ByteArray
  cnd : Cnd
/-- a policy -/
structure Pol where
  arch : ByteArray
  dflt : ByteArray
  data : Nat
  rules : List Rul
def rulZ : Rul := ⟨⟨#[]⟩, 0, [], cndZ⟩
/-- a rule's nine cells, its two slices being these -/
def Rul.cells (m : Rul) (ks k : Value) : List Value := .string m.act :: .int .u64 (m.data : Nat) :: ks :: m.cnd.cells k
def Rul.bounded (m : Rul) : Prop := m.act.size ≤ 9223372036854775807 ∧ m.data ≤ 18446744073709551615 ∧ m.cnd.bounded
/-- a rule stands at nine cells -/
def RulAt (w : World) (m : Rul) (b o : Nat) : Prop :=
  m.bounded ∧ ∃ ks k, (∀ j u, (m.cells ks k)[j]? = some u → w.cell? ⟨b, o + j, none⟩ = some u) ∧ IsStrs w ks m.names ∧ IsCnds w k m.cnd.kids
theorem IsStrs.belowP {w w' : World} {v : Value} {l : List ByteArray} (h : IsStrs w v l) (hb : Below w.heap.size w w') : IsStrs w' v l := by
  obtain ⟨a, len, cap, rfl, h1, h2, h3, h4, h5⟩ := h
  refine ⟨a, len, cap, rfl, h1, h2, h3, h4, h5.imp id ?_⟩
  rintro ⟨b, off, rfl, hlt, hat⟩
  exact ⟨b, off, rfl, Nat.lt_of_lt_of_le hlt hb.size, fun i hi => (hb.cell (p := ⟨b, off + i, none⟩) hlt).trans (hat i hi)⟩
theorem RulAt.below {w w' : World} {m : Rul} {b o : Nat} (hb : Below w.heap.size w w') (hlt : b < w.heap.size) (h : RulAt w m b o) : RulAt w' m b o := by
  obtain ⟨h1, ks, k, h2, h3, h4⟩ := h
  exact ⟨h1, ks, k, fun j u hj => (hb.cell (p := ⟨b, o + j, none⟩) hlt).trans (h2 j u hj), h3.belowP hb, h4.below hb⟩
/-- nine cells that are known -/
theorem RulAt.cell {w : World} {m : Rul} {b o : Nat} (h : RulAt w m b o) : m.bounded ∧ ∃ na nn nc ca cn cc, IsStrs w (.slice na nn nc) m.names ∧ IsCnds w (.slice ca cn cc) m.cnd.kids ∧
    w.cell? ⟨b, o, none⟩ = some (.string m.act) ∧ w.cell? ⟨b, o + 1, none⟩ = some (.int .u64 (m.data : Nat)) ∧ w.cell? ⟨b, o + 2, none⟩ = some (.slice na nn nc) ∧
    w.cell? ⟨b, o + 3, none⟩ = some (.int .i64 m.cnd.kind) ∧ w.cell? ⟨b, o + 4, none⟩ = some (.slice ca cn cc) ∧ w.cell? ⟨b, o + 5, none⟩ = some (.int .i64 m.cnd.arg) ∧
    w.cell? ⟨b, o + 6, none⟩ = some (.int .u64 (m.cnd.mask : Nat)) ∧ w.cell? ⟨b, o + 7, none⟩ = some (.string m.cnd.sign) ∧ w.cell? ⟨b, o + 8, none⟩ = some (.int .u64 (m.cnd.value : Nat)) := by
  obtain ⟨h1, ks, k, h2, h3, h4⟩ := h
  obtain ⟨na, nn, nc, rfl, h3'⟩ := id h3
  obtain ⟨ca, cn, cc, rfl, h4'⟩ := id h4
  exact ⟨h1, na, nn, nc, ca, cn, cc, h3, h4, h2 0 _ rfl, h2 1 _ rfl, h2 2 _ rfl, h2 3 _ rfl, h2 4 _ rfl, h2 5 _ rfl, h2 6 _ rfl, h2 7 _ rfl, h2 8 _ rfl⟩
/-- a slice of rules -/
def IsRuls (w : World) (v : Value) (l : List Rul) : Prop :=
  ∃ a len cap, v = .slice a len cap ∧ l.length = len ∧ len ≤ cap ∧ cap ≤ 9223372036854775807 ∧ (a = none → cap = 0) ∧
    (len = 0 ∨ ∃ b off, a = some ⟨b, off, none⟩ ∧ b < w.heap.size ∧ ∀ i, i < len → RulAt w (l.getD i rulZ) b (off + i * 9))
theorem IsRuls.below {w w' : World} {v : Value} {l : List Rul} (h : IsRuls w v l) (hb : Below w.heap.size w w') : IsRuls w' v l := by
  obtain ⟨a, len, cap, rfl, h1, h2, h3, h4, h5⟩ := h
  refine ⟨a, len, cap, rfl, h1, h2, h3, h4, h5.imp id ?_⟩
  rintro ⟨b, off, rfl, hlt, hat⟩
  exact ⟨b, off, rfl, Nat.lt_of_lt_of_le hlt hb.size, fun i hi => (hat i hi).below hb hlt⟩
/-- a policy as a value -/
def IsPol (w : World) (v : Value) (p : Pol) : Prop := p.arch.size ≤ 9223372036854775807 ∧ p.dflt.size ≤ 9223372036854775807 ∧ p.data ≤ 18446744073709551615 ∧ ∃ k, v = .agg #[.string p.arch, .string p.dflt, .int .u64 (p.data : Nat), k] ∧ IsRuls w k p.rules
theorem IsPol.below {w w' : World} {v : Value} {p : Pol} (h : IsPol w v p) (hb : Below w.heap.size w w') : IsPol w' v p := by
  obtain ⟨h1, h2, h3, k, e, h4⟩ := h
  exact ⟨h1, h2, h3, k, e, h4.below hb⟩
/-- a rule as a value -/
def IsRul (w : World) (v : Value) (m : Rul) : Prop := m.bounded ∧ ∃ ks k, v = .agg (m.cells ks k).toArray ∧ IsStrs w ks m.names ∧ IsCnds w k m.cnd.kids
theorem IsRul.below {w w' : World} {v : Value} {m : Rul} (h : IsRul w v m) (hb : Below w.heap.size w w') : IsRul w' v m := by
  obtain ⟨h1, ks, k, e, h3, h4⟩ := h
  exact ⟨h1, ks, k, e, h3.belowP hb, h4.below hb⟩
theorem rul_at {w u : World} {A : Option Addr} {n c : Nat} {l : List Rul} (h : IsRuls w (.slice A n c) l) (hb : Below w.heap.size w u) (j : Nat) (hj : j < n) : ∃ b off, A = some ⟨b, off, none⟩ ∧ b < w.heap.size ∧ RulAt u (l.getD j rulZ) b (off + j * 9) := by
  obtain ⟨_, _, _, hv, h1, h2, h3, h4, h5⟩ := h
  injection hv with e1 e2 e3
  subst e1 e2 e3
  obtain ⟨b, off, rfl, hlt, hat⟩ := h5.resolve_left (by omega)
  exact ⟨b, off, rfl, hlt, (hat j hj).below hb hlt⟩
theorem list9 {α : Type} (l : List α) (h : l.length = 9) : ∃ a b c d e f g i j, l = [a, b, c, d, e, f, g, i, j] := by
  match l, h with
  | [a, b, c, d, e, f, g, i, j], _ => exact ⟨a, b, c, d, e, f, g, i, j, rfl⟩
set_option maxRecDepth 100000 in
theorem trod_rul {H : Type} {enc : TypeId × Value → H} {W : World} {fuel : Nat} {cs : List Value} {y : DataW H × List MemPlace} (hcl : cs.length = 9) (h : DataW.trod enc Try.prog W 0 (fun _ => true) true fuel 46 cs = some y) :
    ∃ (m : Rul) (ks k : Value), m.bounded ∧ cs = m.cells ks k ∧ IsStrs W ks m.names ∧ IsCnds W k m.cnd.kids := by
  obtain ⟨c0, c1, c2, c3, c4, c5, c6, c7, c8, rfl⟩ := list9 cs hcl
  obtain ⟨y0, y1, y2, y3, n', _, _, k0, k1, k2, k3⟩ := trod_struct4 Try.underlying46 h
  have hs : Try.prog.cellsOf 9 = 1 := by kernel_rfl
  have h8 : Try.prog.cellsOf 23 = 1 := by kernel_rfl
  have h1 : Try.prog.cellsOf 44 = 1 := by kernel_rfl
  have h6 : Try.prog.cellsOf 25 = 6 := by kernel_rfl
  simp [hs, h8, h1, h6] at k0 k1 k2 k3
  obtain ⟨s0, e0, _, w0⟩ := DataW.trod_string Try.underlying9 k0
  obtain ⟨a1, e1, _, w1⟩ := DataW.trod_int Try.underlying23 k1
  obtain ⟨hsl, d0, p0, ht0⟩ := slice_of_trod Try.underlying44 k2
  obtain ⟨l, hl⟩ := openStrsS hsl ht0
  obtain ⟨c, k, hbd, hcs, hk⟩ := trod_cnd _ _ _ k3
  simp at e0 e1
  subst e0 e1
  obtain ⟨n1, rfl, f1⟩ := wf_nat64 w1
  unfold maxLen at w0
  refine ⟨⟨s0, n1, l, c⟩, c2, k, ⟨w0, f1, hbd⟩, ?_, hl, hk⟩
  show _ = .string s0 :: .int .u64 (n1 : Nat) :: c2 :: c.cells k
  rw [← hcs]
set_option maxRecDepth 100000 in
theorem openRuls {H : Type} {enc : TypeId × Value → H} {W : World} {v : Value} {d : DataW H} {p : List MemPlace}
    (hv : ∃ a len cap, v = .slice a len cap) (h : DataW.Trod enc Try.prog W 0 (fun _ => true) true 30 v d p) : ∃ l, IsRuls W v l := by
  obtain ⟨a, len, cap, rfl, hl, hm, hat⟩ := openElemsS (e := 46) 9 undef Try.underlying30 (by kernel_rfl) (by omega) hv h
  have hnil : a = none → cap = 0 := by
    rintro rfl
    obtain ⟨fuel, hf⟩ := h
    rcases open_slice Try.underlying30 hf with ⟨hcs, _⟩ | ⟨x, l', c, m, n, D, Pl, hcs, _⟩
    · simp [Value.cells] at hcs
      exact hcs.2
    · simp [Value.cells] at hcs
  rcases hat with rfl | ⟨b, off, rfl, hb, hat⟩
  · exact ⟨[], _, 0, _, rfl, rfl, by omega, hm, hnil, .inl rfl⟩
  · obtain ⟨l, hll, hP⟩ := list_of (P := fun i (m : Rul) => RulAt W m b (off + i * 9)) rulZ len fun i hlt => by
      obtain ⟨cs, n, y, hcl, hc, htr⟩ := hat i hlt
      obtain ⟨m, ks, k, hbd, rfl, hu, hk⟩ := trod_rul hcl htr
      refine ⟨m, hbd, ks, k, fun j u hj => ?_, hu, hk⟩
      have hj9 : j < 9 := by
        have := (List.getElem?_eq_some_iff.1 hj).1
        simpa [Rul.cells, Cnd.cells] using this
      rw [hc j hj9, List.getD, hj]; rfl
    exact ⟨l, _, len, _, rfl, hll, hl, hm, hnil, .inr ⟨b, off, rfl, hb, hP⟩⟩
set_option maxRecDepth 100000 in
theorem openPolicy {H : Type} {enc : TypeId × Value → H} {W : World} {base : Nat} {v : Value} {d : DataW H} {p : List MemPlace}
    (hok : Value.okWide Try.prog W .any base 32 v) (h : DataW.Trod enc Try.prog W 0 (fun _ => true) true 32 v d p) : ∃ t, IsPol W v t := by
  obtain ⟨cs, rfl, hsz⟩ := okWide_struct Try.underlying32 hok
  have hC : Try.prog.cellsOf 32 = 4 := by kernel_rfl
  have hs : Try.prog.cellsOf 9 = 1 := by kernel_rfl
  have h8 : Try.prog.cellsOf 23 = 1 := by kernel_rfl
  have h1 : Try.prog.cellsOf 30 = 1 := by kernel_rfl
  have hl4 : cs.toList.length = 4 := by rw [Array.length_toList, hsz, hC]
  obtain ⟨fuel, hf⟩ := h
  obtain ⟨y0, y1, y2, y3, n', _, _, k0, k1, k2, k3⟩ := trod_struct4 Try.underlying32 hf
  obtain ⟨l⟩ := cs
  match l, hl4 with
  | [c0, c1, c2, c3], _ =>
    simp [Value.cells, hs, h8, h1] at k0 k1 k2 k3
    obtain ⟨s0, e0, _, w0⟩ := DataW.trod_string Try.underlying9 k0
    obtain ⟨s1, e1, _, w1⟩ := DataW.trod_string Try.underlying9 k1
    obtain ⟨a2, e2, _, w2⟩ := DataW.trod_int Try.underlying23 k2
    obtain ⟨hsl, d3, p3, ht3⟩ := slice_of_trod Try.underlying30 k3
    simp at e0 e1 e2
    subst e0 e1 e2
    obtain ⟨n2, rfl, f2⟩ := wf_nat64 w2
    obtain ⟨l, hl⟩ := openRuls hsl ht3
    unfold maxLen at w0 w1
    exact ⟨⟨s0, s1, n2, l⟩, w0, w1, f2, _, rfl, hl⟩
end Go.Proofs.Ytbcoooaoofbboaa
