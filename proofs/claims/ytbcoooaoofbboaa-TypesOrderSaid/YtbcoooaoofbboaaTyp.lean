/- Checked policies that came in, to the bottom. -/
import Derived.Test.YtbcoooaoofbboaaCnd
import Derived.Deep.Strs
namespace Go.Proofs.Ytbcoooaoofbboaa
open Go.ChangeShapes Go.WideShapes Go.ChangeAt Go.RowKit Go.Joins Go.Deep
set_option linter.unusedVariables false

/-- a rule with its calls' numbers -/
structure Mtc where
  nrs : List Nat
  cnd : Cnd
  act : Nat
/-- a checked policy -/
structure Typ where
  arch : Nat
  dflt : Nat
  rules : List Mtc
def mtcZ : Mtc := ⟨[], cndZ, 0⟩
/-- v is a slice whose elements are the numbers l -/
def IsU32s (w : World) (v : Value) (l : List Nat) : Prop :=
  ∃ a len cap, v = .slice a len cap ∧ l.length = len ∧ len ≤ cap ∧ cap ≤ 9223372036854775807 ∧ (∀ n ∈ l, n ≤ 4294967295) ∧ (a = none → cap = 0) ∧
    (len = 0 ∨ ∃ b off, a = some ⟨b, off, none⟩ ∧ b < w.heap.size ∧ ∀ i, i < len → w.cell? ⟨b, off + i, none⟩ = some (.int .u32 (l.getD i 0 : Nat)))
theorem IsU32s.below {w w' : World} {v : Value} {l : List Nat} (h : IsU32s w v l) (hb : Below w.heap.size w w') : IsU32s w' v l := by
  obtain ⟨a, len, cap, rfl, h1, h2, h3, h4, h5, h6⟩ := h
  refine ⟨a, len, cap, rfl, h1, h2, h3, h4, h5, h6.imp id ?_⟩
  rintro ⟨b, off, rfl, hlt, hat⟩
  exact ⟨b, off, rfl, Nat.lt_of_lt_of_le hlt hb.size, fun i hi => (hb.cell (p := ⟨b, off + i, none⟩) hlt).trans (hat i hi)⟩
/-- a rule stands at eight cells -/
def MtcAt (w : World) (m : Mtc) (b o : Nat) : Prop :=
  ∃ ks, w.cell? ⟨b, o, none⟩ = some ks ∧ IsU32s w ks m.nrs ∧ CndAt w m.cnd b (o + 1) ∧ w.cell? ⟨b, o + 7, none⟩ = some (.int .u32 (m.act : Nat)) ∧ m.act ≤ 4294967295
theorem MtcAt.below {w w' : World} {m : Mtc} {b o : Nat} (hb : Below w.heap.size w w') (hlt : b < w.heap.size) (h : MtcAt w m b o) : MtcAt w' m b o := by
  obtain ⟨ks, h1, h2, h3, h4, h5⟩ := h
  exact ⟨ks, (hb.cell (p := ⟨b, o, none⟩) hlt).trans h1, h2.below hb, CndAt.below hb _ b _ hlt h3, (hb.cell (p := ⟨b, o + 7, none⟩) hlt).trans h4, h5⟩
/-- a slice of rules -/
def IsMtcs (w : World) (v : Value) (l : List Mtc) : Prop :=
  ∃ a len cap, v = .slice a len cap ∧ l.length = len ∧ len ≤ cap ∧ cap ≤ 9223372036854775807 ∧ (a = none → cap = 0) ∧
    (len = 0 ∨ ∃ b off, a = some ⟨b, off, none⟩ ∧ b < w.heap.size ∧ ∀ i, i < len → MtcAt w (l.getD i mtcZ) b (off + i * 8))
theorem IsMtcs.below {w w' : World} {v : Value} {l : List Mtc} (h : IsMtcs w v l) (hb : Below w.heap.size w w') : IsMtcs w' v l := by
  obtain ⟨a, len, cap, rfl, h1, h2, h3, h4, h5⟩ := h
  refine ⟨a, len, cap, rfl, h1, h2, h3, h4, h5.imp id ?_⟩
  rintro ⟨b, off, rfl, hlt, hat⟩
  exact ⟨b, off, rfl, Nat.lt_of_lt_of_le hlt hb.size, fun i hi => (hat i hi).below hb hlt⟩
/-- a checked policy as a value -/
def IsTyp (w : World) (v : Value) (t : Typ) : Prop := t.arch ≤ 4294967295 ∧ t.dflt ≤ 4294967295 ∧ ∃ k, v = .agg #[.int .u32 (t.arch : Nat), .int .u32 (t.dflt : Nat), k] ∧ IsMtcs w k t.rules
theorem IsTyp.below {w w' : World} {v : Value} {t : Typ} (h : IsTyp w v t) (hb : Below w.heap.size w w') : IsTyp w' v t := by
  obtain ⟨h1, h2, k, e, h3⟩ := h
  exact ⟨h1, h2, k, e, h3.below hb⟩
/-- a rule as a value -/
def IsMtc (w : World) (v : Value) (m : Mtc) : Prop := m.act ≤ 4294967295 ∧ m.cnd.bounded ∧ ∃ ks k, v = .agg #[ks, .int .i64 m.cnd.kind, k, .int .i64 m.cnd.arg, .int .u64 (m.cnd.mask : Nat), .string m.cnd.sign, .int .u64 (m.cnd.value : Nat), .int .u32 (m.act : Nat)] ∧ IsU32s w ks m.nrs ∧ IsCnds w k m.cnd.kids
theorem IsMtc.below {w w' : World} {v : Value} {m : Mtc} (h : IsMtc w v m) (hb : Below w.heap.size w w') : IsMtc w' v m := by
  obtain ⟨h1, h2, ks, k, e, h3, h4⟩ := h
  exact ⟨h1, h2, ks, k, e, h3.below hb, h4.below hb⟩
theorem IsMtc.cnd {w : World} {v : Value} {m : Mtc} (h : IsMtc w v m) : ∃ k, IsCnd w (.agg #[.int .i64 m.cnd.kind, k, .int .i64 m.cnd.arg, .int .u64 (m.cnd.mask : Nat), .string m.cnd.sign, .int .u64 (m.cnd.value : Nat)]) m.cnd := by
  obtain ⟨h1, h2, ks, k, e, h3, h4⟩ := h
  exact ⟨k, h2, k, rfl, h4⟩
/-- the eight cells of a rule -/
theorem MtcAt.cell {w : World} {m : Mtc} {b o : Nat} (h : MtcAt w m b o) : m.act ≤ 4294967295 ∧ m.cnd.bounded ∧ ∃ ka kn kc ca cn cc, IsU32s w (.slice ka kn kc) m.nrs ∧ IsCnds w (.slice ca cn cc) m.cnd.kids ∧ w.cell? ⟨b, o, none⟩ = some (.slice ka kn kc) ∧
    w.cell? ⟨b, o + 1, none⟩ = some (.int .i64 m.cnd.kind) ∧ w.cell? ⟨b, o + 2, none⟩ = some (.slice ca cn cc) ∧ w.cell? ⟨b, o + 3, none⟩ = some (.int .i64 m.cnd.arg) ∧
    w.cell? ⟨b, o + 4, none⟩ = some (.int .u64 (m.cnd.mask : Nat)) ∧ w.cell? ⟨b, o + 5, none⟩ = some (.string m.cnd.sign) ∧ w.cell? ⟨b, o + 6, none⟩ = some (.int .u64 (m.cnd.value : Nat)) ∧ w.cell? ⟨b, o + 7, none⟩ = some (.int .u32 (m.act : Nat)) := by
  obtain ⟨ks, h1, h2, h3, h4, h5⟩ := h
  obtain ⟨hb, k, hk, c0, c1, c2, c3, c4, c5⟩ := h3.cell
  obtain ⟨ka, kn, kc, rfl, h2'⟩ := id h2
  obtain ⟨ca, cn, cc, rfl, hk'⟩ := id hk
  exact ⟨h5, hb, ka, kn, kc, ca, cn, cc, h2, hk, h1, c0, c1, c2, c3, c4, c5, h4⟩
theorem nat32 {a : Int} (h : (Lit.int .u32 a).wf = true) : ∃ n : Nat, a = n ∧ n ≤ 4294967295 := by
  have := wf_u32 h
  exact ⟨a.toNat, by omega, by omega⟩
theorem list8 {α : Type} (l : List α) (h : l.length = 8) : ∃ a b c d e f g i, l = [a, b, c, d, e, f, g, i] := by
  match l, h with
  | [a, b, c, d, e, f, g, i], _ => exact ⟨a, b, c, d, e, f, g, i, rfl⟩
set_option maxRecDepth 100000 in
theorem openU32s {H : Type} {enc : TypeId × Value → H} {W : World} {v : Value} {d : DataW H} {p : List MemPlace}
    (hv : ∃ a len cap, v = .slice a len cap) (h : DataW.Trod enc Try.prog W 0 (fun _ => true) true 47 v d p) : ∃ l, IsU32s W v l := by
  obtain ⟨a, len, cap, rfl, hl, hm, hat⟩ := openElemsS (e := 35) 1 undef Try.underlying47 (by kernel_rfl) (by omega) hv h
  have hnil : a = none → cap = 0 := by
    rintro rfl
    obtain ⟨fuel, hf⟩ := h
    rcases open_slice Try.underlying47 hf with ⟨hcs, _⟩ | ⟨x, l', c, m, n, D, Pl, hcs, _⟩
    · simp [Value.cells] at hcs
      exact hcs.2
    · simp [Value.cells] at hcs
  rcases hat with rfl | ⟨b, off, rfl, hb, hat⟩
  · exact ⟨[], _, 0, _, rfl, rfl, by omega, hm, by simp, hnil, .inl rfl⟩
  · obtain ⟨l, hll, hP⟩ := list_of (P := fun i (k : Nat) => k ≤ 4294967295 ∧ W.cell? ⟨b, off + i, none⟩ = some (.int .u32 (k : Nat))) 0 len fun i hlt => by
      obtain ⟨cs, n, y, hcl, hc, htr⟩ := hat i hlt
      match cs, hcl with
      | [c0], _ =>
        obtain ⟨a0, e0, _, w0⟩ := DataW.trod_int Try.underlying35 htr
        simp at e0
        subst e0
        obtain ⟨n1, rfl, f1⟩ := nat32 w0
        have := hc 0 (by omega)
        rw [Nat.mul_one, Nat.add_zero] at this
        exact ⟨n1, f1, this⟩
    refine ⟨l, _, len, _, rfl, hll, hl, hm, fun i hmem => ?_, hnil, .inr ⟨b, off, rfl, hb, fun i hlt => (hP i hlt).2⟩⟩
    obtain ⟨k, hk, rfl⟩ := List.mem_iff_getElem.1 hmem
    have := (hP k (by omega)).1
    rwa [show l.getD k 0 = l[k] from by simp [List.getD, hk]] at this
set_option maxRecDepth 100000 in
theorem trod_mtc {H : Type} {enc : TypeId × Value → H} {W : World} {fuel : Nat} {cs : List Value} {y : DataW H × List MemPlace} (hcl : cs.length = 8) (h : DataW.trod enc Try.prog W 0 (fun _ => true) true fuel 49 cs = some y) :
    ∃ (m : Mtc) (ks k : Value), m.act ≤ 4294967295 ∧ m.cnd.bounded ∧ cs = ks :: (m.cnd.cells k ++ [.int .u32 (m.act : Nat)]) ∧ IsU32s W ks m.nrs ∧ IsCnds W k m.cnd.kids := by
  obtain ⟨c0, c1, c2, c3, c4, c5, c6, c7, rfl⟩ := list8 cs hcl
  obtain ⟨y0, y1, y2, n', _, _, k0, k1, k2⟩ := trod_struct3 Try.underlying49 h
  have h4 : Try.prog.cellsOf 35 = 1 := by kernel_rfl
  have h1 : Try.prog.cellsOf 47 = 1 := by kernel_rfl
  have h6 : Try.prog.cellsOf 25 = 6 := by kernel_rfl
  simp [h1, h4, h6] at k0 k1 k2
  obtain ⟨hs, d0, p0, ht0⟩ := slice_of_trod Try.underlying47 k0
  obtain ⟨l, hl⟩ := openU32s hs ht0
  obtain ⟨c, k, hbd, hcs, hk⟩ := trod_cnd _ _ _ k1
  obtain ⟨a2, e2, _, w2⟩ := DataW.trod_int Try.underlying35 k2
  simp at e2
  subst e2
  obtain ⟨n1, rfl, f1⟩ := nat32 w2
  refine ⟨⟨l, c, n1⟩, c0, k, f1, hbd, ?_, hl, hk⟩
  show _ = c0 :: (c.cells k ++ [.int .u32 (n1 : Nat)])
  rw [← hcs]
  rfl
set_option maxRecDepth 100000 in
theorem openMtcs {H : Type} {enc : TypeId × Value → H} {W : World} {v : Value} {d : DataW H} {p : List MemPlace}
    (hv : ∃ a len cap, v = .slice a len cap) (h : DataW.Trod enc Try.prog W 0 (fun _ => true) true 36 v d p) : ∃ l, IsMtcs W v l := by
  obtain ⟨a, len, cap, rfl, hl, hm, hat⟩ := openElemsS (e := 49) 8 undef Try.underlying36 (by kernel_rfl) (by omega) hv h
  have hnil : a = none → cap = 0 := by
    rintro rfl
    obtain ⟨fuel, hf⟩ := h
    rcases open_slice Try.underlying36 hf with ⟨hcs, _⟩ | ⟨x, l', c, m, n, D, Pl, hcs, _⟩
    · simp [Value.cells] at hcs
      exact hcs.2
    · simp [Value.cells] at hcs
  rcases hat with rfl | ⟨b, off, rfl, hb, hat⟩
  · exact ⟨[], _, 0, _, rfl, rfl, by omega, hm, hnil, .inl rfl⟩
  · obtain ⟨l, hll, hP⟩ := list_of (P := fun i (m : Mtc) => MtcAt W m b (off + i * 8)) mtcZ len fun i hlt => by
      obtain ⟨cs, n, y, hcl, hc, htr⟩ := hat i hlt
      obtain ⟨m, ks, k, ha, hbd, rfl, hu, hk⟩ := trod_mtc hcl htr
      refine ⟨m, ks, hc 0 (by omega), hu, (cndAt_iff W m.cnd b _).2 ⟨hbd, k, fun j u hj => ?_, hk⟩, hc 7 (by omega), ha⟩
      have hj6 : j < 6 := by
        have := (List.getElem?_eq_some_iff.1 hj).1
        simpa [Cnd.cells] using this
      have := hc (1 + j) (by omega)
      rw [← Nat.add_assoc] at this
      rw [this]
      have e : (ks :: (m.cnd.cells k ++ [.int .u32 (m.act : Nat)]))[1 + j]? = some u := by
        rw [Nat.add_comm 1 j, List.getElem?_cons_succ, List.getElem?_append_left (by simp [Cnd.cells]; omega), hj]
      rw [List.getD, e]; rfl
    exact ⟨l, _, len, _, rfl, hll, hl, hm, hnil, .inr ⟨b, off, rfl, hb, hP⟩⟩
set_option maxRecDepth 100000 in
theorem openTyped {H : Type} {enc : TypeId × Value → H} {W : World} {base : Nat} {v : Value} {d : DataW H} {p : List MemPlace}
    (hok : Value.okWide Try.prog W .any base 38 v) (h : DataW.Trod enc Try.prog W 0 (fun _ => true) true 38 v d p) : ∃ t, IsTyp W v t := by
  obtain ⟨cs, rfl, hsz⟩ := okWide_struct Try.underlying38 hok
  have hC : Try.prog.cellsOf 38 = 3 := by kernel_rfl
  have h4 : Try.prog.cellsOf 35 = 1 := by kernel_rfl
  have h1 : Try.prog.cellsOf 36 = 1 := by kernel_rfl
  have hl3 : cs.toList.length = 3 := by rw [Array.length_toList, hsz, hC]
  obtain ⟨fuel, hf⟩ := h
  obtain ⟨y0, y1, y2, n', _, _, k0, k1, k2⟩ := trod_struct3 Try.underlying38 hf
  obtain ⟨l⟩ := cs
  match l, hl3 with
  | [c0, c1, c2], _ =>
    simp [Value.cells, h1, h4] at k0 k1 k2
    obtain ⟨a0, e0, _, w0⟩ := DataW.trod_int Try.underlying35 k0
    obtain ⟨a1, e1, _, w1⟩ := DataW.trod_int Try.underlying35 k1
    obtain ⟨hs, d2, p2, ht2⟩ := slice_of_trod Try.underlying36 k2
    simp at e0 e1
    subst e0 e1
    obtain ⟨n0, rfl, f0⟩ := nat32 w0
    obtain ⟨n1, rfl, f1⟩ := nat32 w1
    obtain ⟨l, hl⟩ := openMtcs hs ht2
    exact ⟨⟨n0, n1, l⟩, f0, f1, _, rfl, hl⟩
set_option maxRecDepth 100000 in
theorem openMatch {H : Type} {enc : TypeId × Value → H} {W : World} {base : Nat} {v : Value} {d : DataW H} {p : List MemPlace}
    (hok : Value.okWide Try.prog W .any base 49 v) (h : DataW.Trod enc Try.prog W 0 (fun _ => true) true 49 v d p) : ∃ m, IsMtc W v m := by
  obtain ⟨cs, rfl, hsz⟩ := okWide_struct Try.underlying49 hok
  have hC : Try.prog.cellsOf 49 = 8 := by kernel_rfl
  obtain ⟨fuel, hf⟩ := h
  obtain ⟨m, ks, k, ha, hbd, e, hu, hk⟩ := trod_mtc (by show cs.toList.length = 8; rw [Array.length_toList, hsz, hC]) hf
  refine ⟨m, ha, hbd, ks, k, ?_, hu, hk⟩
  have : cs.toList = _ := e
  obtain ⟨l⟩ := cs
  simp only at this
  rw [this]; rfl
end Go.Proofs.Ytbcoooaoofbboaa
