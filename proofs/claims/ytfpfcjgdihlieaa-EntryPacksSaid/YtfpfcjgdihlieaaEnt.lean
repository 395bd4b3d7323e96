/- Lists of names in memory. -/
import Derived.Test.YtfpfcjgdihlieaaEnP
import Derived.Test.YtfpfcjgdihlieaaSized
import Derived.Test.YtfpfcjgdihlieaaRow1
import Derived.Laws.AppendOwnNone
namespace Go.Proofs.Ytfpfcjgdihlieaa
open Go.ChangeShapes Go.WideShapes Go.ChangeAt Go.RowKit Go.Joins Go.Deep
set_option linter.unusedVariables false

def i64ok (n : Int) : Prop := -9223372036854775808 ≤ n ∧ n ≤ 9223372036854775807
def Vr.bounded (v : Vr) : Prop := i64ok v.no ∧ i64ok v.src ∧ i64ok v.flt ∧ i64ok v.byt ∧ i64ok v.ins
def Vr.cells (v : Vr) : List Value := [.int .i64 v.no, .int .i64 v.src, .int .i64 v.flt, .int .i64 v.byt, .int .i64 v.ins]
def Vr.val (v : Vr) : Value := .agg #[.int .i64 v.no, .int .i64 v.src, .int .i64 v.flt, .int .i64 v.byt, .int .i64 v.ins]
def VrAt (w : World) (b o : Nat) (v : Vr) : Prop :=
  w.cell? ⟨b, o, none⟩ = some (.int .i64 v.no) ∧ w.cell? ⟨b, o + 1, none⟩ = some (.int .i64 v.src) ∧ w.cell? ⟨b, o + 2, none⟩ = some (.int .i64 v.flt) ∧ w.cell? ⟨b, o + 3, none⟩ = some (.int .i64 v.byt) ∧ w.cell? ⟨b, o + 4, none⟩ = some (.int .i64 v.ins)
theorem VrAt.below {w w' : World} {B b o : Nat} {v : Vr} (h : VrAt w b o v) (hb : Below B w w') (hB : b < B) : VrAt w' b o v :=
  ⟨(hb.cell (p := ⟨b, o, none⟩) hB).trans h.1, (hb.cell (p := ⟨b, o + 1, none⟩) hB).trans h.2.1, (hb.cell (p := ⟨b, o + 2, none⟩) hB).trans h.2.2.1, (hb.cell (p := ⟨b, o + 3, none⟩) hB).trans h.2.2.2.1, (hb.cell (p := ⟨b, o + 4, none⟩) hB).trans h.2.2.2.2⟩
/-- v is a slice whose elements are these versions -/
def IsVrs (w : World) (v : Value) (l : List Vr) : Prop :=
  ∃ a len cap, v = .slice a len cap ∧ l.length = len ∧ len ≤ cap ∧ cap ≤ 9223372036854775807 ∧ (∀ i ∈ l, i.bounded) ∧ (a = none → cap = 0) ∧
    (len = 0 ∨ ∃ b off, a = some ⟨b, off, none⟩ ∧ b < w.heap.size ∧ ∀ i, i < len → VrAt w b (off + i * 5) (l.getD i vrZ))
theorem IsVrs.below {w w' : World} {v : Value} {l : List Vr} (h : IsVrs w v l) (hb : Below w.heap.size w w') : IsVrs w' v l := by
  obtain ⟨a, len, cap, rfl, h1, h2, h3, h4, h5, h6⟩ := h
  refine ⟨a, len, cap, rfl, h1, h2, h3, h4, h5, h6.imp id ?_⟩
  rintro ⟨b, off, rfl, hlt, hat⟩
  exact ⟨b, off, rfl, Nat.lt_of_lt_of_le hlt hb.size, fun i hi => (hat i hi).below hb hlt⟩
theorem IsVrs.take {w : World} {a : Option Addr} {len cap : Nat} {l : List Vr} (h : IsVrs w (.slice a len cap) l) (m : Nat) (hm : m ≤ len) : IsVrs w (.slice a m cap) (l.take m) := by
  obtain ⟨a', len', cap', hv, h1, h2, h3, h4, h5, h6⟩ := h
  injection hv with e1 e2 e3
  subst e1 e2 e3
  refine ⟨a, m, cap, rfl, by rw [List.length_take]; omega, by omega, h3, fun i hi => h4 i (List.mem_of_mem_take hi), h5, ?_⟩
  rcases h6 with h0 | ⟨b, off, rfl, hb, hat⟩
  · exact .inl (by omega)
  · refine .inr ⟨b, off, rfl, hb, fun i hi => ?_⟩
    have := hat i (by omega)
    rwa [show (l.take m).getD i vrZ = l.getD i vrZ from by simp [List.getD, hi]]
/-- an entry stands at four cells -/
def En.bounded (e : En) : Prop := e.name.size ≤ 9223372036854775807 ∧ i64ok e.cur ∧ i64ok e.nxt
def En.cells (e : En) (k : Value) : List Value := [.string e.name, .int .i64 e.cur, .int .i64 e.nxt, k]
def EnAt (w : World) (b o : Nat) (e : En) : Prop :=
  e.bounded ∧ ∃ k, IsVrs w k e.vers ∧ w.cell? ⟨b, o, none⟩ = some (.string e.name) ∧ w.cell? ⟨b, o + 1, none⟩ = some (.int .i64 e.cur) ∧ w.cell? ⟨b, o + 2, none⟩ = some (.int .i64 e.nxt) ∧ w.cell? ⟨b, o + 3, none⟩ = some k
theorem EnAt.below {w w' : World} {b o : Nat} {e : En} (hb : Below w.heap.size w w') (hlt : b < w.heap.size) (h : EnAt w b o e) : EnAt w' b o e := by
  obtain ⟨h0, k, h1, h2, h3, h4, h5⟩ := h
  exact ⟨h0, k, h1.below hb, (hb.cell (p := ⟨b, o, none⟩) hlt).trans h2, (hb.cell (p := ⟨b, o + 1, none⟩) hlt).trans h3, (hb.cell (p := ⟨b, o + 2, none⟩) hlt).trans h4, (hb.cell (p := ⟨b, o + 3, none⟩) hlt).trans h5⟩
def IsEns (w : World) (v : Value) (l : List En) : Prop :=
  ∃ a len cap, v = .slice a len cap ∧ l.length = len ∧ len ≤ cap ∧ cap ≤ 9223372036854775807 ∧ (a = none → cap = 0) ∧
    (len = 0 ∨ ∃ b off, a = some ⟨b, off, none⟩ ∧ b < w.heap.size ∧ ∀ i, i < len → EnAt w b (off + i * 4) (l.getD i enZ))
theorem IsEns.below {w w' : World} {v : Value} {l : List En} (h : IsEns w v l) (hb : Below w.heap.size w w') : IsEns w' v l := by
  obtain ⟨a, len, cap, rfl, h1, h2, h3, h4, h5⟩ := h
  refine ⟨a, len, cap, rfl, h1, h2, h3, h4, h5.imp id ?_⟩
  rintro ⟨b, off, rfl, hlt, hat⟩
  exact ⟨b, off, rfl, Nat.lt_of_lt_of_le hlt hb.size, fun i hi => (hat i hi).below hb hlt⟩
/-- a part of it -/
theorem IsEns.part {w : World} {b off len cap : Nat} {l : List En} (h : IsEns w (.slice (some ⟨b, off, none⟩) len cap) l) (f n : Nat) (hn : f + n ≤ len) : IsEns w (.slice (some ⟨b, off + f * 4, none⟩) n (cap - f)) ((l.drop f).take n) := by
  obtain ⟨a', len', cap', hv, h1, h2, h3, h5, h6⟩ := h
  injection hv with e1 e2 e3
  subst e1 e2 e3
  refine ⟨_, n, _, rfl, by rw [List.length_take, List.length_drop]; omega, by omega, by omega, (fun e => by cases e), ?_⟩
  rcases h6 with h0 | ⟨b', off', he, hb, hat⟩
  · exact .inl (by omega)
  · injection he with he
    injection he with e1 e2
    subst e1 e2
    refine .inr ⟨_, _, rfl, hb, fun i hi => ?_⟩
    have := hat (f + i) (by omega)
    rw [show off + f * 4 + i * 4 = off + (f + i) * 4 by omega]
    rwa [show ((l.drop f).take n).getD i enZ = l.getD (f + i) enZ from by simp [List.getD, hi]]
/-- an entry as a value -/
def IsEn (w : World) (v : Value) (e : En) : Prop := e.bounded ∧ ∃ k, v = .agg #[.string e.name, .int .i64 e.cur, .int .i64 e.nxt, k] ∧ IsVrs w k e.vers
theorem IsEn.below {w w' : World} {v : Value} {e : En} (h : IsEn w v e) (hb : Below w.heap.size w w') : IsEn w' v e := by
  obtain ⟨h0, k, h1, h2⟩ := h
  exact ⟨h0, k, h1, h2.below hb⟩
theorem IsVrs.form {w : World} {v : Value} {l : List Vr} (h : IsVrs w v l) : ∃ a cap, v = .slice a l.length cap := by
  obtain ⟨a, len, cap, rfl, h1, _⟩ := h
  exact ⟨a, cap, by rw [h1]⟩
/-- the four cells of an entry -/
theorem EnAt.cell {w : World} {b o : Nat} {e : En} (h : EnAt w b o e) : e.bounded ∧ ∃ a cap, IsVrs w (.slice a e.vers.length cap) e.vers ∧ w.cell? ⟨b, o, none⟩ = some (.string e.name) ∧ w.cell? ⟨b, o + 1, none⟩ = some (.int .i64 e.cur) ∧ w.cell? ⟨b, o + 2, none⟩ = some (.int .i64 e.nxt) ∧ w.cell? ⟨b, o + 3, none⟩ = some (.slice a e.vers.length cap) := by
  obtain ⟨h0, k, h1, h2⟩ := h
  obtain ⟨a, cap, rfl⟩ := h1.form
  exact ⟨h0, a, cap, h1, h2⟩
/-! what comes in -/
set_option maxRecDepth 100000 in
theorem trod_vr {H : Type} {enc : TypeId × Value → H} {W : World} {fuel : Nat} {cs : List Value} {y : DataW H × List MemPlace} (h : DataW.trod enc Try.prog W 0 (fun _ => true) true fuel 42 cs = some y) :
    ∃ v : Vr, v.bounded ∧ cs = v.cells := by
  obtain ⟨xs, n, rfl, _, hl, hlen, hf⟩ := DataW.trod_struct Try.underlying42 h
  have h5 : Try.prog.cellsOf 42 = 5 := by kernel_rfl
  rw [h5] at hl
  have z3 : Try.prog.cellsOf 3 = 1 := by kernel_rfl
  match xs, hlen, cs, hl with
  | [x0, x1, x2, x3, x4], _, [c0, c1, c2, c3, c4], _ =>
    have k0 := hf 0 _ rfl
    have k1 := hf 1 _ rfl
    have k2 := hf 2 _ rfl
    have k3 := hf 3 _ rfl
    have k4 := hf 4 _ rfl
    simp [z3] at k0 k1 k2 k3 k4
    obtain ⟨a0, e0, _, w0⟩ := DataW.trod_int Try.underlying3 k0
    obtain ⟨a1, e1, _, w1⟩ := DataW.trod_int Try.underlying3 k1
    obtain ⟨a2, e2, _, w2⟩ := DataW.trod_int Try.underlying3 k2
    obtain ⟨a3, e3, _, w3⟩ := DataW.trod_int Try.underlying3 k3
    obtain ⟨a4, e4, _, w4⟩ := DataW.trod_int Try.underlying3 k4
    simp at e0 e1 e2 e3 e4
    subst e0 e1 e2 e3 e4
    exact ⟨⟨a0, a1, a2, a3, a4⟩, ⟨wf_i64 w0, wf_i64 w1, wf_i64 w2, wf_i64 w3, wf_i64 w4⟩, rfl⟩
set_option maxRecDepth 100000 in
theorem openVrs {H : Type} {enc : TypeId × Value → H} {W : World} {v : Value} {d : DataW H} {p : List MemPlace}
    (hv : ∃ a len cap, v = .slice a len cap) (h : DataW.Trod enc Try.prog W 0 (fun _ => true) true 34 v d p) : ∃ l, IsVrs W v l := by
  obtain ⟨a, len, cap, rfl, hl, hm, hat⟩ := openElemsS (e := 42) 5 undef Try.underlying34 (by kernel_rfl) (by omega) hv h
  have hnil : a = none → cap = 0 := by
    rintro rfl
    obtain ⟨fuel, hf⟩ := h
    rcases open_slice Try.underlying34 hf with ⟨hcs, _⟩ | ⟨x, l', c, m, n, D, Pl, hcs, _⟩
    · simp [Value.cells] at hcs
      exact hcs.2
    · simp [Value.cells] at hcs
  rcases hat with rfl | ⟨b, off, rfl, hb, hat⟩
  · exact ⟨[], _, 0, _, rfl, rfl, by omega, hm, by simp, hnil, .inl rfl⟩
  · obtain ⟨l, hll, hP⟩ := list_of (P := fun i (k : Vr) => k.bounded ∧ VrAt W b (off + i * 5) k) vrZ len fun i hlt => by
      obtain ⟨cs, n, y, hcl, hc, htr⟩ := hat i hlt
      obtain ⟨v, hv, rfl⟩ := trod_vr htr
      exact ⟨v, hv, hc 0 (by omega), hc 1 (by omega), hc 2 (by omega), hc 3 (by omega), hc 4 (by omega)⟩
    refine ⟨l, _, len, _, rfl, hll, hl, hm, fun i hmem => ?_, hnil, .inr ⟨b, off, rfl, hb, fun i hlt => (hP i hlt).2⟩⟩
    obtain ⟨k, hk, rfl⟩ := List.mem_iff_getElem.1 hmem
    have := (hP k (by omega)).1
    rwa [show l.getD k vrZ = l[k] from by simp [List.getD, hk]] at this
set_option maxRecDepth 100000 in
theorem trod_en {H : Type} {enc : TypeId × Value → H} {W : World} {fuel : Nat} {cs : List Value} {y : DataW H × List MemPlace} (hcl : cs.length = 4) (h : DataW.trod enc Try.prog W 0 (fun _ => true) true fuel 36 cs = some y) :
    ∃ (e : En) (k : Value), e.bounded ∧ cs = e.cells k ∧ IsVrs W k e.vers := by
  match cs, hcl with
  | [c0, c1, c2, c3], _ =>
    obtain ⟨y0, y1, y2, y3, n', _, _, k0, k1, k2, k3⟩ := trod_struct4 Try.underlying36 h
    have h1 : Try.prog.cellsOf 3 = 1 := by kernel_rfl
    have h2 : Try.prog.cellsOf 9 = 1 := by kernel_rfl
    have h3 : Try.prog.cellsOf 34 = 1 := by kernel_rfl
    simp [h1, h2, h3] at k0 k1 k2 k3
    obtain ⟨a1, e1, _, w1⟩ := DataW.trod_int Try.underlying3 k1
    obtain ⟨a2, e2, _, w2⟩ := DataW.trod_int Try.underlying3 k2
    obtain ⟨s0, e0, _, w0⟩ := DataW.trod_string Try.underlying9 k0
    simp at e0 e1 e2
    subst e0 e1 e2
    obtain ⟨hs, d3, p3, ht3⟩ := slice_of_trod Try.underlying34 k3
    obtain ⟨l, hl⟩ := openVrs hs ht3
    unfold maxLen at w0
    exact ⟨⟨s0, a1, a2, l⟩, c3, ⟨w0, wf_i64 w1, wf_i64 w2⟩, rfl, hl⟩
set_option maxRecDepth 100000 in
theorem openEntrys {H : Type} {enc : TypeId × Value → H} {W : World} {base : Nat} {v : Value} {d : DataW H} {p : List MemPlace}
    (hok : Value.okWide Try.prog W .any base 22 v) (h : DataW.Trod enc Try.prog W 0 (fun _ => true) true 22 v d p) : ∃ l, IsEns W v l := by
  obtain ⟨a, len, cap, rfl, hl, hm, hat⟩ := openElems (e := 36) 4 undef Try.underlying22 (by kernel_rfl) (by omega) hok h
  have hnil : a = none → cap = 0 := by
    rintro rfl
    obtain ⟨fuel, hf⟩ := h
    rcases open_slice Try.underlying22 hf with ⟨hcs, _⟩ | ⟨x, l', c, m, n, D, Pl, hcs, _⟩
    · simp [Value.cells] at hcs
      exact hcs.2
    · simp [Value.cells] at hcs
  rcases hat with rfl | ⟨b, off, rfl, hb, hat⟩
  · exact ⟨[], _, 0, _, rfl, rfl, by omega, hm, hnil, .inl rfl⟩
  · obtain ⟨l, hll, hP⟩ := list_of (P := fun i (k : En) => EnAt W b (off + i * 4) k) enZ len fun i hlt => by
      obtain ⟨cs, n, y, hcl, hc, htr⟩ := hat i hlt
      obtain ⟨e, k, hb, rfl, hk⟩ := trod_en hcl htr
      exact ⟨e, hb, k, hk, hc 0 (by omega), hc 1 (by omega), hc 2 (by omega), hc 3 (by omega)⟩
    exact ⟨l, _, len, _, rfl, hll, hl, hm, hnil, .inr ⟨b, off, rfl, hb, hP⟩⟩
set_option maxRecDepth 100000 in
theorem openEntry {H : Type} {enc : TypeId × Value → H} {W : World} {base : Nat} {v : Value} {d : DataW H} {p : List MemPlace}
    (hok : Value.okWide Try.prog W .any base 36 v) (h : DataW.Trod enc Try.prog W 0 (fun _ => true) true 36 v d p) : ∃ e, IsEn W v e := by
  obtain ⟨cs, rfl, hsz⟩ := okWide_struct Try.underlying36 hok
  have hC : Try.prog.cellsOf 36 = 4 := by kernel_rfl
  obtain ⟨fuel, hf⟩ := h
  obtain ⟨e, k, hb, hcs, hk⟩ := trod_en (by show cs.toList.length = 4; rw [Array.length_toList, hsz, hC]) hf
  refine ⟨e, hb, k, ?_, hk⟩
  have : cs.toList = _ := hcs
  obtain ⟨l⟩ := cs
  simp only at this
  rw [this]; rfl
end Go.Proofs.Ytfpfcjgdihlieaa
