/- Answers and their lines in memory. -/
import Derived.Test.YtmanlogclbbgaaaFr1
import Derived.Test.YtmanlogclbbgaaaRowOpen
import Derived.Test.YtmanlogclbbgaaaRows
import Derived.WideShapes
import Derived.Laws.AppendOwnNone
namespace Go.Proofs.Ytmanlogclbbgaaa
open Go.ChangeShapes Go.WideShapes Go.ChangeAt Go.RowKit Go.Joins Go.Deep
set_option linter.unusedVariables false

def i64ok (n : Int) : Prop := -9223372036854775808 ≤ n ∧ n ≤ 9223372036854775807
/-- a line of an answer -/
structure Ln where
  name : ByteArray
  cur : Int
  nos : List Int
def lnZ : Ln := ⟨⟨#[]⟩, 0, []⟩
def Ln.bounded (e : Ln) : Prop := e.name.size ≤ 9223372036854775807 ∧ i64ok e.cur ∧ ∀ n ∈ e.nos, i64ok n
def Ln.cells (e : Ln) (k : Value) : List Value := [.string e.name, .int .i64 e.cur, k]
def LnAt (w : World) (b o : Nat) (e : Ln) : Prop :=
  e.bounded ∧ ∃ k, Reads1 encI w k e.nos ∧ w.cell? ⟨b, o, none⟩ = some (.string e.name) ∧ w.cell? ⟨b, o + 1, none⟩ = some (.int .i64 e.cur) ∧ w.cell? ⟨b, o + 2, none⟩ = some k
theorem LnAt.below {w w' : World} {b o : Nat} {e : Ln} (hb : Below w.heap.size w w') (hlt : b < w.heap.size) (h : LnAt w b o e) : LnAt w' b o e := by
  obtain ⟨h0, k, h1, h2, h3, h4⟩ := h
  exact ⟨h0, k, h1.below hb, (hb.cell (p := ⟨b, o, none⟩) hlt).trans h2, (hb.cell (p := ⟨b, o + 1, none⟩) hlt).trans h3, (hb.cell (p := ⟨b, o + 2, none⟩) hlt).trans h4⟩
def IsLns (w : World) (v : Value) (l : List Ln) : Prop :=
  ∃ a len cap, v = .slice a len cap ∧ l.length = len ∧ len ≤ cap ∧ cap ≤ 9223372036854775807 ∧ (a = none → cap = 0) ∧
    (len = 0 ∨ ∃ b off, a = some ⟨b, off, none⟩ ∧ b < w.heap.size ∧ ∀ i, i < len → LnAt w b (off + i * 3) (l.getD i lnZ))
theorem IsLns.below {w w' : World} {v : Value} {l : List Ln} (h : IsLns w v l) (hb : Below w.heap.size w w') : IsLns w' v l := by
  obtain ⟨a, len, cap, rfl, h1, h2, h3, h4, h5⟩ := h
  refine ⟨a, len, cap, rfl, h1, h2, h3, h4, h5.imp id ?_⟩
  rintro ⟨b, off, rfl, hlt, hat⟩
  exact ⟨b, off, rfl, Nat.lt_of_lt_of_le hlt hb.size, fun i hi => (hat i hi).below hb hlt⟩
theorem reads1_form {w : World} {v : Value} {l : List Int} (h : Reads1 encI w v l) : ∃ a cap, v = .slice a l.length cap ∧ l.length ≤ cap ∧ cap ≤ 9223372036854775807 := by
  obtain ⟨a, len, cap, rfl, h1, h2, h3, _⟩ := h
  exact ⟨a, cap, by rw [h1], by omega, h3⟩
theorem reads1_take {w : World} {a : Option Addr} {len cap : Nat} {l : List Int} (h : Reads1 encI w (.slice a len cap) l) (m : Nat) (hm : m ≤ len) : Reads1 encI w (.slice a m cap) (l.take m) := by
  obtain ⟨a', len', cap', hv, h1, h2, h3, h6⟩ := h
  injection hv with e1 e2 e3
  subst e1 e2 e3
  refine ⟨a, m, cap, rfl, by rw [List.length_take]; omega, by omega, h3, ?_⟩
  rcases h6 with h0 | ⟨b, off, rfl, hb, hat⟩
  · exact .inl (by omega)
  · refine .inr ⟨b, off, rfl, hb, fun i hi => ?_⟩
    have hi' : i < l.length := by rw [List.length_take] at hi; omega
    have := hat i hi'
    rw [this, List.getElem_take]
/-- an answer -/
structure Rp where
  why : Int
  at_ : Int
  no : Int
  source : ByteArray
  insns : Int
  action : Int
  lines : List Ln
def Rp.val (r : Rp) (k : Value) : Value := .agg #[.int .i64 r.why, .int .i64 r.at_, .int .i64 r.no, .string r.source, .int .i64 r.insns, .int .u32 r.action, k]
def Rp.cells (r : Rp) (k : Value) : Array Value := #[.int .i64 r.why, .int .i64 r.at_, .int .i64 r.no, .string r.source, .int .i64 r.insns, .int .u32 r.action, k]
def Rp.bounded (r : Rp) : Prop := i64ok r.why ∧ i64ok r.at_ ∧ i64ok r.no ∧ r.source.size ≤ 9223372036854775807 ∧ i64ok r.insns ∧ (0 ≤ r.action ∧ r.action ≤ 4294967295)
def IsRp (w : World) (v : Value) (r : Rp) : Prop := r.bounded ∧ ∃ k, v = r.val k ∧ IsLns w k r.lines
theorem IsRp.below {w w' : World} {v : Value} {r : Rp} (h : IsRp w v r) (hb : Below w.heap.size w w') : IsRp w' v r := by
  obtain ⟨h0, k, h1, h2⟩ := h
  exact ⟨h0, k, h1, h2.below hb⟩
theorem IsLns.form {w : World} {v : Value} {l : List Ln} (h : IsLns w v l) : ∃ a cap, v = .slice a l.length cap ∧ l.length ≤ cap ∧ cap ≤ 9223372036854775807 := by
  obtain ⟨a, len, cap, rfl, h1, h2, h3, _⟩ := h
  exact ⟨a, cap, by rw [h1], by omega, h3⟩
/-! what comes in -/
set_option maxRecDepth 100000 in
theorem openInts {H : Type} {enc : TypeId × Value → H} {W : World} {v : Value} {d : DataW H} {p : List MemPlace}
    (hv : ∃ a len cap, v = .slice a len cap) (h : DataW.Trod enc Try.prog W 0 (fun _ => true) true 64 v d p) : ∃ l, Reads1 encI W v l ∧ ∀ n ∈ l, i64ok n := by
  obtain ⟨a, len, cap, rfl, hl, hm, hat⟩ := openElemsS (e := 3) 1 undef Try.underlying64 (by kernel_rfl) (by omega) hv h
  rcases hat with rfl | ⟨b, off, rfl, hb, hat⟩
  · exact ⟨[], ⟨_, 0, _, rfl, rfl, by omega, hm, .inl rfl⟩, by simp⟩
  · obtain ⟨l, hll, hP⟩ := list_of (P := fun i (k : Int) => i64ok k ∧ W.cell? ⟨b, off + i, none⟩ = some (.int .i64 k)) 0 len fun i hlt => by
      obtain ⟨cs, n, y, hcl, hc, htr⟩ := hat i hlt
      obtain ⟨v, hv, _, wf⟩ := DataW.trod_int Try.underlying3 htr
      subst hv
      have := hc 0 (by omega)
      exact ⟨v, wf_i64 wf, by simpa using this⟩
    have hg : ∀ i (h : i < l.length), l.getD i 0 = l[i] := fun i h => by simp [List.getD, h]
    refine ⟨l, ⟨_, len, _, rfl, hll, hl, hm, .inr ⟨b, off, rfl, hb, fun i hi => ?_⟩⟩, fun n hn => ?_⟩
    · have := (hP i (by omega)).2
      rw [hg i hi] at this
      exact this
    · obtain ⟨k, hk, rfl⟩ := List.mem_iff_getElem.1 hn
      have := (hP k (by omega)).1
      rwa [hg k hk] at this
set_option maxRecDepth 100000 in
theorem trod_ln {H : Type} {enc : TypeId × Value → H} {W : World} {fuel : Nat} {cs : List Value} {y : DataW H × List MemPlace} (hcl : cs.length = 3) (h : DataW.trod enc Try.prog W 0 (fun _ => true) true fuel 66 cs = some y) :
    ∃ (e : Ln) (k : Value), e.bounded ∧ cs = e.cells k ∧ Reads1 encI W k e.nos := by
  match cs, hcl with
  | [c0, c1, c2], _ =>
    obtain ⟨y0, y1, y2, n', _, _, k0, k1, k2⟩ := trod_struct3 Try.underlying66 h
    have h1 : Try.prog.cellsOf 3 = 1 := by kernel_rfl
    have h2 : Try.prog.cellsOf 9 = 1 := by kernel_rfl
    have h3 : Try.prog.cellsOf 64 = 1 := by kernel_rfl
    simp [h1, h2, h3] at k0 k1 k2
    obtain ⟨a1, e1, _, w1⟩ := DataW.trod_int Try.underlying3 k1
    obtain ⟨s0, e0, _, w0⟩ := DataW.trod_string Try.underlying9 k0
    simp at e0 e1
    subst e0 e1
    obtain ⟨hs, d3, p3, ht3⟩ := slice_of_trod Try.underlying64 k2
    obtain ⟨l, hl, hl2⟩ := openInts hs ht3
    unfold maxLen at w0
    exact ⟨⟨s0, a1, l⟩, c2, ⟨w0, wf_i64 w1, hl2⟩, rfl, hl⟩
set_option maxRecDepth 100000 in
theorem openLns {H : Type} {enc : TypeId × Value → H} {W : World} {v : Value} {d : DataW H} {p : List MemPlace}
    (hv : ∃ a len cap, v = .slice a len cap) (h : DataW.Trod enc Try.prog W 0 (fun _ => true) true 35 v d p) : ∃ l, IsLns W v l := by
  obtain ⟨a, len, cap, rfl, hl, hm, hat⟩ := openElemsS (e := 66) 3 undef Try.underlying35 (by kernel_rfl) (by omega) hv h
  have hnil : a = none → cap = 0 := by
    rintro rfl
    obtain ⟨fuel, hf⟩ := h
    rcases open_slice Try.underlying35 hf with ⟨hcs, _⟩ | ⟨x, l', c, m, n, D, Pl, hcs, _⟩
    · simp [Value.cells] at hcs
      exact hcs.2
    · simp [Value.cells] at hcs
  rcases hat with rfl | ⟨b, off, rfl, hb, hat⟩
  · exact ⟨[], _, 0, _, rfl, rfl, by omega, hm, hnil, .inl rfl⟩
  · obtain ⟨l, hll, hP⟩ := list_of (P := fun i (k : Ln) => LnAt W b (off + i * 3) k) lnZ len fun i hlt => by
      obtain ⟨cs, n, y, hcl, hc, htr⟩ := hat i hlt
      obtain ⟨e, k, hb, rfl, hk⟩ := trod_ln hcl htr
      exact ⟨e, hb, k, hk, hc 0 (by omega), hc 1 (by omega), hc 2 (by omega)⟩
    exact ⟨l, _, len, _, rfl, hll, hl, hm, hnil, .inr ⟨b, off, rfl, hb, hP⟩⟩
set_option maxRecDepth 100000 in
theorem openReply {H : Type} {enc : TypeId × Value → H} {W : World} {base : Nat} {v : Value} {d : DataW H} {p : List MemPlace}
    (hok : Value.okWide Try.prog W .any base 37 v) (h : DataW.Trod enc Try.prog W 0 (fun _ => true) true 37 v d p) : ∃ r, IsRp W v r := by
  obtain ⟨cs, rfl, hsz⟩ := okWide_struct Try.underlying37 hok
  obtain ⟨fuel, hf⟩ := h
  obtain ⟨xs, n, _, _, hl, hlen, hf⟩ := DataW.trod_struct Try.underlying37 hf
  have h5 : Try.prog.cellsOf 37 = 7 := by kernel_rfl
  rw [h5] at hl
  have z3 : Try.prog.cellsOf 3 = 1 := by kernel_rfl
  have z4 : Try.prog.cellsOf 9 = 1 := by kernel_rfl
  have z5 : Try.prog.cellsOf 25 = 1 := by kernel_rfl
  have z6 : Try.prog.cellsOf 34 = 1 := by kernel_rfl
  have z7 : Try.prog.cellsOf 35 = 1 := by kernel_rfl
  obtain ⟨cl⟩ := cs
  simp only [Value.cells] at hl hf
  match xs, hlen, cl, hl with
  | [x0, x1, x2, x3, x4, x5, x6], _, [c0, c1, c2, c3, c4, c5, c6], _ =>
    have k0 := hf 0 _ rfl
    have k1 := hf 1 _ rfl
    have k2 := hf 2 _ rfl
    have k3 := hf 3 _ rfl
    have k4 := hf 4 _ rfl
    have k5 := hf 5 _ rfl
    have k6 := hf 6 _ rfl
    simp [z3, z4, z5, z6, z7] at k0 k1 k2 k3 k4 k5 k6
    obtain ⟨a0, e0, _, w0⟩ := DataW.trod_int Try.underlying25 k0
    obtain ⟨a1, e1, _, w1⟩ := DataW.trod_int Try.underlying3 k1
    obtain ⟨a2, e2, _, w2⟩ := DataW.trod_int Try.underlying3 k2
    obtain ⟨a3, e3, _, w3⟩ := DataW.trod_string Try.underlying9 k3
    obtain ⟨a4, e4, _, w4⟩ := DataW.trod_int Try.underlying3 k4
    obtain ⟨a5, e5, _, w5⟩ := DataW.trod_int Try.underlying34 k5
    simp at e0 e1 e2 e3 e4 e5
    subst e0 e1 e2 e3 e4 e5
    obtain ⟨hs, d3, p3, ht3⟩ := slice_of_trod Try.underlying35 k6
    obtain ⟨l, hl⟩ := openLns hs ht3
    unfold maxLen at w3
    exact ⟨⟨a0, a1, a2, a3, a4, a5, l⟩, ⟨wf_i64 w0, wf_i64 w1, wf_i64 w2, w3, wf_i64 w4, wf_u32 w5⟩, c6, rfl, hl⟩
end Go.Proofs.Ytmanlogclbbgaaa
