/- Rows of rows of writes, and steps of a play, that came in. -/
import Derived.Test.YthnmnnlbglpjaaaGreatDoorPk1
import Derived.Test.YthnmnnlbglpjaaaGreatDoorPkA
namespace Go.Proofs.YthnmnnlbglpjaaaGreatDoor
open Go.ChangeShapes Go.WideShapes Go.ChangeAt Go.RowKit Go.Joins Go.Deep
set_option linter.unusedVariables false
set_option maxRecDepth 100000

def IsWrtss (w : World) (v : Value) (ls : List (List Wrt)) : Prop := ∃ a len cap, v = .slice a len cap ∧ ls.length = len ∧ len ≤ cap ∧ cap ≤ 9223372036854775807 ∧
  (len = 0 ∨ ∃ b off, a = some ⟨b, off, none⟩ ∧ b < w.heap.size ∧ ∀ i, i < len → ∃ k, w.cell? ⟨b, off + i, none⟩ = some k ∧ IsWrts w k (ls.getD i []))
theorem IsWrtss.below {w w' : World} {v : Value} {ls : List (List Wrt)} (h : IsWrtss w v ls) (hb : Below w.heap.size w w') : IsWrtss w' v ls := by
  obtain ⟨a, len, cap, rfl, h1, h2, h3, h4⟩ := h
  refine ⟨a, len, cap, rfl, h1, h2, h3, h4.imp id ?_⟩
  rintro ⟨b, off, rfl, hlt, hat⟩
  refine ⟨b, off, rfl, Nat.lt_of_lt_of_le hlt hb.size, fun i hi => ?_⟩
  obtain ⟨k, hk, hw⟩ := hat i hi
  exact ⟨k, (hb.cell (p := ⟨b, off + i, none⟩) hlt).trans hk, hw.below hb⟩
theorem openWriteRows {H : Type} {enc : TypeId × Value → H} {W : World} {base : Nat} {v : Value} {d : DataW H} {p : List MemPlace}
    (hok : Value.okWide Tryz.prog W .any base 42 v) (h : DataW.Trod enc Tryz.prog W 0 (fun _ => true) true 42 v d p) : ∃ l, IsWrtss W v l := by
  obtain ⟨a, len, cap, rfl, hl, hm, hat⟩ := openElems (e := 23) 1 undef Tryz.underlying42 (by kernel_rfl) (by omega) hok h
  rcases hat with rfl | ⟨b, off, rfl, hb, hat⟩
  · exact ⟨[], _, 0, _, rfl, rfl, by omega, hm, .inl rfl⟩
  · obtain ⟨l, hll, hP⟩ := list_of (P := fun i (ws : List Wrt) => ∃ k, W.cell? ⟨b, off + i, none⟩ = some k ∧ IsWrts W k ws) [] len fun i hlt => by
      obtain ⟨cs, n, y, hcl, hc, htr⟩ := hat i hlt
      match cs, hcl with
      | [c0], _ =>
        obtain ⟨hs, d3, p3, ht3⟩ := slice_of_trod Tryz.underlying23 htr
        obtain ⟨l, hl⟩ := openWrts hs ht3
        have := hc 0 (by omega)
        exact ⟨l, c0, by simpa using this, hl⟩
    exact ⟨l, _, len, _, rfl, hll, hl, hm, .inr ⟨b, off, rfl, hb, hP⟩⟩
/-- a step of a play -/
structure Actn where
  writes : List Wrt
  check : Bool
  left : Int
  again : Int
  keep : List Bool
def actZ : Actn := ⟨[], false, 0, 0, []⟩
def ActAt (w : World) (b o : Nat) (x : Actn) : Prop := (i64ok x.left ∧ i64ok x.again) ∧ ∃ k1 k2, IsWrts w k1 x.writes ∧ IsBools w k2 x.keep ∧ w.cell? ⟨b, o, none⟩ = some k1 ∧ w.cell? ⟨b, o + 1, none⟩ = some (.bool x.check) ∧ w.cell? ⟨b, o + 2, none⟩ = some (.int .i64 x.left) ∧ w.cell? ⟨b, o + 3, none⟩ = some (.int .i64 x.again) ∧ w.cell? ⟨b, o + 4, none⟩ = some k2
theorem IsBools.below {w w' : World} {v : Value} {l : List Bool} (h : IsBools w v l) (hb : Below w.heap.size w w') : IsBools w' v l := Reads1.below h hb
theorem ActAt.below {w w' : World} {b o : Nat} {x : Actn} (hb : Below w.heap.size w w') (hlt : b < w.heap.size) (h : ActAt w b o x) : ActAt w' b o x := by
  obtain ⟨h0, k1, k2, h1, h2, h3, h4, h5, h6, h7⟩ := h
  exact ⟨h0, k1, k2, h1.below hb, IsBools.below h2 hb, (hb.cell (p := ⟨b, o, none⟩) hlt).trans h3, (hb.cell (p := ⟨b, o + 1, none⟩) hlt).trans h4, (hb.cell (p := ⟨b, o + 2, none⟩) hlt).trans h5, (hb.cell (p := ⟨b, o + 3, none⟩) hlt).trans h6, (hb.cell (p := ⟨b, o + 4, none⟩) hlt).trans h7⟩
def IsActs (w : World) (v : Value) (l : List Actn) : Prop := ∃ a len cap, v = .slice a len cap ∧ l.length = len ∧ len ≤ cap ∧ cap ≤ 9223372036854775807 ∧
  (len = 0 ∨ ∃ b off, a = some ⟨b, off, none⟩ ∧ b < w.heap.size ∧ ∀ i, i < len → ActAt w b (off + i * 5) (l.getD i actZ))
theorem IsActs.below {w w' : World} {v : Value} {l : List Actn} (h : IsActs w v l) (hb : Below w.heap.size w w') : IsActs w' v l := by
  obtain ⟨a, len, cap, rfl, h1, h2, h3, h4⟩ := h
  refine ⟨a, len, cap, rfl, h1, h2, h3, h4.imp id ?_⟩
  rintro ⟨b, off, rfl, hlt, hat⟩
  exact ⟨b, off, rfl, Nat.lt_of_lt_of_le hlt hb.size, fun i hi => ActAt.below hb hlt (hat i hi)⟩
set_option maxRecDepth 4000 in
theorem openBoolsS {H : Type} {enc : TypeId × Value → H} {W : World} {v : Value} {d : DataW H} {p : List MemPlace}
    (hv : ∃ a len cap, v = .slice a len cap) (h : DataW.Trod enc Tryz.prog W 0 (fun _ => true) true 52 v d p) : ∃ l, IsBools W v l := by
  obtain ⟨a, len, cap, rfl, hl, hm, hat⟩ := openElemsS (e := 4) 1 undef Tryz.underlying52 (by kernel_rfl) (by omega) hv h
  rcases hat with rfl | ⟨b, off, rfl, hb, hat⟩
  · exact ⟨[], _, 0, _, rfl, rfl, by omega, hm, .inl rfl⟩
  · obtain ⟨l, hll, hP⟩ := list_of (P := fun i (k : Bool) => W.cell? ⟨b, off + i, none⟩ = some (.bool k)) true len fun i hlt => by
      obtain ⟨cs, n, y, hcl, hc, htr⟩ := hat i hlt
      match cs, hcl with
      | [c0], _ =>
        obtain ⟨a0, e0, _⟩ := DataW.trod_bool Tryz.underlying4 htr
        simp at e0
        subst e0
        have := hc 0 (by omega)
        exact ⟨a0, by simpa using this⟩
    refine ⟨l, _, len, _, rfl, hll, hl, hm, .inr ⟨b, off, rfl, hb, fun i hi => ?_⟩⟩
    have := hP i (by omega)
    rwa [show l.getD i true = l[i] from by simp [List.getD, hi]] at this
theorem openActs {H : Type} {enc : TypeId × Value → H} {W : World} {base : Nat} {v : Value} {d : DataW H} {p : List MemPlace}
    (hok : Value.okWide Tryz.prog W .any base 51 v) (h : DataW.Trod enc Tryz.prog W 0 (fun _ => true) true 51 v d p) : ∃ l, IsActs W v l := by
  obtain ⟨a, len, cap, rfl, hl, hm, hat⟩ := openElems (e := 54) 5 undef Tryz.underlying51 (by kernel_rfl) (by omega) hok h
  rcases hat with rfl | ⟨b, off, rfl, hb, hat⟩
  · exact ⟨[], _, 0, _, rfl, rfl, by omega, hm, .inl rfl⟩
  · obtain ⟨l, hll, hP⟩ := list_of (P := fun i (x : Actn) => ActAt W b (off + i * 5) x) actZ len fun i hlt => by
      obtain ⟨cs, n, y, hcl, hc, htr⟩ := hat i hlt
      obtain ⟨xs, n', _, _, hl, hlen, hf⟩ := DataW.trod_struct Tryz.underlying54 htr
      have g0 : Tryz.prog.cellsOf 23 = 1 := by kernel_rfl
      have g1 : Tryz.prog.cellsOf 4 = 1 := by kernel_rfl
      have g2 : Tryz.prog.cellsOf 3 = 1 := by kernel_rfl
      have g3 : Tryz.prog.cellsOf 52 = 1 := by kernel_rfl
      match xs, hlen, cs, hcl with
      | [x0, x1, x2, x3, x4], _, [c0, c1, c2, c3, c4], _ =>
        have k0 := hf 0 _ rfl
        have k1 := hf 1 _ rfl
        have k2 := hf 2 _ rfl
        have k3 := hf 3 _ rfl
        have k4 := hf 4 _ rfl
        simp [g0, g1, g2, g3] at k0 k1 k2 k3 k4
        obtain ⟨hv0, d0, p0, t0⟩ := slice_of_trod Tryz.underlying23 k0
        obtain ⟨hv4, d4, p4, t4⟩ := slice_of_trod Tryz.underlying52 k4
        obtain ⟨l0, i0⟩ := openWrts hv0 t0
        obtain ⟨l4, i4⟩ := openBoolsS hv4 t4
        obtain ⟨a1, e1, _⟩ := DataW.trod_bool Tryz.underlying4 k1
        obtain ⟨a2, e2, _, w2⟩ := DataW.trod_int Tryz.underlying3 k2
        obtain ⟨a3, e3, _, w3⟩ := DataW.trod_int Tryz.underlying3 k3
        simp at e1 e2 e3
        subst e1 e2 e3
        exact ⟨⟨l0, a1, a2, a3, l4⟩, ⟨wf_i64 w2, wf_i64 w3⟩, c0, c4, i0, i4, hc 0 (by omega), hc 1 (by omega), hc 2 (by omega), hc 3 (by omega), hc 4 (by omega)⟩
    exact ⟨l, _, len, _, rfl, hll, hl, hm, .inr ⟨b, off, rfl, hb, hP⟩⟩
end Go.Proofs.YthnmnnlbglpjaaaGreatDoor
