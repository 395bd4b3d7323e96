/- Conditions that came in, to the bottom. -/
import Derived.Test.YtbcoooaoofbboaaRowOpen
import Derived.Test.YtbcoooaoofbboaaRows
namespace Go.Proofs.Ytbcoooaoofbboaa
open Go.ChangeShapes Go.WideShapes Go.ChangeAt Go.RowKit Go.Joins Go.Deep
set_option linter.unusedVariables false

inductive Cnd where
  | mk (kind : Int) (kids : List Cnd) (arg : Int) (mask : Nat) (sign : ByteArray) (value : Nat)
def Cnd.kind : Cnd → Int | .mk k _ _ _ _ _ => k
def Cnd.kids : Cnd → List Cnd | .mk _ k _ _ _ _ => k
def Cnd.arg : Cnd → Int | .mk _ _ a _ _ _ => a
def Cnd.mask : Cnd → Nat | .mk _ _ _ m _ _ => m
def Cnd.sign : Cnd → ByteArray | .mk _ _ _ _ s _ => s
def Cnd.value : Cnd → Nat | .mk _ _ _ _ _ v => v
def cndZ : Cnd := .mk 0 [] 0 0 ⟨#[]⟩ 0
/-- the numbers of a condition may be -/
def Cnd.bounded (c : Cnd) : Prop := (-9223372036854775808 ≤ c.kind ∧ c.kind ≤ 9223372036854775807) ∧ (-9223372036854775808 ≤ c.arg ∧ c.arg ≤ 9223372036854775807) ∧ c.mask ≤ 18446744073709551615 ∧ c.sign.size ≤ 9223372036854775807 ∧ c.value ≤ 18446744073709551615
/-- its cells, the kids' slice being k -/
def Cnd.cells (c : Cnd) (k : Value) : List Value := [.int .i64 c.kind, k, .int .i64 c.arg, .int .u64 (c.mask : Nat), .string c.sign, .int .u64 (c.value : Nat)]
mutual
/-- the condition stands at six cells -/
def CndAt (w : World) : Cnd → Nat → Nat → Prop
  | .mk kind kids arg mask sign value, b, o => (Cnd.mk kind kids arg mask sign value).bounded ∧ ∃ a len cap, (∀ j u, ((Cnd.mk kind kids arg mask sign value).cells (.slice a len cap))[j]? = some u → w.cell? ⟨b, o + j, none⟩ = some u) ∧
      kids.length = len ∧ len ≤ cap ∧ cap ≤ 9223372036854775807 ∧ (a = none → cap = 0) ∧ (len = 0 ∨ ∃ b' o', a = some ⟨b', o', none⟩ ∧ b' < w.heap.size ∧ KidsAt w kids b' o')
def KidsAt (w : World) : List Cnd → Nat → Nat → Prop
  | [], _, _ => True
  | k :: ks, b, o => CndAt w k b o ∧ KidsAt w ks b (o + 6)
end
/-- a slice of conditions -/
def IsCnds (w : World) (v : Value) (l : List Cnd) : Prop :=
  ∃ a len cap, v = .slice a len cap ∧ l.length = len ∧ len ≤ cap ∧ cap ≤ 9223372036854775807 ∧ (a = none → cap = 0) ∧ (len = 0 ∨ ∃ b o, a = some ⟨b, o, none⟩ ∧ b < w.heap.size ∧ KidsAt w l b o)
/-- a condition as a value -/
def IsCnd (w : World) (v : Value) (c : Cnd) : Prop := c.bounded ∧ ∃ k, v = .agg (c.cells k).toArray ∧ IsCnds w k c.kids
theorem cndAt_iff (w : World) (c : Cnd) (b o : Nat) : CndAt w c b o ↔ c.bounded ∧ ∃ k, (∀ j u, (c.cells k)[j]? = some u → w.cell? ⟨b, o + j, none⟩ = some u) ∧ IsCnds w k c.kids := by
  cases c with
  | mk kind kids arg mask sign value =>
    rw [CndAt]
    constructor
    · rintro ⟨hb, a, len, cap, h1, h2⟩
      exact ⟨hb, _, h1, a, len, cap, rfl, h2⟩
    · rintro ⟨hb, k, h1, a, len, cap, rfl, h2⟩
      exact ⟨hb, a, len, cap, h1, h2⟩
theorem kidsAt_get (w : World) : ∀ (l : List Cnd) (b o i : Nat), KidsAt w l b o → i < l.length → CndAt w (l.getD i cndZ) b (o + i * 6)
  | [], _, _, _, _, h => by simp at h
  | k :: ks, b, o, 0, h, _ => by rw [KidsAt] at h; simpa using h.1
  | k :: ks, b, o, i + 1, h, hi => by
    rw [KidsAt] at h
    have := kidsAt_get w ks b (o + 6) i h.2 (by simpa using hi)
    rw [show o + (i + 1) * 6 = o + 6 + i * 6 by omega]
    simpa using this
theorem kidsAt_of (w : World) : ∀ (l : List Cnd) (b o : Nat), (∀ i, i < l.length → CndAt w (l.getD i cndZ) b (o + i * 6)) → KidsAt w l b o
  | [], _, _, _ => by rw [KidsAt]; trivial
  | k :: ks, b, o, h => by
    rw [KidsAt]
    refine ⟨by simpa using h 0 (by simp), kidsAt_of w ks b (o + 6) fun i hi => ?_⟩
    have := h (i + 1) (by simpa using hi)
    rw [show o + (i + 1) * 6 = o + 6 + i * 6 by omega] at this
    simpa using this
mutual
theorem CndAt.below {w w' : World} (hb : Below w.heap.size w w') : ∀ (c : Cnd) (b o : Nat), b < w.heap.size → CndAt w c b o → CndAt w' c b o
  | .mk kind kids arg mask sign value, b, o, hlt, h => by
    rw [CndAt] at h ⊢
    obtain ⟨hbd, a, len, cap, h1, h2, h3, h4, h5, h6⟩ := h
    refine ⟨hbd, a, len, cap, fun j u hu => (hb.cell (p := ⟨b, o + j, none⟩) hlt).trans (h1 j u hu), h2, h3, h4, h5, h6.imp id ?_⟩
    rintro ⟨b', o', e, hlt', hk⟩
    exact ⟨b', o', e, Nat.lt_of_lt_of_le hlt' hb.size, KidsAt.below hb kids b' o' hlt' hk⟩
theorem KidsAt.below {w w' : World} (hb : Below w.heap.size w w') : ∀ (l : List Cnd) (b o : Nat), b < w.heap.size → KidsAt w l b o → KidsAt w' l b o
  | [], _, _, _, _ => by rw [KidsAt]; trivial
  | k :: ks, b, o, hlt, h => by
    rw [KidsAt] at h ⊢
    exact ⟨CndAt.below hb k b o hlt h.1, KidsAt.below hb ks b (o + 6) hlt h.2⟩
end
theorem IsCnds.below {w w' : World} {v : Value} {l : List Cnd} (h : IsCnds w v l) (hb : Below w.heap.size w w') : IsCnds w' v l := by
  obtain ⟨a, len, cap, rfl, h1, h2, h3, h4, h5⟩ := h
  refine ⟨a, len, cap, rfl, h1, h2, h3, h4, h5.imp id ?_⟩
  rintro ⟨b, o, e, hlt, hk⟩
  exact ⟨b, o, e, Nat.lt_of_lt_of_le hlt hb.size, KidsAt.below hb l b o hlt hk⟩
theorem IsCnd.below {w w' : World} {v : Value} {c : Cnd} (h : IsCnd w v c) (hb : Below w.heap.size w w') : IsCnd w' v c := by
  obtain ⟨h0, k, h1, h2⟩ := h
  exact ⟨h0, k, h1, h2.below hb⟩
/-- six cells that are known -/
theorem CndAt.cell {w : World} {c : Cnd} {b o : Nat} (h : CndAt w c b o) : c.bounded ∧ ∃ k, IsCnds w k c.kids ∧ w.cell? ⟨b, o, none⟩ = some (.int .i64 c.kind) ∧ w.cell? ⟨b, o + 1, none⟩ = some k ∧ w.cell? ⟨b, o + 2, none⟩ = some (.int .i64 c.arg) ∧
    w.cell? ⟨b, o + 3, none⟩ = some (.int .u64 (c.mask : Nat)) ∧ w.cell? ⟨b, o + 4, none⟩ = some (.string c.sign) ∧ w.cell? ⟨b, o + 5, none⟩ = some (.int .u64 (c.value : Nat)) := by
  obtain ⟨hb, k, h1, h2⟩ := (cndAt_iff w c b o).1 h
  exact ⟨hb, k, h2, h1 0 _ rfl, h1 1 _ rfl, h1 2 _ rfl, h1 3 _ rfl, h1 4 _ rfl, h1 5 _ rfl⟩
theorem cndAt_block {w : World} {b : Nat} {c : Cnd} {k : Value} {T : TypeId} (hbd : c.bounded) (hk : IsCnds w k c.kids) (h : w.heap[b]? = some (.cells (c.cells k).toArray T (0, 0))) : CndAt w c b 0 := by
  refine (cndAt_iff w c b 0).2 ⟨hbd, k, fun j u hu => ?_, hk⟩
  rw [Nat.zero_add, cell_of_row w b j _ T (0, 0) h]
  simpa using hu
theorem wf_nat64 {a : Int} (h : (Lit.int .u64 a).wf = true) : ∃ n : Nat, a = n ∧ n ≤ 18446744073709551615 := by
  have := wf_u64 h
  exact ⟨a.toNat, by omega, by omega⟩
set_option maxRecDepth 100000 in
theorem trod_cnd {H : Type} {enc : TypeId × Value → H} {W : World} : ∀ (fuel : Nat) (cs : List Value) (y : DataW H × List MemPlace), DataW.trod enc Try.prog W 0 (fun _ => true) true fuel 25 cs = some y →
    ∃ (c : Cnd) (k : Value), c.bounded ∧ cs = c.cells k ∧ IsCnds W k c.kids := by
  intro fuel
  induction fuel using Nat.strongRecOn with
  | _ fuel ih =>
    intro cs y h
    obtain ⟨xs, n, rfl, _, hl, hlen, hf⟩ := DataW.trod_struct Try.underlying25 h
    have h6 : Try.prog.cellsOf 25 = 6 := by kernel_rfl
    rw [h6] at hl
    have z3 : Try.prog.cellsOf 3 = 1 := by kernel_rfl
    have zs : Try.prog.cellsOf 9 = 1 := by kernel_rfl
    have z8 : Try.prog.cellsOf 23 = 1 := by kernel_rfl
    have zc : Try.prog.cellsOf 22 = 1 := by kernel_rfl
    match xs, hlen, cs, hl with
    | [x0, x1, x2, x3, x4, x5], _, [c0, c1, c2, c3, c4, c5], _ =>
      have k0 := hf 0 _ rfl
      have k1 := hf 1 _ rfl
      have k2 := hf 2 _ rfl
      have k3 := hf 3 _ rfl
      have k4 := hf 4 _ rfl
      have k5 := hf 5 _ rfl
      simp [z3, zs, z8, zc] at k0 k1 k2 k3 k4 k5
      obtain ⟨a0, e0, _, w0⟩ := DataW.trod_int Try.underlying3 k0
      obtain ⟨a2, e2, _, w2⟩ := DataW.trod_int Try.underlying3 k2
      obtain ⟨a3, e3, _, w3⟩ := DataW.trod_int Try.underlying23 k3
      obtain ⟨s4, e4, _, w4⟩ := DataW.trod_string Try.underlying9 k4
      obtain ⟨a5, e5, _, w5⟩ := DataW.trod_int Try.underlying23 k5
      simp at e0 e2 e3 e4 e5
      subst e0 e2 e3 e4 e5
      obtain ⟨n3, rfl, f3⟩ := wf_nat64 w3
      obtain ⟨n5, rfl, f5⟩ := wf_nat64 w5
      have f0 := wf_i64 w0
      have f2 := wf_i64 w2
      unfold maxLen at w4
      have hkids : ∃ l, IsCnds W c1 l := by
        rcases DataW.trod_slice Try.underlying22 k1 with ⟨hcs, _⟩ | ⟨x, len, cap, elems, rest, m, rfl, hcs, _, _, hcl, hcm, hel, hat, _, _⟩
        · simp at hcs
          subst hcs
          exact ⟨[], none, 0, 0, rfl, rfl, by omega, by omega, fun _ => rfl, .inl rfl⟩
        · simp at hcs
          subst hcs
          unfold maxLen at hcm
          by_cases h0 : len = 0
          · subst h0
            exact ⟨[], some x, 0, cap, rfl, rfl, by omega, hcm, fun h => (by cases h), .inl rfl⟩
          · have hone : ∀ i, i < len → ∃ cs', cs'.length = 6 ∧ (∀ j, j < 6 → W.cell? (x.add (i * 6 + j)) = some (cs'.getD j undef)) ∧ ∃ y', DataW.trod enc Try.prog W 0 (fun _ => true) true m 25 cs' = some y' := by
              intro i hi
              have h1 := hat i hi
              rw [List.getElem?_eq_getElem (by omega), h6] at h1
              obtain ⟨cs', hc, htr⟩ := Option.bind_eq_some_iff.1 h1
              obtain ⟨_, hcl', hat'⟩ := World.cells?_some hc
              refine ⟨cs', hcl', fun j hj => ?_, _, htr⟩
              have := hat' j hj
              rw [Go.Deep.add_add] at this
              rw [this, List.getElem?_eq_getElem (by omega)]
              simp [List.getD, List.getElem?_eq_getElem (show j < cs'.length by omega)]
            obtain ⟨b, off, spot⟩ := x
            obtain ⟨cs0, _, hc0, _⟩ := hone 0 (by omega)
            have hc00 := hc0 0 (by omega)
            have hspot : spot = none := by simpa [Addr.add] using World.cell?_spot hc00
            subst hspot
            have hb : b < W.heap.size := by
              have := World.block_lt_of_cell? _ _ hc00
              rw [addr_add] at this
              exact this
            obtain ⟨l, hll, hP⟩ := list_of (P := fun i (c : Cnd) => CndAt W c b (off + i * 6)) cndZ len fun i hi => by
              obtain ⟨cs', hl', hc', y', htr⟩ := hone i hi
              obtain ⟨c, k, hbd, rfl, hk⟩ := ih m (by omega) cs' y' htr
              refine ⟨c, (cndAt_iff W c b _).2 ⟨hbd, k, fun j u hu => ?_, hk⟩⟩
              have hj : j < 6 := by
                have := (List.getElem?_eq_some_iff.1 hu).1
                simpa [Cnd.cells] using this
              have := hc' j hj
              rw [addr_add, ← Nat.add_assoc] at this
              rw [this]
              simp [List.getD, hu]
            exact ⟨l, _, len, cap, rfl, hll, hcl, hcm, fun h => (by cases h), .inr ⟨b, off, rfl, hb, kidsAt_of W l b off (by rw [hll]; exact hP)⟩⟩
      obtain ⟨l, hl⟩ := hkids
      exact ⟨.mk a0 l a2 n3 s4 n5, c1, ⟨f0, f2, f3, w4, f5⟩, rfl, hl⟩
set_option maxRecDepth 100000 in
theorem openCond {H : Type} {enc : TypeId × Value → H} {W : World} {base : Nat} {v : Value} {d : DataW H} {p : List MemPlace}
    (hok : Value.okWide Try.prog W .any base 25 v) (h : DataW.Trod enc Try.prog W 0 (fun _ => true) true 25 v d p) : ∃ c, IsCnd W v c := by
  obtain ⟨fuel, hf⟩ := h
  obtain ⟨c, k, hb, hc, hk⟩ := trod_cnd fuel _ _ hf
  obtain ⟨cs, rfl, _⟩ := okWide_struct Try.underlying25 hok
  have : cs.toList = c.cells k := hc
  exact ⟨c, hb, k, by rw [← this], hk⟩
end Go.Proofs.Ytbcoooaoofbboaa
