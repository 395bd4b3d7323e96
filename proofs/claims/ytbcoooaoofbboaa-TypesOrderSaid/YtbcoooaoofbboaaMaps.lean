/- Maps that a call makes, as functions of their keys: over any program. -/
import Derived.Test.YtbcoooaoofbboaaGen
import Derived.MapKept
namespace Go.Proofs.Ytbcoooaoofbboaa
open Go.RowKit Go.MapKept
set_option linter.unusedVariables false

/-- A kind of keys: texts, or numbers of one kind. -/
structure KeyKind (κ : Type) where
  key : κ → Value
  desc : TypeDesc
  is : ∀ k, IsKey desc (key k)
  inj : ∀ a b, key a = key b → a = b
  same : ∀ k, Instr.sameBits 10000 (key k) (key k) = true
def strKeys : KeyKind ByteArray where
  key := Value.string
  desc := .string
  is := fun _ => trivial
  inj := fun _ _ h => by injection h
  same := fun k => (bytes_beq k k).2 rfl
def u32Keys : KeyKind Int where
  key := Value.int .u32
  desc := .int .u32
  is := fun _ => rfl
  inj := fun _ _ h => by injection h
  same := fun k => by simp [Instr.sameBits]

/-- The map in block r holds m. -/
def HoldsMap {κ : Type} (K : KeyKind κ) (w : World) (r : Nat) (m : κ → Option Value) : Prop :=
  ∃ es clock, w.heap[r]? = some (.map es clock) ∧ (es.toList.map (·.key)).Nodup ∧ (∀ e ∈ es.toList, ∃ k, e.key = K.key k ∧ m k = some e.val) ∧
    ∀ k, (∀ e ∈ es.toList, e.key ≠ K.key k) → m k = none

theorem HoldsMap.new {κ : Type} (K : KeyKind κ) (w : World) : HoldsMap K (w.alloc (.map #[] 0)) w.heap.size (fun _ => none) :=
  ⟨#[], 0, heap_alloc_new w _, by simp, by simp, fun _ _ => rfl⟩
theorem HoldsMap.lt {κ : Type} {K : KeyKind κ} {w : World} {r : Nat} {m : κ → Option Value} (h : HoldsMap K w r m) : r < w.heap.size := by
  obtain ⟨es, clock, hb, _⟩ := h
  exact (Array.getElem?_eq_some_iff.1 hb).1
theorem HoldsMap.of_block {κ : Type} {K : KeyKind κ} {w w' : World} {r : Nat} {m : κ → Option Value} (h : HoldsMap K w r m) (hb : w'.heap[r]? = w.heap[r]?) : HoldsMap K w' r m := by
  obtain ⟨es, clock, h1, h2⟩ := h
  exact ⟨es, clock, by rw [hb]; exact h1, h2⟩

theorem HoldsMap.alloc {κ : Type} {K : KeyKind κ} {w : World} {r : Nat} {m : κ → Option Value} (h : HoldsMap K w r m) (o : Obj) : HoldsMap K (w.alloc o) r m :=
  h.of_block (Below.heap_alloc w o r h.lt)
theorem HoldsMap.drew {κ : Type} {K : KeyKind κ} {w : World} {r : Nat} {m : κ → Option Value} (h : HoldsMap K w r m) : HoldsMap K w.drew r m := h

theorem HoldsMap.congr {κ : Type} {K : KeyKind κ} {w : World} {r : Nat} {m m' : κ → Option Value} (h : HoldsMap K w r m) (e : ∀ k, m k = m' k) : HoldsMap K w r m' := by
  have : m = m' := funext e
  rwa [this] at h

theorem HoldsMap.find {κ : Type} {K : KeyKind κ} {w : World} {r : Nat} {m : κ → Option Value} (h : HoldsMap K w r m) (k : κ) :
    ∃ es clock, w.heap[r]? = some (.map es clock) ∧
      ((m k = none ∧ Instr.findNow K.desc (K.key k) es.toList 0 = some none) ∨ ∃ j v, m k = some v ∧ Instr.findNow K.desc (K.key k) es.toList 0 = some (some (j, v))) := by
  obtain ⟨es, clock, hb, hn, he, hz⟩ := h
  refine ⟨es, clock, hb, ?_⟩
  rcases findNow_spec (K.is k) es.toList 0 (fun x hx => by obtain ⟨k', hk', _⟩ := he x hx; rw [hk']; exact K.is k') with ⟨h1, h2⟩ | ⟨j, e, h1, h2, h3⟩
  · exact .inl ⟨hz k h2, h1⟩
  · obtain ⟨k', hk', hm⟩ := he e (List.mem_of_getElem? h2)
    have : k' = k := K.inj _ _ (by rw [← hk', h3])
    subst this
    exact .inr ⟨_, _, hm, h1⟩

/-- 'v, ok := m[k]' -/
theorem HoldsMap.lookup {κ : Type} {K : KeyKind κ} {P : Program} {w : World} {r : Nat} {m : κ → Option Value} (h : HoldsMap K w r m) {t kt et : TypeId} {z : Value} (k : κ)
    (ht : P.underlying t = some (.map kt et)) (hk : P.underlying kt = some K.desc) (hz : (zeroValue et).run P w = .ok z w) :
    (Instr.lookup t (.map (some r)) (K.key k) true).run P w = .ok (.tuple #[(m k).getD z, .bool (m k).isSome]) w := by
  obtain ⟨es, clock, hb, hf⟩ := h.find k
  unfold Instr.lookup
  simp only [Sem.run_bind, run_underlying ht, Result.andThen, MapKept.run_getObj_map hb, Sem.run_pure, MapKept.run_checkKey hk (K.is k)]
  rcases hf with ⟨h1, h2⟩ | ⟨j, v, h1, h2⟩
  · simp only [MapKept.run_findKey hk h2, Result.andThen, Sem.run_bind, hz, Sem.run_pure, h1]; rfl
  · simp only [MapKept.run_findKey hk h2, h1]; rfl

/-- 'm[k] = v' -/
theorem HoldsMap.update {κ : Type} [DecidableEq κ] {K : KeyKind κ} {P : Program} {w : World} {r : Nat} {m : κ → Option Value} (h : HoldsMap K w r m) {t kt et : TypeId} (k : κ) (v : Value)
    (ht : P.underlying t = some (.map kt et)) (hk : P.underlying kt = some K.desc) :
    ∃ w', (Instr.mapUpdate t (.map (some r)) (K.key k) v).run P w = .ok () w' ∧ HoldsMap K w' r (fun k' => if k' = k then some v else m k') ∧ w.grownBy w' (some r) := by
  have h0 := h
  obtain ⟨es, clock, hb, hn, he, hz⟩ := h
  have hgrow : ∀ o, w.grownBy { w with heap := w.heap.setIfInBounds r o } (some r) := fun o =>
    ⟨rfl, rfl, rfl, by simp, fun b hb' hne => by
      have hrb : r ≠ b := fun e => hne (by rw [e])
      simp [hrb]⟩
  rcases findNow_spec (K.is k) es.toList 0 (fun x hx => by obtain ⟨k', hk', _⟩ := he x hx; rw [hk']; exact K.is k') with ⟨h1, h2⟩ | ⟨j, e, h1, h2, h3⟩
  · refine ⟨{ w with heap := w.heap.setIfInBounds r (.map (es.push { key := K.key k, val := v, born := clock }) (clock + 1)) }, ?_, ?_, hgrow _⟩
    · unfold Instr.mapUpdate
      simp only [Sem.run_bind, run_underlying ht, Result.andThen, MapKept.run_getObj_map hb, MapKept.run_checkKey hk (K.is k), MapKept.run_findKey hk h1, MapKept.run_setObj_map _ hb]
    · refine ⟨_, _, (MapKept.heap_set hb).1, ?_, ?_, ?_⟩
      · simp only [Array.toList_push, List.map_append, List.map_cons, List.map_nil]
        rw [List.nodup_append]
        refine ⟨hn, by simp, ?_⟩
        intro a ha b hb' hab
        obtain ⟨x, hx, rfl⟩ := List.mem_map.1 ha
        rw [List.mem_singleton.1 hb'] at hab
        exact h2 x hx hab
      · intro x hx
        simp only [Array.toList_push, List.mem_append, List.mem_singleton] at hx
        rcases hx with hx | rfl
        · obtain ⟨k', hk', hm⟩ := he x hx
          refine ⟨k', hk', ?_⟩
          show (if k' = k then some v else m k') = _
          rw [if_neg (fun e => h2 x hx (by rw [hk', e]))]
          exact hm
        · exact ⟨k, rfl, by simp⟩
      · intro k' hk'
        simp only [Array.toList_push, List.mem_append, List.mem_singleton] at hk'
        have hne : k' ≠ k := fun e => hk' _ (.inr rfl) (by rw [e])
        show (if k' = k then some v else m k') = _
        rw [if_neg hne]
        exact hz k' fun x hx => hk' x (.inl hx)
  · rw [Nat.zero_add] at h1
    have hj : j < es.toList.length := (List.getElem?_eq_some_iff.1 h2).1
    refine ⟨{ w with heap := w.heap.setIfInBounds r (.map (es.modify j fun e => { e with key := K.key k, val := v }) clock) }, ?_, ?_, hgrow _⟩
    · have h2' : es[j]? = some e := by rw [← Array.getElem?_toList]; exact h2
      have hst : (Instr.keyThatStays (((es[j]?).map (·.key)).getD (K.key k)) (K.key k)).run P w = .ok (K.key k) w := by
        rw [h2']
        simp only [Option.map_some, Option.getD_some, h3]
        unfold Instr.keyThatStays
        rw [if_pos (K.same k)]
        rfl
      unfold Instr.mapUpdate
      simp only [Sem.run_bind, run_underlying ht, Result.andThen, MapKept.run_getObj_map hb, MapKept.run_checkKey hk (K.is k), MapKept.run_findKey hk h1, hst, MapKept.run_setObj_map _ hb]
    · have hkeys : (es.modify j fun e => { e with key := K.key k, val := v }).toList.map (·.key) = es.toList.map (·.key) := by
        apply List.ext_getElem?
        intro i
        simp only [List.getElem?_map, Array.getElem?_toList, Array.getElem?_modify]
        by_cases hij : j = i
        · subst hij
          rw [if_pos rfl]
          have h2' : es[j]? = some e := by rw [← Array.getElem?_toList]; exact h2
          simp [h2', h3]
        · rw [if_neg hij]
      have hat : ∀ x, x ∈ (es.modify j fun e => { e with key := K.key k, val := v }).toList → (x.key = K.key k ∧ x.val = v) ∨ (x ∈ es.toList ∧ x.key ≠ K.key k) := by
        intro x hx
        obtain ⟨i, hi⟩ := List.getElem?_of_mem hx
        rw [Array.getElem?_toList, Array.getElem?_modify] at hi
        by_cases hij : j = i
        · subst hij
          rw [if_pos rfl] at hi
          have h2' : es[j]? = some e := by rw [← Array.getElem?_toList]; exact h2
          rw [h2'] at hi
          simp at hi
          subst hi
          exact .inl ⟨rfl, rfl⟩
        · rw [if_neg hij] at hi
          refine .inr ⟨List.mem_of_getElem? (by rw [Array.getElem?_toList]; exact hi), fun hk' => hij ?_⟩
          have hn' := hn
          have e1 : (es.toList.map (·.key))[j]? = some (K.key k) := by rw [List.getElem?_map, h2]; simp [h3]
          have e2 : (es.toList.map (·.key))[i]? = some (K.key k) := by rw [List.getElem?_map, Array.getElem?_toList, hi]; simp [hk']
          have l1 := (List.getElem?_eq_some_iff.1 e1)
          have l2 := (List.getElem?_eq_some_iff.1 e2)
          obtain ⟨a1, b1⟩ := l1
          obtain ⟨a2, b2⟩ := l2
          exact (List.getElem_inj hn').1 (b1.trans b2.symm)
      refine ⟨_, _, (MapKept.heap_set hb).1, by rw [hkeys]; exact hn, ?_, ?_⟩
      · intro x hx
        rcases hat x hx with ⟨ha, hv⟩ | ⟨hm, hne⟩
        · exact ⟨k, ha, by simp [hv]⟩
        · obtain ⟨k', hk', hmk⟩ := he x hm
          refine ⟨k', hk', ?_⟩
          show (if k' = k then some v else m k') = _
          rw [if_neg (fun e => hne (by rw [hk', e]))]
          exact hmk
      · intro k' hk'
        have hall : ∀ e ∈ es.toList, e.key ≠ K.key k' := by
          intro x hx hxe
          have : K.key k' ∈ (es.modify j fun e => { e with key := K.key k, val := v }).toList.map (·.key) := by
            rw [hkeys, ← hxe]; exact List.mem_map_of_mem hx
          obtain ⟨y, hy, hye⟩ := List.mem_map.1 this
          exact hk' y hy hye
        have hne : k' ≠ k := fun e => hall _ (List.mem_of_getElem? h2) (by rw [h3, e])
        show (if k' = k then some v else m k') = _
        rw [if_neg hne]
        exact hz k' hall

/-- the store into a map, as a step of the walk -/
theorem wpList_mapSet {κ : Type} [DecidableEq κ] {K : KeyKind κ} {P : Program} {ops : Array Oper} {rest : List Oper} {o : Oper} {a : Act} {Q : Exit → Act → World → Prop} {w w0 : World} {r base : Nat} {m : κ → Option Value}
    (h : HoldsMap K w r m) (hbel : Below base w0 w) (hbase : base ≤ w0.heap.size) (hr : base ≤ r) (t kt et : TypeId) (x y z : Operand) (k : κ) (v : Value)
    (hgd : o.guard = none) (ho : o.op = .mapUpdate t x y z ∨ o.op = .insert t x y z)
    (ht : P.underlying t = some (.map kt et)) (hk : P.underlying kt = some K.desc)
    (hx : a.eval x = .map (some r)) (hy : a.eval y = K.key k) (hz : a.eval z = v)
    (hK : ∀ w', HoldsMap K w' r (fun k' => if k' = k then some v else m k') → Below base w0 w' → w.grownBy w' (some r) → wpList P ops Q rest (a.put o.dst undef) w') :
    wpList P ops Q (o :: rest) a w := by
  obtain ⟨w', hrun, hm, hg⟩ := h.update (P := P) k v ht hk
  refine wpList_plain hgd fun K' hK' => ?_
  have hnext := hK' _ _ (hK w' hm (hbel.grown hg (by have := hbel.size; omega) (fun b hb => by cases hb; exact hr)) hg)
  unfold Oper.wp execOp
  rcases ho with ho | ho
  · simp only [ho, hx, hy, hz, Sem.run_bind, hrun, Result.andThen, Sem.run_pure]
    exact hnext
  · simp only [ho, hx, hy, hz, Sem.run_bind, hrun, Result.andThen, Sem.run_pure]
    exact hnext
end Go.Proofs.Ytbcoooaoofbboaa
