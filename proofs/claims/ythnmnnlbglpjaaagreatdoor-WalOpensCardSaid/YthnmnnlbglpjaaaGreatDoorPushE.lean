/- Some elements put behind a row that is the call's own, or that has none yet (its empty block lies wherever). -/
import Derived.Test.YthnmnnlbglpjaaaGreatDoorPush
namespace Go.Proofs.YthnmnnlbglpjaaaGreatDoor
open Go.RowKit
set_option linter.unusedVariables false
set_option linter.unusedSimpArgs false

theorem peTrans {w w1 w2 : World} {R : Option Nat} (h1 : w.grownBy w1 R) (h2 : w1.grownBy w2 R) : w.grownBy w2 R :=
  ⟨h2.os.trans h1.os, h2.tape.trans h1.tape, h2.output.trans h1.output, Nat.le_trans h1.size h2.size, fun k hk hr => (h2.block k (Nat.lt_of_lt_of_le hk h1.size) hr).trans (h1.block k hk hr)⟩
/-- a row of the call's own; while it has no elements, its block may lie anywhere -/
def ownsE (w : World) (base : Nat) (e : TypeId) (size : Nat) (v : Value) (n : Nat) (xs : List Value) : Prop :=
  w.ownsRow base e size v n xs ∨ (n = 0 ∧ xs = [] ∧ ∃ E, v = .slice (some ⟨E, 0, none⟩) 0 0 ∧ E < base)
theorem ownsE.ne {w : World} {base : Nat} {e : TypeId} {size : Nat} {v : Value} {n : Nat} {xs : List Value} (h : ownsE w base e size v n xs) {D : Nat} (hb : base ≤ D) (hD : w.heap.size ≤ D) : some D ≠ v.ownBlock := by
  rcases h with h | ⟨_, _, E, rfl, hE⟩
  · intro hh
    have := (h.lt D hh.symm).2
    omega
  · intro hh
    injection hh with hh
    have hh : D = E := hh
    omega
theorem ownsE.alloc {w : World} {base : Nat} {e : TypeId} {size : Nat} {v : Value} {n : Nat} {xs : List Value} (h : ownsE w base e size v n xs) (o : Obj) : ownsE (w.alloc o) base e size v n xs := h.imp (fun h => h.alloc o) id
theorem ownsE.kept {w w' : World} {base : Nat} {e : TypeId} {size : Nat} {v : Value} {n : Nat} {xs : List Value} {row : Option Nat} (h : ownsE w base e size v n xs) (hg : w.grownBy w' row) (hne : v.ownBlock = none ∨ v.ownBlock ≠ row) : ownsE w' base e size v n xs := h.imp (fun h => h.kept hg hne) id
theorem ownsE.keep {w w' : World} {base : Nat} {e : TypeId} {size : Nat} {v : Value} {n : Nat} {xs : List Value} (h : ownsE w base e size v n xs) (hb : Below w.heap.size w w') : ownsE w' base e size v n xs := by
  have hg : w.grownBy w' none := ⟨hb.os, hb.tape, hb.output, hb.size, fun k hk _ => hb.block k hk⟩
  refine h.kept hg ?_
  cases hv : v.ownBlock with
  | none => exact .inl rfl
  | some g => exact .inr (by simp)
theorem run_push0 {P : Program} (W : World) (t ty e : TypeId) {i : TypeInfo} {z : Value} {size bytes : Nat} (ht : P.underlying t = some (.slice e)) (hi : P.info? e = some i) (hz : i.zero = some z)
    (hsize : i.size = size) (hby : i.bytes = bytes) (hzs : z.cells.size = size) (E : Nat) (ad : Addr) (m c : Nat) (news : List Value) (hl : news.length = m * size) (hm : 0 < m)
    (hnews : ∀ j u, news[j]? = some u → W.cell? (ad.add j) = some u) (h63 : m ≤ 17592186044416) (hbytes : m * bytes ≤ 140737488355328) (base : Nat) (hbase : base ≤ W.heap.size) :
    ∃ v' w', (Builtin.append_ #[t, t] ty #[.slice (some ⟨E, 0, none⟩) 0 0, .slice (some ad) m c]).run P W = .ok v' w' ∧ w'.ownsRow base e size v' (0 + m) news ∧ W.grownBy w' none := by
  have hml : maxLen = 9223372036854775807 := by rfl
  have hr := run_append_grow (P := P) (w := W) t ty e i z ht hi hz ⟨E, 0, none⟩ 0 0 [] (by simp) (by simp) ad m c news (by rw [hsize]; exact hl) hnews (by omega) (by omega) (growslice_fits (by omega) (by rw [hby]; simpa using hbytes))
  have hge := grownCap_ge W (0 + m) 0 e
  refine ⟨_, _, hr, ⟨by rw [Nat.zero_add]; exact hl, .inr ⟨W.heap.size, _, _, rfl, hbase, heap_alloc_new W.drew _, hge, grownCap_le_maxLen W (0 + m) 0 _ (by rw [hml]; omega), ?_, ?_⟩⟩, ⟨rfl, rfl, rfl, by simp, fun k hk _ => heap_alloc_old W.drew _ hk⟩⟩
  · simp only [Array.size_append, List.size_toArray, size_zeroCells, List.length_nil, hzs, hl, Nat.zero_add]
    simp only [Nat.zero_add] at hge
    rw [← Nat.add_mul, Nat.add_sub_cancel' hge]
  · simp only [Array.toList_append, List.nil_append]
    have h1 : news.length = (0 + m) * size := by rw [Nat.zero_add]; exact hl
    rw [← h1]
    exact List.take_left
theorem wpList_pushE {P : Program} {ops : Array Oper} {rest : List Oper} {o : Oper} {a : Act} {Q : Exit → Act → World → Prop} {w w0 : World}
    (s x : Operand) (t : TypeId) (e : TypeId) {i : TypeInfo} {z : Value} {size bytes m : Nat} {base : Nat} {v : Value} {n : Nat} {xs news : List Value}
    (hown : ownsE w base e size v n xs) (hbel : Below base w0 w) (hbase : base ≤ w0.heap.size)
    (ht : P.underlying t = some (.slice e)) (hi : P.info? e = some i) (hz : i.zero = some z)
    (hsize : i.size = size) (hby : i.bytes = bytes) (hzs : z.cells.size = size) (hsz : 0 < size)
    (hgd : o.guard = none) (ho : o.op = .call { callee := .builtin .append, args := #[s, x], argTypes := #[t, t] })
    (hs : a.eval s = v) (hx : a.eval x = .slice (some ⟨w.heap.size, 0, none⟩) m m)
    (hl : news.length = m * size) (hm : 0 < m) (h1 : ∀ u ∈ news, u.oneCell' = true)
    (hroom : n + m ≤ 17592186044416 ∧ (n + m) * bytes ≤ 140737488355328)
    (h : ∀ v' w', w'.ownsRow base e size v' (n + m) (xs ++ news) → Below base w0 w' → w.grownBy w' v.ownBlock → wpList P ops Q rest (a.put o.dst v') w') :
    wpList P ops Q (o :: rest) a (w.alloc (.cells news.toArray e)) := by
  have hb1 : Below base w0 (w.alloc (.cells news.toArray e)) := hbel.alloc (by have := hbel.size; omega) _
  rcases hown with hown | ⟨rfl, rfl, E, rfl, _⟩
  · refine wpList_append_own (w := w.alloc (.cells news.toArray e)) hgd s x t ho base e i z size bytes ht hi hz hsize hby hzs hsz v n xs hs (hown.alloc _) ⟨w.heap.size, 0, none⟩ m m news hx hl (cells_new w news e) h1
      (by unfold maxLen; omega) hroom.2 (by have := hbel.size; simp; omega) ?_
    intro v' w' h2 h3 h4
    refine h v' w' h2 ?_ (peTrans (World.grownBy_alloc w _ _) h3)
    refine hb1.grown h3 (by have := hbel.size; simp; omega) ?_
    intro k hk
    exact (hown.lt k hk).1
  · refine wpList_plain hgd fun _ hK => ?_
    obtain ⟨v', w', hr, h2, h3⟩ := run_push0 (P := P) (w.alloc (.cells news.toArray e)) t o.type e ht hi hz hsize hby hzs E ⟨w.heap.size, 0, none⟩ m m news hl hm (cells_new w news e) (by omega) (by simpa using hroom.2) base (by have := hbel.size; simp; omega)
    unfold Oper.wp execOp
    simp only [ho, resolve, invoke, builtin, Sem.run_bind, Sem.run_pure, Result.andThen_ok, List.map_toArray, List.map_cons, List.map_nil, hs, hx, hr]
    have h4 : (w.alloc (.cells news.toArray e)).grownBy w' (some E) := ⟨h3.os, h3.tape, h3.output, h3.size, fun k hk _ => h3.block k hk (by simp)⟩
    exact hK _ _ (h v' w' h2 (hb1.grown h3 (by have := hbel.size; simp; omega) (fun k hk => by cases hk)) (peTrans (World.grownBy_alloc w _ _) h4))
end Go.Proofs.YthnmnnlbglpjaaaGreatDoor
