/- Rules put behind others: rows of rules of the call's own, and what they answer. -/
import Derived.Test.YtgcngmlndijppaaMnEval
import Derived.Test.YtgcngmlndijppaaMnNot
import Derived.Maps.AppendAt
import Derived.Laws.OwnMore
import Derived.RegionTactic
namespace Go.Proofs.Ytgcngmlndijppaa
open Go.RowKit Go.ChangeShapes
set_option linter.unusedVariables false

/-- append at a step of a region that draws, of none or of some elements of another row; where the new row lies -/
theorem step_append_at {P : Program} {ops : Array Oper} {o : Oper} {a : Act} {w : World} {K : Act → World → Prop} {Q : Exit → Act → World → Prop} {E : Prop} (hgd : o.guard = none) (s x : Operand) (t : TypeId)
    (ho : o.op = .call { callee := .builtin .append, args := #[s, x], argTypes := #[t, t] })
    (base : Nat) (e : TypeId) {i : TypeInfo} {z : Value} {size bytes : Nat} (ht : P.underlying t = some (.slice e)) (hi : P.info? e = some i) (hz : i.zero = some z)
    (hsize : i.size = size) (hby : i.bytes = bytes) (hzs : z.cells.size = size) (hsz : 0 < size)
    (v : Value) (n : Nat) (xs : List Value) (hs : a.eval s = v) (hown : w.ownsRow base e size v n xs)
    (A : Option Addr) (m c : Nat) (news : List Value) (hx : a.eval x = .slice A m c) (hl : news.length = m * size)
    (hA : (A = none ∧ m = 0 ∧ c = 0 ∧ news = []) ∨ ∃ ad, A = some ad ∧ ∀ j u, news[j]? = some u → w.cell? (ad.add j) = some u) (h1 : ∀ u ∈ news, u.oneCell' = true)
    (h63 : n + m ≤ maxLen) (hbytes : (n + m) * bytes ≤ 140737488355328) (hbase : base ≤ w.heap.size)
    (h : ∀ v' w', w'.ownsRow base e size v' (n + m) (xs ++ news) → w.grownBy w' v.ownBlock → (v'.ownBlock = v.ownBlock ∨ v'.ownBlock = some w.heap.size) → K (a.put o.dst v') w') :
    if Region.wanted o (yielded ops a.tmps) = true then Oper.wp P o a w K Q else E := by
  have hw : Region.wanted o (yielded ops a.tmps) = true := by simp [Region.wanted, hgd]
  rw [if_pos hw]
  rcases hA with ⟨rfl, rfl, rfl, rfl⟩ | ⟨ad, rfl, hc⟩
  · have hrun := run_append_owned_none (P := P) (w := w) base t o.type e i size ht hi v n xs hown
    have hn := h v w (by rw [List.append_nil]; exact hown) ⟨rfl, rfl, rfl, Nat.le_refl _, fun _ _ _ => rfl⟩ (.inl rfl)
    unfold Oper.wp execOp
    simp only [ho, resolve, invoke, builtin, Sem.run_bind, Sem.run_pure, Result.andThen_ok, List.map_toArray, List.map_cons, List.map_nil, hs, hx, hrun]
    exact hn
  · obtain ⟨v', w', hr, h2, h3, _, h5⟩ := run_append_own_at (P := P) w base t o.type e i z size bytes ht hi hz hsize hby hzs hsz v n xs hown ad m c news hl hc h1 h63 hbytes hbase
    unfold Oper.wp execOp
    simp only [ho, resolve, invoke, builtin, Sem.run_bind, Sem.run_pure, Result.andThen_ok, List.map_toArray, List.map_cons, List.map_nil, hs, hx, hr]
    exact h v' w' h2 h3 h5
theorem infoMtc : (Try.prog.info? 46).map (fun i => (i.zero, i.size)) = some (some (.agg #[.slice none 0 0, .int .i64 0, .slice none 0 0, .int .i64 0, .int .u64 0, .string ⟨#[]⟩, .int .u64 0, .int .u32 0]), 8) := by kernel_rfl
theorem infoMtcB : ∃ i, Try.prog.info? 46 = some i ∧ i.zero = some (.agg #[.slice none 0 0, .int .i64 0, .slice none 0 0, .int .i64 0, .int .u64 0, .string ⟨#[]⟩, .int .u64 0, .int .u32 0]) ∧ i.size = 8 ∧ i.bytes ≤ 1000 := by
  have h := infoMtc
  cases hi : Try.prog.info? 46 with
  | none => rw [hi] at h; cases h
  | some i =>
    rw [hi] at h
    simp only [Option.map_some, Option.some.injEq, Prod.mk.injEq] at h
    refine ⟨i, rfl, h.1, h.2, ?_⟩
    have : ((Try.prog.info? 46).map fun i => decide (i.bytes ≤ 1000)) = some true := by kernel_rfl
    rw [hi] at this
    simpa using this
/-- the cells of a row as they stand in memory -/
def memCells (w : World) (b off k : Nat) : List Value := (List.range k).map fun i => (w.cell? ⟨b, off + i, none⟩).getD undef
theorem memCells_len (w : World) (b off k : Nat) : (memCells w b off k).length = k := by simp [memCells]
theorem memCells_get (w : World) (b off k j : Nat) (h : j < k) : (memCells w b off k)[j]? = some ((w.cell? ⟨b, off + j, none⟩).getD undef) := by simp [memCells, h]
def mtcRow (ks k : Value) (m : Mtc) : List Value := [ks, .int .i64 m.cnd.kind, k, .int .i64 m.cnd.arg, .int .u64 (m.cnd.mask : Nat), .string m.cnd.sign, .int .u64 (m.cnd.value : Nat), .int .u32 (m.act : Nat)]
/-- the eight cells of a rule are those of another place -/
theorem MtcAt.row {w : World} {m : Mtc} {b o : Nat} (h : MtcAt w m b o) : ∃ ks k, m.act ≤ 4294967295 ∧ m.cnd.bounded ∧ IsU32s w ks m.nrs ∧ IsCnds w k m.cnd.kids ∧ (∀ j x, (mtcRow ks k m)[j]? = some x → w.cell? ⟨b, o + j, none⟩ = some x) ∧ ∀ x ∈ mtcRow ks k m, x.oneCell' = true := by
  obtain ⟨h1, h2, ka, kn, kc, ca, cn, cc, hu, hk, e0, e1, e2, e3, e4, e5, e6, e7⟩ := h.cell
  refine ⟨_, _, h1, h2, hu, hk, fun j x hx => ?_, fun x hx => ?_⟩
  · have hj : j < 8 := (List.getElem?_eq_some_iff.1 hx).1
    rcases (by omega : j = 0 ∨ j = 1 ∨ j = 2 ∨ j = 3 ∨ j = 4 ∨ j = 5 ∨ j = 6 ∨ j = 7) with rfl | rfl | rfl | rfl | rfl | rfl | rfl | rfl <;> (injection hx with hx; subst hx; assumption)
  · simp only [mtcRow, List.mem_cons, List.not_mem_nil, or_false] at hx
    rcases hx with rfl | rfl | rfl | rfl | rfl | rfl | rfl | rfl <;> rfl
theorem mtc_of_row {w : World} {m : Mtc} {b o : Nat} {ks k : Value} (h1 : m.act ≤ 4294967295) (h2 : m.cnd.bounded) (hu : IsU32s w ks m.nrs) (hk : IsCnds w k m.cnd.kids) (h : ∀ j x, (mtcRow ks k m)[j]? = some x → w.cell? ⟨b, o + j, none⟩ = some x) : MtcAt w m b o := by
  refine ⟨ks, h 0 _ rfl, hu, (cndAt_iff w m.cnd b _).2 ⟨h2, k, fun j x hx => ?_, hk⟩, h 7 _ rfl, h1⟩
  have hj : j < 6 := (List.getElem?_eq_some_iff.1 hx).1
  have := h (1 + j) x (by rcases (by omega : j = 0 ∨ j = 1 ∨ j = 2 ∨ j = 3 ∨ j = 4 ∨ j = 5) with rfl | rfl | rfl | rfl | rfl | rfl <;> exact hx)
  rwa [← Nat.add_assoc] at this
/-- the rules of a row as a source -/
theorem mtcs_source {w : World} {A : Option Addr} {n c : Nat} {l : List Mtc} (h : IsMtcs w (.slice A n c) l) : ∃ news : List Value, news.length = n * 8 ∧ (∀ x ∈ news, x.oneCell' = true) ∧
    ((A = none ∧ n = 0 ∧ c = 0 ∧ news = []) ∨ ∃ ad, A = some ad ∧ ∀ u, Below w.heap.size w u → ∀ j x, news[j]? = some x → u.cell? (ad.add j) = some x) ∧
    ∀ i, i < n → ∃ ks k, (l.getD i mtcZ).act ≤ 4294967295 ∧ (l.getD i mtcZ).cnd.bounded ∧ IsU32s w ks (l.getD i mtcZ).nrs ∧ IsCnds w k (l.getD i mtcZ).cnd.kids ∧ ∀ j, j < 8 → news[i * 8 + j]? = (mtcRow ks k (l.getD i mtcZ))[j]? := by
  obtain ⟨_, _, _, hv, h1, h2, h3, h4, h5⟩ := h
  injection hv with e1 e2 e3
  subst e1 e2 e3
  rcases h5 with h0 | ⟨b, off, rfl, hlt, hat⟩
  · subst h0
    refine ⟨[], by simp, fun x hx => (by cases hx), ?_, fun i hi => (by omega)⟩
    cases A with
    | none => exact .inl ⟨rfl, rfl, h4 rfl, rfl⟩
    | some ad => exact .inr ⟨ad, rfl, fun u _ j x hx => by simp at hx⟩
  · have hget : ∀ i j, i < n → j < 8 → ∀ ks k, (∀ j x, (mtcRow ks k (l.getD i mtcZ))[j]? = some x → w.cell? ⟨b, off + i * 8 + j, none⟩ = some x) → (memCells w b off (n * 8))[i * 8 + j]? = (mtcRow ks k (l.getD i mtcZ))[j]? := by
      intro i j hi hj ks k hc
      rw [memCells_get _ _ _ _ _ (by omega)]
      have hx : (mtcRow ks k (l.getD i mtcZ))[j]? = some ((mtcRow ks k (l.getD i mtcZ))[j]'(by simp [mtcRow]; omega)) := List.getElem?_eq_getElem _
      rw [hx, ← Nat.add_assoc, hc j _ hx]
      rfl
    refine ⟨memCells w b off (n * 8), memCells_len _ _ _ _, fun x hx => ?_, .inr ⟨_, rfl, fun u hu j x hx => ?_⟩, fun i hi => ?_⟩
    · obtain ⟨q, hq, rfl⟩ := List.mem_iff_getElem.1 hx
      rw [memCells_len] at hq
      obtain ⟨ks, k, _, _, _, _, hc, ho⟩ := (hat (q / 8) (by omega)).row
      have := hget (q / 8) (q % 8) (by omega) (by omega) ks k hc
      rw [show q / 8 * 8 + q % 8 = q by omega, List.getElem?_eq_getElem (by rw [memCells_len]; omega)] at this
      exact ho _ (List.mem_of_getElem? this.symm)
    · have hj : j < n * 8 := by have := (List.getElem?_eq_some_iff.1 hx).1; rwa [memCells_len] at this
      obtain ⟨ks, k, _, _, _, _, hc, ho⟩ := (hat (j / 8) (by omega)).row
      have h8 := hget (j / 8) (j % 8) (by omega) (by omega) ks k hc
      rw [show j / 8 * 8 + j % 8 = j by omega, hx] at h8
      have := hc (j % 8) x h8.symm
      rw [addr_add, hu.cell (p := ⟨b, off + j, none⟩) hlt, show off + j = off + j / 8 * 8 + j % 8 by omega]
      exact this
    · obtain ⟨ks, k, a1, a2, a3, a4, hc, _⟩ := (hat i hi).row
      exact ⟨ks, k, a1, a2, a3, a4, fun j hj => hget i j hi hj ks k hc⟩
/-- a row of the call's own of old rules and a new one -/
theorem mtcs_more {w u : World} {base : Nat} {n : Nat} {l : List Mtc} {news : List Value} {v : Value} {m : Mtc} {ks k : Value} (hln : l.length = n) (hb : Below w.heap.size w u)
    (hlen : news.length = n * 8) (hsrc : ∀ i, i < n → ∃ ks k, (l.getD i mtcZ).act ≤ 4294967295 ∧ (l.getD i mtcZ).cnd.bounded ∧ IsU32s w ks (l.getD i mtcZ).nrs ∧ IsCnds w k (l.getD i mtcZ).cnd.kids ∧ ∀ j, j < 8 → news[i * 8 + j]? = (mtcRow ks k (l.getD i mtcZ))[j]?)
    (h1 : m.act ≤ 4294967295) (h2 : m.cnd.bounded) (hu : IsU32s w ks m.nrs) (hk : IsCnds w k m.cnd.kids)
    (hown : u.ownsRow base 46 8 v (n + 1) (news ++ mtcRow ks k m)) : IsMtcs u v (l ++ [m]) := by
  have hcells := fun (g : Nat) (len cap : Nat) (e : v = .slice (some ⟨g, 0, none⟩) len cap) => hown.cells (g := g) (by rw [e]; rfl)
  rcases hown.2 with ⟨_, h0⟩ | ⟨g, cap, cur, rfl, hg, hh, hn, hc, _⟩
  · omega
  · unfold maxLen at hc
    refine ⟨_, n + 1, cap, rfl, by simp [hln], hn, hc, fun h => (by cases h), .inr ⟨g, 0, rfl, lt_of_block hh, fun i hi => ?_⟩⟩
    by_cases hlt : i < n
    · obtain ⟨ks', k', a1, a2, a3, a4, a5⟩ := hsrc i hlt
      have e1 : (l ++ [m]).getD i mtcZ = l.getD i mtcZ := by simp [List.getD, List.getElem?_append_left (show i < l.length by omega)]
      rw [e1]
      refine mtc_of_row a1 a2 (a3.below hb) (a4.below hb) fun j x hx => ?_
      have hj : j < 8 := (List.getElem?_eq_some_iff.1 hx).1
      have := hcells g _ _ rfl (i * 8 + j) x (by rw [List.getElem?_append_left (by omega), a5 j hj]; exact hx)
      rw [addr_add] at this
      rwa [Nat.add_assoc]
    · obtain rfl : i = n := by omega
      have e1 : (l ++ [m]).getD i mtcZ = m := by simp [List.getD, ← hln]
      rw [e1]
      refine mtc_of_row h1 h2 (hu.below hb) (hk.below hb) fun j x hx => ?_
      have hj : j < 8 := (List.getElem?_eq_some_iff.1 hx).1
      have := hcells g _ _ rfl (i * 8 + j) x (by rw [List.getElem?_append_right (by omega), hlen, show i * 8 + j - i * 8 = j by omega]; exact hx)
      rw [addr_add] at this
      rwa [Nat.add_assoc]
theorem evalR_more (l : List Mtc) (m : Mtc) (d nr : Nat) (args : List Nat) :
    (evalR (l ++ [m]) d nr args = evalR l d nr args ∨ (evalR l d nr args = d ∧ evalR (l ++ [m]) d nr args = m.act)) ∧ (evalR l d nr args = d ∨ ∃ j, j < l.length ∧ (l.getD j mtcZ).act = evalR l d nr args) := by
  induction l with
  | nil =>
    refine ⟨?_, .inl rfl⟩
    show evalR [m] d nr args = d ∨ (d = d ∧ evalR [m] d nr args = m.act)
    rw [evalR]
    split
    · exact .inr ⟨rfl, rfl⟩
    · exact .inl rfl
  | cons c l ih =>
    rw [List.cons_append, evalR, evalR]
    by_cases h : c.hits nr args = true
    · rw [if_pos h, if_pos h]
      exact ⟨.inl rfl, .inr ⟨0, by simp, rfl⟩⟩
    · rw [if_neg h, if_neg h]
      refine ⟨ih.1, ih.2.imp id ?_⟩
      rintro ⟨j, hj, e⟩
      exact ⟨j + 1, by simpa using hj, by simpa using e⟩
theorem eval_more (t : Typ) (m : Mtc) (x : Cal) :
    ((Typ.mk t.arch t.dflt (t.rules ++ [m])).eval x = t.eval x ∨ (t.eval x = t.dflt ∧ (Typ.mk t.arch t.dflt (t.rules ++ [m])).eval x = m.act)) ∧ (t.eval x = t.dflt ∨ (x.arch ≠ t.arch ∧ t.eval x = 2147483648) ∨ ∃ j, j < t.rules.length ∧ (t.rules.getD j mtcZ).act = t.eval x) := by
  unfold Typ.eval
  dsimp only
  by_cases h : x.arch = t.arch
  · rw [if_pos h, if_pos h]
    obtain ⟨h1, h2⟩ := evalR_more t.rules m t.dflt x.nr x.args
    exact ⟨h1, h2.imp id .inr⟩
  · rw [if_neg h, if_neg h]
    exact ⟨.inl rfl, .inr (.inl ⟨h, rfl⟩)⟩
end Go.Proofs.Ytgcngmlndijppaa
