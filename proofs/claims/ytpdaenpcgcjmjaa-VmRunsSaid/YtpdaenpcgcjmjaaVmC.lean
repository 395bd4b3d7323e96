/- Rows of instructions, read and joined (of layer 10's texts, for a seat that has no insn.Read). -/
import Derived.Test.YtpdaenpcgcjmjaaVmB
import Derived.Laws.AppendOwnNone
namespace Go.Proofs.Ytpdaenpcgcjmjaa
open Go.ChangeShapes Go.WideShapes Go.ChangeAt Go.RowKit Go.Joins Go.Deep
set_option linter.unusedVariables false

theorem infoInsn : (Try.prog.info? 35).map (fun i => (i.zero, i.size, i.bytes)) = some (some (.agg #[.int .i64 0, .int .i64 0, .int .i64 0, .int .u32 0]), 4, 32) := by kernel_rfl
def insCells (l : List Ins) : List Value := l.flatMap Ins.cells
theorem insCells_len (l : List Ins) : (insCells l).length = l.length * 4 := by
  induction l with
  | nil => rfl
  | cons a l ih => rw [insCells, List.flatMap_cons, List.length_append, ← insCells, ih, List.length_cons]; simp [Ins.cells]; omega
/-- a slice of the call's own that holds these instructions -/
def OwnIns (w : World) (base : Nat) (v : Value) (l : List Ins) : Prop := w.ownsRow base 35 4 v l.length (insCells l)
theorem IsInsns.take {w : World} {v : Value} {l : List Ins} (h : IsInsns w v l) : ∃ a len cap, v = .slice a len cap ∧ l.length = len ∧ len ≤ cap ∧ cap ≤ 9223372036854775807 ∧
    ∀ m, m ≤ len → IsInsns w (.slice a m cap) (l.take m) := by
  obtain ⟨a, len, cap, rfl, hlen, hc1, hc2, hbd, hat⟩ := h
  refine ⟨a, len, cap, rfl, hlen, hc1, hc2, fun m hm => ⟨a, m, cap, rfl, by rw [List.length_take]; omega, by omega, hc2, fun i hi => hbd i (List.mem_of_mem_take hi), ?_⟩⟩
  rcases hat with h0 | ⟨b, off, rfl, hb, hat⟩
  · exact .inl (by omega)
  · refine .inr ⟨b, off, rfl, hb, fun i hi => ?_⟩
    have := hat i (by omega)
    rwa [show (l.take m).getD i insZ = l.getD i insZ from by simp [List.getD, hi]]
theorem IsInsns.below {w w' : World} {v : Value} {l : List Ins} (h : IsInsns w v l) (hb : Below w.heap.size w w') : IsInsns w' v l := by
  obtain ⟨a, len, cap, rfl, hlen, hc1, hc2, hbd, hat⟩ := h
  refine ⟨a, len, cap, rfl, hlen, hc1, hc2, hbd, hat.imp id ?_⟩
  rintro ⟨b, off, rfl, hlt, hat⟩
  exact ⟨b, off, rfl, Nat.lt_of_lt_of_le hlt hb.size, fun i hi => (hat i hi).below hb hlt⟩
theorem insCells_at (l : List Ins) (i j : Nat) (hi : i < l.length) (hj : j < 4) : (insCells l)[i * 4 + j]? = (l.getD i insZ).cells[j]? := by
  induction l generalizing i with
  | nil => simp at hi
  | cons a l ih =>
    rw [insCells, List.flatMap_cons, ← insCells]
    cases i with
    | zero => rw [List.getElem?_append_left (by simp [Ins.cells]; omega)]; simp
    | succ i =>
      rw [List.getElem?_append_right (by simp [Ins.cells]; omega), show (i + 1) * 4 + j - a.cells.length = i * 4 + j from by simp [Ins.cells]; omega, ih i (by simpa using hi)]
      rfl
theorem OwnIns.reads {w : World} {base : Nat} {v : Value} {l : List Ins} (h : OwnIns w base v l) (hb : ∀ i ∈ l, i.bounded) : IsInsns w v l := by
  unfold OwnIns at h
  rcases h.2 with ⟨rfl, h0⟩ | ⟨g, cap, cur, rfl, hg, hh, hn, hc, hcs, htake⟩
  · exact ⟨none, 0, 0, rfl, h0, by omega, by omega, hb, .inl rfl⟩
  · refine ⟨_, _, cap, rfl, rfl, hn, by unfold maxLen at hc; exact hc, hb, ?_⟩
    by_cases h0 : l.length = 0
    · exact .inl h0
    · refine .inr ⟨g, 0, rfl, (h.lt g rfl).2, fun i hi => ?_⟩
      have hat : ∀ j u, j < 4 → (l.getD i insZ).cells[j]? = some u → w.cell? ⟨g, i * 4 + j, none⟩ = some u := by
        intro j u hj hu
        have := h.cells (g := g) rfl (i * 4 + j) u (by rw [insCells_at l i j hi hj]; exact hu)
        rwa [show (⟨g, 0, none⟩ : Addr).add (i * 4 + j) = ⟨g, i * 4 + j, none⟩ from by unfold Addr.add; split <;> simp_all] at this
      have h0 := hat 0 _ (by omega) rfl
      have h1 := hat 1 _ (by omega) rfl
      have h2 := hat 2 _ (by omega) rfl
      have h3 := hat 3 _ (by omega) rfl
      exact ⟨by simpa using h0, by simpa using h1, by simpa using h2, by simpa using h3⟩

/-- 's = append(s, t...)': s is the call's own, t is whatever can be read. -/
theorem wpList_extend {P : Program} {ops : Array Oper} {rest : List Oper} {o : Oper} {a : Act} {Q : Exit → Act → World → Prop} {w w0 : World}
    (s x : Operand) (t : TypeId) (e : TypeId) {i : TypeInfo} {z : Value} {size bytes m c : Nat} {base : Nat} {v : Value} {n : Nat} {xs : List Value} {A : Option Addr} (news : List Value)
    (hown : w.ownsRow base e size v n xs) (hbel : Below base w0 w) (hbase : base ≤ w0.heap.size)
    (ht : P.underlying t = some (.slice e)) (hi : P.info? e = some i) (hz : i.zero = some z)
    (hsize : i.size = size) (hby : i.bytes = bytes) (hzs : z.cells.size = size) (hsz : 0 < size)
    (hgd : o.guard = none) (ho : o.op = .call { callee := .builtin .append, args := #[s, x], argTypes := #[t, t] })
    (hs : a.eval s = v) (hx : a.eval x = .slice A m c)
    (hA : (A = none ∧ m = 0 ∧ c = 0 ∧ news = []) ∨ ∃ ad, A = some ad ∧ ∀ j u, news[j]? = some u → w.cell? (ad.add j) = some u)
    (hl : news.length = m * size) (h1 : ∀ u ∈ news, u.oneCell' = true)
    (hroom : n + m ≤ 17592186044416 ∧ (n + m) * bytes ≤ 140737488355328)
    (h : ∀ v' w', w'.ownsRow base e size v' (n + m) (xs ++ news) → Below base w0 w' → wpList P ops Q rest (a.put o.dst v') w') :
    wpList P ops Q (o :: rest) a w := by
  rcases hA with ⟨rfl, rfl, rfl, rfl⟩ | ⟨ad, rfl, hc⟩
  · refine wpList_append_own_none hgd s x t ho base e i size ht hi v n xs hs hown hx ?_
    refine h v w ?_ hbel
    rw [List.append_nil]
    exact hown
  · refine wpList_append_own (w := w) hgd s x t ho base e i z size bytes ht hi hz hsize hby hzs hsz v n xs hs hown ad m c news hx hl hc h1 (by unfold maxLen; omega) hroom.2 (Nat.le_trans hbase hbel.size) ?_
    intro v' w' h2 h3 _
    exact h v' w' h2 (hbel.grown h3 (Nat.le_trans hbase hbel.size) (fun k hk => (hown.lt k hk).1))

def IsIns (w : World) (v : Value) (l : List Ins) : Prop := IsInsns w v l ∧ ∀ len cap, v = .slice none len cap → cap = 0
theorem openIns {H : Type} {enc : TypeId × Value → H} {W : World} {base : Nat} {v : Value} {d : DataW H} {p : List MemPlace}
    (hok : Value.okWide Try.prog W .any base 22 v) (h : DataW.Trod enc Try.prog W 0 (fun _ => true) true 22 v d p) : ∃ l, IsIns W v l := by
  obtain ⟨l, hl⟩ := openInsns hok h
  refine ⟨l, hl, ?_⟩
  rintro len cap rfl
  obtain ⟨fuel, hf⟩ := h
  rcases open_slice Try.underlying22 hf with ⟨hcs, _⟩ | ⟨x, l', c, m, n, D, Pl, hcs, _⟩
  · simp [Value.cells] at hcs
    exact hcs.2
  · simp [Value.cells] at hcs

theorem cells_of {w : World} {A : Option Addr} {len cap : Nat} {l : List Ins} (h : IsIns w (.slice A len cap) l) (m : Nat) (hm : m ≤ len) :
    (A = none ∧ m = 0 ∧ cap = 0 ∧ insCells (l.take m) = []) ∨ ∃ ad, A = some ad ∧ ∀ j u, (insCells (l.take m))[j]? = some u → w.cell? (ad.add j) = some u := by
  obtain ⟨⟨a, len', cap', hv, hlen, hc1, hc2, hbd, hat⟩, hn⟩ := h
  injection hv with h1 h2 h3
  subst h1 h2 h3
  cases A with
  | none =>
    left
    have := hn _ _ rfl
    subst this
    obtain rfl : m = 0 := by omega
    exact ⟨rfl, rfl, rfl, rfl⟩
  | some ad =>
    refine .inr ⟨ad, rfl, fun j u hj => ?_⟩
    have hlt : j < (insCells (l.take m)).length := (List.getElem?_eq_some_iff.1 hj).1
    rw [insCells_len, List.length_take] at hlt
    rcases hat with h0 | ⟨b, off, hab, hb, hat⟩
    · omega
    · injection hab with hab
      subst hab
      have hdiv : j = j / 4 * 4 + j % 4 := by omega
      have hi : j / 4 < (l.take m).length := by rw [List.length_take]; omega
      rw [hdiv, insCells_at (l.take m) (j / 4) (j % 4) hi (by omega)] at hj
      rw [show (l.take m).getD (j / 4) insZ = l.getD (j / 4) insZ from by rw [List.length_take] at hi; simp [List.getD, show j / 4 < m by omega]] at hj
      obtain ⟨c0, c1, c2, c3⟩ := hat (j / 4) (by rw [List.length_take] at hi; omega)
      rw [addr_add, hdiv, ← Nat.add_assoc]
      have h4 : j % 4 = 0 ∨ j % 4 = 1 ∨ j % 4 = 2 ∨ j % 4 = 3 := by omega
      rcases h4 with h4 | h4 | h4 | h4 <;> rw [h4] at hj ⊢ <;> (simp only [Ins.cells] at hj; injection hj with hj; subst hj; assumption)
theorem IsIns.below {w w' : World} {v : Value} {l : List Ins} (h : IsIns w v l) (hb : Below w.heap.size w w') : IsIns w' v l := ⟨h.1.below hb, h.2⟩

theorem insCells_one (l : List Ins) : ∀ u ∈ insCells l, u.oneCell' = true := by
  intro u hu
  obtain ⟨i, _, hi⟩ := List.mem_flatMap.1 hu
  simp only [Ins.cells, List.mem_cons, List.not_mem_nil, or_false] at hi
  rcases hi with rfl | rfl | rfl | rfl <;> rfl

set_option maxRecDepth 100000 in
theorem vmFew_at (a : Option Addr) (len cap : Nat) (w : World) (h1 : len ≤ cap) (h2 : cap ≤ 9223372036854775807) :
    Calls Try.prog 8 #[.slice a len cap] w fun e w' => e = .returned (.slice a (min len 200) cap) ∧ w = w' := by
  have hcI : (cap : Int) ≤ 9223372036854775807 := by omega
  obtain ⟨m, hm, hm1, hm2, hm3⟩ := min_if len 200 (by omega)
  have hm4 : min len 200 = m := by omega
  rw [hm4]
  have hmI : (m : Int) ≤ cap := by omega
  have hmi : min (len : Int) 200 = m := by omega
  clear hm3 hm4
  go_enter Try.func8, Try.ntmps8
  go_wp2_with fail
  go_ret
  exact ⟨rfl, rfl⟩

theorem runF_facts (l : List Ins) (rec : ByteArray) : ∀ f m s, (runF l rec f m s).2.2 = 0 ∧ s ≤ (runF l rec f m s).2.1 ∧ (runF l rec f m s).2.1 < s + f ∨ runF l rec f m s = (0, 0, 51)
  | 0, _, _ => .inr rfl
  | f + 1, m, s => by
    unfold runF
    by_cases h1 : m.next < l.length
    · rw [if_pos h1]
      by_cases h2 : insKnown (l.getD m.next insZ).code = true
      · rw [if_pos h2]
        by_cases h3 : (stepM l rec m).1 = true
        · rw [if_pos h3]
          by_cases h4 : (stepM l rec m).2.ret = true
          · rw [if_pos h4]
            exact .inl ⟨rfl, Nat.le_refl _, by show s < s + (f + 1); omega⟩
          · rw [if_neg h4]
            rcases runF_facts l rec f (stepM l rec m).2 (s + 1) with ⟨a, b, c⟩ | h
            · exact .inl ⟨a, by omega, by omega⟩
            · exact .inr h
        · rw [if_neg h3]; exact .inr rfl
      · rw [if_neg h2]; exact .inr rfl
    · rw [if_neg h1]; exact .inr rfl
theorem run_ext (rec : ByteArray) (n n' : Nat) (m : Mach) (D : Deed) (h : n ≤ n') : D.run rec n' m = D.run rec n m ∨ (n ≤ (D.run rec n m).2.next ∧ (D.run rec n m).2.ret = m.ret) := by
  cases D with
  | over v =>
    by_cases hv : max v 0 ≤ (n : Int)
    · left
      unfold Deed.run
      simp only
      rw [show min (max v 0) (n' : Int) = min (max v 0) (n : Int) by omega]
    · right
      refine ⟨?_, rfl⟩
      show n ≤ m.next + (min (max v 0) (n : Int)).toNat
      omega
  | setA v => exact .inl rfl
  | setX v => exact .inl rfl
  | answer v => exact .inl rfl
  | ldm k => exact .inl rfl
  | lxm k => exact .inl rfl
  | st k => exact .inl rfl
  | stx k => exact .inl rfl
  | abs k => exact .inl rfl
theorem runF_over (l : List Ins) (rec : ByteArray) (f : Nat) (m : Mach) (s : Nat) (h : l.length ≤ m.next) : runF l rec f m s = (0, 0, 51) := by
  cases f with
  | zero => rfl
  | succ f => unfold runF; exact if_neg (by omega)
theorem runF_ext (l x : List Ins) (rec : ByteArray) : ∀ f m s g, f ≤ g → m.ret = false → (runF l rec f m s).2.2 = 0 → runF (l ++ x) rec g m s = runF l rec f m s
  | 0, m, s, g, _, _, h0 => absurd h0 (show (51 : Int) ≠ 0 by decide)
  | f + 1, m, s, 0, hg, _, _ => absurd hg (by omega)
  | f + 1, m, s, g + 1, hg, hr, h0 => by
    have hne : ((0, 0, 51) : Nat × Nat × Int).2.2 ≠ 0 := by decide
    unfold runF at h0 ⊢
    by_cases h1 : m.next < l.length
    · have h1' : m.next < (l ++ x).length := by rw [List.length_append]; omega
      have hget : (l ++ x).getD m.next insZ = l.getD m.next insZ := by
        rw [List.getD_eq_getElem?_getD, List.getD_eq_getElem?_getD, List.getElem?_append_left h1]
      rw [if_pos h1] at h0 ⊢
      rw [if_pos h1', hget]
      by_cases h2 : insKnown (l.getD m.next insZ).code = true
      · rw [if_pos h2] at h0 ⊢
        rw [if_pos h2]
        have hst : stepM (l ++ x) rec m = stepM l rec m ∨ (l.length ≤ (stepM l rec m).2.next ∧ (stepM l rec m).2.ret = m.ret) := by
          unfold stepM
          simp only
          rw [hget]
          exact run_ext rec l.length (l ++ x).length { m with next := m.next + 1 } _ (by rw [List.length_append]; omega)
        by_cases h3 : (stepM l rec m).1 = true
        · rw [if_pos h3] at h0 ⊢
          by_cases h4 : (stepM l rec m).2.ret = true
          · rcases hst with hst | ⟨_, hst⟩
            · rw [hst, if_pos h3, if_pos h4, if_pos h4]
            · rw [hst, hr] at h4; cases h4
          · rw [if_neg h4] at h0 ⊢
            rcases hst with hst | ⟨hst, _⟩
            · rw [hst, if_pos h3, if_neg h4]
              exact runF_ext l x rec f _ _ g (by omega) (Bool.eq_false_iff.2 h4) h0
            · rw [runF_over l rec f _ _ hst] at h0; exact absurd h0 hne
        · rw [if_neg h3] at h0; exact absurd h0 hne
      · rw [if_neg h2] at h0; exact absurd h0 hne
    · rw [if_neg h1] at h0; exact absurd h0 hne
theorem runR_ext (l x : List Ins) (rec : ByteArray) (h : (runR l rec).2.2 = 0) : runR (l ++ x) rec = runR l rec := by
  unfold runR at h ⊢
  by_cases hs : rec.size = 64
  · rw [if_pos hs] at h ⊢
    rw [if_pos hs]
    exact runF_ext l x rec _ _ _ _ (by rw [List.length_append]; omega) rfl h
  · rw [if_neg hs] at h; exact absurd h (by decide)
theorem runR_facts (l : List Ins) (rec : ByteArray) : (rec.size = 64 ∧ (runR l rec).2.2 = 0 ∧ 1 ≤ (runR l rec).2.1 ∧ (runR l rec).2.1 ≤ l.length) ∨ (rec.size = 64 ∧ runR l rec = (0, 0, 51)) ∨ (rec.size ≠ 64 ∧ runR l rec = (0, 0, 52)) := by
  unfold runR
  by_cases hs : rec.size = 64
  · rw [if_pos hs]
    rcases runF_facts l rec l.length mach0 1 with ⟨a, b, c⟩ | h
    · exact .inl ⟨hs, a, b, by omega⟩
    · exact .inr (.inl ⟨hs, h⟩)
  · rw [if_neg hs]; exact .inr (.inr ⟨hs, rfl⟩)
end Go.Proofs.Ytpdaenpcgcjmjaa
