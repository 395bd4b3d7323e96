/- Rows of conditions of the call's own, and the call that tells the next one. -/
import Derived.Test.YtbcoooaoofbboaaCnd2
import Derived.Test.YtbcoooaoofbboaaQTail
import Derived.Laws.AppendOwnNone
import Derived.Laws.OwnMore
import Derived.WalkSmall
import Derived.OneCell
namespace Go.Proofs.Ytbcoooaoofbboaa
open Go.RowKit Go.ChangeShapes
set_option linter.unusedVariables false

theorem infoCnd : (Try.prog.info? 25).map (fun i => (i.zero, i.size, i.bytes)) = some (some (.agg #[.int .i64 0, .slice none 0 0, .int .i64 0, .int .u64 0, .string ⟨#[]⟩, .int .u64 0]), 6, 72) := by kernel_rfl
def cndCells : List Cnd → List Value → List Value
  | c :: l, k :: ks => c.cells k ++ cndCells l ks
  | _, _ => []
def KsOk (w : World) : List Cnd → List Value → Prop
  | [], [] => True
  | c :: l, k :: ks => c.bounded ∧ IsCnds w k c.kids ∧ KsOk w l ks
  | _, _ => False
theorem KsOk.len {w : World} : ∀ {l : List Cnd} {ks : List Value}, KsOk w l ks → ks.length = l.length ∧ (cndCells l ks).length = l.length * 6
  | [], [], _ => ⟨rfl, rfl⟩
  | c :: l, k :: ks, h => by
    obtain ⟨a, b⟩ := KsOk.len (l := l) (ks := ks) h.2.2
    refine ⟨by simp [a], ?_⟩
    rw [cndCells, List.length_append, b, List.length_cons]
    simp [Cnd.cells]; omega
  | [], _ :: _, h => h.elim
  | _ :: _, [], h => h.elim
theorem KsOk.one {w : World} : ∀ {l : List Cnd} {ks : List Value}, KsOk w l ks → ∀ u ∈ cndCells l ks, u.oneCell' = true
  | [], [], _, u, hu => by cases hu
  | c :: l, k :: ks, h, u, hu => by
    rw [cndCells, List.mem_append] at hu
    rcases hu with hu | hu
    · obtain ⟨_, a, n, cp, rfl, _⟩ := h.2.1 |> fun x => (⟨trivial, x⟩ : True ∧ _)
      simp only [Cnd.cells, List.mem_cons, List.not_mem_nil, or_false] at hu
      rcases hu with rfl | rfl | rfl | rfl | rfl | rfl <;> rfl
    · exact KsOk.one h.2.2 u hu
  | [], _ :: _, h, _, _ => h.elim
  | _ :: _, [], h, _, _ => h.elim
theorem KsOk.app {w : World} : ∀ {l : List Cnd} {ks : List Value} {m : List Cnd} {js : List Value}, KsOk w l ks → KsOk w m js → KsOk w (l ++ m) (ks ++ js) ∧ cndCells (l ++ m) (ks ++ js) = cndCells l ks ++ cndCells m js
  | [], [], m, js, _, h2 => ⟨h2, rfl⟩
  | c :: l, k :: ks, m, js, h1, h2 => by
    obtain ⟨a, b⟩ := KsOk.app (l := l) (ks := ks) h1.2.2 h2
    exact ⟨⟨h1.1, h1.2.1, a⟩, by rw [List.cons_append, List.cons_append, cndCells, b, cndCells, List.append_assoc]⟩
  | [], _ :: _, _, _, h, _ => h.elim
  | _ :: _, [], _, _, h, _ => h.elim
theorem KsOk.last {w : World} : ∀ {l : List Cnd} {c : Cnd} {ks : List Value}, KsOk w (l ++ [c]) ks → ∃ ks' k, ks = ks' ++ [k] ∧ KsOk w l ks' ∧ c.bounded ∧ IsCnds w k c.kids ∧ cndCells (l ++ [c]) ks = cndCells l ks' ++ c.cells k
  | [], c, [k], h => ⟨[], k, rfl, trivial, h.1, h.2.1, by simp [cndCells]⟩
  | [], c, [], h => h.elim
  | [], c, k :: j :: ks, h => h.2.2.elim
  | a :: l, c, [], h => h.elim
  | a :: l, c, k :: ks, h => by
    obtain ⟨ks', k', rfl, h1, h2, h3, h4⟩ := KsOk.last (l := l) (c := c) (ks := ks) h.2.2
    exact ⟨k :: ks', k', rfl, ⟨h.1, h.2.1, h1⟩, h2, h3, by rw [List.cons_append, cndCells, h4, cndCells, List.append_assoc]⟩
/-- kids that stand somewhere, as cells -/
theorem kids_cells {w : World} : ∀ (l : List Cnd) (b o : Nat), KidsAt w l b o → ∃ ks, KsOk w l ks ∧ ∀ j u, (cndCells l ks)[j]? = some u → w.cell? ⟨b, o + j, none⟩ = some u
  | [], b, o, _ => ⟨[], trivial, fun j u h => by simp [cndCells] at h⟩
  | c :: l, b, o, h => by
    rw [KidsAt] at h
    obtain ⟨hb, k, h1, h2⟩ := (cndAt_iff w c b o).1 h.1
    obtain ⟨ks, h3, h4⟩ := kids_cells l b (o + 6) h.2
    refine ⟨k :: ks, ⟨hb, h2, h3⟩, fun j u hu => ?_⟩
    rw [cndCells] at hu
    by_cases hj : j < 6
    · rw [List.getElem?_append_left (by simp [Cnd.cells]; omega)] at hu
      exact h1 j u hu
    · rw [List.getElem?_append_right (by simp [Cnd.cells]; omega), show (c.cells k).length = 6 from rfl] at hu
      have := h4 (j - 6) u hu
      rwa [show o + 6 + (j - 6) = o + j by omega] at this
theorem own_form6 {w : World} {base e : Nat} {v : Value} {n : Nat} {xs : List Value} (h : w.ownsRow base e 6 v n xs) : ∃ A c, v = .slice A n c ∧ n ≤ c ∧ c ≤ 9223372036854775807 ∧ (0 < n → ∃ g, A = some ⟨g, 0, none⟩) := by
  rcases h.2 with ⟨rfl, h0⟩ | ⟨g, cap, cur, rfl, hg, hh, hn, hc, _⟩
  · subst h0; exact ⟨_, _, rfl, by omega, by omega, fun h => by omega⟩
  · exact ⟨_, _, rfl, hn, by unfold maxLen at hc; exact hc, fun _ => ⟨g, rfl⟩⟩
theorem own_put {w : World} {base : Nat} {e : TypeId} {size : Nat} {v : Value} {n : Nat} {xs : List Value} (h : w.ownsRow base e size v n xs) {B : Nat} (hB : v.ownBlock ≠ some B) (i : Nat) (x : Value) : (w.setCell ⟨B, i, none⟩ x).ownsRow base e size v n xs :=
  h.kept (row := some B) ⟨rfl, rfl, rfl, by simp [World.setCell], fun k _ hk => Below.heap_setCell _ _ _ _ (fun e => hk (by simp [e]))⟩ (.inr hB)
theorem own_kind {w : World} {base : Nat} {e T : TypeId} {size : Nat} {v : Value} {n : Nat} {xs : List Value} (h : w.ownsRow base e size v n xs) {B : Nat} {cs : Array Value} (hB : w.heap[B]? = some (.cells cs T (0, 0))) (hT : T ≠ e) : v.ownBlock ≠ some B := by
  rcases h.2 with ⟨rfl, _⟩ | ⟨g, cap, cur, rfl, _, hg, _⟩
  · simp [Value.ownBlock]
  · intro he
    have he : g = B := by simpa [Value.ownBlock] using he
    subst he
    rw [hg] at hB
    injection hB with hB
    injection hB with _ hB
    exact hT hB.symm
/-- what is left to be told -/
def Left (W0 u : World) (V : Nat) (st : List Cnd) : Prop :=
  ∃ v ks, u.heap[V]? = some (.cells #[v] 22 (0, 0)) ∧ W0.heap.size ≤ V ∧ KsOk W0 st ks ∧ u.ownsRow W0.heap.size 25 6 v st.length (cndCells st ks) ∧ Below W0.heap.size W0 u
theorem Left.below {W0 u u' : World} {V : Nat} {st : List Cnd} (h : Left W0 u V st) (hb : Below u.heap.size u u') : Left W0 u' V st := by
  obtain ⟨v, ks, h1, h2, h3, h4, h5⟩ := h
  exact ⟨v, ks, (hb.block _ (lt_of_block h1)).trans h1, h2, h3, own_stays h4 hb, h5.trans (hb.mono h5.size)⟩
def zeroCnd : Array Value := #[.int .i64 0, .slice none 0 0, .int .i64 0, .int .u64 0, .string ⟨#[]⟩, .int .u64 0]
theorem set6_block {w : World} {g : Nat} {T : TypeId} {x0 x1 x2 x3 x4 x5 : Value} (h : w.heap[g]? = some (.cells #[x0, x1, x2, x3, x4, x5] T (0, 0))) (v0 v1 v2 v3 v4 v5 : Value) :
    ((((((w.setCell ⟨g, 0, none⟩ v0).setCell ⟨g, 1, none⟩ v1).setCell ⟨g, 2, none⟩ v2).setCell ⟨g, 3, none⟩ v3).setCell ⟨g, 4, none⟩ v4).setCell ⟨g, 5, none⟩ v5).heap[g]? = some (.cells #[v0, v1, v2, v3, v4, v5] T (0, 0)) :=
  block_set (block_set (block_set (block_set (block_set (block_set h 0 v0) 1 v1) 2 v2) 3 v3) 4 v4) 5 v5
theorem set6_below {B : Nat} {a w : World} {g : Nat} (h : Below B a w) (hg : B ≤ g) (v0 v1 v2 v3 v4 v5 : Value) :
    Below B a ((((((w.setCell ⟨g, 0, none⟩ v0).setCell ⟨g, 1, none⟩ v1).setCell ⟨g, 2, none⟩ v2).setCell ⟨g, 3, none⟩ v3).setCell ⟨g, 4, none⟩ v4).setCell ⟨g, 5, none⟩ v5) :=
  (((((h.setCell (p := ⟨g, 0, none⟩) hg _).setCell (p := ⟨g, 1, none⟩) hg _).setCell (p := ⟨g, 2, none⟩) hg _).setCell (p := ⟨g, 3, none⟩) hg _).setCell (p := ⟨g, 4, none⟩) hg _).setCell (p := ⟨g, 5, none⟩) hg _
theorem set6_other {w : World} {g V : Nat} (hne : V ≠ g) (v0 v1 v2 v3 v4 v5 : Value) :
    ((((((w.setCell ⟨g, 0, none⟩ v0).setCell ⟨g, 1, none⟩ v1).setCell ⟨g, 2, none⟩ v2).setCell ⟨g, 3, none⟩ v3).setCell ⟨g, 4, none⟩ v4).setCell ⟨g, 5, none⟩ v5).heap[V]? = w.heap[V]? := by
  rw [Below.heap_setCell _ _ _ _ hne, Below.heap_setCell _ _ _ _ hne, Below.heap_setCell _ _ _ _ hne, Below.heap_setCell _ _ _ _ hne, Below.heap_setCell _ _ _ _ hne, Below.heap_setCell _ _ _ _ hne]
theorem set6_own {w : World} {base : Nat} {e : TypeId} {size : Nat} {v : Value} {n : Nat} {xs : List Value} (h : w.ownsRow base e size v n xs) {g : Nat} (hne : v.ownBlock ≠ some g) (v0 v1 v2 v3 v4 v5 : Value) :
    ((((((w.setCell ⟨g, 0, none⟩ v0).setCell ⟨g, 1, none⟩ v1).setCell ⟨g, 2, none⟩ v2).setCell ⟨g, 3, none⟩ v3).setCell ⟨g, 4, none⟩ v4).setCell ⟨g, 5, none⟩ v5).ownsRow base e size v n xs :=
  own_put (own_put (own_put (own_put (own_put (own_put h hne _ _) hne _ _) hne _ _) hne _ _) hne _ _) hne _ _
/-- 's = append(s, t...)' of a row of another one's, onto a row that has room for one at least; what else there is stays, and the row comes to no block of one element -/
theorem wpList_extendK {P : Program} {ops : Array Oper} {rest : List Oper} {o : Oper} {a : Act} {Q : Exit → Act → World → Prop} {w : World}
    (s x : Operand) (t : TypeId) (e : TypeId) {i : TypeInfo} {z : Value} {size bytes m c : Nat} {base : Nat} {g cap : Nat} {n : Nat} {xs : List Value} {A : Option Addr} (news : List Value)
    (hown : w.ownsRow base e size (.slice (some ⟨g, 0, none⟩) n cap) n xs) (hc1 : 0 < cap) (hbase : base ≤ w.heap.size)
    (ht : P.underlying t = some (.slice e)) (hi : P.info? e = some i) (hz : i.zero = some z)
    (hsize : i.size = size) (hby : i.bytes = bytes) (hzs : z.cells.size = size) (hsz : 0 < size)
    (hw : Region.wanted o (yielded ops a.tmps) = true) (ho : o.op = .call { callee := .builtin .append, args := #[s, x], argTypes := #[t, t] })
    (hs : a.eval s = .slice (some ⟨g, 0, none⟩) n cap) (hx : a.eval x = .slice A m c)
    (hA : (A = none ∧ m = 0 ∧ c = 0 ∧ news = []) ∨ ∃ ad, A = some ad ∧ ∀ j u, news[j]? = some u → w.cell? (ad.add j) = some u)
    (hl : news.length = m * size) (h1 : ∀ u ∈ news, u.oneCell' = true)
    (hroom : n + m ≤ 17592186044416 ∧ (n + m) * bytes ≤ 140737488355328)
    (h : ∀ v' w', w'.ownsRow base e size v' (n + m) (xs ++ news) → w.grownBy w' (some g) → (∀ B cs T, w.heap[B]? = some (.cells cs T (0, 0)) → cs.size = size → B ≠ g → v'.ownBlock ≠ some B) → wpList P ops Q rest (a.put o.dst v') w') :
    wpList P ops Q (o :: rest) a w := by
  refine wpList_step fun K hK => ?_
  simp only [hw, if_true]
  rcases hA with ⟨rfl, rfl, rfl, rfl⟩ | ⟨ad, rfl, hc⟩
  · have hrun := run_append_owned_none (P := P) (w := w) base t o.type e i size ht hi (.slice (some ⟨g, 0, none⟩) n cap) n xs hown
    have hn := hK _ _ (h (.slice (some ⟨g, 0, none⟩) n cap) w (by rw [List.append_nil]; exact hown) ⟨rfl, rfl, rfl, Nat.le_refl _, fun _ _ _ => rfl⟩ (fun B cs T _ _ hB => by simp [Value.ownBlock]; exact fun e => hB e.symm))
    unfold Oper.wp
    simp [execOp, ho, resolve, invoke, builtin, hs, hx, hrun, Result.andThen]
    exact hn
  · have h63 : n + m ≤ maxLen := by unfold maxLen; omega
    obtain ⟨v', w', hr, h2, h3, h4⟩ := run_append_own (P := P) w base t o.type e i z size bytes ht hi hz hsize hby hzs hsz (.slice (some ⟨g, 0, none⟩) n cap) n xs hown ad m c news hl hc h1 h63 hroom.2 hbase
    have helse : ∀ B cs T, w.heap[B]? = some (.cells cs T (0, 0)) → cs.size = size → B ≠ g → v'.ownBlock ≠ some B := by
      intro B cs T hB hcs hne hv
      rcases hown.2 with ⟨h0, _⟩ | ⟨g', cap', cur, h0, hbg, hg, hnc, hcm, hcsz, htake⟩
      · cases h0
      · cases h0
        by_cases hfit : n + m ≤ cap
        · have hr2 := run_append_room (P := P) w t o.type e i ht hi g n cap cur hg ad m c news (by rw [hsize]; exact hl) hc h1 hfit (by rw [hsize, hl, hcsz, ← Nat.add_mul]; exact Nat.mul_le_mul_right _ hfit)
          rw [hr] at hr2
          injection hr2 with hv2 _
          subst hv2
          simp [Value.ownBlock] at hv
          exact hne hv.symm
        · rcases h2.2 with ⟨rfl, hnm⟩ | ⟨g2, cap2, cur2, rfl, _, hg2, hnc2, _, hcs2, _⟩
          · simp [Value.ownBlock] at hv
          · have : g2 = B := by simpa [Value.ownBlock] using hv
            subst this
            have hk := h3.block g2 (Array.getElem?_eq_some_iff.1 hB).1 (by simp [Value.ownBlock]; exact hne)
            rw [hB, hg2] at hk
            injection hk with hk
            injection hk with hk _ _
            rw [hk, hcs] at hcs2
            have : cap2 ≤ 1 := by
              rcases Nat.lt_or_ge 1 cap2 with h | h
              · have := Nat.mul_lt_mul_of_pos_right h hsz
                omega
              · exact h
            omega
    have hn := hK _ _ (h v' w' h2 h3 helse)
    unfold Oper.wp execOp
    simp only [ho, resolve, invoke, builtin, Sem.run_bind, Sem.run_pure, Result.andThen_ok, List.map_toArray, List.map_cons, List.map_nil, hs, hx, hr]
    exact hn
end Go.Proofs.Ytbcoooaoofbboaa
