/- A row of conditions, each of which says that another one is not so. -/
import Derived.Test.YtgcngmlndijppaaMnNot
import Derived.Test.YtgcngmlndijppaaRef15M
import Derived.Deep.AppendLies
namespace Go.Proofs.Ytgcngmlndijppaa
open Go.RowKit Go.ChangeShapes
set_option linter.unusedVariables false

theorem cnds_app (l m : List Cnd) (ks js : List Value) (h : l.length = ks.length) : cndCells (l ++ m) (ks ++ js) = cndCells l ks ++ cndCells m js := by
  induction l generalizing ks with
  | nil => cases ks with | nil => simp [cndCells] | cons _ _ => simp at h
  | cons c l ih => cases ks with
    | nil => simp at h
    | cons k ks => rw [List.cons_append, List.cons_append, cndCells, cndCells, ih ks (by simpa using h), List.append_assoc]
theorem cnds_len (l : List Cnd) (ks : List Value) (h : l.length = ks.length) : (cndCells l ks).length = l.length * 6 := by
  induction l generalizing ks with
  | nil => cases ks with | nil => rfl | cons _ _ => simp at h
  | cons c l ih => cases ks with
    | nil => simp at h
    | cons k ks => rw [cndCells, List.length_append, ih ks (by simpa using h), List.length_cons]; simp [Cnd.cells]; omega
theorem cnds_get (l : List Cnd) (ks : List Value) (h : l.length = ks.length) (i j : Nat) (hi : i < l.length) (hj : j < 6) : (cndCells l ks)[i * 6 + j]? = ((l.getD i cndZ).cells (ks.getD i undef))[j]? := by
  induction l generalizing ks i with
  | nil => simp at hi
  | cons c l ih => cases ks with
    | nil => simp at h
    | cons k ks =>
      rw [cndCells]
      cases i with
      | zero => rw [List.getElem?_append_left (by simp [Cnd.cells]; omega)]; simp
      | succ i =>
        rw [List.getElem?_append_right (by simp [Cnd.cells]; omega), show (i + 1) * 6 + j - (c.cells k).length = i * 6 + j by simp [Cnd.cells]; omega]
        rw [ih ks (by simpa using h) i (by simpa using hi)]
        simp
def kidV (g : Nat) : Value := .slice (some ⟨g, 0, none⟩) 1 1
def Duals (W wr : World) (l : List Cnd) (v : Value) (bd : Nat) (gs : List Nat) : Prop :=
  gs.length = l.length ∧ wr.ownsRow W.heap.size 25 6 v l.length (cndCells (l.map notC) (gs.map kidV)) ∧ v.ownBlock ≠ some bd ∧
    ∀ i, i < l.length → (l.getD i cndZ).bounded ∧ gs.getD i 0 ≠ bd ∧ v.ownBlock ≠ some (gs.getD i 0) ∧ ∃ k2, IsCnds W k2 (l.getD i cndZ).kids ∧ wr.heap[gs.getD i 0]? = some (.cells ((l.getD i cndZ).cells k2).toArray 25 (0, 0))
theorem Duals.below {W u u' : World} {l : List Cnd} {v : Value} {bd : Nat} {gs : List Nat} (h : Duals W u l v bd gs) (hb : Below u.heap.size u u') : Duals W u' l v bd gs := by
  obtain ⟨h1, h2, h3, h4⟩ := h
  refine ⟨h1, own_stays h2 hb, h3, fun i hi => ?_⟩
  obtain ⟨a, b, c, k2, d, e⟩ := h4 i hi
  exact ⟨a, b, c, k2, d, (hb.block _ (lt_of_block e)).trans e⟩
theorem Duals.nil {W u : World} {bd : Nat} : Duals W u [] (.slice none 0 0) bd [] := ⟨rfl, ⟨rfl, .inl ⟨rfl, rfl⟩⟩, by simp [Value.ownBlock], fun i hi => by simp at hi⟩
theorem Duals.push {W u w' : World} {l : List Cnd} {v : Value} {bd : Nat} {gs : List Nat} {c : Cnd} {k2 : Value} {g g' cap : Nat} {x : Value} (h : Duals W u l v bd gs) (hc : c.bounded) (hk : IsCnds W k2 c.kids)
    (hg : u.heap[g]? = some (.cells (c.cells k2).toArray 25 (0, 0))) (hgv : v.ownBlock ≠ some g) (hgd : g ≠ bd) (hbd : bd < u.heap.size)
    (hown : w'.ownsRow W.heap.size 25 6 (.slice (some ⟨g', 0, none⟩) (l.length + 1) cap) (l.length + 1) (cndCells (l.map notC) (gs.map kidV) ++ (notC c).cells (kidV g)))
    (hgr : u.grownBy w' v.ownBlock) (hat : v.ownBlock = some g' ∨ g' = u.heap.size) :
    Duals W (w'.setCell ⟨bd, 1, none⟩ x) (l ++ [c]) (.slice (some ⟨g', 0, none⟩) (l.length + 1) cap) bd (gs ++ [g]) := by
  obtain ⟨h1, h2, h3, h4⟩ := h
  have hne : (.slice (some ⟨g', 0, none⟩) (l.length + 1) cap : Value).ownBlock ≠ some bd := by
    rcases hat with h | h
    · intro e; apply h3; rw [h]; simpa [Value.ownBlock] using e
    · simp [Value.ownBlock]; omega
  have hne2 : ∀ y, y < u.heap.size → v.ownBlock ≠ some y → (.slice (some ⟨g', 0, none⟩) (l.length + 1) cap : Value).ownBlock ≠ some y := by
    intro y hy hv
    rcases hat with h | h
    · intro e; apply hv; rw [h]; simpa [Value.ownBlock] using e
    · simp [Value.ownBlock]; omega
  have hblk : ∀ y o, u.heap[y]? = some o → v.ownBlock ≠ some y → y ≠ bd → (w'.setCell ⟨bd, 1, none⟩ x).heap[y]? = some o := by
    intro y o hy hv hd
    rw [Below.heap_setCell _ _ _ _ hd, hgr.block y (lt_of_block hy) (fun e => hv e.symm), hy]
  refine ⟨by simp [h1], ?_, hne, fun i hi => ?_⟩
  · rw [List.map_append, List.map_append, cnds_app _ _ _ _ (by simp [h1]), List.length_append]
    have : cndCells (List.map notC [c]) (List.map kidV [g]) = (notC c).cells (kidV g) := by simp [cndCells]
    rw [this]
    exact own_put hown hne _ _
  · rw [List.length_append, List.length_singleton] at hi
    by_cases hlt : i < l.length
    · obtain ⟨a, b, cc, k, d, e⟩ := h4 i hlt
      have e1 : (l ++ [c]).getD i cndZ = l.getD i cndZ := by simp [List.getD, List.getElem?_append_left hlt]
      have e2 : (gs ++ [g]).getD i 0 = gs.getD i 0 := by simp [List.getD, List.getElem?_append_left (show i < gs.length by omega)]
      rw [e1, e2]
      exact ⟨a, b, hne2 _ (lt_of_block e) cc, k, d, hblk _ _ e cc b⟩
    · obtain rfl : i = l.length := by omega
      have e1 : (l ++ [c]).getD l.length cndZ = c := by simp [List.getD]
      have e2 : (gs ++ [g]).getD l.length 0 = g := by simp [List.getD, ← h1]
      rw [e1, e2]
      exact ⟨hc, hgd, hne2 _ (lt_of_block hg) hgv, k2, hk, hblk _ _ hg hgv hgd⟩
theorem Duals.is {W u : World} {l : List Cnd} {v : Value} {bd : Nat} {gs : List Nat} (h : Duals W u l v bd gs) (hb : Below W.heap.size W u) : IsCnds u v (l.map notC) := by
  obtain ⟨h1, h2, h3, h4⟩ := h
  have hcells := fun (g : Nat) (len cap : Nat) (e : v = .slice (some ⟨g, 0, none⟩) len cap) => h2.cells (g := g) (by rw [e]; rfl)
  rcases h2.2 with ⟨rfl, h0⟩ | ⟨g, cap, cur, rfl, hg, hh, hn, hc, _⟩
  · have : l = [] := List.eq_nil_of_length_eq_zero h0
    subst this
    exact ⟨none, 0, 0, rfl, rfl, by omega, by omega, fun _ => rfl, .inl rfl⟩
  · unfold maxLen at hc
    refine ⟨_, l.length, cap, rfl, by simp, hn, hc, fun h => (by cases h), .inr ⟨g, 0, rfl, lt_of_block hh, ?_⟩⟩
    refine kidsAt_of _ _ _ _ fun i hi => ?_
    rw [List.length_map] at hi
    obtain ⟨a, b, cc, k2, d, e⟩ := h4 i hi
    have e1 : (l.map notC).getD i cndZ = notC (l.getD i cndZ) := by simp [List.getD, List.getElem?_eq_getElem hi]
    have e2 : (gs.map kidV).getD i undef = kidV (gs.getD i 0) := by simp [List.getD, List.getElem?_eq_getElem (show i < gs.length by omega)]
    rw [e1]
    refine (cndAt_iff _ _ _ _).2 ⟨notC_bounded _, kidV (gs.getD i 0), fun j x hx => ?_, ?_⟩
    · have hj : j < 6 := (List.getElem?_eq_some_iff.1 hx).1
      have := hcells g _ _ rfl (i * 6 + j) x (by rw [cnds_get _ _ (by simp [h1]) i j (by simpa using hi) hj, e1, e2]; exact hx)
      rw [addr_add] at this
      rwa [Nat.add_assoc]
    · refine ⟨_, 1, 1, rfl, rfl, by omega, by omega, fun h => (by cases h), .inr ⟨_, 0, rfl, lt_of_block e, ?_⟩⟩
      show KidsAt _ [l.getD i cndZ] _ _
      rw [KidsAt, KidsAt]
      exact ⟨cndAt_block a (d.below hb) e, trivial⟩
/-- all or one, turned -/
def dualC (c : Cnd) : Cnd := .mk (3 - c.kind) (c.kids.map notC) 0 0 ⟨#[]⟩ 0
theorem allH_not (args : List Nat) (l : List Cnd) : allH args (l.map notC) = !anyH args l := by
  induction l with
  | nil => rfl
  | cons c l ih => rw [List.map_cons, allH, anyH, ih, notC_holds]; cases c.holds args <;> simp
theorem anyH_not (args : List Nat) (l : List Cnd) : anyH args (l.map notC) = !allH args l := by
  induction l with
  | nil => rfl
  | cons c l ih => rw [List.map_cons, allH, anyH, ih, notC_holds]; cases c.holds args <;> simp
theorem sizes_not (l : List Cnd) : sizes (l.map notC) = sizes l + l.length := by
  induction l with
  | nil => rfl
  | cons c l ih => rw [List.map_cons, sizes, sizes, ih, notC_size, List.length_cons]; omega
theorem fines_not (l : List Cnd) : fines (l.map notC) = fines l := by
  induction l with
  | nil => rfl
  | cons c l ih => rw [List.map_cons, fines, fines, ih, notC_fine]
theorem len_sizes (l : List Cnd) : l.length ≤ sizes l := by
  induction l with
  | nil => exact Nat.le_refl _
  | cons c l ih => rw [List.length_cons, sizes]; have := c.size_eq; omega
theorem dual_right (c : Cnd) (h : c.right = true) (hs : c.size ≤ 40) (hk : c.kind = 1 ∨ c.kind = 2) : (dualC c).right = true := by
  have hsz : (dualC c).size ≤ 100 := by
    rw [Cnd.size_eq, show (dualC c).kids = c.kids.map notC from rfl, sizes_not]
    have := c.size_eq; have := len_sizes c.kids; omega
  unfold Cnd.right at h ⊢
  rw [Bool.and_eq_true, Cnd.fine_eq, Bool.and_eq_true] at h
  rw [decide_eq_true hsz, Cnd.fine_eq, show (dualC c).kids = c.kids.map notC from rfl, fines_not, h.2.2]
  have ha := h.2.1
  have : (dualC c).alone = true := by
    obtain ⟨kind, kids, arg, mask, sign, value⟩ := c
    simp only [Cnd.kind] at hk
    have hl : ((Cnd.mk kind kids arg mask sign value).kids.map notC).length = kids.length := List.length_map _
    have hb : (dualC (Cnd.mk kind kids arg mask sign value)).bare = true := rfl
    unfold Cnd.alone at ha ⊢
    rcases hk with rfl | rfl
    all_goals
      rw [if_neg (by intro h; exact absurd h (by first | exact (by decide : ¬ (1 : Int) = 4) | exact (by decide : ¬ (2 : Int) = 4))), if_pos (by first | exact Or.inl rfl | exact Or.inr rfl), Bool.and_eq_true, Bool.and_eq_true] at ha
      rw [if_neg (by intro h; exact absurd h (by first | exact (by decide : ¬ (1 : Int) = 4) | exact (by decide : ¬ (2 : Int) = 4))), if_pos (by first | exact Or.inl rfl | exact Or.inr rfl), hb, show (dualC (Cnd.mk _ kids arg mask sign value)).kids.length = kids.length from hl, show decide (2 ≤ kids.length) = true from ha.1.2, show decide (kids.length < 100) = true from ha.2]
      rfl
  rw [this]; rfl
theorem dual_holds (c : Cnd) (args : List Nat) (hk : c.kind = 1 ∨ c.kind = 2) : (dualC c).holds args = !c.holds args := by
  obtain ⟨kind, kids, arg, mask, sign, value⟩ := c
  simp only [Cnd.kind] at hk
  rw [Cnd.holds_eq, Cnd.holds_eq]
  rcases hk with rfl | rfl
  · simp [dualC, Cnd.kind, Cnd.kids, anyH_not]
  · simp [dualC, Cnd.kind, Cnd.kids, allH_not]
theorem dual_does (c : Cnd) (args : List Nat) (h : c.right = true) (hs : c.size ≤ 40) (hk : c.kind = 1 ∨ c.kind = 2) : (dualC c).does args = !c.does args := by
  rw [does_right _ _ (dual_right c h hs hk), does_right _ _ h, dual_holds c args hk]
theorem dual_is {u : World} {c : Cnd} {v : Value} (hk : c.kind = 1 ∨ c.kind = 2) (h : IsCnds u v (c.kids.map notC)) : IsCnd u (.agg #[.int .i64 (3 - c.kind), v, .int .i64 0, .int .u64 0, .string ⟨#[]⟩, .int .u64 0]) (dualC c) := by
  refine ⟨?_, v, rfl, h⟩
  unfold Cnd.bounded dualC; simp only [Cnd.kind, Cnd.arg, Cnd.mask, Cnd.sign, Cnd.value]
  refine ⟨by unfold Cnd.kind at hk; omega, by omega, by omega, by decide, by omega⟩
end Go.Proofs.Ytgcngmlndijppaa
