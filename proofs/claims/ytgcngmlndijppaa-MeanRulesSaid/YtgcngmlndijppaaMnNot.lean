/- The condition that says that one is not so: the closure of MeanNots. -/
import Derived.Test.YtgcngmlndijppaaMnPair
namespace Go.Proofs.Ytgcngmlndijppaa
open Go.RowKit Go.ChangeShapes
set_option linter.unusedVariables false

def notC (c : Cnd) : Cnd := .mk 3 [c] 0 0 ⟨#[]⟩ 0
theorem notC_size (c : Cnd) : (notC c).size = 1 + c.size := by rw [Cnd.size_eq]; simp [notC, Cnd.kids, sizes]
theorem notC_fine (c : Cnd) : (notC c).fine = c.fine := by
  rw [Cnd.fine_eq, show (notC c).alone = true from rfl]; simp [notC, Cnd.kids, fines]
theorem notC_holds (c : Cnd) (args : List Nat) : (notC c).holds args = !c.holds args := by
  rw [Cnd.holds_eq]
  simp [notC, Cnd.kind, Cnd.kids, anyH]
theorem notC_right (c : Cnd) (h : c.right = true) (hs : c.size ≤ 90) : (notC c).right = true := by
  unfold Cnd.right at h ⊢
  rw [Bool.and_eq_true] at h
  rw [notC_size, notC_fine, h.2, decide_eq_true (by omega)]; rfl
theorem notC_does (c : Cnd) (args : List Nat) (h : c.right = true) (hs : c.size ≤ 90) : (notC c).does args = !c.does args := by
  rw [does_right _ _ (notC_right c h hs), does_right _ _ h, notC_holds]
theorem notC_bounded (c : Cnd) : (notC c).bounded := by
  unfold Cnd.bounded notC; simp only [Cnd.kind, Cnd.arg, Cnd.mask, Cnd.sign, Cnd.value]; exact ⟨by omega, by omega, by omega, by decide, by omega⟩
theorem three_at (w : World) (o0 o1 o2 : Obj) : ∃ W, W = ((w.alloc o0).alloc o1).alloc o2 ∧ W.heap[w.heap.size]? = some o0 ∧ W.heap[w.heap.size + 1]? = some o1 ∧ W.heap[w.heap.size + 1 + 1]? = some o2 ∧ Below w.heap.size w W := by
  obtain ⟨W1, h1, f0, f1, b1⟩ := two_at w o0 o1
  have h2 := heap_alloc_new W1 o2
  have b2 := (Below.refl W1.heap.size W1).alloc (Nat.le_refl _) o2
  have hs : W1.heap.size = w.heap.size + 1 + 1 := by rw [h1, World.size_alloc, World.size_alloc]
  rw [hs] at h2
  exact ⟨W1.alloc o2, by rw [h1], (b2.block _ (lt_of_block f0)).trans f0, (b2.block _ (lt_of_block f1)).trans f1, h2, b1.trans (b2.mono b1.size)⟩
/-- what the closure answers -/
def notV (g : Nat) : Value := .agg #[.int .i64 3, .slice (some ⟨g, 0, none⟩) 1 1, .int .i64 0, .int .u64 0, .string ⟨#[]⟩, .int .u64 0]
theorem notC_is {u : World} {g : Nat} {c : Cnd} {k : Value} (hb : c.bounded) (hk : IsCnds u k c.kids) (h : u.heap[g]? = some (.cells (c.cells k).toArray 25 (0, 0))) : IsCnd u (notV g) (notC c) := by
  refine ⟨notC_bounded c, _, rfl, _, 1, 1, rfl, rfl, by omega, by omega, fun h => (by cases h), .inr ⟨g, 0, rfl, lt_of_block h, ?_⟩⟩
  show KidsAt _ [c] _ _
  rw [KidsAt, KidsAt]
  exact ⟨cndAt_block hb hk h, trivial⟩
set_option maxRecDepth 100000 in
set_option maxHeartbeats 1000000 in
theorem notAsk (u : World) (c : Cnd) (k : Value) (h : IsCnd u (cndV c k) c) :
    Calls Try.prog 19 #[cndV c k] u fun e w' => ∃ g, e = .returned (notV g) ∧ w'.heap[g]? = some (.cells (c.cells k).toArray 25 (0, 0)) ∧ u.heap.size ≤ g ∧ Below u.heap.size u w' := by
  obtain ⟨hb, k', hv, hk⟩ := h
  obtain ⟨ka, kn, kc, e, _⟩ := id hk
  have e1 : k = k' := by
    unfold cndV Cnd.cells at hv
    injection hv with hv
    have := congrArg Array.toList hv
    simp only [List.cons.injEq, and_true, true_and] at this
    exact this
  subst e1
  subst e
  obtain ⟨kind, kids, arg, mask, sign, value⟩ := c
  unfold cndV
  simp only [Cnd.kind, Cnd.arg, Cnd.mask, Cnd.sign, Cnd.value, Cnd.cells]
  clear hk hb hv
  go_enter Try.func19, Try.ntmps19
  go_wp2_with fail
  obtain ⟨W, hW, f0, f1, f2, hBW⟩ := three_at u (.cells #[.int .i64 kind, .slice ka kn kc, .int .i64 arg, .int .u64 (mask : Nat), .string sign, .int .u64 (value : Nat)] 25) (.cells #[.int .i64 3, .slice (some ⟨u.heap.size + 1 + 1, 0, none⟩) 1 1, .int .i64 0, .int .u64 0, .string ⟨#[]⟩, .int .u64 0] 25) (.cells #[.int .i64 kind, .slice ka kn kc, .int .i64 arg, .int .u64 (mask : Nat), .string sign, .int .u64 (value : Nat)] 25)
  rw [← hW]
  clear hW
  exact bodyPost_ret (Go.results_cell_row rfl _ _ (u.heap.size + 1) _ _ _ _ rfl f1 Try.underlying25 rfl (by kernel_rfl)) rfl ⟨u.heap.size + 1 + 1, rfl, f2, by omega, hBW⟩
end Go.Proofs.Ytgcngmlndijppaa
