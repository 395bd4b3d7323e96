/- Which conditions hold: the plain side, and the signs. -/
import Derived.Test.YtgcngmlndijppaaCnd5
import Derived.Test.YtgcngmlndijppaaMaps
import Derived.Test.YtgcngmlndijppaaHold
namespace Go.Proofs.Ytgcngmlndijppaa
open Go.RowKit Go.ChangeShapes
set_option linter.unusedVariables false

/-- the map of signs -/
def signM (s : ByteArray) : Option Value :=
  if s = sGe then some (.func (.func 41) #[] #[]) else if s = sGt then some (.func (.func 40) #[] #[]) else if s = sLe then some (.func (.func 39) #[] #[]) else if s = sLt then some (.func (.func 38) #[] #[]) else if s = sNe then some (.func (.func 37) #[] #[]) else if s = sEq then some (.func (.func 36) #[] #[]) else none
theorem HoldsMap.look {κ : Type} {K : KeyKind κ} {P : Program} {w : World} {r : Nat} {m : κ → Option Value} (h : HoldsMap K w r m) {t kt et : TypeId} {v : Value} (k : κ)
    (ht : P.underlying t = some (.map kt et)) (hk : P.underlying kt = some K.desc) (hv : m k = some v) :
    (Instr.lookup t (.map (some r)) (K.key k) false).run P w = .ok v w := by
  obtain ⟨es, clock, hb, hf⟩ := h.find k
  unfold Instr.lookup
  simp only [Sem.run_bind, run_underlying ht, Result.andThen, MapKept.run_getObj_map hb, Sem.run_pure, MapKept.run_checkKey hk (K.is k)]
  rcases hf with ⟨h1, h2⟩ | ⟨j, v', h1, h2⟩
  · rw [hv] at h1; cases h1
  · rw [hv] at h1
    injection h1 with h1
    subst h1
    simp only [MapKept.run_findKey hk h2]; rfl
set_option maxRecDepth 100000 in
theorem sign1 (a v : Nat) (w : World) : Calls Try.prog 36 #[.int .u64 (a : Nat), .int .u64 (v : Nat)] w fun e w' => e = .returned (.bool (decide (a = v))) ∧ w = w' := by
  by_cases h : a = v
  · subst h
    go_enter Try.func36, Try.ntmps36
    go_wp2_with fail
    go_ret
    exact ⟨by simp, rfl⟩
  · have hb : ((a : Int) == v) = false := by rw [beq_eq_false_iff_ne]; omega
    rw [decide_eq_false h]
    clear h
    go_enter Try.func36, Try.ntmps36
    go_wp2_with fail
    go_ret
    exact ⟨rfl, rfl⟩
set_option maxRecDepth 100000 in
theorem sign2 (a v : Nat) (w : World) : Calls Try.prog 37 #[.int .u64 (a : Nat), .int .u64 (v : Nat)] w fun e w' => e = .returned (.bool (decide (a ≠ v))) ∧ w = w' := by
  by_cases h : a = v
  · subst h
    go_enter Try.func37, Try.ntmps37
    go_wp2_with fail
    go_ret
    exact ⟨by simp, rfl⟩
  · have hb : ((a : Int) != v) = true := by rw [bne_iff_ne]; omega
    rw [decide_eq_true h]
    clear h
    go_enter Try.func37, Try.ntmps37
    go_wp2_with fail
    go_ret
    exact ⟨rfl, rfl⟩
set_option maxRecDepth 100000 in
theorem sign3 (a v : Nat) (w : World) : Calls Try.prog 38 #[.int .u64 (a : Nat), .int .u64 (v : Nat)] w fun e w' => e = .returned (.bool (decide (a < v))) ∧ w = w' := by
  go_enter Try.func38, Try.ntmps38
  go_wp2_with fail
  go_ret
  exact ⟨by simp, rfl⟩
set_option maxRecDepth 100000 in
theorem sign4 (a v : Nat) (w : World) : Calls Try.prog 39 #[.int .u64 (a : Nat), .int .u64 (v : Nat)] w fun e w' => e = .returned (.bool (decide (a ≤ v))) ∧ w = w' := by
  go_enter Try.func39, Try.ntmps39
  go_wp2_with fail
  go_ret
  exact ⟨by simp, rfl⟩
set_option maxRecDepth 100000 in
theorem sign5 (a v : Nat) (w : World) : Calls Try.prog 40 #[.int .u64 (a : Nat), .int .u64 (v : Nat)] w fun e w' => e = .returned (.bool (decide (v < a))) ∧ w = w' := by
  go_enter Try.func40, Try.ntmps40
  go_wp2_with fail
  go_ret
  exact ⟨by simp, rfl⟩
set_option maxRecDepth 100000 in
theorem sign6 (a v : Nat) (w : World) : Calls Try.prog 41 #[.int .u64 (a : Nat), .int .u64 (v : Nat)] w fun e w' => e = .returned (.bool (decide (v ≤ a))) ∧ w = w' := by
  go_enter Try.func41, Try.ntmps41
  go_wp2_with fail
  go_ret
  exact ⟨by simp, rfl⟩
set_option maxHeartbeats 1000000 in
set_option maxRecDepth 100000 in
theorem signs_any (w : World) : Calls Try.prog 25 #[] w fun e w' => ∃ r, e = .returned (.map (some r)) ∧ HoldsMap strKeys w' r signM ∧ Below w.heap.size w w' ∧ w.heap.size ≤ r := by
  have hmm := @run_makeMap Try.prog
  have hbel := (Below.refl w.heap.size w).alloc (Nat.le_refl _) (.map #[] 0)
  have hm := HoldsMap.new strKeys w
  go_enter Try.func25, Try.ntmps25
  go_wp2_with (refine wpList_mapSet (K := strKeys) hm hbel (Nat.le_refl _) (Nat.le_refl _) 55 9 63 _ _ _ _ _ rfl (.inr rfl) Try.underlying55 Try.underlying9 rfl rfl rfl ?_; clear hm hbel; intro wk hm hbel hg; clear hg)
  go_ret
  exact ⟨w.heap.size, rfl, hm.congr (fun k => by unfold signM; rfl), hbel, Nat.le_refl _⟩
end Go.Proofs.Ytgcngmlndijppaa
