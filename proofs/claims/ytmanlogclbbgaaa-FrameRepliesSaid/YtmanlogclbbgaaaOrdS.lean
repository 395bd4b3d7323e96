/- As OrdL, where a load may come up behind a store that leaves its cell alone: S tells the cells that all stores leave. -/
import Derived.Test.YtmanlogclbbgaaaOrdL
import Derived.OrdersHeld
import Derived.Deep.RegionHeld
namespace Go.Proofs.Ytmanlogclbbgaaa
open Go.RowKit
set_option linter.unusedVariables false

section
variable {P : Program} {ops : Array Oper} {md : Region.Mode} {C S : World → Prop} {late : Nat → Bool} {R : Exit → Act → World → Prop}
/-- whatever comes up ahead of the first late operation is quiet in C; behind that one S holds -/
def ordS (P : Program) (md : Region.Mode) (ops : Array Oper) (C S : World → Prop) (late : Nat → Bool) (R : Exit → Act → World → Prop) : Nat → Array Bool → Act → Prop
  | 0, D, a => Region.ready md ops D = [] ∧ ∀ w, C w → R .normal a w
  | f + 1, D, a => (Region.ready md ops D = [] → ∀ w, C w → R .normal a w) ∧
      ∀ i ∈ Region.ready md ops D, (late i = true → ∀ w, C w → wpOp P ops R i (fun a' w' => S w' ∧ wpAnyH P md ops R S f (D.setIfInBounds i true) a' w') a w) ∧ (late i = false → qOp P ops C i (ordS P md ops C S late R f (D.setIfInBounds i true)) a)
theorem ordS_any : ∀ (f : Nat) (D : Array Bool) (a : Act) (w : World), C w → ordS P md ops C S late R f D a → wpAny P md ops R f D a w
  | 0, _, _, _, hw, h => ⟨h.1, h.2 _ hw⟩
  | f + 1, _, _, _, hw, h => ⟨fun h0 => h.1 h0 _ hw, fun i hi => by
    cases hl : late i with
    | true => exact wpOp_mono (fun a' w' h' => wpAny_of_held _ _ _ _ h'.2) ((h.2 i hi).1 hl _ hw)
    | false => exact wpOp_of_qOp hw (fun a' w' hw' h' => ordS_any f _ a' w' hw' h') ((h.2 i hi).2 hl)⟩
theorem ordS_tail {f : Nat} {D : Array Bool} {a : Act} (hD : (Region.ready md ops D).all late = true) (hn : (Region.ready md ops D).isEmpty = false) (h : ∀ w, C w → wpAnyH P md ops R S (f + 1) D a w) : ordS P md ops C S late R (f + 1) D a :=
  ⟨fun h0 => (by rw [h0] at hn; cases hn), fun i hi => ⟨fun _ w hw => (h w hw).2 i hi, fun hl => by have := List.all_eq_true.1 hD i hi; rw [hl] at this; cases this⟩⟩
theorem ordS_first {i : Nat} {oi : Oper} {v : Value} (hi : ops[i]? = some oi) (hsel : Region.noSelect ops = true) (hl : late i = false) (hCS : ∀ w, C w → S w)
    (hR : ∀ c a w, R (.panic c) (a.put oi.dst v) w → R (.panic c) a w) :
    ∀ (f : Nat) (D : Array Bool) (a : Act),
      (∀ j oj, ops[j]? = some oj → j ≠ i → D.getD j true = false → (∀ e ∈ oj.after, Region.binds md e = true → e.on ≠ i) → oi.apart ops oj = true) →
      i ∈ Region.ready md ops D → YieldsIn P ops C oi v a → (lateWait md ops late i = true ∨ YieldsIf P ops S oi v a) →
      ordS P md ops C S late R f (D.setIfInBounds i true) (a.put oi.dst v) → ordS P md ops C S late R (f + 1) D a := by
  have hs := Region.noSelect_spec hsel
  intro f
  induction f with
  | zero =>
    intro D a _ hr hy hY H
    refine ⟨fun h => absurd h (List.ne_nil_of_mem hr), fun j hj => ?_⟩
    by_cases e : j = i
    · subst e
      exact ⟨fun h => (by rw [hl] at h; cases h), fun _ => hy.qOp hi H⟩
    · have := ready_mono hj e
      rw [H.1] at this
      cases this
  | succ f ih =>
    intro D a hfree hr hy hY H
    have hun := (mem_ready.1 hr).1
    refine ⟨fun h => absurd h (List.ne_nil_of_mem hr), fun j hj => ?_⟩
    by_cases e : j = i
    · subst e
      exact ⟨fun h => (by rw [hl] at h; cases h), fun _ => hy.qOp hi H⟩
    · obtain ⟨hjun, oj, hoj, hall⟩ := mem_ready.1 hj
      have hno : ∀ x ∈ oj.after, Region.binds md x = true → x.on ≠ i := fun x hx hb heq => by
        have h1 := hall x hx hb
        rw [heq, getD_both hun] at h1
        cases h1
      have hap := hfree j oj hoj e hjun hno
      have hfree' : ∀ k ok, ops[k]? = some ok → k ≠ i → (D.setIfInBounds j true).getD k true = false →
          (∀ x ∈ ok.after, Region.binds md x = true → x.on ≠ i) → oi.apart ops ok = true := fun k ok hk hki hku hkn => by
        refine hfree k ok hk hki ?_ hkn
        by_cases hjk : j = k
        · subst hjk; exact hjun
        · rwa [getD_set_ne true hjk] at hku
      refine ⟨fun hlj w hw => ?_, fun hlj => ?_⟩
      · rcases hY with hY | hY
        · exact absurd hj (lateWait_not hY hun hlj)
        · have h2 := wpOp_putIf hoj hap (fun cs b => hs i oi cs b hi) (fun cs b => hs j oj cs b hoj) hR hY ((H.2 j (ready_mono hj e)).1 hlj w hw)
          refine wpOp_mono (fun a' w' h3 => ⟨h3.2.1, ?_⟩) h2
          have h4 := h3.2.2
          rw [Array.setIfInBounds_comm _ _ (Ne.symm e)] at h4
          exact wpAnyH_first hi hs hR f _ a' w' hfree' (ready_mono hr (Ne.symm e)) h3.1 h3.2.1 h4
      · have h2 := qOp_put hoj hap (fun cs b => hs i oi cs b hi) (fun cs b => hs j oj cs b hoj) hy ((H.2 j (ready_mono hj e)).2 hlj)
        obtain ⟨u, hyj, h3, h4⟩ := yieldsIn_of_qOp hoj h2
        refine hyj.qOp hoj ?_
        rw [Array.setIfInBounds_comm _ _ (Ne.symm e)] at h4
        refine ih _ _ hfree' (ready_mono hr (Ne.symm e)) h3 ?_ h4
        obtain ⟨_, _, h5⟩ := Oper.apart_spec hap
        exact hY.imp id fun hY => hY.of_same (execOp_put oi (fun cs b => hs i oi cs b hi) a oj.dst u h5) (wanted_put oi a oj.dst u h5)
theorem ordS_load {i : Nat} {oi : Oper} {v : Value} {f : Nat} {D : Array Bool} {a : Act} (hi : ops[i]? = some oi) (hsel : Region.noSelect ops = true) (hl : late i = false) (hCS : ∀ w, C w → S w) (hw : lateWait md ops late i = true)
    (hf : Region.free md ops D i = true) (hr : (Region.ready md ops D).contains i = true) (hR : ∀ c a w, R (.panic c) (a.put oi.dst v) w → R (.panic c) a w)
    (hg : Region.wanted oi (yielded ops a.tmps) = true) (hC : ∀ w, C w → (execOp a.eval oi).run P w = .ok (.value v) w)
    (h : ordS P md ops C S late R f (D.setIfInBounds i true) (a.put oi.dst v)) : ordS P md ops C S late R (f + 1) D a :=
  ordS_first hi hsel hl hCS hR f D a (Region.free_spec hi hf) (by simpa using hr) (.inl ⟨hg, fun w hw => by unfold Oper.quietAt; rw [hC w hw]; exact ⟨rfl, rfl⟩⟩) (.inl hw) h
/-- what yields the same wherever S holds -/
theorem ordS_held {i : Nat} {oi : Oper} {v : Value} {f : Nat} {D : Array Bool} {a : Act} (hi : ops[i]? = some oi) (hsel : Region.noSelect ops = true) (hl : late i = false) (hCS : ∀ w, C w → S w)
    (hf : Region.free md ops D i = true) (hr : (Region.ready md ops D).contains i = true) (hR : ∀ c a w, R (.panic c) (a.put oi.dst v) w → R (.panic c) a w)
    (hg : Region.wanted oi (yielded ops a.tmps) = true) (hC : ∀ w, S w → (execOp a.eval oi).run P w = .ok (.value v) w)
    (h : ordS P md ops C S late R f (D.setIfInBounds i true) (a.put oi.dst v)) : ordS P md ops C S late R (f + 1) D a :=
  ordS_first hi hsel hl hCS hR f D a (Region.free_spec hi hf) (by simpa using hr) (.inl ⟨hg, fun w hw => by unfold Oper.quietAt; rw [hC w (hCS w hw)]; exact ⟨rfl, rfl⟩⟩) (.inr (.inl ⟨hg, hC⟩)) h
theorem wp_region_ordS {id : Nat} {a : Act} {w : World} (late : Nat → Bool) (C S : World → Prop) (hm : P.follows .mixedOrders = true) (hC : C { w with drawn := w.drawn + 1 })
    (h : ordS P .any ops C S late R ops.size (Array.replicate ops.size false) a) : (Code.region id ops true).wp P R a w :=
  wp_region_any hm (ordS_any _ _ _ _ hC h)
/-- one operation, alone ready -/
theorem heldOne {i : Nat} {o : Oper} {f : Nat} {D : Array Bool} {a : Act} {w : World} (hi : ops[i]? = some o) (hr : Region.ready md ops D = [i]) (hg : Region.wanted o (yielded ops a.tmps) = true)
    (h : ∀ K : Act → World → Prop, (∀ a' w', S w' → wpAnyH P md ops R S f (D.setIfInBounds i true) a' w' → K a' w') → o.wp P a w K R) : wpAnyH P md ops R S (f + 1) D a w := by
  refine ⟨fun h0 => (by rw [hr] at h0; cases h0), fun j hj => ?_⟩
  rw [hr] at hj
  have hji : j = i := by simpa using hj
  subst hji
  unfold wpOp
  simp only [hi]
  rw [if_pos hg]
  exact .inl (h _ fun a' w' hS hh => ⟨hS, hh⟩)
end
end Go.Proofs.Ytmanlogclbbgaaa
