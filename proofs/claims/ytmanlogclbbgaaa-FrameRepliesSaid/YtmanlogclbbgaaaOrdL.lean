/- A region that draws its order and that ends in stores: the loads come ahead of each store, what only reckons may come up behind one. -/
import Derived.Test.YtmanlogclbbgaaaGen
import Derived.Deep.Quiet
import Derived.StillTail
namespace Go.Proofs.Ytmanlogclbbgaaa
open Go.RowKit
set_option linter.unusedVariables false

section
variable {P : Program} {ops : Array Oper} {md : Region.Mode} {C : World → Prop} {late : Nat → Bool} {R : Exit → Act → World → Prop}
/-- whatever comes up ahead of the first late operation is quiet in C; behind that one, any order -/
def ordL (P : Program) (md : Region.Mode) (ops : Array Oper) (C : World → Prop) (late : Nat → Bool) (R : Exit → Act → World → Prop) : Nat → Array Bool → Act → Prop
  | 0, D, a => Region.ready md ops D = [] ∧ ∀ w, C w → R .normal a w
  | f + 1, D, a => (Region.ready md ops D = [] → ∀ w, C w → R .normal a w) ∧
      ∀ i ∈ Region.ready md ops D, (late i = true → ∀ w, C w → wpOp P ops R i (wpAny P md ops R f (D.setIfInBounds i true)) a w) ∧ (late i = false → qOp P ops C i (ordL P md ops C late R f (D.setIfInBounds i true)) a)
theorem ordL_any : ∀ (f : Nat) (D : Array Bool) (a : Act) (w : World), C w → ordL P md ops C late R f D a → wpAny P md ops R f D a w
  | 0, _, _, _, hw, h => ⟨h.1, h.2 _ hw⟩
  | f + 1, _, _, _, hw, h => ⟨fun h0 => h.1 h0 _ hw, fun i hi => by
    cases hl : late i with
    | true => exact (h.2 i hi).1 hl _ hw
    | false => exact wpOp_of_qOp hw (fun a' w' hw' h' => ordL_any f _ a' w' hw' h') ((h.2 i hi).2 hl)⟩
/-- where only late ones are left -/
theorem ordL_tail {f : Nat} {D : Array Bool} {a : Act} (hD : (Region.ready md ops D).all late = true) (hn : (Region.ready md ops D).isEmpty = false) (h : ∀ w, C w → wpAny P md ops R (f + 1) D a w) : ordL P md ops C late R (f + 1) D a :=
  ⟨fun h0 => (by rw [h0] at hn; cases hn), fun i hi => ⟨fun _ w hw => (h w hw).2 i hi, fun hl => by have := List.all_eq_true.1 hD i hi; rw [hl] at this; cases this⟩⟩
def lateWait (md : Region.Mode) (ops : Array Oper) (late : Nat → Bool) (i : Nat) : Bool :=
  (List.range ops.size).all fun t => !late t || Region.waitsFor md ops t i
theorem lateWait_not {i t : Nat} {D : Array Bool} (hw : lateWait md ops late i = true) (hun : D.getD i true = false) (ht : late t = true) : t ∉ Region.ready md ops D := by
  intro hr
  obtain ⟨_, ot, hot, hall⟩ := mem_ready.1 hr
  have h1 := List.all_eq_true.1 hw t (List.mem_range.2 (Array.getElem?_eq_some_iff.1 hot).1)
  rw [ht, Bool.not_true, Bool.false_or] at h1
  obtain ⟨o', ho', e, he, hb, hon⟩ := Region.waitsFor_spec h1
  have : o' = ot := Option.some.inj (ho'.symm.trans hot)
  subst this
  have h2 := hall e he hb
  rw [hon, getD_both hun] at h2
  cases h2
theorem ordL_first {i : Nat} {oi : Oper} {v : Value} (hi : ops[i]? = some oi) (hsel : Region.noSelect ops = true) (hl : late i = false)
    (hR : ∀ c a w, R (.panic c) (a.put oi.dst v) w → R (.panic c) a w) :
    ∀ (f : Nat) (D : Array Bool) (a : Act),
      (∀ j oj, ops[j]? = some oj → j ≠ i → D.getD j true = false → (∀ e ∈ oj.after, Region.binds md e = true → e.on ≠ i) → oi.apart ops oj = true) →
      i ∈ Region.ready md ops D → YieldsIn P ops C oi v a → (lateWait md ops late i = true ∨ Yields P ops oi v a) →
      ordL P md ops C late R f (D.setIfInBounds i true) (a.put oi.dst v) → ordL P md ops C late R (f + 1) D a := by
  have hs := Region.noSelect_spec hsel
  intro f
  induction f with
  | zero =>
    intro D a _ hr hy hY H
    refine ⟨fun h => absurd h (List.ne_nil_of_mem hr), fun j hj => ?_⟩
    by_cases e : j = i
    · subst e
      exact ⟨fun h => (by rw [hl] at h; cases h), fun _ => hy.qOp hi H⟩
    · have := ready_mono hj e
      rw [H.1] at this
      cases this
  | succ f ih =>
    intro D a hfree hr hy hY H
    have hun := (mem_ready.1 hr).1
    refine ⟨fun h => absurd h (List.ne_nil_of_mem hr), fun j hj => ?_⟩
    by_cases e : j = i
    · subst e
      exact ⟨fun h => (by rw [hl] at h; cases h), fun _ => hy.qOp hi H⟩
    · obtain ⟨hjun, oj, hoj, hall⟩ := mem_ready.1 hj
      have hno : ∀ x ∈ oj.after, Region.binds md x = true → x.on ≠ i := fun x hx hb heq => by
        have h1 := hall x hx hb
        rw [heq, getD_both hun] at h1
        cases h1
      have hap := hfree j oj hoj e hjun hno
      have hfree' : ∀ k ok, ops[k]? = some ok → k ≠ i → (D.setIfInBounds j true).getD k true = false →
          (∀ x ∈ ok.after, Region.binds md x = true → x.on ≠ i) → oi.apart ops ok = true := fun k ok hk hki hku hkn => by
        refine hfree k ok hk hki ?_ hkn
        by_cases hjk : j = k
        · subst hjk; exact hjun
        · rwa [getD_set_ne true hjk] at hku
      refine ⟨fun hlj w hw => ?_, fun hlj => ?_⟩
      · rcases hY with hY | hY
        · exact absurd hj (lateWait_not hY hun hlj)
        · have h2 := wpOp_put hoj hap (fun cs b => hs i oi cs b hi) (fun cs b => hs j oj cs b hoj) hR hY ((H.2 j (ready_mono hj e)).1 hlj w hw)
          refine wpOp_mono (fun a' w' h3 => ?_) h2
          rw [Array.setIfInBounds_comm _ _ (Ne.symm e)] at h3
          exact wpAny_first hi hs hR f _ a' w' hfree' (ready_mono hr (Ne.symm e)) h3.1 h3.2
      · have h2 := qOp_put hoj hap (fun cs b => hs i oi cs b hi) (fun cs b => hs j oj cs b hoj) hy ((H.2 j (ready_mono hj e)).2 hlj)
        obtain ⟨u, hyj, h3, h4⟩ := yieldsIn_of_qOp hoj h2
        refine hyj.qOp hoj ?_
        rw [Array.setIfInBounds_comm _ _ (Ne.symm e)] at h4
        refine ih _ _ hfree' (ready_mono hr (Ne.symm e)) h3 ?_ h4
        obtain ⟨_, _, h5⟩ := Oper.apart_spec hap
        exact hY.imp id fun hY => hY.of_same (execOp_put oi (fun cs b => hs i oi cs b hi) a oj.dst u h5) (wanted_put oi a oj.dst u h5)
/-- a load: each late operation waits for it -/
theorem ordL_load {i : Nat} {oi : Oper} {v : Value} {f : Nat} {D : Array Bool} {a : Act} (hi : ops[i]? = some oi) (hsel : Region.noSelect ops = true) (hl : late i = false) (hw : lateWait md ops late i = true)
    (hf : Region.free md ops D i = true) (hr : (Region.ready md ops D).contains i = true) (hR : ∀ c a w, R (.panic c) (a.put oi.dst v) w → R (.panic c) a w)
    (hg : Region.wanted oi (yielded ops a.tmps) = true) (hC : ∀ w, C w → (execOp a.eval oi).run P w = .ok (.value v) w)
    (h : ordL P md ops C late R f (D.setIfInBounds i true) (a.put oi.dst v)) : ordL P md ops C late R (f + 1) D a :=
  ordL_first hi hsel hl hR f D a (Region.free_spec hi hf) (by simpa using hr) (.inl ⟨hg, fun w hw => by unfold Oper.quietAt; rw [hC w hw]; exact ⟨rfl, rfl⟩⟩) (.inl hw) h
/-- what only reckons -/
theorem ordL_pure {i : Nat} {oi : Oper} {v : Value} {f : Nat} {D : Array Bool} {a : Act} (hi : ops[i]? = some oi) (hsel : Region.noSelect ops = true) (hl : late i = false)
    (hf : Region.free md ops D i = true) (hr : (Region.ready md ops D).contains i = true) (hR : ∀ c a w, R (.panic c) (a.put oi.dst v) w → R (.panic c) a w)
    (hg : Region.wanted oi (yielded ops a.tmps) = true) (hC : ∀ w, (execOp a.eval oi).run P w = .ok (.value v) w)
    (h : ordL P md ops C late R f (D.setIfInBounds i true) (a.put oi.dst v)) : ordL P md ops C late R (f + 1) D a :=
  ordL_first hi hsel hl hR f D a (Region.free_spec hi hf) (by simpa using hr) (.inl ⟨hg, fun w hw => by unfold Oper.quietAt; rw [hC w]; exact ⟨rfl, rfl⟩⟩) (.inr (.inl ⟨hg, hC⟩)) h
/-- a call, that each late operation waits for -/
theorem ordL_call {i : Nat} {oi : Oper} {v : Value} {f : Nat} {D : Array Bool} {a : Act} (hi : ops[i]? = some oi) (hsel : Region.noSelect ops = true) (hl : late i = false) (hw : lateWait md ops late i = true)
    (hf : Region.free md ops D i = true) (hr : (Region.ready md ops D).contains i = true) (hR : ∀ c a w, R (.panic c) (a.put oi.dst v) w → R (.panic c) a w)
    (hg : Region.wanted oi (yielded ops a.tmps) = true) (hC : ∀ w, C w → ∃ (g : FuncId) (args : Array Value), (execOp a.eval oi).run P w = .ok (.enter g args) w ∧ Calls P g args w (fun e w' => e = .returned v ∧ C w'))
    (h : ordL P md ops C late R f (D.setIfInBounds i true) (a.put oi.dst v)) : ordL P md ops C late R (f + 1) D a :=
  ordL_first hi hsel hl hR f D a (Region.free_spec hi hf) (by simpa using hr) (.inl ⟨hg, fun w hw => by
    unfold Oper.quietAt
    obtain ⟨g, args, h1, h2⟩ := hC w hw
    rw [h1]
    exact ⟨rfl, h2⟩⟩) (.inl hw) h
theorem wp_region_ordL {id : Nat} {a : Act} {w : World} (late : Nat → Bool) (C : World → Prop) (hm : P.follows .mixedOrders = true) (hC : C { w with drawn := w.drawn + 1 })
    (h : ordL P .any ops C late R ops.size (Array.replicate ops.size false) a) : (Code.region id ops true).wp P R a w :=
  wp_region_any hm (ordL_any _ _ _ _ hC h)
/-- the rest comes up one behind the other -/
theorem ordL_seq {l : List Oper} {g : Nat} {D : Array Bool} {a : Act} (n : Nat) (hg : g + 1 = l.length - n) (hD : (Region.ready .any l.toArray D).all late = true) (hn : (Region.ready .any l.toArray D).isEmpty = false)
    (hs : Region.seqB .any l.toArray (g + 1) n D = true) (h : ∀ w, C w → wpList P l.toArray R (l.drop n) a w) : ordL P .any l.toArray C late R (g + 1) D a :=
  ordL_tail hD hn fun w hw => by
    have := wpAny_of_seq (md := .any) (Q' := R) (l.drop n) n D a w (fun j => by simp [List.getElem?_drop]) (by rw [List.length_drop, ← hg]; exact hs) (h w hw)
    rwa [List.length_drop, ← hg] at this
end
end Go.Proofs.Ytmanlogclbbgaaa
