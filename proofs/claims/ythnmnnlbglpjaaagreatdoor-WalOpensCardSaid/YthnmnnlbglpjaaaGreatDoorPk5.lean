/- OrdL, WlFew, Log, in one text. -/
import Derived.Test.YthnmnnlbglpjaaaGreatDoorPkA
import Derived.Deep.Quiet
import Derived.StillTail
import Derived.Test.YthnmnnlbglpjaaaGreatDoorPk4
import Derived.Test.YthnmnnlbglpjaaaGreatDoorPk1
namespace Go.Proofs.YthnmnnlbglpjaaaGreatDoor
section SOrdL
open Go.RowKit
set_option linter.unusedVariables false

section
variable {P : Program} {ops : Array Oper} {md : Region.Mode} {C : World → Prop} {late : Nat → Bool} {R : Exit → Act → World → Prop}
/-- whatever comes up ahead of the first late operation is quiet in C; behind that one, any order -/
def ordL (P : Program) (md : Region.Mode) (ops : Array Oper) (C : World → Prop) (late : Nat → Bool) (R : Exit → Act → World → Prop) : Nat → Array Bool → Act → Prop
  | 0, D, a => Region.ready md ops D = [] ∧ ∀ w, C w → R .normal a w
  | f + 1, D, a => (Region.ready md ops D = [] → ∀ w, C w → R .normal a w) ∧
      ∀ i ∈ Region.ready md ops D, (late i = true → ∀ w, C w → wpOp P ops R i (wpAny P md ops R f (D.setIfInBounds i true)) a w) ∧ (late i = false → qOp P ops C i (ordL P md ops C late R f (D.setIfInBounds i true)) a)
theorem ordL_any : ∀ (f : Nat) (D : Array Bool) (a : Act) (w : World), C w → ordL P md ops C late R f D a → wpAny P md ops R f D a w
  | 0, _, _, _, hw, h => ⟨h.1, h.2 _ hw⟩
  | f + 1, _, _, _, hw, h => ⟨fun h0 => h.1 h0 _ hw, fun i hi => by
    cases hl : late i with
    | true => exact (h.2 i hi).1 hl _ hw
    | false => exact wpOp_of_qOp hw (fun a' w' hw' h' => ordL_any f _ a' w' hw' h') ((h.2 i hi).2 hl)⟩
/-- where only late ones are left -/
theorem ordL_tail {f : Nat} {D : Array Bool} {a : Act} (hD : (Region.ready md ops D).all late = true) (hn : (Region.ready md ops D).isEmpty = false) (h : ∀ w, C w → wpAny P md ops R (f + 1) D a w) : ordL P md ops C late R (f + 1) D a :=
  ⟨fun h0 => (by rw [h0] at hn; cases hn), fun i hi => ⟨fun _ w hw => (h w hw).2 i hi, fun hl => by have := List.all_eq_true.1 hD i hi; rw [hl] at this; cases this⟩⟩
def lateWait (md : Region.Mode) (ops : Array Oper) (late : Nat → Bool) (i : Nat) : Bool :=
  (List.range ops.size).all fun t => !late t || Region.waitsFor md ops t i
theorem lateWait_not {i t : Nat} {D : Array Bool} (hw : lateWait md ops late i = true) (hun : D.getD i true = false) (ht : late t = true) : t ∉ Region.ready md ops D := by
  intro hr
  obtain ⟨_, ot, hot, hall⟩ := mem_ready.1 hr
  have h1 := List.all_eq_true.1 hw t (List.mem_range.2 (Array.getElem?_eq_some_iff.1 hot).1)
  rw [ht, Bool.not_true, Bool.false_or] at h1
  obtain ⟨o', ho', e, he, hb, hon⟩ := Region.waitsFor_spec h1
  have : o' = ot := Option.some.inj (ho'.symm.trans hot)
  subst this
  have h2 := hall e he hb
  rw [hon, getD_both hun] at h2
  cases h2
theorem ordL_first {i : Nat} {oi : Oper} {v : Value} (hi : ops[i]? = some oi) (hsel : Region.noSelect ops = true) (hl : late i = false)
    (hR : ∀ c a w, R (.panic c) (a.put oi.dst v) w → R (.panic c) a w) :
    ∀ (f : Nat) (D : Array Bool) (a : Act),
      (∀ j oj, ops[j]? = some oj → j ≠ i → D.getD j true = false → (∀ e ∈ oj.after, Region.binds md e = true → e.on ≠ i) → oi.apart ops oj = true) →
      i ∈ Region.ready md ops D → YieldsIn P ops C oi v a → (lateWait md ops late i = true ∨ Yields P ops oi v a) →
      ordL P md ops C late R f (D.setIfInBounds i true) (a.put oi.dst v) → ordL P md ops C late R (f + 1) D a := by
  have hs := Region.noSelect_spec hsel
  intro f
  induction f with
  | zero =>
    intro D a _ hr hy hY H
    refine ⟨fun h => absurd h (List.ne_nil_of_mem hr), fun j hj => ?_⟩
    by_cases e : j = i
    · subst e
      exact ⟨fun h => (by rw [hl] at h; cases h), fun _ => hy.qOp hi H⟩
    · have := ready_mono hj e
      rw [H.1] at this
      cases this
  | succ f ih =>
    intro D a hfree hr hy hY H
    have hun := (mem_ready.1 hr).1
    refine ⟨fun h => absurd h (List.ne_nil_of_mem hr), fun j hj => ?_⟩
    by_cases e : j = i
    · subst e
      exact ⟨fun h => (by rw [hl] at h; cases h), fun _ => hy.qOp hi H⟩
    · obtain ⟨hjun, oj, hoj, hall⟩ := mem_ready.1 hj
      have hno : ∀ x ∈ oj.after, Region.binds md x = true → x.on ≠ i := fun x hx hb heq => by
        have h1 := hall x hx hb
        rw [heq, getD_both hun] at h1
        cases h1
      have hap := hfree j oj hoj e hjun hno
      have hfree' : ∀ k ok, ops[k]? = some ok → k ≠ i → (D.setIfInBounds j true).getD k true = false →
          (∀ x ∈ ok.after, Region.binds md x = true → x.on ≠ i) → oi.apart ops ok = true := fun k ok hk hki hku hkn => by
        refine hfree k ok hk hki ?_ hkn
        by_cases hjk : j = k
        · subst hjk; exact hjun
        · rwa [getD_set_ne true hjk] at hku
      refine ⟨fun hlj w hw => ?_, fun hlj => ?_⟩
      · rcases hY with hY | hY
        · exact absurd hj (lateWait_not hY hun hlj)
        · have h2 := wpOp_put hoj hap (fun cs b => hs i oi cs b hi) (fun cs b => hs j oj cs b hoj) hR hY ((H.2 j (ready_mono hj e)).1 hlj w hw)
          refine wpOp_mono (fun a' w' h3 => ?_) h2
          rw [Array.setIfInBounds_comm _ _ (Ne.symm e)] at h3
          exact wpAny_first hi hs hR f _ a' w' hfree' (ready_mono hr (Ne.symm e)) h3.1 h3.2
      · have h2 := qOp_put hoj hap (fun cs b => hs i oi cs b hi) (fun cs b => hs j oj cs b hoj) hy ((H.2 j (ready_mono hj e)).2 hlj)
        obtain ⟨u, hyj, h3, h4⟩ := yieldsIn_of_qOp hoj h2
        refine hyj.qOp hoj ?_
        rw [Array.setIfInBounds_comm _ _ (Ne.symm e)] at h4
        refine ih _ _ hfree' (ready_mono hr (Ne.symm e)) h3 ?_ h4
        obtain ⟨_, _, h5⟩ := Oper.apart_spec hap
        exact hY.imp id fun hY => hY.of_same (execOp_put oi (fun cs b => hs i oi cs b hi) a oj.dst u h5) (wanted_put oi a oj.dst u h5)
/-- a load: each late operation waits for it -/
theorem ordL_load {i : Nat} {oi : Oper} {v : Value} {f : Nat} {D : Array Bool} {a : Act} (hi : ops[i]? = some oi) (hsel : Region.noSelect ops = true) (hl : late i = false) (hw : lateWait md ops late i = true)
    (hf : Region.free md ops D i = true) (hr : (Region.ready md ops D).contains i = true) (hR : ∀ c a w, R (.panic c) (a.put oi.dst v) w → R (.panic c) a w)
    (hg : Region.wanted oi (yielded ops a.tmps) = true) (hC : ∀ w, C w → (execOp a.eval oi).run P w = .ok (.value v) w)
    (h : ordL P md ops C late R f (D.setIfInBounds i true) (a.put oi.dst v)) : ordL P md ops C late R (f + 1) D a :=
  ordL_first hi hsel hl hR f D a (Region.free_spec hi hf) (by simpa using hr) (.inl ⟨hg, fun w hw => by unfold Oper.quietAt; rw [hC w hw]; exact ⟨rfl, rfl⟩⟩) (.inl hw) h
/-- what only reckons -/
theorem ordL_pure {i : Nat} {oi : Oper} {v : Value} {f : Nat} {D : Array Bool} {a : Act} (hi : ops[i]? = some oi) (hsel : Region.noSelect ops = true) (hl : late i = false)
    (hf : Region.free md ops D i = true) (hr : (Region.ready md ops D).contains i = true) (hR : ∀ c a w, R (.panic c) (a.put oi.dst v) w → R (.panic c) a w)
    (hg : Region.wanted oi (yielded ops a.tmps) = true) (hC : ∀ w, (execOp a.eval oi).run P w = .ok (.value v) w)
    (h : ordL P md ops C late R f (D.setIfInBounds i true) (a.put oi.dst v)) : ordL P md ops C late R (f + 1) D a :=
  ordL_first hi hsel hl hR f D a (Region.free_spec hi hf) (by simpa using hr) (.inl ⟨hg, fun w hw => by unfold Oper.quietAt; rw [hC w]; exact ⟨rfl, rfl⟩⟩) (.inr (.inl ⟨hg, hC⟩)) h
/-- a call, that each late operation waits for -/
theorem ordL_call {i : Nat} {oi : Oper} {v : Value} {f : Nat} {D : Array Bool} {a : Act} (hi : ops[i]? = some oi) (hsel : Region.noSelect ops = true) (hl : late i = false) (hw : lateWait md ops late i = true)
    (hf : Region.free md ops D i = true) (hr : (Region.ready md ops D).contains i = true) (hR : ∀ c a w, R (.panic c) (a.put oi.dst v) w → R (.panic c) a w)
    (hg : Region.wanted oi (yielded ops a.tmps) = true) (hC : ∀ w, C w → ∃ (g : FuncId) (args : Array Value), (execOp a.eval oi).run P w = .ok (.enter g args) w ∧ Calls P g args w (fun e w' => e = .returned v ∧ C w'))
    (h : ordL P md ops C late R f (D.setIfInBounds i true) (a.put oi.dst v)) : ordL P md ops C late R (f + 1) D a :=
  ordL_first hi hsel hl hR f D a (Region.free_spec hi hf) (by simpa using hr) (.inl ⟨hg, fun w hw => by
    unfold Oper.quietAt
    obtain ⟨g, args, h1, h2⟩ := hC w hw
    rw [h1]
    exact ⟨rfl, h2⟩⟩) (.inl hw) h
theorem wp_region_ordL {id : Nat} {a : Act} {w : World} (late : Nat → Bool) (C : World → Prop) (hm : P.follows .mixedOrders = true) (hC : C { w with drawn := w.drawn + 1 })
    (h : ordL P .any ops C late R ops.size (Array.replicate ops.size false) a) : (Code.region id ops true).wp P R a w :=
  wp_region_any hm (ordL_any _ _ _ _ hC h)
/-- the rest comes up one behind the other -/
theorem ordL_seq {l : List Oper} {g : Nat} {D : Array Bool} {a : Act} (n : Nat) (hg : g + 1 = l.length - n) (hD : (Region.ready .any l.toArray D).all late = true) (hn : (Region.ready .any l.toArray D).isEmpty = false)
    (hs : Region.seqB .any l.toArray (g + 1) n D = true) (h : ∀ w, C w → wpList P l.toArray R (l.drop n) a w) : ordL P .any l.toArray C late R (g + 1) D a :=
  ordL_tail hD hn fun w hw => by
    have := wpAny_of_seq (md := .any) (Q' := R) (l.drop n) n D a w (fun j => by simp [List.getElem?_drop]) (by rw [List.length_drop, ← hg]; exact hs) (h w hw)
    rwa [List.length_drop, ← hg] at this
end
end SOrdL
section SWlFew
open Go.RowKit
set_option linter.unusedVariables false
set_option linter.unusedSimpArgs false

set_option maxRecDepth 100000 in
set_option maxHeartbeats 2000000 in
theorem few5_cells (x1 x3 x5 : Option Addr) (n1 c1 n2 c2 n3 c3 p1 p2 p3 : Nat) (left epoch seq used : Int) (w : World) (h1 : n1 ≤ c1 ∧ c1 ≤ 9223372036854775807) (h2 : n2 ≤ c2 ∧ c2 ≤ 9223372036854775807) (h3 : n3 ≤ c3 ∧ c3 ≤ 9223372036854775807)
    (e1 : p1 = min n1 300) (e2 : p2 = min n2 60) (e3 : p3 = min n3 250) :
    Calls Tryz.prog 8 #[.agg #[.slice x1 n1 c1, .slice x3 n2 c2, .int .i64 left, .int .i64 epoch, .int .i64 seq, .int .i64 used, .slice x5 n3 c3]] w fun e w' => e = .returned (.agg #[.slice x1 p1 c1, .slice x3 p2 c2, .int .i64 left, .int .i64 epoch, .int .i64 seq, .int .i64 used, .slice x5 p3 c3]) ∧ Below w.heap.size w w' := by
  obtain ⟨h11, h12⟩ := h1
  obtain ⟨h21, h22⟩ := h2
  obtain ⟨h31, h32⟩ := h3
  have i1 : min (n1 : Int) 300 = (p1 : Nat) := by omega
  have i2 : min (n2 : Int) 60 = (p2 : Nat) := by omega
  have i3 : min (n3 : Int) 250 = (p3 : Nat) := by omega
  have j1 : (if (300 : Int) < n1 then (300 : Int) else n1) = (p1 : Nat) := by split <;> omega
  have j2 : (if (60 : Int) < n2 then (60 : Int) else n2) = (p2 : Nat) := by split <;> omega
  have j3 : (if (250 : Int) < n3 then (250 : Int) else n3) = (p3 : Nat) := by split <;> omega
  have k1 : (p1 : Int) ≤ c1 := by omega
  have k2 : (p2 : Int) ≤ c2 := by omega
  have k3 : (p3 : Int) ≤ c3 := by omega
  have q1 : p1 ≤ c1 := by omega
  have q2 : p2 ≤ c2 := by omega
  have q3 : p3 ≤ c3 := by omega
  clear e1 e2 e3
  have b0 := heap_alloc_new w (.cells #[.slice x1 n1 c1, .slice x3 n2 c2, .int .i64 left, .int .i64 epoch, .int .i64 seq, .int .i64 used, .slice x5 n3 c3] 29)
  go_enter Tryz.func8, Tryz.ntmps8
  go_upto_region 1 with fail
  have HX : Hid (∀ u : World, u = (w.alloc (.cells #[.slice x1 n1 c1, .slice x3 n2 c2, .int .i64 left, .int .i64 epoch, .int .i64 seq, .int .i64 used, .slice x5 n3 c3] 29)).alloc (.cells #[.slice none 0 0, .slice none 0 0, .int .i64 0, .int .i64 0, .int .i64 0, .int .i64 0, .slice none 0 0] 29) →
      u.heap[w.heap.size]? = some (.cells #[.slice x1 n1 c1, .slice x3 n2 c2, .int .i64 left, .int .i64 epoch, .int .i64 seq, .int .i64 used, .slice x5 n3 c3] 29 (0, 0)) ∧ u.heap[w.heap.size + 1]? = some (.cells #[.slice none 0 0, .slice none 0 0, .int .i64 0, .int .i64 0, .int .i64 0, .int .i64 0, .slice none 0 0] 29 (0, 0)) ∧ Below w.heap.size w u) := Lib.hid (by
    rintro u rfl
    have e1 := heap_alloc_new (w.alloc (.cells #[.slice x1 n1 c1, .slice x3 n2 c2, .int .i64 left, .int .i64 epoch, .int .i64 seq, .int .i64 used, .slice x5 n3 c3] 29)) (.cells #[.slice none 0 0, .slice none 0 0, .int .i64 0, .int .i64 0, .int .i64 0, .int .i64 0, .slice none 0 0] 29)
    rw [World.size_alloc] at e1
    exact ⟨(heap_alloc_old _ _ (lt_of_block b0)).trans b0, e1, ((Below.refl w.heap.size w).alloc (Nat.le_refl _) _).alloc (by simp) _⟩)
  obtain ⟨u, hW⟩ : ∃ u, (w.alloc (.cells #[.slice x1 n1 c1, .slice x3 n2 c2, .int .i64 left, .int .i64 epoch, .int .i64 seq, .int .i64 used, .slice x5 n3 c3] 29)).alloc (.cells #[.slice none 0 0, .slice none 0 0, .int .i64 0, .int .i64 0, .int .i64 0, .int .i64 0, .slice none 0 0] 29) = u := ⟨_, rfl⟩
  rw [hW]
  obtain ⟨hA, hZ, hb⟩ := HX.out u hW.symm
  clear hW HX b0
  have c0 := keep_at hA 0 rfl
  have c1' := keep_at hA 1 rfl
  have c6 := keep_at hA 6 rfl
  have HA := Lib.hid hA; have HZ := Lib.hid hZ; have HB := Lib.hid hb
  clear hA hZ hb
  refine wp_region_ordL (fun i => decide (29 ≤ i)) (fun w' => ∃ x : KeepT u, w' = x.val) (by kernel_rfl) ⟨⟨_, (Below.refl _ u).drew⟩, rfl⟩ ?_
  refine ordL_pure (i := 0) (v := (.pointer (some ⟨w.heap.size, 0, none⟩))) rfl (by kernel_rfl) (by rfl) (by kernel_rfl) (by kernel_rfl) (fun _ _ _ h => h) (by rfl) (fun w => ?_) ?_
  · go_simp
  try simp only [Act.put, List.setIfInBounds_toArray, List.set_cons_zero, List.set_cons_succ]
  refine ordL_pure (i := 1) (v := (.pointer (some ⟨w.heap.size, 0, none⟩))) rfl (by kernel_rfl) (by rfl) (by kernel_rfl) (by kernel_rfl) (fun _ _ _ h => h) (by rfl) (fun w => ?_) ?_
  · go_simp
  try simp only [Act.put, List.setIfInBounds_toArray, List.set_cons_zero, List.set_cons_succ]
  refine ordL_pure (i := 2) (v := (.pointer (some ⟨w.heap.size, 0, none⟩))) rfl (by kernel_rfl) (by rfl) (by kernel_rfl) (by kernel_rfl) (fun _ _ _ h => h) (by rfl) (fun w => ?_) ?_
  · go_simp
  try simp only [Act.put, List.setIfInBounds_toArray, List.set_cons_zero, List.set_cons_succ]
  refine ordL_load (i := 3) (v := (.slice x1 n1 c1)) rfl (by kernel_rfl) (by rfl) (by kernel_rfl) (by kernel_rfl) (by kernel_rfl) (fun _ _ _ h => h) (by rfl) (fun w hw => ?_) ?_
  · obtain ⟨x, rfl⟩ := hw
    go_simp
  try simp only [Act.put, List.setIfInBounds_toArray, List.set_cons_zero, List.set_cons_succ]
  refine ordL_pure (i := 4) (v := (.pointer (some ⟨w.heap.size, 0, none⟩))) rfl (by kernel_rfl) (by rfl) (by kernel_rfl) (by kernel_rfl) (fun _ _ _ h => h) (by rfl) (fun w => ?_) ?_
  · go_simp
  try simp only [Act.put, List.setIfInBounds_toArray, List.set_cons_zero, List.set_cons_succ]
  refine ordL_pure (i := 5) (v := (.pointer (some ⟨w.heap.size, 0, none⟩))) rfl (by kernel_rfl) (by rfl) (by kernel_rfl) (by kernel_rfl) (fun _ _ _ h => h) (by rfl) (fun w => ?_) ?_
  · go_simp
  try simp only [Act.put, List.setIfInBounds_toArray, List.set_cons_zero, List.set_cons_succ]
  refine ordL_pure (i := 6) (v := (.pointer (some ⟨w.heap.size, 0, none⟩))) rfl (by kernel_rfl) (by rfl) (by kernel_rfl) (by kernel_rfl) (fun _ _ _ h => h) (by rfl) (fun w => ?_) ?_
  · go_simp
  try simp only [Act.put, List.setIfInBounds_toArray, List.set_cons_zero, List.set_cons_succ]
  refine ordL_load (i := 7) (v := (.slice x1 n1 c1)) rfl (by kernel_rfl) (by rfl) (by kernel_rfl) (by kernel_rfl) (by kernel_rfl) (fun _ _ _ h => h) (by rfl) (fun w hw => ?_) ?_
  · obtain ⟨x, rfl⟩ := hw
    go_simp
  try simp only [Act.put, List.setIfInBounds_toArray, List.set_cons_zero, List.set_cons_succ]
  refine ordL_load (i := 8) (v := (.int .i64 (n1 : Nat))) rfl (by kernel_rfl) (by rfl) (by kernel_rfl) (by kernel_rfl) (by kernel_rfl) (fun _ _ _ h => h) (by rfl) (fun w hw => ?_) ?_
  · obtain ⟨x, rfl⟩ := hw
    go_simp
  try simp only [Act.put, List.setIfInBounds_toArray, List.set_cons_zero, List.set_cons_succ]
  refine ordL_load (i := 9) (v := (.int .i64 (p1 : Nat))) rfl (by kernel_rfl) (by rfl) (by kernel_rfl) (by kernel_rfl) (by kernel_rfl) (fun _ _ _ h => h) (by rfl) (fun w hw => ?_) ?_
  · obtain ⟨x, rfl⟩ := hw
    go_simp
  try simp only [Act.put, List.setIfInBounds_toArray, List.set_cons_zero, List.set_cons_succ]
  refine ordL_load (i := 10) (v := (.slice x1 p1 c1)) rfl (by kernel_rfl) (by rfl) (by kernel_rfl) (by kernel_rfl) (by kernel_rfl) (fun _ _ _ h => h) (by rfl) (fun w hw => ?_) ?_
  · obtain ⟨x, rfl⟩ := hw
    go_simp
  try simp only [Act.put, List.setIfInBounds_toArray, List.set_cons_zero, List.set_cons_succ]
  refine ordL_pure (i := 11) (v := (.pointer (some ⟨w.heap.size, 0, none⟩))) rfl (by kernel_rfl) (by rfl) (by kernel_rfl) (by kernel_rfl) (fun _ _ _ h => h) (by rfl) (fun w => ?_) ?_
  · go_simp
  try simp only [Act.put, List.setIfInBounds_toArray, List.set_cons_zero, List.set_cons_succ]
  refine ordL_pure (i := 12) (v := (.pointer (some ⟨w.heap.size, 0, none⟩))) rfl (by kernel_rfl) (by rfl) (by kernel_rfl) (by kernel_rfl) (fun _ _ _ h => h) (by rfl) (fun w => ?_) ?_
  · go_simp
  try simp only [Act.put, List.setIfInBounds_toArray, List.set_cons_zero, List.set_cons_succ]
  refine ordL_pure (i := 13) (v := (.pointer (some ⟨w.heap.size, 1, none⟩))) rfl (by kernel_rfl) (by rfl) (by kernel_rfl) (by kernel_rfl) (fun _ _ _ h => h) (by rfl) (fun w => ?_) ?_
  · go_simp
  try simp only [Act.put, List.setIfInBounds_toArray, List.set_cons_zero, List.set_cons_succ]
  refine ordL_load (i := 14) (v := (.slice x3 n2 c2)) rfl (by kernel_rfl) (by rfl) (by kernel_rfl) (by kernel_rfl) (by kernel_rfl) (fun _ _ _ h => h) (by rfl) (fun w hw => ?_) ?_
  · obtain ⟨x, rfl⟩ := hw
    go_simp
  try simp only [Act.put, List.setIfInBounds_toArray, List.set_cons_zero, List.set_cons_succ]
  refine ordL_pure (i := 15) (v := (.pointer (some ⟨w.heap.size, 0, none⟩))) rfl (by kernel_rfl) (by rfl) (by kernel_rfl) (by kernel_rfl) (fun _ _ _ h => h) (by rfl) (fun w => ?_) ?_
  · go_simp
  try simp only [Act.put, List.setIfInBounds_toArray, List.set_cons_zero, List.set_cons_succ]
  refine ordL_pure (i := 16) (v := (.pointer (some ⟨w.heap.size, 0, none⟩))) rfl (by kernel_rfl) (by rfl) (by kernel_rfl) (by kernel_rfl) (fun _ _ _ h => h) (by rfl) (fun w => ?_) ?_
  · go_simp
  try simp only [Act.put, List.setIfInBounds_toArray, List.set_cons_zero, List.set_cons_succ]
  refine ordL_pure (i := 17) (v := (.pointer (some ⟨w.heap.size, 1, none⟩))) rfl (by kernel_rfl) (by rfl) (by kernel_rfl) (by kernel_rfl) (fun _ _ _ h => h) (by rfl) (fun w => ?_) ?_
  · go_simp
  try simp only [Act.put, List.setIfInBounds_toArray, List.set_cons_zero, List.set_cons_succ]
  refine ordL_load (i := 18) (v := (.slice x3 n2 c2)) rfl (by kernel_rfl) (by rfl) (by kernel_rfl) (by kernel_rfl) (by kernel_rfl) (fun _ _ _ h => h) (by rfl) (fun w hw => ?_) ?_
  · obtain ⟨x, rfl⟩ := hw
    go_simp
  try simp only [Act.put, List.setIfInBounds_toArray, List.set_cons_zero, List.set_cons_succ]
  refine ordL_pure (i := 19) (v := (.int .i64 (n2 : Nat))) rfl (by kernel_rfl) (by rfl) (by kernel_rfl) (by kernel_rfl) (fun _ _ _ h => h) (by rfl) (fun w => ?_) ?_
  · go_simp
  try simp only [Act.put, List.setIfInBounds_toArray, List.set_cons_zero, List.set_cons_succ]
  refine ordL_pure (i := 20) (v := (.int .i64 (p2 : Nat))) rfl (by kernel_rfl) (by rfl) (by kernel_rfl) (by kernel_rfl) (fun _ _ _ h => h) (by rfl) (fun w => ?_) ?_
  · go_simp
  try simp only [Act.put, List.setIfInBounds_toArray, List.set_cons_zero, List.set_cons_succ]
  refine ordL_pure (i := 21) (v := (.slice x3 p2 c2)) rfl (by kernel_rfl) (by rfl) (by kernel_rfl) (by kernel_rfl) (fun _ _ _ h => h) (by rfl) (fun w => ?_) ?_
  · go_simp
  try simp only [Act.put, List.setIfInBounds_toArray, List.set_cons_zero, List.set_cons_succ]
  refine ordL_pure (i := 22) (v := (.pointer (some ⟨w.heap.size, 6, none⟩))) rfl (by kernel_rfl) (by rfl) (by kernel_rfl) (by kernel_rfl) (fun _ _ _ h => h) (by rfl) (fun w => ?_) ?_
  · go_simp
  try simp only [Act.put, List.setIfInBounds_toArray, List.set_cons_zero, List.set_cons_succ]
  refine ordL_load (i := 23) (v := (.slice x5 n3 c3)) rfl (by kernel_rfl) (by rfl) (by kernel_rfl) (by kernel_rfl) (by kernel_rfl) (fun _ _ _ h => h) (by rfl) (fun w hw => ?_) ?_
  · obtain ⟨x, rfl⟩ := hw
    go_simp
  try simp only [Act.put, List.setIfInBounds_toArray, List.set_cons_zero, List.set_cons_succ]
  refine ordL_pure (i := 24) (v := (.pointer (some ⟨w.heap.size, 6, none⟩))) rfl (by kernel_rfl) (by rfl) (by kernel_rfl) (by kernel_rfl) (fun _ _ _ h => h) (by rfl) (fun w => ?_) ?_
  · go_simp
  try simp only [Act.put, List.setIfInBounds_toArray, List.set_cons_zero, List.set_cons_succ]
  refine ordL_load (i := 25) (v := (.slice x5 n3 c3)) rfl (by kernel_rfl) (by rfl) (by kernel_rfl) (by kernel_rfl) (by kernel_rfl) (fun _ _ _ h => h) (by rfl) (fun w hw => ?_) ?_
  · obtain ⟨x, rfl⟩ := hw
    go_simp
  try simp only [Act.put, List.setIfInBounds_toArray, List.set_cons_zero, List.set_cons_succ]
  refine ordL_pure (i := 26) (v := (.int .i64 (n3 : Nat))) rfl (by kernel_rfl) (by rfl) (by kernel_rfl) (by kernel_rfl) (fun _ _ _ h => h) (by rfl) (fun w => ?_) ?_
  · go_simp
  try simp only [Act.put, List.setIfInBounds_toArray, List.set_cons_zero, List.set_cons_succ]
  refine ordL_pure (i := 27) (v := (.int .i64 (p3 : Nat))) rfl (by kernel_rfl) (by rfl) (by kernel_rfl) (by kernel_rfl) (fun _ _ _ h => h) (by rfl) (fun w => ?_) ?_
  · go_simp
  try simp only [Act.put, List.setIfInBounds_toArray, List.set_cons_zero, List.set_cons_succ]
  refine ordL_pure (i := 28) (v := (.slice x5 p3 c3)) rfl (by kernel_rfl) (by rfl) (by kernel_rfl) (by kernel_rfl) (fun _ _ _ h => h) (by rfl) (fun w => ?_) ?_
  · go_simp
  try simp only [Act.put, List.setIfInBounds_toArray, List.set_cons_zero, List.set_cons_succ]
  refine ordL_seq 29 (by kernel_rfl) (by kernel_rfl) (by kernel_rfl) (by kernel_rfl) ?_
  intro y hy
  have hAx := (show y.heap[w.heap.size]? = _ from by obtain ⟨x, rfl⟩ := hy; exact (x.below.block _ (lt_of_block HA.out)).trans HA.out)
  have hZx := (show y.heap[w.heap.size + 1]? = _ from by obtain ⟨x, rfl⟩ := hy; exact (x.below.block _ (lt_of_block HZ.out)).trans HZ.out)
  have HBx := Lib.hid (show Below w.heap.size w y from by obtain ⟨x, rfl⟩ := hy; exact HB.out.trans (x.below.mono HB.out.size))
  clear hy c0 c1' c6 HA HZ HB
  simp only [List.drop_succ_cons, List.drop_zero]
  have f1 := block_frozen hAx 0
  have e1 := below_cell (Below.refl _ _) hAx 0 rfl
  have b1 := block_set hAx 0 (.slice x1 p1 c1)
  have f2 := block_frozen b1 1
  have e2 := below_cell (Below.refl _ _) b1 1 rfl
  have b2 := block_set b1 1 (.slice x3 p2 c2)
  have f3 := block_frozen b2 6
  have e3 := below_cell (Below.refl _ _) b2 6 rfl
  have b3 := block_set b2 6 (.slice x5 p3 c3)
  have hZ3 : (((y.setCell ⟨w.heap.size, 0, none⟩ (.slice x1 p1 c1)).setCell ⟨w.heap.size, 1, none⟩ (.slice x3 p2 c2)).setCell ⟨w.heap.size, 6, none⟩ (.slice x5 p3 c3)).heap[w.heap.size + 1]? = some (.cells #[.slice none 0 0, .slice none 0 0, .int .i64 0, .int .i64 0, .int .i64 0, .int .i64 0, .slice none 0 0] 29 (0, 0)) := by
    rw [Below.heap_setCell _ _ _ _ (by show w.heap.size + 1 ≠ w.heap.size; omega), Below.heap_setCell _ _ _ _ (by show w.heap.size + 1 ≠ w.heap.size; omega), Below.heap_setCell _ _ _ _ (by show w.heap.size + 1 ≠ w.heap.size; omega)]
    exact hZx
  have hB3 := (((HBx.out.setCell (p := ⟨w.heap.size, 0, none⟩) (Nat.le_refl _) (.slice x1 p1 c1)).setCell (p := ⟨w.heap.size, 1, none⟩) (Nat.le_refl _) (.slice x3 p2 c2)).setCell (p := ⟨w.heap.size, 6, none⟩) (Nat.le_refl _) (.slice x5 p3 c3))
  go_upto_region 2 with fail
  obtain ⟨z, hz⟩ : ∃ z, (((y.setCell ⟨w.heap.size, 0, none⟩ (.slice x1 p1 c1)).setCell ⟨w.heap.size, 1, none⟩ (.slice x3 p2 c2)).setCell ⟨w.heap.size, 6, none⟩ (.slice x5 p3 c3)) = z := ⟨_, rfl⟩
  rw [hz] at b3 hZ3 hB3 ⊢
  clear hz f1 e1 b1 f2 e2 b2 f3 e3 hAx hZx HBx
  have d0 := below_cell (Below.refl _ _) b3 0 rfl
  have d1 := below_cell (Below.refl _ _) b3 1 rfl
  have d2 := below_cell (Below.refl _ _) b3 2 rfl
  have d3 := below_cell (Below.refl _ _) b3 3 rfl
  have d4 := below_cell (Below.refl _ _) b3 4 rfl
  have d5 := below_cell (Below.refl _ _) b3 5 rfl
  have d6 := below_cell (Below.refl _ _) b3 6 rfl
  have HS := Lib.hid (setRow_heap z (w.heap.size + 1) _ #[.slice x1 p1 c1, .slice x3 p2 c2, .int .i64 left, .int .i64 epoch, .int .i64 seq, .int .i64 used, .slice x5 p3 c3] _ _ hZ3)
  have HF := Lib.hid (below_setRow hB3 (show w.heap.size ≤ w.heap.size + 1 by omega) #[.slice x1 p1 c1, .slice x3 p2 c2, .int .i64 left, .int .i64 epoch, .int .i64 seq, .int .i64 used, .slice x5 p3 c3])
  clear b3 hB3
  go_wp2_with (first | (refine wpList_store_row rfl 29 _ _ rfl (w.heap.size + 1) #[.slice x1 p1 c1, .slice x3 p2 c2, .int .i64 left, .int .i64 epoch, .int .i64 seq, .int .i64 used, .slice x5 p3 c3] rfl rfl 29 _ hZ3 (by kernel_rfl) rfl (by simp [Value.oneCell']) ?_))
  refine bodyPost_ret (results_cell_row rfl _ _ (w.heap.size + 1) _ _ _ _ rfl HS.out Tryz.underlying29 rfl (by kernel_rfl)) rfl ⟨rfl, HF.out⟩
end SWlFew
section SLog
open Go.ChangeShapes Go.WideShapes Go.ChangeAt Go.RowKit Go.Joins Go.Deep
set_option linter.unusedVariables false

set_option maxRecDepth 100000 in
theorem openLog {H : Type} {enc : TypeId × Value → H} {W : World} {base : Nat} {v : Value} {d : DataW H} {p : List MemPlace}
    (hok : Value.okWide Tryz.prog W .any base 29 v) (h : DataW.Trod enc Tryz.prog W 0 (fun _ => true) true 29 v d p) : ∃ x : Lg, IsLog W v x := by
  obtain ⟨cs, rfl, hsz⟩ := okWide_struct Tryz.underlying29 hok
  obtain ⟨fuel, hf⟩ := h
  obtain ⟨xs, n, _, _, hl, hlen, hf⟩ := DataW.trod_struct Tryz.underlying29 hf
  have hC : Tryz.prog.cellsOf 29 = 7 := by kernel_rfl
  rw [hC] at hl
  have h0 : Tryz.prog.cellsOf 27 = 3 := by kernel_rfl
  have h1 : Tryz.prog.cellsOf 25 = 2 := by kernel_rfl
  have h2 : Tryz.prog.cellsOf 3 = 1 := by kernel_rfl
  have g1 : Tryz.prog.cellsOf 22 = 1 := by kernel_rfl
  have g2 : Tryz.prog.cellsOf 23 = 1 := by kernel_rfl
  obtain ⟨cl⟩ := cs
  simp only [Value.cells] at hl hf
  match xs, hlen, cl, hl with
  | [x0, x1, x2, x3, x4], _, [c0, c1, c2, c3, c4, c5, c6], _ =>
    have k0 := hf 0 _ rfl
    have k1 := hf 1 _ rfl
    have k2 := hf 2 _ rfl
    have k3 := hf 3 _ rfl
    have k4 := hf 4 _ rfl
    simp [h0, h2, g2] at k0 k1 k2 k3 k4
    obtain ⟨y0, y1, n', _, _, q0, q1⟩ := trod_struct2 Tryz.underlying27 k0
    simp [h1, h2] at q0 q1
    obtain ⟨z0, z1, n2, _, _, r0, r1⟩ := trod_struct2 Tryz.underlying25 q0
    simp [g1, g2] at r0 r1
    obtain ⟨hv0, d0, p0, t0⟩ := slice_of_trod Tryz.underlying22 r0
    obtain ⟨hv1, d1, p1, t1⟩ := slice_of_trod Tryz.underlying23 r1
    obtain ⟨hv2, d2, p2, t2⟩ := slice_of_trod Tryz.underlying23 k4
    obtain ⟨l0, i0⟩ := openStrsS hv0 t0
    obtain ⟨l1, i1⟩ := openWrts hv1 t1
    obtain ⟨l2, i2⟩ := openWrts hv2 t2
    obtain ⟨a0, e0, _, w0⟩ := DataW.trod_int Tryz.underlying3 q1
    obtain ⟨a1, e1, _, w1⟩ := DataW.trod_int Tryz.underlying3 k1
    obtain ⟨a2, e2, _, w2⟩ := DataW.trod_int Tryz.underlying3 k2
    obtain ⟨a3, e3, _, w3⟩ := DataW.trod_int Tryz.underlying3 k3
    simp at e0 e1 e2 e3
    subst e0 e1 e2 e3
    exact ⟨⟨l0, l1, a0, a1, a2, a3, l2⟩, ⟨wf_i64 w0, wf_i64 w1, wf_i64 w2, wf_i64 w3⟩, _, _, _, rfl, i0, i1, i2⟩
end SLog
end Go.Proofs.YthnmnnlbglpjaaaGreatDoor
