/- RefNew, Bl5, OrdL, BlFew, LgFew, RoomI, Log, in one text. -/
import Derived.Test.YtimiooiaohfelaaDoorRoomN
import Derived.Test.YtimiooiaohfelaaDoorBl3
import Derived.Test.YtimiooiaohfelaaDoorGen
import Derived.Deep.Quiet
import Derived.StillTail
import Derived.Test.YtimiooiaohfelaaDoorWl4
import Derived.Test.YtimiooiaohfelaaDoorRoomT
import Derived.Test.YtimiooiaohfelaaDoorWlP
namespace Go.Proofs.YtimiooiaohfelaaDoor
section SRefNew
open Go.RowKit
set_option linter.unusedVariables false

set_option maxHeartbeats 400000 in
theorem refNew_any (n : Nat) (w : World) (h2 : n ≤ 256) :
    Calls Tryd.prog 16 #[.int .i64 n] w (OneBools (newL n) w) := by
  obtain ⟨i0, hi, hz0, hz1, hz2⟩ := info_parts infoBool
  have hn2 : (n : Int) ≤ 256 := by omega
  have hS : ∀ k, k < n → (List.range (k + 1)).map (fun i => Value.bool (decide (i < 54))) = (List.range k).map (fun i => Value.bool (decide (i < 54))) ++ [Value.bool (decide ((k : Int) < 54))] := by
    intro k _
    rw [List.range_succ, List.map_append]
    simp
    omega
  have HS := Lib.hid hS
  clear hS
  go_enter Tryd.func16, Tryd.ntmps16
  go_wp2
  go_loopw [3, 4] (fun b c wr => ∃ k : Nat, k ≤ n ∧ c = .int .i64 k ∧ wr.ownsRow w.heap.size 4 1 b k ((List.range k).map fun i => Value.bool (decide (i < 54))) ∧ Below w.heap.size w wr) (fun _ c _ => n - (intOf c).toNat)
  case atStart => exact ⟨0, by omega, rfl, World.ownsRow_made w #[] 0 (Nat.le_refl _) (by unfold maxLen; omega) rfl, (Below.refl _ _).alloc (Nat.le_refl _) _⟩
  case round =>
    obtain ⟨k, hk, rfl, hown, hbel⟩ := hrel
    by_cases hlt : k < n
    · have HO := Lib.hid hown
      clear hown
      go_wp2_with (first | (at_builtin; go_must (refine wpList_push _ _ 42 4 HO.out hbel (Nat.le_refl _) Tryd.underlying42 hi hz0 hz1 hz2 rfl (by decide) rfl rfl rfl rfl rfl ?c1 ?c2 ?_)))
      case c1 => intro u hu; rw [List.mem_singleton.1 hu]; rfl
      case c2 => omega
      intro v' w1 hown1 hbel1
      have HO1 := Lib.hid hown1
      clear hbel hown1
      go_wp2
      go_roundw
      case rel =>
        refine ⟨k + 1, by omega, by go_num, ?_, hbel1⟩
        rw [HS.out k hlt]
        exact HO1.out
      case measure => simp [intOf]; omega
    · obtain rfl : k = n := by omega
      have hr := hown
      rw [show ((List.range k).map fun i => Value.bool (decide (i < 54))) = (newL k).map Value.bool from by rw [newL, newK, List.map_map]; rfl] at hr
      have HR := Lib.hid (own_reads1 hr (newK_len k 54))
      clear hown hr
      go_wp2
      go_ret
      exact ⟨_, rfl, HR.out, hbel⟩
end SRefNew
section SBl5
open Go.RowKit
set_option linter.unusedVariables false

def abcB : ByteArray := ⟨#[97, 98, 99]⟩
theorem alive7 : layE (newL 64) abcB = 0 ∧ (layT (newL 64) abcB).2 = [54] ∧ wrtsL [54] abcB = [⟨54, ⟨#[0, 0, 3, 0, 97, 98, 99]⟩⟩] := by
  refine ⟨by decide +kernel, by decide +kernel, by decide +kernel⟩
set_option maxRecDepth 100000 in
set_option maxHeartbeats 400000 in
theorem blobAlive (w : World) : Calls Tryd.prog 7 #[] w fun e w' => e = .returned (.bool true) ∧ Below w.heap.size w w' := by
  have HN := Lib.hid (fun u => refNew_any 64 u (by omega))
  have HL := Lib.hid (fun v u hu => blobLay_any v (newL 64) abcB u hu (by decide))
  rw [alive7.1] at HL
  go_enter Tryd.func7, Tryd.ntmps7
  go_upto_region 2 with (first | (go_at_call 16; refine (HN.out _).mono ?_; rintro e w1 ⟨v, rfl, hv, hb1⟩) | (go_at_call 15; refine (HL.out _ _ hv).mono ?_; rintro e w2 ⟨v1, v2, rfl, hv1, hv2, hb2⟩))
  rw [alive7.2.1] at hv2 ⊢
  rw [alive7.2.2] at hv2
  obtain ⟨a, len, cap, rfl, hlen, hc1, hc2, hbd, hat⟩ := hv2
  obtain rfl : len = 1 := by simpa using hlen.symm
  obtain ⟨b, off, rfl, hb, hat⟩ := hat.resolve_left (by omega)
  obtain ⟨h0, h1⟩ := hat 0 (by omega)
  have h1' : w2.cell? ⟨b, off + 1, none⟩ = some (.string ⟨#[0, 0, 3, 0, 97, 98, 99]⟩) := by simpa using h1
  have hb3 := hb1.trans (hb2.mono hb1.size)
  clear hat h0 h1 HN HL hv hbd hv1 hlen
  go_wp2_with fail
  go_ret
  exact ⟨rfl, hb3⟩
end SBl5
section SOrdL
open Go.RowKit
set_option linter.unusedVariables false

section
variable {P : Program} {ops : Array Oper} {md : Region.Mode} {C : World → Prop} {late : Nat → Bool} {R : Exit → Act → World → Prop}
/-- whatever comes up ahead of the first late operation is quiet in C; behind that one, any order -/
def ordL (P : Program) (md : Region.Mode) (ops : Array Oper) (C : World → Prop) (late : Nat → Bool) (R : Exit → Act → World → Prop) : Nat → Array Bool → Act → Prop
  | 0, D, a => Region.ready md ops D = [] ∧ ∀ w, C w → R .normal a w
  | f + 1, D, a => (Region.ready md ops D = [] → ∀ w, C w → R .normal a w) ∧
      ∀ i ∈ Region.ready md ops D, (late i = true → ∀ w, C w → wpOp P ops R i (wpAny P md ops R f (D.setIfInBounds i true)) a w) ∧ (late i = false → qOp P ops C i (ordL P md ops C late R f (D.setIfInBounds i true)) a)
theorem ordL_any : ∀ (f : Nat) (D : Array Bool) (a : Act) (w : World), C w → ordL P md ops C late R f D a → wpAny P md ops R f D a w
  | 0, _, _, _, hw, h => ⟨h.1, h.2 _ hw⟩
  | f + 1, _, _, _, hw, h => ⟨fun h0 => h.1 h0 _ hw, fun i hi => by
    cases hl : late i with
    | true => exact (h.2 i hi).1 hl _ hw
    | false => exact wpOp_of_qOp hw (fun a' w' hw' h' => ordL_any f _ a' w' hw' h') ((h.2 i hi).2 hl)⟩
/-- where only late ones are left -/
theorem ordL_tail {f : Nat} {D : Array Bool} {a : Act} (hD : (Region.ready md ops D).all late = true) (hn : (Region.ready md ops D).isEmpty = false) (h : ∀ w, C w → wpAny P md ops R (f + 1) D a w) : ordL P md ops C late R (f + 1) D a :=
  ⟨fun h0 => (by rw [h0] at hn; cases hn), fun i hi => ⟨fun _ w hw => (h w hw).2 i hi, fun hl => by have := List.all_eq_true.1 hD i hi; rw [hl] at this; cases this⟩⟩
def lateWait (md : Region.Mode) (ops : Array Oper) (late : Nat → Bool) (i : Nat) : Bool :=
  (List.range ops.size).all fun t => !late t || Region.waitsFor md ops t i
theorem lateWait_not {i t : Nat} {D : Array Bool} (hw : lateWait md ops late i = true) (hun : D.getD i true = false) (ht : late t = true) : t ∉ Region.ready md ops D := by
  intro hr
  obtain ⟨_, ot, hot, hall⟩ := mem_ready.1 hr
  have h1 := List.all_eq_true.1 hw t (List.mem_range.2 (Array.getElem?_eq_some_iff.1 hot).1)
  rw [ht, Bool.not_true, Bool.false_or] at h1
  obtain ⟨o', ho', e, he, hb, hon⟩ := Region.waitsFor_spec h1
  have : o' = ot := Option.some.inj (ho'.symm.trans hot)
  subst this
  have h2 := hall e he hb
  rw [hon, getD_both hun] at h2
  cases h2
theorem ordL_first {i : Nat} {oi : Oper} {v : Value} (hi : ops[i]? = some oi) (hsel : Region.noSelect ops = true) (hl : late i = false)
    (hR : ∀ c a w, R (.panic c) (a.put oi.dst v) w → R (.panic c) a w) :
    ∀ (f : Nat) (D : Array Bool) (a : Act),
      (∀ j oj, ops[j]? = some oj → j ≠ i → D.getD j true = false → (∀ e ∈ oj.after, Region.binds md e = true → e.on ≠ i) → oi.apart ops oj = true) →
      i ∈ Region.ready md ops D → YieldsIn P ops C oi v a → (lateWait md ops late i = true ∨ Yields P ops oi v a) →
      ordL P md ops C late R f (D.setIfInBounds i true) (a.put oi.dst v) → ordL P md ops C late R (f + 1) D a := by
  have hs := Region.noSelect_spec hsel
  intro f
  induction f with
  | zero =>
    intro D a _ hr hy hY H
    refine ⟨fun h => absurd h (List.ne_nil_of_mem hr), fun j hj => ?_⟩
    by_cases e : j = i
    · subst e
      exact ⟨fun h => (by rw [hl] at h; cases h), fun _ => hy.qOp hi H⟩
    · have := ready_mono hj e
      rw [H.1] at this
      cases this
  | succ f ih =>
    intro D a hfree hr hy hY H
    have hun := (mem_ready.1 hr).1
    refine ⟨fun h => absurd h (List.ne_nil_of_mem hr), fun j hj => ?_⟩
    by_cases e : j = i
    · subst e
      exact ⟨fun h => (by rw [hl] at h; cases h), fun _ => hy.qOp hi H⟩
    · obtain ⟨hjun, oj, hoj, hall⟩ := mem_ready.1 hj
      have hno : ∀ x ∈ oj.after, Region.binds md x = true → x.on ≠ i := fun x hx hb heq => by
        have h1 := hall x hx hb
        rw [heq, getD_both hun] at h1
        cases h1
      have hap := hfree j oj hoj e hjun hno
      have hfree' : ∀ k ok, ops[k]? = some ok → k ≠ i → (D.setIfInBounds j true).getD k true = false →
          (∀ x ∈ ok.after, Region.binds md x = true → x.on ≠ i) → oi.apart ops ok = true := fun k ok hk hki hku hkn => by
        refine hfree k ok hk hki ?_ hkn
        by_cases hjk : j = k
        · subst hjk; exact hjun
        · rwa [getD_set_ne true hjk] at hku
      refine ⟨fun hlj w hw => ?_, fun hlj => ?_⟩
      · rcases hY with hY | hY
        · exact absurd hj (lateWait_not hY hun hlj)
        · have h2 := wpOp_put hoj hap (fun cs b => hs i oi cs b hi) (fun cs b => hs j oj cs b hoj) hR hY ((H.2 j (ready_mono hj e)).1 hlj w hw)
          refine wpOp_mono (fun a' w' h3 => ?_) h2
          rw [Array.setIfInBounds_comm _ _ (Ne.symm e)] at h3
          exact wpAny_first hi hs hR f _ a' w' hfree' (ready_mono hr (Ne.symm e)) h3.1 h3.2
      · have h2 := qOp_put hoj hap (fun cs b => hs i oi cs b hi) (fun cs b => hs j oj cs b hoj) hy ((H.2 j (ready_mono hj e)).2 hlj)
        obtain ⟨u, hyj, h3, h4⟩ := yieldsIn_of_qOp hoj h2
        refine hyj.qOp hoj ?_
        rw [Array.setIfInBounds_comm _ _ (Ne.symm e)] at h4
        refine ih _ _ hfree' (ready_mono hr (Ne.symm e)) h3 ?_ h4
        obtain ⟨_, _, h5⟩ := Oper.apart_spec hap
        exact hY.imp id fun hY => hY.of_same (execOp_put oi (fun cs b => hs i oi cs b hi) a oj.dst u h5) (wanted_put oi a oj.dst u h5)
/-- a load: each late operation waits for it -/
theorem ordL_load {i : Nat} {oi : Oper} {v : Value} {f : Nat} {D : Array Bool} {a : Act} (hi : ops[i]? = some oi) (hsel : Region.noSelect ops = true) (hl : late i = false) (hw : lateWait md ops late i = true)
    (hf : Region.free md ops D i = true) (hr : (Region.ready md ops D).contains i = true) (hR : ∀ c a w, R (.panic c) (a.put oi.dst v) w → R (.panic c) a w)
    (hg : Region.wanted oi (yielded ops a.tmps) = true) (hC : ∀ w, C w → (execOp a.eval oi).run P w = .ok (.value v) w)
    (h : ordL P md ops C late R f (D.setIfInBounds i true) (a.put oi.dst v)) : ordL P md ops C late R (f + 1) D a :=
  ordL_first hi hsel hl hR f D a (Region.free_spec hi hf) (by simpa using hr) (.inl ⟨hg, fun w hw => by unfold Oper.quietAt; rw [hC w hw]; exact ⟨rfl, rfl⟩⟩) (.inl hw) h
/-- what only reckons -/
theorem ordL_pure {i : Nat} {oi : Oper} {v : Value} {f : Nat} {D : Array Bool} {a : Act} (hi : ops[i]? = some oi) (hsel : Region.noSelect ops = true) (hl : late i = false)
    (hf : Region.free md ops D i = true) (hr : (Region.ready md ops D).contains i = true) (hR : ∀ c a w, R (.panic c) (a.put oi.dst v) w → R (.panic c) a w)
    (hg : Region.wanted oi (yielded ops a.tmps) = true) (hC : ∀ w, (execOp a.eval oi).run P w = .ok (.value v) w)
    (h : ordL P md ops C late R f (D.setIfInBounds i true) (a.put oi.dst v)) : ordL P md ops C late R (f + 1) D a :=
  ordL_first hi hsel hl hR f D a (Region.free_spec hi hf) (by simpa using hr) (.inl ⟨hg, fun w hw => by unfold Oper.quietAt; rw [hC w]; exact ⟨rfl, rfl⟩⟩) (.inr (.inl ⟨hg, hC⟩)) h
/-- a call, that each late operation waits for -/
theorem ordL_call {i : Nat} {oi : Oper} {v : Value} {f : Nat} {D : Array Bool} {a : Act} (hi : ops[i]? = some oi) (hsel : Region.noSelect ops = true) (hl : late i = false) (hw : lateWait md ops late i = true)
    (hf : Region.free md ops D i = true) (hr : (Region.ready md ops D).contains i = true) (hR : ∀ c a w, R (.panic c) (a.put oi.dst v) w → R (.panic c) a w)
    (hg : Region.wanted oi (yielded ops a.tmps) = true) (hC : ∀ w, C w → ∃ (g : FuncId) (args : Array Value), (execOp a.eval oi).run P w = .ok (.enter g args) w ∧ Calls P g args w (fun e w' => e = .returned v ∧ C w'))
    (h : ordL P md ops C late R f (D.setIfInBounds i true) (a.put oi.dst v)) : ordL P md ops C late R (f + 1) D a :=
  ordL_first hi hsel hl hR f D a (Region.free_spec hi hf) (by simpa using hr) (.inl ⟨hg, fun w hw => by
    unfold Oper.quietAt
    obtain ⟨g, args, h1, h2⟩ := hC w hw
    rw [h1]
    exact ⟨rfl, h2⟩⟩) (.inl hw) h
theorem wp_region_ordL {id : Nat} {a : Act} {w : World} (late : Nat → Bool) (C : World → Prop) (hm : P.follows .mixedOrders = true) (hC : C { w with drawn := w.drawn + 1 })
    (h : ordL P .any ops C late R ops.size (Array.replicate ops.size false) a) : (Code.region id ops true).wp P R a w :=
  wp_region_any hm (ordL_any _ _ _ _ hC h)
/-- the rest comes up one behind the other -/
theorem ordL_seq {l : List Oper} {g : Nat} {D : Array Bool} {a : Act} (n : Nat) (hg : g + 1 = l.length - n) (hD : (Region.ready .any l.toArray D).all late = true) (hn : (Region.ready .any l.toArray D).isEmpty = false)
    (hs : Region.seqB .any l.toArray (g + 1) n D = true) (h : ∀ w, C w → wpList P l.toArray R (l.drop n) a w) : ordL P .any l.toArray C late R (g + 1) D a :=
  ordL_tail hD hn fun w hw => by
    have := wpAny_of_seq (md := .any) (Q' := R) (l.drop n) n D a w (fun j => by simp [List.getElem?_drop]) (by rw [List.length_drop, ← hg]; exact hs) (h w hw)
    rwa [List.length_drop, ← hg] at this
end
end SOrdL
section SBlFew
open Go.RowKit
set_option linter.unusedVariables false
set_option linter.unusedSimpArgs false

set_option maxRecDepth 100000 in
set_option maxHeartbeats 2000000 in
theorem few7_cells (x1 x3 x5 : Option Addr) (n1 c1 n2 c2 n3 c3 p1 p2 p3 : Nat) (left epoch seq used : Int) (w : World) (h1 : n1 ≤ c1 ∧ c1 ≤ 9223372036854775807) (h2 : n2 ≤ c2 ∧ c2 ≤ 9223372036854775807) (h3 : n3 ≤ c3 ∧ c3 ≤ 9223372036854775807)
    (e1 : p1 = min n1 300) (e2 : p2 = min n2 60) (e3 : p3 = min n3 250) :
    Calls Tryd.prog 4 #[.agg #[.slice x1 n1 c1, .slice x3 n2 c2, .int .i64 left, .int .i64 epoch, .int .i64 seq, .int .i64 used, .slice x5 n3 c3]] w fun e w' => e = .returned (.agg #[.slice x1 p1 c1, .slice x3 p2 c2, .int .i64 left, .int .i64 epoch, .int .i64 seq, .int .i64 used, .slice x5 p3 c3]) ∧ Below w.heap.size w w' := by
  obtain ⟨h11, h12⟩ := h1
  obtain ⟨h21, h22⟩ := h2
  obtain ⟨h31, h32⟩ := h3
  have i1 : min (n1 : Int) 300 = (p1 : Nat) := by omega
  have i2 : min (n2 : Int) 60 = (p2 : Nat) := by omega
  have i3 : min (n3 : Int) 250 = (p3 : Nat) := by omega
  have j1 : (if (300 : Int) < n1 then (300 : Int) else n1) = (p1 : Nat) := by split <;> omega
  have j2 : (if (60 : Int) < n2 then (60 : Int) else n2) = (p2 : Nat) := by split <;> omega
  have j3 : (if (250 : Int) < n3 then (250 : Int) else n3) = (p3 : Nat) := by split <;> omega
  have k1 : (p1 : Int) ≤ c1 := by omega
  have k2 : (p2 : Int) ≤ c2 := by omega
  have k3 : (p3 : Int) ≤ c3 := by omega
  have q1 : p1 ≤ c1 := by omega
  have q2 : p2 ≤ c2 := by omega
  have q3 : p3 ≤ c3 := by omega
  clear e1 e2 e3
  have b0 := heap_alloc_new w (.cells #[.slice x1 n1 c1, .slice x3 n2 c2, .int .i64 left, .int .i64 epoch, .int .i64 seq, .int .i64 used, .slice x5 n3 c3] 29)
  go_enter Tryd.func4, Tryd.ntmps4
  go_upto_region 1 with fail
  have HX : Hid (∀ u : World, u = (w.alloc (.cells #[.slice x1 n1 c1, .slice x3 n2 c2, .int .i64 left, .int .i64 epoch, .int .i64 seq, .int .i64 used, .slice x5 n3 c3] 29)).alloc (.cells #[.slice none 0 0, .slice none 0 0, .int .i64 0, .int .i64 0, .int .i64 0, .int .i64 0, .slice none 0 0] 29) →
      u.heap[w.heap.size]? = some (.cells #[.slice x1 n1 c1, .slice x3 n2 c2, .int .i64 left, .int .i64 epoch, .int .i64 seq, .int .i64 used, .slice x5 n3 c3] 29 (0, 0)) ∧ u.heap[w.heap.size + 1]? = some (.cells #[.slice none 0 0, .slice none 0 0, .int .i64 0, .int .i64 0, .int .i64 0, .int .i64 0, .slice none 0 0] 29 (0, 0)) ∧ Below w.heap.size w u) := Lib.hid (by
    rintro u rfl
    have e1 := heap_alloc_new (w.alloc (.cells #[.slice x1 n1 c1, .slice x3 n2 c2, .int .i64 left, .int .i64 epoch, .int .i64 seq, .int .i64 used, .slice x5 n3 c3] 29)) (.cells #[.slice none 0 0, .slice none 0 0, .int .i64 0, .int .i64 0, .int .i64 0, .int .i64 0, .slice none 0 0] 29)
    rw [World.size_alloc] at e1
    exact ⟨(heap_alloc_old _ _ (lt_of_block b0)).trans b0, e1, ((Below.refl w.heap.size w).alloc (Nat.le_refl _) _).alloc (by simp) _⟩)
  obtain ⟨u, hW⟩ : ∃ u, (w.alloc (.cells #[.slice x1 n1 c1, .slice x3 n2 c2, .int .i64 left, .int .i64 epoch, .int .i64 seq, .int .i64 used, .slice x5 n3 c3] 29)).alloc (.cells #[.slice none 0 0, .slice none 0 0, .int .i64 0, .int .i64 0, .int .i64 0, .int .i64 0, .slice none 0 0] 29) = u := ⟨_, rfl⟩
  rw [hW]
  obtain ⟨hA, hZ, hb⟩ := HX.out u hW.symm
  clear hW HX b0
  have c0 := keep_at hA 0 rfl
  have c1' := keep_at hA 1 rfl
  have c6 := keep_at hA 6 rfl
  have HA := Lib.hid hA; have HZ := Lib.hid hZ; have HB := Lib.hid hb
  clear hA hZ hb
  refine wp_region_ordL (fun i => decide (29 ≤ i)) (fun w' => ∃ x : KeepT u, w' = x.val) (by kernel_rfl) ⟨⟨_, (Below.refl _ u).drew⟩, rfl⟩ ?_
  refine ordL_pure (i := 0) (v := (.pointer (some ⟨w.heap.size, 0, none⟩))) rfl (by kernel_rfl) (by rfl) (by kernel_rfl) (by kernel_rfl) (fun _ _ _ h => h) (by rfl) (fun w => ?_) ?_
  · go_simp
  try simp only [Act.put, List.setIfInBounds_toArray, List.set_cons_zero, List.set_cons_succ]
  refine ordL_pure (i := 1) (v := (.pointer (some ⟨w.heap.size, 0, none⟩))) rfl (by kernel_rfl) (by rfl) (by kernel_rfl) (by kernel_rfl) (fun _ _ _ h => h) (by rfl) (fun w => ?_) ?_
  · go_simp
  try simp only [Act.put, List.setIfInBounds_toArray, List.set_cons_zero, List.set_cons_succ]
  refine ordL_pure (i := 2) (v := (.pointer (some ⟨w.heap.size, 0, none⟩))) rfl (by kernel_rfl) (by rfl) (by kernel_rfl) (by kernel_rfl) (fun _ _ _ h => h) (by rfl) (fun w => ?_) ?_
  · go_simp
  try simp only [Act.put, List.setIfInBounds_toArray, List.set_cons_zero, List.set_cons_succ]
  refine ordL_load (i := 3) (v := (.slice x1 n1 c1)) rfl (by kernel_rfl) (by rfl) (by kernel_rfl) (by kernel_rfl) (by kernel_rfl) (fun _ _ _ h => h) (by rfl) (fun w hw => ?_) ?_
  · obtain ⟨x, rfl⟩ := hw
    go_simp
  try simp only [Act.put, List.setIfInBounds_toArray, List.set_cons_zero, List.set_cons_succ]
  refine ordL_pure (i := 4) (v := (.pointer (some ⟨w.heap.size, 0, none⟩))) rfl (by kernel_rfl) (by rfl) (by kernel_rfl) (by kernel_rfl) (fun _ _ _ h => h) (by rfl) (fun w => ?_) ?_
  · go_simp
  try simp only [Act.put, List.setIfInBounds_toArray, List.set_cons_zero, List.set_cons_succ]
  refine ordL_pure (i := 5) (v := (.pointer (some ⟨w.heap.size, 0, none⟩))) rfl (by kernel_rfl) (by rfl) (by kernel_rfl) (by kernel_rfl) (fun _ _ _ h => h) (by rfl) (fun w => ?_) ?_
  · go_simp
  try simp only [Act.put, List.setIfInBounds_toArray, List.set_cons_zero, List.set_cons_succ]
  refine ordL_pure (i := 6) (v := (.pointer (some ⟨w.heap.size, 0, none⟩))) rfl (by kernel_rfl) (by rfl) (by kernel_rfl) (by kernel_rfl) (fun _ _ _ h => h) (by rfl) (fun w => ?_) ?_
  · go_simp
  try simp only [Act.put, List.setIfInBounds_toArray, List.set_cons_zero, List.set_cons_succ]
  refine ordL_load (i := 7) (v := (.slice x1 n1 c1)) rfl (by kernel_rfl) (by rfl) (by kernel_rfl) (by kernel_rfl) (by kernel_rfl) (fun _ _ _ h => h) (by rfl) (fun w hw => ?_) ?_
  · obtain ⟨x, rfl⟩ := hw
    go_simp
  try simp only [Act.put, List.setIfInBounds_toArray, List.set_cons_zero, List.set_cons_succ]
  refine ordL_load (i := 8) (v := (.int .i64 (n1 : Nat))) rfl (by kernel_rfl) (by rfl) (by kernel_rfl) (by kernel_rfl) (by kernel_rfl) (fun _ _ _ h => h) (by rfl) (fun w hw => ?_) ?_
  · obtain ⟨x, rfl⟩ := hw
    go_simp
  try simp only [Act.put, List.setIfInBounds_toArray, List.set_cons_zero, List.set_cons_succ]
  refine ordL_load (i := 9) (v := (.int .i64 (p1 : Nat))) rfl (by kernel_rfl) (by rfl) (by kernel_rfl) (by kernel_rfl) (by kernel_rfl) (fun _ _ _ h => h) (by rfl) (fun w hw => ?_) ?_
  · obtain ⟨x, rfl⟩ := hw
    go_simp
  try simp only [Act.put, List.setIfInBounds_toArray, List.set_cons_zero, List.set_cons_succ]
  refine ordL_load (i := 10) (v := (.slice x1 p1 c1)) rfl (by kernel_rfl) (by rfl) (by kernel_rfl) (by kernel_rfl) (by kernel_rfl) (fun _ _ _ h => h) (by rfl) (fun w hw => ?_) ?_
  · obtain ⟨x, rfl⟩ := hw
    go_simp
  try simp only [Act.put, List.setIfInBounds_toArray, List.set_cons_zero, List.set_cons_succ]
  refine ordL_pure (i := 11) (v := (.pointer (some ⟨w.heap.size, 0, none⟩))) rfl (by kernel_rfl) (by rfl) (by kernel_rfl) (by kernel_rfl) (fun _ _ _ h => h) (by rfl) (fun w => ?_) ?_
  · go_simp
  try simp only [Act.put, List.setIfInBounds_toArray, List.set_cons_zero, List.set_cons_succ]
  refine ordL_pure (i := 12) (v := (.pointer (some ⟨w.heap.size, 0, none⟩))) rfl (by kernel_rfl) (by rfl) (by kernel_rfl) (by kernel_rfl) (fun _ _ _ h => h) (by rfl) (fun w => ?_) ?_
  · go_simp
  try simp only [Act.put, List.setIfInBounds_toArray, List.set_cons_zero, List.set_cons_succ]
  refine ordL_pure (i := 13) (v := (.pointer (some ⟨w.heap.size, 1, none⟩))) rfl (by kernel_rfl) (by rfl) (by kernel_rfl) (by kernel_rfl) (fun _ _ _ h => h) (by rfl) (fun w => ?_) ?_
  · go_simp
  try simp only [Act.put, List.setIfInBounds_toArray, List.set_cons_zero, List.set_cons_succ]
  refine ordL_load (i := 14) (v := (.slice x3 n2 c2)) rfl (by kernel_rfl) (by rfl) (by kernel_rfl) (by kernel_rfl) (by kernel_rfl) (fun _ _ _ h => h) (by rfl) (fun w hw => ?_) ?_
  · obtain ⟨x, rfl⟩ := hw
    go_simp
  try simp only [Act.put, List.setIfInBounds_toArray, List.set_cons_zero, List.set_cons_succ]
  refine ordL_pure (i := 15) (v := (.pointer (some ⟨w.heap.size, 0, none⟩))) rfl (by kernel_rfl) (by rfl) (by kernel_rfl) (by kernel_rfl) (fun _ _ _ h => h) (by rfl) (fun w => ?_) ?_
  · go_simp
  try simp only [Act.put, List.setIfInBounds_toArray, List.set_cons_zero, List.set_cons_succ]
  refine ordL_pure (i := 16) (v := (.pointer (some ⟨w.heap.size, 0, none⟩))) rfl (by kernel_rfl) (by rfl) (by kernel_rfl) (by kernel_rfl) (fun _ _ _ h => h) (by rfl) (fun w => ?_) ?_
  · go_simp
  try simp only [Act.put, List.setIfInBounds_toArray, List.set_cons_zero, List.set_cons_succ]
  refine ordL_pure (i := 17) (v := (.pointer (some ⟨w.heap.size, 1, none⟩))) rfl (by kernel_rfl) (by rfl) (by kernel_rfl) (by kernel_rfl) (fun _ _ _ h => h) (by rfl) (fun w => ?_) ?_
  · go_simp
  try simp only [Act.put, List.setIfInBounds_toArray, List.set_cons_zero, List.set_cons_succ]
  refine ordL_load (i := 18) (v := (.slice x3 n2 c2)) rfl (by kernel_rfl) (by rfl) (by kernel_rfl) (by kernel_rfl) (by kernel_rfl) (fun _ _ _ h => h) (by rfl) (fun w hw => ?_) ?_
  · obtain ⟨x, rfl⟩ := hw
    go_simp
  try simp only [Act.put, List.setIfInBounds_toArray, List.set_cons_zero, List.set_cons_succ]
  refine ordL_pure (i := 19) (v := (.int .i64 (n2 : Nat))) rfl (by kernel_rfl) (by rfl) (by kernel_rfl) (by kernel_rfl) (fun _ _ _ h => h) (by rfl) (fun w => ?_) ?_
  · go_simp
  try simp only [Act.put, List.setIfInBounds_toArray, List.set_cons_zero, List.set_cons_succ]
  refine ordL_pure (i := 20) (v := (.int .i64 (p2 : Nat))) rfl (by kernel_rfl) (by rfl) (by kernel_rfl) (by kernel_rfl) (fun _ _ _ h => h) (by rfl) (fun w => ?_) ?_
  · go_simp
  try simp only [Act.put, List.setIfInBounds_toArray, List.set_cons_zero, List.set_cons_succ]
  refine ordL_pure (i := 21) (v := (.slice x3 p2 c2)) rfl (by kernel_rfl) (by rfl) (by kernel_rfl) (by kernel_rfl) (fun _ _ _ h => h) (by rfl) (fun w => ?_) ?_
  · go_simp
  try simp only [Act.put, List.setIfInBounds_toArray, List.set_cons_zero, List.set_cons_succ]
  refine ordL_pure (i := 22) (v := (.pointer (some ⟨w.heap.size, 6, none⟩))) rfl (by kernel_rfl) (by rfl) (by kernel_rfl) (by kernel_rfl) (fun _ _ _ h => h) (by rfl) (fun w => ?_) ?_
  · go_simp
  try simp only [Act.put, List.setIfInBounds_toArray, List.set_cons_zero, List.set_cons_succ]
  refine ordL_load (i := 23) (v := (.slice x5 n3 c3)) rfl (by kernel_rfl) (by rfl) (by kernel_rfl) (by kernel_rfl) (by kernel_rfl) (fun _ _ _ h => h) (by rfl) (fun w hw => ?_) ?_
  · obtain ⟨x, rfl⟩ := hw
    go_simp
  try simp only [Act.put, List.setIfInBounds_toArray, List.set_cons_zero, List.set_cons_succ]
  refine ordL_pure (i := 24) (v := (.pointer (some ⟨w.heap.size, 6, none⟩))) rfl (by kernel_rfl) (by rfl) (by kernel_rfl) (by kernel_rfl) (fun _ _ _ h => h) (by rfl) (fun w => ?_) ?_
  · go_simp
  try simp only [Act.put, List.setIfInBounds_toArray, List.set_cons_zero, List.set_cons_succ]
  refine ordL_load (i := 25) (v := (.slice x5 n3 c3)) rfl (by kernel_rfl) (by rfl) (by kernel_rfl) (by kernel_rfl) (by kernel_rfl) (fun _ _ _ h => h) (by rfl) (fun w hw => ?_) ?_
  · obtain ⟨x, rfl⟩ := hw
    go_simp
  try simp only [Act.put, List.setIfInBounds_toArray, List.set_cons_zero, List.set_cons_succ]
  refine ordL_pure (i := 26) (v := (.int .i64 (n3 : Nat))) rfl (by kernel_rfl) (by rfl) (by kernel_rfl) (by kernel_rfl) (fun _ _ _ h => h) (by rfl) (fun w => ?_) ?_
  · go_simp
  try simp only [Act.put, List.setIfInBounds_toArray, List.set_cons_zero, List.set_cons_succ]
  refine ordL_pure (i := 27) (v := (.int .i64 (p3 : Nat))) rfl (by kernel_rfl) (by rfl) (by kernel_rfl) (by kernel_rfl) (fun _ _ _ h => h) (by rfl) (fun w => ?_) ?_
  · go_simp
  try simp only [Act.put, List.setIfInBounds_toArray, List.set_cons_zero, List.set_cons_succ]
  refine ordL_pure (i := 28) (v := (.slice x5 p3 c3)) rfl (by kernel_rfl) (by rfl) (by kernel_rfl) (by kernel_rfl) (fun _ _ _ h => h) (by rfl) (fun w => ?_) ?_
  · go_simp
  try simp only [Act.put, List.setIfInBounds_toArray, List.set_cons_zero, List.set_cons_succ]
  refine ordL_seq 29 (by kernel_rfl) (by kernel_rfl) (by kernel_rfl) (by kernel_rfl) ?_
  intro y hy
  have hAx := (show y.heap[w.heap.size]? = _ from by obtain ⟨x, rfl⟩ := hy; exact (x.below.block _ (lt_of_block HA.out)).trans HA.out)
  have hZx := (show y.heap[w.heap.size + 1]? = _ from by obtain ⟨x, rfl⟩ := hy; exact (x.below.block _ (lt_of_block HZ.out)).trans HZ.out)
  have HBx := Lib.hid (show Below w.heap.size w y from by obtain ⟨x, rfl⟩ := hy; exact HB.out.trans (x.below.mono HB.out.size))
  clear hy c0 c1' c6 HA HZ HB
  simp only [List.drop_succ_cons, List.drop_zero]
  have f1 := block_frozen hAx 0
  have e1 := below_cell (Below.refl _ _) hAx 0 rfl
  have b1 := block_set hAx 0 (.slice x1 p1 c1)
  have f2 := block_frozen b1 1
  have e2 := below_cell (Below.refl _ _) b1 1 rfl
  have b2 := block_set b1 1 (.slice x3 p2 c2)
  have f3 := block_frozen b2 6
  have e3 := below_cell (Below.refl _ _) b2 6 rfl
  have b3 := block_set b2 6 (.slice x5 p3 c3)
  have hZ3 : (((y.setCell ⟨w.heap.size, 0, none⟩ (.slice x1 p1 c1)).setCell ⟨w.heap.size, 1, none⟩ (.slice x3 p2 c2)).setCell ⟨w.heap.size, 6, none⟩ (.slice x5 p3 c3)).heap[w.heap.size + 1]? = some (.cells #[.slice none 0 0, .slice none 0 0, .int .i64 0, .int .i64 0, .int .i64 0, .int .i64 0, .slice none 0 0] 29 (0, 0)) := by
    rw [Below.heap_setCell _ _ _ _ (by show w.heap.size + 1 ≠ w.heap.size; omega), Below.heap_setCell _ _ _ _ (by show w.heap.size + 1 ≠ w.heap.size; omega), Below.heap_setCell _ _ _ _ (by show w.heap.size + 1 ≠ w.heap.size; omega)]
    exact hZx
  have hB3 := (((HBx.out.setCell (p := ⟨w.heap.size, 0, none⟩) (Nat.le_refl _) (.slice x1 p1 c1)).setCell (p := ⟨w.heap.size, 1, none⟩) (Nat.le_refl _) (.slice x3 p2 c2)).setCell (p := ⟨w.heap.size, 6, none⟩) (Nat.le_refl _) (.slice x5 p3 c3))
  go_upto_region 2 with fail
  obtain ⟨z, hz⟩ : ∃ z, (((y.setCell ⟨w.heap.size, 0, none⟩ (.slice x1 p1 c1)).setCell ⟨w.heap.size, 1, none⟩ (.slice x3 p2 c2)).setCell ⟨w.heap.size, 6, none⟩ (.slice x5 p3 c3)) = z := ⟨_, rfl⟩
  rw [hz] at b3 hZ3 hB3 ⊢
  clear hz f1 e1 b1 f2 e2 b2 f3 e3 hAx hZx HBx
  have d0 := below_cell (Below.refl _ _) b3 0 rfl
  have d1 := below_cell (Below.refl _ _) b3 1 rfl
  have d2 := below_cell (Below.refl _ _) b3 2 rfl
  have d3 := below_cell (Below.refl _ _) b3 3 rfl
  have d4 := below_cell (Below.refl _ _) b3 4 rfl
  have d5 := below_cell (Below.refl _ _) b3 5 rfl
  have d6 := below_cell (Below.refl _ _) b3 6 rfl
  have HS := Lib.hid (setRow_heap z (w.heap.size + 1) _ #[.slice x1 p1 c1, .slice x3 p2 c2, .int .i64 left, .int .i64 epoch, .int .i64 seq, .int .i64 used, .slice x5 p3 c3] _ _ hZ3)
  have HF := Lib.hid (below_setRow hB3 (show w.heap.size ≤ w.heap.size + 1 by omega) #[.slice x1 p1 c1, .slice x3 p2 c2, .int .i64 left, .int .i64 epoch, .int .i64 seq, .int .i64 used, .slice x5 p3 c3])
  clear b3 hB3
  go_wp2_with (first | (refine wpList_store_row rfl 29 _ _ rfl (w.heap.size + 1) #[.slice x1 p1 c1, .slice x3 p2 c2, .int .i64 left, .int .i64 epoch, .int .i64 seq, .int .i64 used, .slice x5 p3 c3] rfl rfl 29 _ hZ3 (by kernel_rfl) rfl (by simp [Value.oneCell']) ?_))
  refine bodyPost_ret (results_cell_row rfl _ _ (w.heap.size + 1) _ _ _ _ rfl HS.out Tryd.underlying29 rfl (by kernel_rfl)) rfl ⟨rfl, HF.out⟩
end SBlFew
section SLgFew
open Go.RowKit
set_option linter.unusedVariables false

def fewLg (l : Lg) : Lg := ⟨l.secs.take (min l.secs.length 300), l.pend.take (min l.pend.length 60), l.left, l.epoch, l.seq, l.used, l.dirty.take (min l.dirty.length 250)⟩
theorem few_pend (l : Lg) : (fewLg l).pend.length ≤ 60 := by
  show (l.pend.take _).length ≤ _
  rw [List.length_take]; omega
theorem few_log {w : World} {x1 x3 x5 : Option Addr} {c1 c2 c3 : Nat} {l : Lg} (h : IsLog w (.agg #[.slice x1 l.secs.length c1, .slice x3 l.pend.length c2, .int .i64 l.left, .int .i64 l.epoch, .int .i64 l.seq, .int .i64 l.used, .slice x5 l.dirty.length c3]) l)
    (i1 : IsStrs w (.slice x1 l.secs.length c1) l.secs) (i2 : IsWrts w (.slice x3 l.pend.length c2) l.pend) (i3 : IsWrts w (.slice x5 l.dirty.length c3) l.dirty) :
    IsLog w (.agg #[.slice x1 (min l.secs.length 300) c1, .slice x3 (min l.pend.length 60) c2, .int .i64 l.left, .int .i64 l.epoch, .int .i64 l.seq, .int .i64 l.used, .slice x5 (min l.dirty.length 250) c3]) (fewLg l) := by
  obtain ⟨a, m, c, e1, _, _, _, t1⟩ := i1.take
  injection e1 with e1 e2 e3
  subst e1 e2 e3
  obtain ⟨a, m, c, e1, _, _, _, t2⟩ := i2.take
  injection e1 with e1 e2 e3
  subst e1 e2 e3
  obtain ⟨a, m, c, e1, _, _, _, t3⟩ := i3.take
  injection e1 with e1 e2 e3
  subst e1 e2 e3
  exact ⟨h.1, _, _, _, rfl, t1 _ (Nat.min_le_left _ _), t2 _ (Nat.min_le_left _ _), t3 _ (Nat.min_le_left _ _)⟩
end SLgFew
section SRoomI
open Go.RowKit
set_option linter.unusedVariables false

set_option maxRecDepth 100000 in
set_option maxHeartbeats 1000000 in
theorem refSameInts_any (va vb : Value) (la lb : List Nat) (w : World) (ha : IsNats w va la) (hb : IsNats w vb lb) :
    Calls Tryd.prog 8 #[va, vb] w fun e w' => e = .returned (.bool (decide (la = lb))) ∧ Below w.heap.size w w' := by
  obtain ⟨a, len, cap, rfl, hlen, hc1, hc2, hat⟩ := ha
  obtain ⟨a', len', cap', rfl, hlen', hc1', hc2', hat'⟩ := hb
  have hlI : (len : Int) ≤ 9223372036854775807 := by omega
  have hlI' : (len' : Int) ≤ 9223372036854775807 := by omega
  by_cases hl : len = len'
  · subst hl
    have HX := Lib.hid (fun (h : la.take len = lb.take len) => show la = lb by rwa [List.take_of_length_le (by omega), List.take_of_length_le (by omega)] at h)
    have HA := Lib.hid hat; have HA' := Lib.hid hat'; have HL := Lib.hid hlen; have HL' := Lib.hid hlen'
    clear hat hat' hlen hlen'
    go_enter Tryd.func8, Tryd.ntmps8
    go_wp2_with fail
    go_loopw [13] (fun c wr => ∃ k : Nat, k ≤ len ∧ c = .int .i64 k ∧ la.take k = lb.take k ∧ Below w.heap.size w wr) (fun c _ => len - (intOf c).toNat)
    case atStart => exact ⟨0, by omega, rfl, rfl, Below.refl _ _⟩
    case round =>
      obtain ⟨k, hk, rfl, heq, hwr⟩ := hrel
      have HQ := Lib.hid heq
      clear heq
      by_cases hlt : k < len
      · obtain ⟨b, off, rfl, hbl, hat⟩ := HA.out.resolve_left (by omega)
        obtain ⟨b', off', rfl, hbl', hat'⟩ := HA'.out.resolve_left (by omega)
        have hkl : k < la.length := by have := HL.out; omega
        have hkl' : k < lb.length := by have := HL'.out; omega
        have hi := (hwr.cell (p := ⟨b, off + k, none⟩) hbl).trans (hat k hkl)
        have hi' := (hwr.cell (p := ⟨b', off' + k, none⟩) hbl').trans (hat' k hkl')
        clear hat hat'
        have hk0 : (0 : Int) ≤ k := by omega
        have hk1 : (k : Int) < len := by omega
        have hsn : la[k] = lb[k] → la.take (k + 1) = lb.take (k + 1) := fun h => by
          rw [← List.take_append_getElem hkl, ← List.take_append_getElem hkl', HQ.out, h]
        have hno : la[k] ≠ lb[k] → decide (la = lb) = false := fun h => decide_eq_false (fun e => h (by subst e; rfl))
        have HS := Lib.hid hsn; have HNO := Lib.hid hno
        clear hsn hno
        generalize la[k] = x at *
        generalize lb[k] = y at *
        simp only [natV] at hi hi'
        by_cases hxy : x = y
        · subst hxy
          have hs := HS.out rfl
          have HSS := Lib.hid hs
          clear hs HNO
          go_wp2_with fail
          go_quiet (fail)
          go_wp2_with fail
          go_roundw
          case rel => exact ⟨k + 1, by omega, by go_num, HSS.out, by first | exact hwr | exact belowN hwr _⟩
          case measure => simp [intOf]; omega
        · have hd := HNO.out hxy
          have HD := Lib.hid hd
          have hne : ((x : Int) != (y : Int)) = true := by rw [bne_iff_ne]; omega
          clear hd hxy HS HNO
          go_wp2_with fail
          go_quiet (fail)
          go_wp2_with fail
          go_ret
          exact ⟨by rw [HD.out]; rfl, by first | exact hwr | exact belowN hwr _⟩
      · obtain rfl : k = len := by omega
        have hd : decide (la = lb) = true := decide_eq_true (HX.out HQ.out)
        have HD := Lib.hid hd
        clear hd
        go_wp2_with fail
        go_ret
        exact ⟨by rw [HD.out]; rfl, hwr⟩
  · have hd : decide (la = lb) = false := decide_eq_false (fun h => hl (by rw [h] at hlen; omega))
    have hlb : ((len : Int) != len') = true := by rw [bne_iff_ne]; omega
    have HD := Lib.hid hd
    clear hd hat hat' hlen hlen' hl
    go_enter Tryd.func8, Tryd.ntmps8
    go_wp2_with fail
    go_ret
    exact ⟨by rw [HD.out]; rfl, Below.refl _ _⟩
end SRoomI
section SLog
open Go.ChangeShapes Go.WideShapes Go.ChangeAt Go.RowKit Go.Joins Go.Deep
set_option linter.unusedVariables false

set_option maxRecDepth 100000 in
theorem openLog {H : Type} {enc : TypeId × Value → H} {W : World} {base : Nat} {v : Value} {d : DataW H} {p : List MemPlace}
    (hok : Value.okWide Tryd.prog W .any base 29 v) (h : DataW.Trod enc Tryd.prog W 0 (fun _ => true) true 29 v d p) : ∃ x : Lg, IsLog W v x := by
  obtain ⟨cs, rfl, hsz⟩ := okWide_struct Tryd.underlying29 hok
  obtain ⟨fuel, hf⟩ := h
  obtain ⟨xs, n, _, _, hl, hlen, hf⟩ := DataW.trod_struct Tryd.underlying29 hf
  have hC : Tryd.prog.cellsOf 29 = 7 := by kernel_rfl
  rw [hC] at hl
  have h0 : Tryd.prog.cellsOf 27 = 3 := by kernel_rfl
  have h1 : Tryd.prog.cellsOf 25 = 2 := by kernel_rfl
  have h2 : Tryd.prog.cellsOf 3 = 1 := by kernel_rfl
  have g1 : Tryd.prog.cellsOf 22 = 1 := by kernel_rfl
  have g2 : Tryd.prog.cellsOf 23 = 1 := by kernel_rfl
  obtain ⟨cl⟩ := cs
  simp only [Value.cells] at hl hf
  match xs, hlen, cl, hl with
  | [x0, x1, x2, x3, x4], _, [c0, c1, c2, c3, c4, c5, c6], _ =>
    have k0 := hf 0 _ rfl
    have k1 := hf 1 _ rfl
    have k2 := hf 2 _ rfl
    have k3 := hf 3 _ rfl
    have k4 := hf 4 _ rfl
    simp [h0, h2, g2] at k0 k1 k2 k3 k4
    obtain ⟨y0, y1, n', _, _, q0, q1⟩ := trod_struct2 Tryd.underlying27 k0
    simp [h1, h2] at q0 q1
    obtain ⟨z0, z1, n2, _, _, r0, r1⟩ := trod_struct2 Tryd.underlying25 q0
    simp [g1, g2] at r0 r1
    obtain ⟨hv0, d0, p0, t0⟩ := slice_of_trod Tryd.underlying22 r0
    obtain ⟨hv1, d1, p1, t1⟩ := slice_of_trod Tryd.underlying23 r1
    obtain ⟨hv2, d2, p2, t2⟩ := slice_of_trod Tryd.underlying23 k4
    obtain ⟨l0, i0⟩ := openStrsS hv0 t0
    obtain ⟨l1, i1⟩ := openWrts hv1 t1
    obtain ⟨l2, i2⟩ := openWrts hv2 t2
    obtain ⟨a0, e0, _, w0⟩ := DataW.trod_int Tryd.underlying3 q1
    obtain ⟨a1, e1, _, w1⟩ := DataW.trod_int Tryd.underlying3 k1
    obtain ⟨a2, e2, _, w2⟩ := DataW.trod_int Tryd.underlying3 k2
    obtain ⟨a3, e3, _, w3⟩ := DataW.trod_int Tryd.underlying3 k3
    simp at e0 e1 e2 e3
    subst e0 e1 e2 e3
    exact ⟨⟨l0, l1, a0, a1, a2, a3, l2⟩, ⟨wf_i64 w0, wf_i64 w1, wf_i64 w2, wf_i64 w3⟩, _, _, _, rfl, i0, i1, i2⟩
end SLog
end Go.Proofs.YtimiooiaohfelaaDoor
