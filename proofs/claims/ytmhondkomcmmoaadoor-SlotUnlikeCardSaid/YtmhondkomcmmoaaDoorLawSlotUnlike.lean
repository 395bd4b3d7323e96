/- The walk of SlotUnlike. -/
import Derived.Test.YtmhondkomcmmoaaDoorSlotA
import Derived.Outline
namespace Go.Proofs.YtmhondkomcmmoaaDoor.lawSlotUnlike
open Go.RowKit
set_option linter.unusedVariables false

theorem two_set3 {w : World} {A B : Nat} {x0 x1 x2 y0 y1 y2 : Value} {t t' : TypeId} (hne : A ≠ B) (hA : w.heap[A]? = some (.cells #[x0, x1, x2] t (0, 0))) (hB : w.heap[B]? = some (.cells #[y0, y1, y2] t' (0, 0))) (a b c d e f : Value) :
    ((((((w.setCell ⟨A, 0, none⟩ a).setCell ⟨A, 1, none⟩ b).setCell ⟨A, 2, none⟩ c).setCell ⟨B, 0, none⟩ d).setCell ⟨B, 1, none⟩ e).setCell ⟨B, 2, none⟩ f).heap[A]? = some (.cells #[a, b, c] t (0, 0)) ∧
    ((((((w.setCell ⟨A, 0, none⟩ a).setCell ⟨A, 1, none⟩ b).setCell ⟨A, 2, none⟩ c).setCell ⟨B, 0, none⟩ d).setCell ⟨B, 1, none⟩ e).setCell ⟨B, 2, none⟩ f).heap[B]? = some (.cells #[d, e, f] t' (0, 0)) := by
  have h1 := block_set (block_set (block_set hA 0 a) 1 b) 2 c
  have k1 := (((Below.heap_setCell ((w.setCell ⟨A, 0, none⟩ a).setCell ⟨A, 1, none⟩ b) ⟨A, 2, none⟩ c B hne.symm).trans ((Below.heap_setCell (w.setCell ⟨A, 0, none⟩ a) ⟨A, 1, none⟩ b B hne.symm).trans (Below.heap_setCell w ⟨A, 0, none⟩ a B hne.symm)))).trans hB
  exact ⟨((Below.heap_setCell _ ⟨B, 2, none⟩ f A hne).trans ((Below.heap_setCell _ ⟨B, 1, none⟩ e A hne).trans (Below.heap_setCell _ ⟨B, 0, none⟩ d A hne))).trans h1, block_set (block_set (block_set k1 0 d) 1 e) 2 f⟩
theorem two_set3_below {w w0 : World} {b0 A B : Nat} (h : Below b0 w0 w) (hA : b0 ≤ A) (hB : b0 ≤ B) (a b c d e f : Value) :
    Below b0 w0 ((((((w.setCell ⟨A, 0, none⟩ a).setCell ⟨A, 1, none⟩ b).setCell ⟨A, 2, none⟩ c).setCell ⟨B, 0, none⟩ d).setCell ⟨B, 1, none⟩ e).setCell ⟨B, 2, none⟩ f) :=
  (((((h.setCell (p := ⟨A, 0, none⟩) hA a).setCell (p := ⟨A, 1, none⟩) hA b).setCell (p := ⟨A, 2, none⟩) hA c).setCell (p := ⟨B, 0, none⟩) hB d).setCell (p := ⟨B, 1, none⟩) hB e).setCell (p := ⟨B, 2, none⟩) hB f
theorem bytes_inj (x y : Hd) (hx : x.ok = true) (hy : y.ok = true) (h : x.bytes = y.bytes) : x = y := by
  have e1 := headOf_lay x.epoch x.seq x.tgt hx
  have e2 := headOf_lay y.epoch y.seq y.tgt hy
  have h' : layS (headL x.epoch x.seq x.tgt) = layS (headL y.epoch y.seq y.tgt) := h
  rw [h'] at e1
  exact e1.symm.trans e2
theorem com_inj (n s n' s' : Int) (h1 : comOk n s) (h2 : comOk n' s') (h : layS (commitL n s) = layS (commitL n' s')) : n = n' ∧ s = s' := by
  obtain ⟨a1, a2, _⟩ := commit_back n s h1
  obtain ⟨b1, b2, _⟩ := commit_back n' s' h2
  rw [h] at a1 a2
  exact ⟨a1.symm.trans b1, a2.symm.trans b2⟩
theorem toList_iff (x y : ByteArray) : x.toList = y.toList ↔ x = y := ⟨fun h => ByteArray.ext (Array.toList_inj.1 (by rwa [ByteArray.toList_eq, ByteArray.toList_eq] at h)), fun h => by rw [h]⟩
set_option maxRecDepth 100000 in
set_option maxHeartbeats 2000000 in
theorem walk (v0 : Value) (h : Hd) (v1 : Value) (k : Hd) (ep sq : Int) (w : World) (w0 : IsHd w v0 h) (w1 : IsHd w v1 k) (we : (Lit.int .i64 ep).wf = true) (wsq : (Lit.int .i64 sq).wf = true) :
    Calls Tryd.prog 6 #[v0, v1, .int .i64 ep, .int .i64 sq] w fun e w' => e = .returned (.bool true) ∧ Below w.heap.size w w' := by
  obtain ⟨E, S, L⟩ := h
  obtain ⟨tv, rfl, hr⟩ := w0
  obtain ⟨a, len, cap, rfl, hl, hc1, hc2, hts⟩ := hr.take
  obtain ⟨E', S', L'⟩ := k
  obtain ⟨tv', rfl, hr'⟩ := w1
  obtain ⟨a', len', cap', rfl, hl', hc1', hc2', hts'⟩ := hr'.take
  have hL : IsHd w (.agg #[.int .i64 E, .int .i64 S, .slice a (min len 60) cap]) ⟨E, S, L.take (min len 60)⟩ := ⟨_, rfl, hts _ (Nat.min_le_left _ _)⟩
  have hL' : IsHd w (.agg #[.int .i64 E', .int .i64 S', .slice a' (min len' 60) cap']) ⟨E', S', L'.take (min len' 60)⟩ := ⟨_, rfl, hts' _ (Nat.min_le_left _ _)⟩
  have HFEW := Lib.hid (fun u => slotFew_any E S a len cap u hc1 hc2)
  have HFEW' := Lib.hid (fun u => slotFew_any E' S' a' len' cap' u hc1' hc2')
  generalize L.take (min len 60) = M at *
  generalize min len 60 = m at *
  generalize L'.take (min len' 60) = M' at *
  generalize min len' 60 = m' at *
  have HH := Lib.hid hL
  have HH' := Lib.hid hL'
  have hw2 : Below w.heap.size w ((w.alloc (.cells #[.int .i64 E, .int .i64 S, .slice a len cap] 24)).alloc (.cells #[.int .i64 E', .int .i64 S', .slice a' len' cap'] 24)) := ((Below.refl _ w).alloc (Nat.le_refl _) _).alloc (by simp) _
  have hA : ((w.alloc (.cells #[.int .i64 E, .int .i64 S, .slice a len cap] 24)).alloc (.cells #[.int .i64 E', .int .i64 S', .slice a' len' cap'] 24)).heap[w.heap.size]? = some (.cells #[.int .i64 E, .int .i64 S, .slice a len cap] 24 (0, 0)) := (Below.heap_alloc _ _ _ (by simp)).trans (heap_alloc_new w _)
  have hB : ((w.alloc (.cells #[.int .i64 E, .int .i64 S, .slice a len cap] 24)).alloc (.cells #[.int .i64 E', .int .i64 S', .slice a' len' cap'] 24)).heap[w.heap.size + 1]? = some (.cells #[.int .i64 E', .int .i64 S', .slice a' len' cap'] 24 (0, 0)) := by
    have := heap_alloc_new (w.alloc (.cells #[.int .i64 E, .int .i64 S, .slice a len cap] 24)) (.cells #[.int .i64 E', .int .i64 S', .slice a' len' cap'] 24)
    rwa [World.size_alloc] at this
  clear hr hts hl hc1 hc2 hL we wsq hr' hts' hl' hc1' hc2' hL'
  try dsimp only
  go_enter Tryd.func6, Tryd.ntmps6
  go_upto_region 1 with fail
  obtain ⟨w2, hW⟩ : ∃ w2, (w.alloc (.cells #[.int .i64 E, .int .i64 S, .slice a len cap] 24)).alloc (.cells #[.int .i64 E', .int .i64 S', .slice a' len' cap'] 24) = w2 := ⟨_, rfl⟩
  rw [hW] at hA hB hw2 ⊢
  have HA := Lib.hid hA; have HB := Lib.hid hB
  have x0 := below_cell (Below.refl _ w2) hA 0 rfl
  have x1 := below_cell (Below.refl _ w2) hA 1 rfl
  have x2 := below_cell (Below.refl _ w2) hA 2 rfl
  have y0 := below_cell (Below.refl _ w2) hB 0 rfl
  have y1 := below_cell (Below.refl _ w2) hB 1 rfl
  have y2 := below_cell (Below.refl _ w2) hB 2 rfl
  have hlB := (Array.getElem?_eq_some_iff.1 hB).1
  clear hW hA hB
  go_cut [] (fun wx => wx.heap[w.heap.size]? = some (.cells #[.int .i64 E, .int .i64 S, .slice a m cap] 24 (0, 0)) ∧ wx.heap[w.heap.size + 1]? = some (.cells #[.int .i64 E', .int .i64 S', .slice a' m' cap'] 24 (0, 0)) ∧ Below w.heap.size w wx)
  case first =>
    go_region_with (first
      | (go_at_call_of 7 (Value.agg #[.int .i64 E, .int .i64 S, .slice a len cap]); refine (HFEW.out _).mono ?_; rintro e w3 ⟨rfl, hb3⟩; have hB3 := (hb3.block _ hlB).trans HB.out; have hA3 := (hb3.block _ (Nat.lt_of_succ_lt hlB)).trans HA.out; have y0 := below_cell (Below.refl _ w3) hB3 0 rfl; have y1 := below_cell (Below.refl _ w3) hB3 1 rfl; have y2 := below_cell (Below.refl _ w3) hB3 2 rfl; have hl3 := Nat.lt_of_lt_of_le hlB hb3.size)
      | (go_at_call_of 7 (Value.agg #[.int .i64 E', .int .i64 S', .slice a' len' cap']); refine (HFEW'.out _).mono ?_; rintro e w4 ⟨rfl, hb4⟩; have hB4 := (hb4.block _ hl3).trans hB3; have hA4 := (hb4.block _ (Nat.lt_of_succ_lt hl3)).trans hA3; have u0 := below_cell (Below.refl _ w4) hB4 0 rfl; have u1 := below_cell (Below.refl _ w4) hB4 1 rfl; have u2 := below_cell (Below.refl _ w4) hB4 2 rfl; have t0 := below_cell (Below.refl _ w4) hA4 0 rfl; have t1 := below_cell (Below.refl _ w4) hA4 1 rfl; have t2 := below_cell (Below.refl _ w4) hA4 2 rfl; have g0 := block_frozen hA4 0; have g1 := block_frozen hA4 1; have g2 := block_frozen hA4 2; have g3 := block_frozen hB4 0; have g4 := block_frozen hB4 1; have g5 := block_frozen hB4 2)
      | fail)
    all_goals
      have hbb : Below w.heap.size w w4 := (hw2.drew.trans (hb3.mono hw2.size)).trans (hb4.mono (Nat.le_trans hw2.size hb3.size))
      obtain ⟨r1, r2⟩ := two_set3 (Nat.ne_of_lt (Nat.lt_succ_self w.heap.size)) hA4 hB4 (.int .i64 E) (.int .i64 S) (.slice a m cap) (.int .i64 E') (.int .i64 S') (.slice a' m' cap')
      have R := Lib.hid (And.intro r1 (And.intro r2 (two_set3_below hbb (Nat.le_refl _) (Nat.le_succ _) (.int .i64 E) (.int .i64 S) (.slice a m cap) (.int .i64 E') (.int .i64 S') (.slice a' m' cap'))))
      clear r1 r2 hbb hA4 hB4 hA3 hB3 hb3 hb4 u0 u1 u2 t0 t1 t2 g0 g1 g2 g3 g4 g5 y0 y1 y2 x0 x1 x2
      go_wp2_with fail
      go_meet
      exact R.out
  case rest =>
  obtain ⟨hA, hB, hw5⟩ := hcut
  clear x0 x1 x2 y0 y1 y2 HA HB hw2 hlB HFEW HFEW'
  have x0 := below_cell (Below.refl _ wc) hA 0 rfl
  have x1 := below_cell (Below.refl _ wc) hA 1 rfl
  have x2 := below_cell (Below.refl _ wc) hA 2 rfl
  go_wp2_with fail
  refine (slotHead_any _ _ wc (HH.out.below hw5)).mono ?_
  rintro e w6 ⟨rfl, hb6⟩
  have hA6 := (hb6.block _ (Array.getElem?_eq_some_iff.1 hA).1).trans hA
  have hB6 := (hb6.block _ (Array.getElem?_eq_some_iff.1 hB).1).trans hB
  have hw6 := hw5.trans (hb6.mono hw5.size)
  clear hA hB hw5 hb6 x0 x1 x2
  have y0 := below_cell (Below.refl _ w6) hB6 0 rfl
  have y1 := below_cell (Below.refl _ w6) hB6 1 rfl
  have y2 := below_cell (Below.refl _ w6) hB6 2 rfl
  go_wp2_with fail
  refine (slotHead_any _ _ w6 (HH'.out.below hw6)).mono ?_
  rintro e w7 ⟨rfl, hb7⟩
  have hA7 := (hb7.block _ (Array.getElem?_eq_some_iff.1 hA6).1).trans hA6
  have hB7 := (hb7.block _ (Array.getElem?_eq_some_iff.1 hB6).1).trans hB6
  have hw7 := hw6.trans (hb7.mono hw6.size)
  clear hA6 hB6 hw6 hb7 y0 y1 y2
  have x0 := below_cell (Below.refl _ w7) hA7 0 rfl
  have x1 := below_cell (Below.refl _ w7) hA7 1 rfl
  have x2 := below_cell (Below.refl _ w7) hA7 2 rfl
  have y0 := below_cell (Below.refl _ w7) hB7 0 rfl
  have y1 := below_cell (Below.refl _ w7) hB7 1 rfl
  have y2 := below_cell (Below.refl _ w7) hB7 2 rfl
  go_upto_region 4 with fail
  obtain ⟨h, hh⟩ : ∃ h : Hd, (⟨E, S, M⟩ : Hd) = h := ⟨_, rfl⟩
  obtain ⟨k, hk⟩ : ∃ k : Hd, (⟨E', S', M'⟩ : Hd) = k := ⟨_, rfl⟩
  rw [hh] at HH ⊢
  rw [hk] at HH' ⊢
  obtain ⟨hS, ehS⟩ : ∃ x, h.wS = x := ⟨_, rfl⟩
  obtain ⟨hE, ehE⟩ : ∃ x, h.wE = x := ⟨_, rfl⟩
  obtain ⟨kS, ekS⟩ : ∃ x, k.wS = x := ⟨_, rfl⟩
  obtain ⟨kE, ekE⟩ : ∃ x, k.wE = x := ⟨_, rfl⟩
  rw [ehS, ehE, ekS, ekE]
  have HS1 := Lib.hid ehS; have HE1 := Lib.hid ehE; have KS1 := Lib.hid ekS; have KE1 := Lib.hid ekE
  clear ehS ehE ekS ekE hh hk
  go_cut [45] (fun bv wx => bv = .bool false ∧ wx.heap[w.heap.size]? = some (.cells #[.int .i64 E, .int .i64 S, .slice a m cap] 24 (0, 0)) ∧ Below w.heap.size w wx)
  case first =>
    by_cases ho : h.ok = true
    · have e1 : hE = 0 := by rw [← HE1.out]; exact if_pos ho
      have e2 : hS = h.bytes := by rw [← HS1.out]; exact if_pos ho
      by_cases ko : k.ok = true
      · have e3 : kE = 0 := by rw [← KE1.out]; exact if_pos ko
        have e4 : kS = k.bytes := by rw [← KS1.out]; exact if_pos ko
        have HL := Lib.hid (ref4LikeHead_any _ _ h k w7 (HH.out.below hw7) (HH'.out.below hw7))
        by_cases hk : h = k
        · have e5 : hS = kS := by rw [e2, e4, hk]
          rw [decide_eq_true hk] at HL
          subst e5 e1 e3
          clear hk ho ko e2 e4 HS1 HE1 KS1 KE1
          go_wp2_with fail
          refine HL.out.mono ?_
          rintro e w8 ⟨rfl, hb8⟩
          have hA8 := (hb8.block _ (Array.getElem?_eq_some_iff.1 hA7).1).trans hA7
          have hw8 := hw7.trans (hb8.mono hw7.size)
          have R := Lib.hid (And.intro hA8 hw8)
          clear hA8 hw8 x0 x1 x2 y0 y1 y2
          go_wp2_with fail
          go_meet
          exact ⟨rfl, R.out⟩
        · have e5 : hS ≠ kS := fun e => hk (bytes_inj h k ho ko (by rw [← e2, ← e4, e]))
          have hne := ba_tne e5
          rw [decide_eq_false hk] at HL
          subst e1 e3
          clear hk ho ko e2 e4 e5 HS1 HE1 KS1 KE1
          go_wp2_with fail
          refine HL.out.mono ?_
          rintro e w8 ⟨rfl, hb8⟩
          have hA8 := (hb8.block _ (Array.getElem?_eq_some_iff.1 hA7).1).trans hA7
          have hw8 := hw7.trans (hb8.mono hw7.size)
          have R := Lib.hid (And.intro hA8 hw8)
          clear hA8 hw8 x0 x1 x2 y0 y1 y2
          go_wp2_with fail
          go_meet
          exact ⟨rfl, R.out⟩
      · have e3 : kE = 1 := by rw [← KE1.out]; exact if_neg ko
        subst e1 e3
        clear ho ko e2 HS1 HE1 KS1 KE1
        have R := Lib.hid (And.intro hA7 hw7)
        go_wp2_with fail
        go_meet
        exact ⟨rfl, R.out⟩
    · have e1 : hE = 1 := by rw [← HE1.out]; exact if_neg ho
      subst e1
      clear ho HS1 HE1 KS1 KE1
      have R := Lib.hid (And.intro hA7 hw7)
      go_wp2_with fail
      go_meet
      exact ⟨rfl, R.out⟩
  case rest =>
  obtain ⟨rfl, hA8, hw8⟩ := hcut
  clear x0 x1 x2 y0 y1 y2 hA7 hB7 hw7 HH HH' HS1 HE1 KS1 KE1
  have x0 := below_cell (Below.refl _ wc) hA8 0 rfl
  have x1 := below_cell (Below.refl _ wc) hA8 1 rfl
  go_wp2_with fail
  refine (slotCommit_any E S wc).mono ?_
  rintro e w9 ⟨rfl, hb9⟩
  have hA9 := (hb9.block _ (Array.getElem?_eq_some_iff.1 hA8).1).trans hA8
  have hw9 := hw8.trans (hb9.mono hw8.size)
  clear hA8 hw8 hb9 x0 x1
  go_wp2_with fail
  refine (slotCommit_any ep sq w9).mono ?_
  rintro e w10 ⟨rfl, hb10⟩
  have hA10 := (hb10.block _ (Array.getElem?_eq_some_iff.1 hA9).1).trans hA9
  have hw10 := hw9.trans (hb10.mono hw9.size)
  clear hA9 hw9 hb10
  go_wp2_with fail
  refine (slotAlive w10).mono ?_
  rintro e w11 ⟨rfl, hb11⟩
  have hA11 := (hb11.block _ (Array.getElem?_eq_some_iff.1 hA10).1).trans hA10
  have hw11 := hw10.trans (hb11.mono hw10.size)
  clear hA10 hw10 hb11
  have x0 := below_cell (Below.refl _ w11) hA11 0 rfl
  have x1 := below_cell (Below.refl _ w11) hA11 1 rfl
  by_cases c1 : comOk E S
  · have e1 : comE E S = 0 := if_pos c1
    have e2 : comS E S = layS (commitL E S) := if_pos c1
    rw [e1, e2]
    by_cases c2 : comOk ep sq
    · have e3 : comE ep sq = 0 := if_pos c2
      have e4 : comS ep sq = layS (commitL ep sq) := if_pos c2
      have hinj := com_inj E S ep sq c1 c2
      rw [e3, e4]
      by_cases hEe : E = ep
      · by_cases hSs : S = sq
        · subst hEe hSs
          clear hinj e1 e2 e3 e4 c1 c2
          generalize layS (commitL E S) = X at *
          go_wp2_with fail
          go_ret
          exact ⟨rfl, hw11⟩
        · have hne := ba_tne (fun e => hSs (hinj e).2)
          have hse : (S == sq) = false := by rw [beq_eq_false_iff_ne]; exact hSs
          subst hEe
          clear hinj e1 e2 e3 e4 c1 c2 hSs
          generalize layS (commitL E S) = X at *
          generalize layS (commitL E sq) = Y at *
          go_wp2_with fail
          go_ret
          exact ⟨rfl, hw11⟩
      · have hne := ba_tne (fun e => hEe (hinj e).1)
        have hee : (E == ep) = false := by rw [beq_eq_false_iff_ne]; exact hEe
        clear hinj e1 e2 e3 e4 c1 c2 hEe
        generalize layS (commitL E S) = X at *
        generalize layS (commitL ep sq) = Y at *
        go_wp2_with fail
        go_ret
        exact ⟨rfl, hw11⟩
    · have e3 : comE ep sq = 1 := if_neg c2
      rw [e3]
      clear e1 e2 e3 c1 c2
      go_wp2_with fail
      go_ret
      exact ⟨rfl, hw11⟩
  · have e1 : comE E S = 1 := if_neg c1
    rw [e1]
    clear e1 c1
    go_wp2_with fail
    go_ret
    exact ⟨rfl, hw11⟩
end Go.Proofs.YtmhondkomcmmoaaDoor.lawSlotUnlike
