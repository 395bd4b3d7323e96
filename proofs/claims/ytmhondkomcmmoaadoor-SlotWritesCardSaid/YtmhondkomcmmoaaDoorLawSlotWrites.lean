/- The walk of SlotWrites. -/
import Derived.Test.YtmhondkomcmmoaaDoorSlotA
import Derived.Outline
namespace Go.Proofs.YtmhondkomcmmoaaDoor.lawSlotWrites
open Go.RowKit
set_option linter.unusedVariables false

set_option maxRecDepth 100000 in
set_option maxHeartbeats 2000000 in
theorem walk (ep sq : Int) (v2 : Value) (h : Hd) (w : World) (we : (Lit.int .i64 ep).wf = true) (wsq : (Lit.int .i64 sq).wf = true) (w2 : IsHd w v2 h) :
    Calls Tryd.prog 3 #[.int .i64 ep, .int .i64 sq, v2] w fun e w' => e = .returned (.bool true) ∧ Below w.heap.size w w' := by
  obtain ⟨E, S, L⟩ := h
  obtain ⟨tv, rfl, hr⟩ := w2
  obtain ⟨a, len, cap, rfl, hl, hc1, hc2, hts⟩ := hr.take
  have hL : IsHd w (.agg #[.int .i64 E, .int .i64 S, .slice a (min len 60) cap]) ⟨E, S, L.take (min len 60)⟩ := ⟨_, rfl, hts _ (Nat.min_le_left _ _)⟩
  have HFEW := Lib.hid (fun u => slotFew_any E S a len cap u hc1 hc2)
  try dsimp only at HFEW
  generalize L.take (min len 60) = M at *
  generalize min len 60 = m at *
  have HH := Lib.hid hL
  have hwe := wf_i64 we; have hws := wf_i64 wsq
  have hblk := heap_alloc_new w (.cells #[.int .i64 E, .int .i64 S, .slice a len cap] 24)
  have hb1 := (Below.refl w.heap.size w).alloc (Nat.le_refl _) (.cells #[.int .i64 E, .int .i64 S, .slice a len cap] 24)
  clear hr hts hl hc1 hc2 hL we wsq
  try dsimp only
  go_enter Tryd.func3, Tryd.ntmps3
  go_wp2_with fail
  refine (HFEW.out _).mono ?_
  rintro e w2 ⟨rfl, hb2⟩
  have hblk2 := (hb2.block _ (by simp)).trans hblk
  have hw2 : Below w.heap.size w w2 := hb1.trans (hb2.mono hb1.size)
  have z0 := below_cell (Below.refl _ w2) hblk2 0 rfl
  have z1 := below_cell (Below.refl _ w2) hblk2 1 rfl
  have z2 := below_cell (Below.refl _ w2) hblk2 2 rfl
  have f0 := block_frozen hblk2 0
  have f1 := block_frozen hblk2 1
  have f2 := block_frozen hblk2 2
  clear hb1 hb2 hblk
  go_upto_region 2 with fail
  have hblk3 := block_set (block_set (block_set hblk2 0 (.int .i64 E)) 1 (.int .i64 S)) 2 (.slice a m cap)
  have hw3 := ((hw2.setCell (p := ⟨w.heap.size, 0, none⟩) (Nat.le_refl _) (.int .i64 E)).setCell (p := ⟨w.heap.size, 1, none⟩) (Nat.le_refl _) (.int .i64 S)).setCell (p := ⟨w.heap.size, 2, none⟩) (Nat.le_refl _) (.slice a m cap)
  rw [show ((((#[Value.int .i64 E, .int .i64 S, .slice a len cap] : Array Value).setIfInBounds 0 (.int .i64 E)).setIfInBounds 1 (.int .i64 S)).setIfInBounds 2 (.slice a m cap)) = #[.int .i64 E, .int .i64 S, .slice a m cap] from rfl] at hblk3
  clear hblk2 hw2 z0 z1 z2 f0 f1 f2
  generalize ((w2.setCell ⟨w.heap.size, 0, none⟩ (.int .i64 E)).setCell ⟨w.heap.size, 1, none⟩ (.int .i64 S)).setCell ⟨w.heap.size, 2, none⟩ (.slice a m cap) = w3 at *
  go_wp2_with fail
  refine (slotSuper_any ep w3).mono ?_
  rintro e w4 ⟨rfl, hb4⟩
  have hw4 := hw3.trans (hb4.mono hw3.size)
  have hblk4 := (hb4.block _ (Array.getElem?_eq_some_iff.1 hblk3).1).trans hblk3
  clear hw3 hblk3 hb4
  go_wp2_with fail
  refine (slotCommit_any ep sq w4).mono ?_
  rintro e w5 ⟨rfl, hb5⟩
  have hw5 := hw4.trans (hb5.mono hw4.size)
  have hblk5 := (hb5.block _ (Array.getElem?_eq_some_iff.1 hblk4).1).trans hblk4
  clear hw4 hblk4 hb5
  have x0 := below_cell (Below.refl _ w5) hblk5 0 rfl
  have x1 := below_cell (Below.refl _ w5) hblk5 1 rfl
  have x2 := below_cell (Below.refl _ w5) hblk5 2 rfl
  go_wp2_with fail
  refine (slotHead_any _ _ w5 (HH.out.below hw5)).mono ?_
  rintro e w6 ⟨rfl, hb6⟩
  have hw6 := hw5.trans (hb6.mono hw5.size)
  have hblk6 := (hb6.block _ (Array.getElem?_eq_some_iff.1 hblk5).1).trans hblk5
  clear hw5 hblk5 hb6 x0 x1 x2
  go_upto_region 5 with fail
  obtain ⟨cs, hcs⟩ : ∃ x, comS ep sq = x := ⟨_, rfl⟩
  obtain ⟨ce, hce⟩ : ∃ x, comE ep sq = x := ⟨_, rfl⟩
  obtain ⟨hs, hhs⟩ : ∃ x, (⟨E, S, M⟩ : Hd).wS = x := ⟨_, rfl⟩
  obtain ⟨he, hhe⟩ : ∃ x, (⟨E, S, M⟩ : Hd).wE = x := ⟨_, rfl⟩
  rw [hcs, hce, hhs, hhe]
  have HCS := Lib.hid hcs; have HCE := Lib.hid hce; have HHS := Lib.hid hhs; have HHE := Lib.hid hhe
  clear hcs hce hhs hhe
  by_cases eo : 1 ≤ ep ∧ ep ≤ 1099511627776
  · have HEP := Lib.hid (fun u => ref4Epoch_any ep u)
    rw [decide_eq_true eo] at HEP
    have HSU := Lib.hid (fun u => ref4Super_any ep u (by omega) (by omega))
    rw [show supS ep = layS (superL ep) from if_pos eo, show supE ep = 0 from if_pos eo]
    generalize layS (superL ep) = A at *
    have HEO := Lib.hid eo
    go_wp2_with fail
    refine (HEP.out _).mono ?_
    rintro e w7 ⟨rfl, rfl⟩
    go_wp2_with fail
    refine (HSU.out _).mono ?_
    rintro e w7 ⟨rfl, hb7⟩
    have hw7 := hw6.trans (hb7.mono hw6.size)
    have hblk7 := (hb7.block _ (Array.getElem?_eq_some_iff.1 hblk6).1).trans hblk6
    clear hw6 hblk6 hb7 HSU
    go_wp2_with fail
    refine (HEP.out _).mono ?_
    rintro e w8 ⟨rfl, rfl⟩
    have HPL := Lib.hid (fun u => ref4Place_any sq u)
    by_cases po : 0 ≤ sq ∧ sq < 6
    · rw [decide_eq_true po] at HPL
      have hco : comOk ep sq := ⟨HEO.out, po⟩
      have e1 : cs = layS (commitL ep sq) := by rw [← HCS.out]; exact if_pos hco
      have e2 : ce = 0 := by rw [← HCE.out]; exact if_pos hco
      have HRC := Lib.hid (fun u => ref4Commit_any ep sq u (by have := HEO.out; omega) (by have := HEO.out; omega) (by omega) (by omega))
      subst e1 e2
      generalize layS (commitL ep sq) = C at *
      clear hco HCS HCE eo po
      go_wp2_with fail
      refine (HPL.out _).mono ?_
      rintro e w8 ⟨rfl, rfl⟩
      go_wp2_with fail
      refine (HRC.out _).mono ?_
      rintro e w8 ⟨rfl, hb8⟩
      have hw8' := hw7.trans (hb8.mono hw7.size)
      have hblk8' := (hb8.block _ (Array.getElem?_eq_some_iff.1 hblk7).1).trans hblk7
      obtain ⟨w7', hww⟩ : ∃ w7', w8 = w7' := ⟨_, rfl⟩
      rw [hww] at hw8' hblk8' ⊢
      clear hw7 hblk7 hb8 hww HEP HPL HRC
      go_upto_region 10 with fail
      by_cases ho : headOk E S M = true
      · have e1 : hs = layS (headL E S M) := by rw [← HHS.out]; exact if_pos ho
        have e2 : he = 0 := by rw [← HHE.out]; exact if_pos ho
        have HIH := Lib.hid (fun u hu => ref4IsHead_any E S (.slice a m cap) M u hu)
        rw [ho] at HIH
        obtain ⟨_, hv, hrd⟩ := HH.out
        injection hv with hv
        have hrd : Reads1 encI w (.slice a m cap) M := by
          have f2 := congrArg (fun z : Array Value => z[2]?) hv
          simp at f2
          rw [f2]; exact hrd
        have HRD := Lib.hid hrd
        have HRH := Lib.hid (fun u hu => ref4Head_any E S (.slice a m cap) M u hu ho)
        subst e1 e2
        clear hv hrd ho HHS HHE
        generalize layS (headL E S M) = hs at *
        have x0 := below_cell (Below.refl _ w7') hblk8' 0 rfl
        have x1 := below_cell (Below.refl _ w7') hblk8' 1 rfl
        have x2 := below_cell (Below.refl _ w7') hblk8' 2 rfl
        go_wp2_with fail
        refine (HIH.out _ (HRD.out.below hw8')).mono ?_
        rintro e w8 ⟨rfl, hb8⟩
        have hw8 := hw8'.trans (hb8.mono hw8'.size)
        have hblk8 := (hb8.block _ (Array.getElem?_eq_some_iff.1 hblk8').1).trans hblk8'
        go_wp2_with fail
        refine (slotAlive w8).mono ?_
        rintro e w9 ⟨rfl, hb9⟩
        have hw9 := hw8.trans (hb9.mono hw8.size)
        have hblk9 := (hb9.block _ (Array.getElem?_eq_some_iff.1 hblk8).1).trans hblk8
        clear x0 x1 x2
        have x0 := below_cell (Below.refl _ w9) hblk9 0 rfl
        have x1 := below_cell (Below.refl _ w9) hblk9 1 rfl
        have x2 := below_cell (Below.refl _ w9) hblk9 2 rfl
        go_wp2_with fail
        refine (HRH.out _ (HRD.out.below hw9)).mono ?_
        rintro e w10 ⟨rfl, hb10⟩
        go_wp2_with fail
        go_ret
        exact ⟨rfl, hw9.trans (hb10.mono hw9.size)⟩
      · have e1 : hs = ⟨#[]⟩ := by rw [← HHS.out]; exact if_neg ho
        have e2 : he = 1 := by rw [← HHE.out]; exact if_neg ho
        have ho' : headOk E S M = false := by cases h : headOk E S M with | true => exact absurd h ho | false => rfl
        have HIH := Lib.hid (fun u hu => ref4IsHead_any E S (.slice a m cap) M u hu)
        rw [ho'] at HIH
        obtain ⟨_, hv, hrd⟩ := HH.out
        injection hv with hv
        have hrd : Reads1 encI w (.slice a m cap) M := by
          have f2 := congrArg (fun z : Array Value => z[2]?) hv
          simp at f2
          rw [f2]; exact hrd
        have HRD := Lib.hid hrd
        subst e1 e2
        clear hv hrd ho ho' HHS HHE
        have x0 := below_cell (Below.refl _ w7') hblk8' 0 rfl
        have x1 := below_cell (Below.refl _ w7') hblk8' 1 rfl
        have x2 := below_cell (Below.refl _ w7') hblk8' 2 rfl
        go_wp2_with fail
        refine (HIH.out _ (HRD.out.below hw8')).mono ?_
        rintro e w8 ⟨rfl, hb8⟩
        have hw8 := hw8'.trans (hb8.mono hw8'.size)
        go_wp2_with fail
        refine (slotAlive w8).mono ?_
        rintro e w9 ⟨rfl, hb9⟩
        go_wp2_with fail
        go_ret
        exact ⟨rfl, hw8.trans (hb9.mono hw8.size)⟩
    · rw [decide_eq_false po] at HPL
      have hco : ¬ comOk ep sq := fun h => po h.2
      have e1 : cs = ⟨#[]⟩ := by rw [← HCS.out]; exact if_neg hco
      have e2 : ce = 1 := by rw [← HCE.out]; exact if_neg hco
      subst e1 e2
      clear hco HCS HCE eo po
      go_wp2_with fail
      refine (HPL.out _).mono ?_
      rintro e w8 ⟨rfl, rfl⟩
      clear HEP HPL
      go_upto_region 10 with fail
      by_cases ho : headOk E S M = true
      · have e1 : hs = layS (headL E S M) := by rw [← HHS.out]; exact if_pos ho
        have e2 : he = 0 := by rw [← HHE.out]; exact if_pos ho
        have HIH := Lib.hid (fun u hu => ref4IsHead_any E S (.slice a m cap) M u hu)
        rw [ho] at HIH
        obtain ⟨_, hv, hrd⟩ := HH.out
        injection hv with hv
        have hrd : Reads1 encI w (.slice a m cap) M := by
          have f2 := congrArg (fun z : Array Value => z[2]?) hv
          simp at f2
          rw [f2]; exact hrd
        have HRD := Lib.hid hrd
        have HRH := Lib.hid (fun u hu => ref4Head_any E S (.slice a m cap) M u hu ho)
        subst e1 e2
        clear hv hrd ho HHS HHE
        generalize layS (headL E S M) = hs at *
        have x0 := below_cell (Below.refl _ w7) hblk7 0 rfl
        have x1 := below_cell (Below.refl _ w7) hblk7 1 rfl
        have x2 := below_cell (Below.refl _ w7) hblk7 2 rfl
        go_wp2_with fail
        refine (HIH.out _ (HRD.out.below hw7)).mono ?_
        rintro e w8 ⟨rfl, hb8⟩
        have hw8 := hw7.trans (hb8.mono hw7.size)
        have hblk8 := (hb8.block _ (Array.getElem?_eq_some_iff.1 hblk7).1).trans hblk7
        go_wp2_with fail
        refine (slotAlive w8).mono ?_
        rintro e w9 ⟨rfl, hb9⟩
        have hw9 := hw8.trans (hb9.mono hw8.size)
        have hblk9 := (hb9.block _ (Array.getElem?_eq_some_iff.1 hblk8).1).trans hblk8
        clear x0 x1 x2
        have x0 := below_cell (Below.refl _ w9) hblk9 0 rfl
        have x1 := below_cell (Below.refl _ w9) hblk9 1 rfl
        have x2 := below_cell (Below.refl _ w9) hblk9 2 rfl
        go_wp2_with fail
        refine (HRH.out _ (HRD.out.below hw9)).mono ?_
        rintro e w10 ⟨rfl, hb10⟩
        go_wp2_with fail
        go_ret
        exact ⟨rfl, hw9.trans (hb10.mono hw9.size)⟩
      · have e1 : hs = ⟨#[]⟩ := by rw [← HHS.out]; exact if_neg ho
        have e2 : he = 1 := by rw [← HHE.out]; exact if_neg ho
        have ho' : headOk E S M = false := by cases h : headOk E S M with | true => exact absurd h ho | false => rfl
        have HIH := Lib.hid (fun u hu => ref4IsHead_any E S (.slice a m cap) M u hu)
        rw [ho'] at HIH
        obtain ⟨_, hv, hrd⟩ := HH.out
        injection hv with hv
        have hrd : Reads1 encI w (.slice a m cap) M := by
          have f2 := congrArg (fun z : Array Value => z[2]?) hv
          simp at f2
          rw [f2]; exact hrd
        have HRD := Lib.hid hrd
        subst e1 e2
        clear hv hrd ho ho' HHS HHE
        have x0 := below_cell (Below.refl _ w7) hblk7 0 rfl
        have x1 := below_cell (Below.refl _ w7) hblk7 1 rfl
        have x2 := below_cell (Below.refl _ w7) hblk7 2 rfl
        go_wp2_with fail
        refine (HIH.out _ (HRD.out.below hw7)).mono ?_
        rintro e w8 ⟨rfl, hb8⟩
        have hw8 := hw7.trans (hb8.mono hw7.size)
        go_wp2_with fail
        refine (slotAlive w8).mono ?_
        rintro e w9 ⟨rfl, hb9⟩
        go_wp2_with fail
        go_ret
        exact ⟨rfl, hw8.trans (hb9.mono hw8.size)⟩
  · have HEP := Lib.hid (fun u => ref4Epoch_any ep u)
    rw [decide_eq_false eo] at HEP
    rw [show supS ep = ⟨#[]⟩ from if_neg eo, show supE ep = 1 from if_neg eo]
    have hco : ¬ comOk ep sq := fun h => eo h.1
    have e1 : cs = ⟨#[]⟩ := by rw [← HCS.out]; exact if_neg hco
    have e2 : ce = 1 := by rw [← HCE.out]; exact if_neg hco
    subst e1 e2
    clear hco HCS HCE eo
    go_wp2_with fail
    refine (HEP.out _).mono ?_
    rintro e w7 ⟨rfl, rfl⟩
    go_wp2_with fail
    refine (HEP.out _).mono ?_
    rintro e w7 ⟨rfl, rfl⟩
    clear HEP
    go_upto_region 10 with fail
    by_cases ho : headOk E S M = true
    · have e1 : hs = layS (headL E S M) := by rw [← HHS.out]; exact if_pos ho
      have e2 : he = 0 := by rw [← HHE.out]; exact if_pos ho
      have HIH := Lib.hid (fun u hu => ref4IsHead_any E S (.slice a m cap) M u hu)
      rw [ho] at HIH
      obtain ⟨_, hv, hrd⟩ := HH.out
      injection hv with hv
      have hrd : Reads1 encI w (.slice a m cap) M := by
        have f2 := congrArg (fun z : Array Value => z[2]?) hv
        simp at f2
        rw [f2]; exact hrd
      have HRD := Lib.hid hrd
      have HRH := Lib.hid (fun u hu => ref4Head_any E S (.slice a m cap) M u hu ho)
      subst e1 e2
      clear hv hrd ho HHS HHE
      generalize layS (headL E S M) = hs at *
      have x0 := below_cell (Below.refl _ w6) hblk6 0 rfl
      have x1 := below_cell (Below.refl _ w6) hblk6 1 rfl
      have x2 := below_cell (Below.refl _ w6) hblk6 2 rfl
      go_wp2_with fail
      refine (HIH.out _ (HRD.out.below hw6)).mono ?_
      rintro e w8 ⟨rfl, hb8⟩
      have hw8 := hw6.trans (hb8.mono hw6.size)
      have hblk8 := (hb8.block _ (Array.getElem?_eq_some_iff.1 hblk6).1).trans hblk6
      go_wp2_with fail
      refine (slotAlive w8).mono ?_
      rintro e w9 ⟨rfl, hb9⟩
      have hw9 := hw8.trans (hb9.mono hw8.size)
      have hblk9 := (hb9.block _ (Array.getElem?_eq_some_iff.1 hblk8).1).trans hblk8
      clear x0 x1 x2
      have x0 := below_cell (Below.refl _ w9) hblk9 0 rfl
      have x1 := below_cell (Below.refl _ w9) hblk9 1 rfl
      have x2 := below_cell (Below.refl _ w9) hblk9 2 rfl
      go_wp2_with fail
      refine (HRH.out _ (HRD.out.below hw9)).mono ?_
      rintro e w10 ⟨rfl, hb10⟩
      go_wp2_with fail
      go_ret
      exact ⟨rfl, hw9.trans (hb10.mono hw9.size)⟩
    · have e1 : hs = ⟨#[]⟩ := by rw [← HHS.out]; exact if_neg ho
      have e2 : he = 1 := by rw [← HHE.out]; exact if_neg ho
      have ho' : headOk E S M = false := by cases h : headOk E S M with | true => exact absurd h ho | false => rfl
      have HIH := Lib.hid (fun u hu => ref4IsHead_any E S (.slice a m cap) M u hu)
      rw [ho'] at HIH
      obtain ⟨_, hv, hrd⟩ := HH.out
      injection hv with hv
      have hrd : Reads1 encI w (.slice a m cap) M := by
        have f2 := congrArg (fun z : Array Value => z[2]?) hv
        simp at f2
        rw [f2]; exact hrd
      have HRD := Lib.hid hrd
      subst e1 e2
      clear hv hrd ho ho' HHS HHE
      have x0 := below_cell (Below.refl _ w6) hblk6 0 rfl
      have x1 := below_cell (Below.refl _ w6) hblk6 1 rfl
      have x2 := below_cell (Below.refl _ w6) hblk6 2 rfl
      go_wp2_with fail
      refine (HIH.out _ (HRD.out.below hw6)).mono ?_
      rintro e w8 ⟨rfl, hb8⟩
      have hw8 := hw6.trans (hb8.mono hw6.size)
      go_wp2_with fail
      refine (slotAlive w8).mono ?_
      rintro e w9 ⟨rfl, hb9⟩
      go_wp2_with fail
      go_ret
      exact ⟨rfl, hw8.trans (hb9.mono hw8.size)⟩
end Go.Proofs.YtmhondkomcmmoaaDoor.lawSlotWrites
