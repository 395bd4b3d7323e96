/- The walk of WordJoins. -/
import Derived.Test.YtcpnofmofkcnlaaWordLaw
import Derived.Outline
namespace Go.Proofs.Ytcpnofmofkcnlaa.lawWordJoins
open Go.RowKit
set_option linter.unusedVariables false

theorem label_bnd (l : List Stp) (s : ByteArray) (hb : ∀ i ∈ l, i.bounded) : ∀ n p a, l.length - p = n → -9223372036854775808 ≤ (walkW l s p a).label ∧ (walkW l s p a).label ≤ 9223372036854775807 := by
  intro n
  induction n using Nat.strongRecOn with
  | _ n ih =>
    intro p a hn
    by_cases hlt : p < l.length
    · obtain ⟨o, ho⟩ : ∃ o, o = l.getD p stpZ := ⟨_, rfl⟩
      have hob : o.bounded := by rw [ho, show l.getD p stpZ = l[p] from by simp [List.getD, hlt]]; exact hb _ (List.getElem_mem hlt)
      have u1 := walkW.eq_1 l s p a
      rw [dif_pos hlt, ← ho] at u1
      have nxt : ∀ p' a', p < p' → -9223372036854775808 ≤ (walkW l s p' a').label ∧ (walkW l s p' a').label ≤ 9223372036854775807 := fun p' a' h => ih (l.length - p') (by omega) p' a' rfl
      have z : ∀ E : Fin4, E.label = 0 → -9223372036854775808 ≤ E.label ∧ E.label ≤ 9223372036854775807 := fun E h => by rw [h]; omega
      by_cases h1 : o.kind = 1
      · rw [if_pos h1] at u1
        cases hw : wordOk o.k
        · rw [hw] at u1; rw [u1]; exact z _ rfl
        · rw [hw] at u1; rw [u1]; exact nxt _ _ (by omega)
      · rw [if_neg h1] at u1
        by_cases h2 : o.kind = 2
        · rw [if_pos h2] at u1; rw [u1]; exact nxt _ _ (by omega)
        · rw [if_neg h2] at u1
          by_cases h6 : o.kind = 6
          · rw [if_pos h6] at u1; rw [u1]; exact nxt _ _ (by omega)
          · rw [if_neg h6] at u1
            by_cases h8 : o.kind = 8
            · rw [if_pos h8] at u1; rw [u1]; exact z _ rfl
            · rw [if_neg h8] at u1
              by_cases hj : isJump o.kind = true
              · have j1 := walkW_jump l s p a hlt o ho hj
                cases hbb : beh l p (o.goal a) with
                | none =>
                  rw [hbb] at j1
                  rw [j1]
                  have hg : o.goal a = if o.yes a then o.t else o.f := rfl
                  dsimp only
                  rw [hg]
                  split
                  · exact hob.2.2.1
                  · exact hob.2.2.2
                | some j =>
                  rw [hbb] at j1
                  rw [j1]
                  have := beh_bound l p _ j hbb
                  exact nxt _ _ (by omega)
              · rw [if_neg hj] at u1
                rw [u1]
                exact z _ rfl
    · rw [walkW_end _ _ _ _ hlt]
      exact ⟨by decide, by decide⟩
theorem labelR_bnd (l : List Stp) (s : ByteArray) (hb : ∀ i ∈ l, i.bounded) : -9223372036854775808 ≤ (walkR l s).label ∧ (walkR l s).label ≤ 9223372036854775807 := by
  unfold walkR
  split
  · exact label_bnd l s hb _ _ _ rfl
  · exact ⟨by decide, by decide⟩

set_option maxRecDepth 100000 in
set_option maxHeartbeats 1000000 in
theorem walk (v0 : Value) (l0 : List Stp) (v1 : Value) (m0 : List Stp) (s : ByteArray) (w : World) (w0 : IsOps w v0 l0) (w1 : IsOps w v1 m0) (w2 : s.size ≤ maxLen) :
    Calls Try.prog 7 #[v0, v1, .string s] w fun e w' => e = .returned (.bool true) ∧ Below w.heap.size w w' := by
  obtain ⟨i0, hinf, hz0, hz1, hz2⟩ := info_parts infoOp
  obtain ⟨a, len, cap, rfl, hlen, hc1, hc2, htk⟩ := w0.take
  obtain ⟨a', len', cap', rfl, hlen', hc1', hc2', htk'⟩ := w1.take
  obtain ⟨n, hn, hn1, hn2, hn3⟩ := min_if len 100 (by omega)
  obtain ⟨n', hn', hn1', hn2', hn3'⟩ := min_if len' 100 (by omega)
  have hmi : min (len : Int) 100 = n := by omega
  have hmi' : min (len' : Int) 100 = n' := by omega
  have hl := htk n (by omega)
  have hl' := htk' n' (by omega)
  have hll : (l0.take n).length = n := by rw [List.length_take]; omega
  have hll' : (m0.take n').length = n' := by rw [List.length_take]; omega
  have hlI : (n : Int) ≤ cap := by omega
  have hlI' : (n' : Int) ≤ cap' := by omega
  have hcI : (cap : Int) ≤ 9223372036854775807 := by omega
  have hcI' : (cap' : Int) ≤ 9223372036854775807 := by omega
  have hleI : (len : Int) ≤ 9223372036854775807 := by omega
  have hleI' : (len' : Int) ≤ 9223372036854775807 := by omega
  generalize l0.take n = l at *
  generalize m0.take n' = l' at *
  have HL := Lib.hid hl; have HL' := Lib.hid hl'
  have HN := Lib.hid hll; have HN' := Lib.hid hll'
  unfold maxLen at w2
  have hsI : (s.size : Int) ≤ 9223372036854775807 := by omega
  clear hn3 hn3' hl hl' htk htk' w0 w1 hlen hlen' hll hll'
  by_cases hs : 64 < s.size
  · have hs64 : (64 : Int) < s.size := by omega
    go_enter Try.func7, Try.ntmps7
    go_wp2_with fail
    go_quiet (fail)
    clear hs
    go_wp2_with fail
    have hw0 := belowN (Below.refl w.heap.size w) nq
    have HJ := Lib.hid (join_stop l l' (s.extract 0 64)); have HJE := Lib.hid (join_end l (s.extract 0 64)); have HJL := Lib.hid (join_label l (s.extract 0 64)); have HJP := Lib.hid (walk_plain l (s.extract 0 64))
    have hBE := labelR_bnd l (s.extract 0 64) HL.out.bnd; have HLB := Lib.hid HL.out.bnd; have HLB' := Lib.hid HL'.out.bnd
    have hW1 := fun u hu => wordWalk_any (.slice a n cap) l (s.extract 0 64) u (HL.out.below (w' := u) hu)
    have hW2 := fun v u hu => wordWalk_any v (l ++ l') (s.extract 0 64) u hu
    have HW3 := Lib.hid (fun v m u hu => wordWalk_any v (l ++ m) (s.extract 0 64) u hu)
    obtain ⟨E, hE⟩ : ∃ E, walkR l (s.extract 0 64) = E := ⟨_, rfl⟩
    obtain ⟨E2, hE2⟩ : ∃ E, walkR (l ++ l') (s.extract 0 64) = E := ⟨_, rfl⟩
    rw [hE] at hW1 HJ HJE HJL HJP hBE
    rw [hE2] at hW2 HJ
    clear hE hE2
    obtain ⟨eL, eA, eT, eW⟩ := E
    obtain ⟨bL, bA, bT, bW⟩ := E2
    have HBE := Lib.hid hBE; clear hBE
    dsimp only at HBE
    have HW1 := Lib.hid hW1; have HW2 := Lib.hid hW2
    clear hW1 hW2
    simp only [Fin4.value] at HW1 HW2
    refine (HW1.out _ hw0).mono ?_
    rintro e w2 ⟨rfl, hb2⟩
    have hw2 := hw0.trans (hb2.mono hw0.size)
    have hw3 := hw2.alloc hw2.size (.cells #[.int .i64 eL, .int .u32 (eA : Nat), .bool eT, .bool eW] 27)
    have hX := heap_alloc_new w2 (.cells #[.int .i64 eL, .int .u32 (eA : Nat), .bool eT, .bool eW] 27)
    have hb3 : Below (w2.heap.size + 1) (w2.alloc (.cells #[.int .i64 eL, .int .u32 (eA : Nat), .bool eT, .bool eW] 27)) ((w2.alloc (.cells #[.int .i64 eL, .int .u32 (eA : Nat), .bool eT, .bool eW] 27)).alloc (.cells #[] 49)) := (Below.refl _ _).alloc (by simp) _
    have hown0 : ((w2.alloc (.cells #[.int .i64 eL, .int .u32 (eA : Nat), .bool eT, .bool eW] 27)).alloc (.cells #[] 49)).ownsRow (w2.heap.size + 1) 49 4 (.slice (some ⟨w2.heap.size + 1, 0, none⟩) 0 0) 0 [] := by
      have := World.ownsRow_made (base := w2.heap.size + 1) (e := 49) (size := 4) (w2.alloc (.cells #[.int .i64 eL, .int .u32 (eA : Nat), .bool eT, .bool eW] 27)) #[] 0 (by simp) (by unfold maxLen; omega) rfl
      rwa [World.size_alloc] at this
    have hs1 := ops_source (HL.out.below (hw3.alloc hw3.size (.cells #[] 49)))
    have HX := Lib.hid hX; have HO := Lib.hid hown0; have HS1 := Lib.hid hs1
    clear hX hb2 hw0 hown0 hs1 HW1
    go_wp2_with (first | (at_builtin; go_must (refine wpList_extend _ _ 22 49 (stpCells l) HO.out hb3 (by simp) Try.underlying22 hinf hz0 hz1 hz2 rfl (by decide) rfl rfl rfl rfl HS1.out (by rw [stpCells_len, HN.out]) (stpCells_one l) ?c2 ?_)))
    case c2 => omega
    intro v4 w4 hown4 hb4
    have hw4 := hw3.trans (hb4.mono (by have := hw2.size; omega))
    have hs2 := ops_source (HL'.out.below hw4)
    have HO4 := Lib.hid hown4; have HS2 := Lib.hid hs2
    clear hown4 hs2 HO HS1 hb3
    go_wp2_with (first | (at_builtin; go_must (refine wpList_extend _ _ 22 49 (stpCells l') HO4.out hb4 (by simp) Try.underlying22 hinf hz0 hz1 hz2 rfl (by decide) rfl rfl rfl rfl HS2.out (by rw [stpCells_len, HN'.out]) (stpCells_one l') ?c3 ?_)))
    case c3 => omega
    intro v5 w5 hown5 hb5
    have hw5 := hw3.trans (hb5.mono (by have := hw2.size; omega))
    rw [← stpCells_append] at hown5
    have hi5 := own_ops hown5 (by rw [List.length_append, HN.out, HN'.out]) (fun i hi => by
      rcases List.mem_append.1 hi with hi | hi
      · exact HLB.out i hi
      · exact HLB'.out i hi)
    have HI5 := Lib.hid hi5
    clear hown5 hi5 HO4 HS2 hb4 hw4
    go_wp2_with fail
    refine (HW2.out _ _ HI5.out).mono ?_
    rintro e w6 ⟨rfl, hb6⟩
    have hw6 := hw5.trans (hb6.mono hw5.size)
    have hs52 : w2.heap.size + 1 ≤ w5.heap.size := by have := hb5.size; simp at this; omega
    have hX6 : w6.heap[w2.heap.size]? = some (.cells #[.int .i64 eL, .int .u32 (eA : Nat), .bool eT, .bool eW] 27) := (hb6.block _ (by omega)).trans ((hb5.block _ (by omega)).trans HX.out)
    have hX7 := (heap_alloc_old w6 (.cells #[.int .i64 bL, .int .u32 (bA : Nat), .bool bT, .bool bW] 27) (lt_of_block hX6)).trans hX6
    have hY7 := heap_alloc_new w6 (.cells #[.int .i64 bL, .int .u32 (bA : Nat), .bool bT, .bool bW] 27)
    have x0 : (w6.alloc (.cells #[.int .i64 bL, .int .u32 (bA : Nat), .bool bT, .bool bW] 27)).cell? ⟨w2.heap.size, 0, none⟩ = some (.int .i64 eL) := by rw [cell_of_row _ _ _ _ _ _ hX7]; rfl
    have x2 : (w6.alloc (.cells #[.int .i64 bL, .int .u32 (bA : Nat), .bool bT, .bool bW] 27)).cell? ⟨w2.heap.size, 2, none⟩ = some (.bool eT) := by rw [cell_of_row _ _ _ _ _ _ hX7]; rfl
    have x3 : (w6.alloc (.cells #[.int .i64 bL, .int .u32 (bA : Nat), .bool bT, .bool bW] 27)).cell? ⟨w2.heap.size, 3, none⟩ = some (.bool eW) := by rw [cell_of_row _ _ _ _ _ _ hX7]; rfl
    have hw7 := hw6.alloc hw6.size (.cells #[.int .i64 bL, .int .u32 (bA : Nat), .bool bT, .bool bW] 27)
    have hs6 : w2.heap.size < w6.heap.size := lt_of_block hX6
    have HX7 := Lib.hid hX7; have HY7 := Lib.hid hY7
    clear hX6 hX7 hY7 HI5 HW2 hb5 hb6 hw5 hs52 HX
    by_cases hst : eT = true ∨ eW = true
    · have hj := HJ.out hst
      injection hj with j1 j2 j3 j4
      subst j1 j2 j3 j4
      have heq := fun u => eqFin ⟨bL, bA, bT, bW⟩ ⟨bL, bA, bT, bW⟩ u
      rw [decide_eq_true rfl] at heq
      simp only [Fin4.value] at heq
      have hcs : (bT = true ∧ bW = true) ∨ (bT = true ∧ bW = false) ∨ (bT = false ∧ bW = true) := by cases bT <;> cases bW <;> simp_all
      clear hst HJ HJE HJL HJP x0
      rcases hcs with ⟨rfl, rfl⟩ | ⟨rfl, rfl⟩ | ⟨rfl, rfl⟩
      all_goals
        go_wp2_with fail
        refine (wordAlive _).mono ?_
        rintro e w8 ⟨rfl, hb8⟩
        have hw8 := hw7.trans (hb8.mono hw7.size)
        have y0 := below_cell (v := .int .i64 bL) hb8 HX7.out 0 rfl
        have y1 := below_cell (v := .int .u32 (bA : Nat)) hb8 HX7.out 1 rfl
        have y2 := below_cell hb8 HX7.out 2 rfl
        have y3 := below_cell hb8 HX7.out 3 rfl
        have z0 := below_cell (v := .int .i64 bL) hb8 HY7.out 0 rfl
        have z1 := below_cell (v := .int .u32 (bA : Nat)) hb8 HY7.out 1 rfl
        have z2 := below_cell hb8 HY7.out 2 rfl
        have z3 := below_cell hb8 HY7.out 3 rfl
        go_wp2_with fail
        go_ret
        exact ⟨rfl, hw8⟩
    · obtain rfl : eT = false := by cases eT <;> simp_all
      obtain rfl : eW = false := by cases eW <;> simp_all
      have hp := HJP.out rfl rfl
      injection hp with _ hpa
      subst hpa
      clear hst HJ HJP
      have hb8 : Below (w6.heap.size + 1) (w6.alloc (.cells #[.int .i64 bL, .int .u32 (bA : Nat), .bool bT, .bool bW] 27)) ((w6.alloc (.cells #[.int .i64 bL, .int .u32 (bA : Nat), .bool bT, .bool bW] 27)).alloc (.cells #[] 49)) := (Below.refl _ _).alloc (by simp) _
      have hown8 : ((w6.alloc (.cells #[.int .i64 bL, .int .u32 (bA : Nat), .bool bT, .bool bW] 27)).alloc (.cells #[] 49)).ownsRow (w6.heap.size + 1) 49 4 (.slice (some ⟨w6.heap.size + 1, 0, none⟩) 0 0) 0 [] := by
        have := World.ownsRow_made (base := w6.heap.size + 1) (e := 49) (size := 4) (w6.alloc (.cells #[.int .i64 bL, .int .u32 (bA : Nat), .bool bT, .bool bW] 27)) #[] 0 (by simp) (by unfold maxLen; omega) rfl
        rwa [World.size_alloc] at this
      have hs8 := ops_source (HL.out.below (hw7.alloc hw7.size (.cells #[] 49)))
      have HO8 := Lib.hid hown8; have HS8 := Lib.hid hs8
      clear hown8 hs8
      go_wp2_with (first | (at_builtin; go_must (refine wpList_extend _ _ 22 49 (stpCells l) HO8.out hb8 (by simp) Try.underlying22 hinf hz0 hz1 hz2 rfl (by decide) rfl rfl rfl rfl HS8.out (by rw [stpCells_len, HN.out]) (stpCells_one l) ?c4 ?_)))
      case c4 => omega
      intro v9 w9 hown9 hb9
      have hw9 := hw7.trans (hb9.mono (by have := hw6.size; omega))
      have hX9 := (hb9.block w2.heap.size (by omega)).trans HX7.out
      have x0 : w9.cell? ⟨w2.heap.size, 0, none⟩ = some (.int .i64 eL) := by rw [cell_of_row _ _ _ _ _ _ hX9]; rfl
      have HX9 := Lib.hid hX9
      have hown9' : w9.ownsRow (w6.heap.size + 1) 49 4 v9 n (stpCells l) := by simpa using hown9
      have HO9 := Lib.hid hown9'
      have hn200 : (n : Int) ≤ 100 := by omega
      clear hown9 hown9' HO8 HS8 hb8 hX9 x2 x3 HY7 hw7
      by_cases hL : eL = -1
      · subst hL
        go_wp2_with (first | (at_builtin; go_must (refine wpList_push _ _ 22 49 HO9.out hb9 (by simp) Try.underlying22 hinf hz0 hz1 hz2 rfl (by decide) rfl rfl rfl rfl rfl ?c5 ?c6 ?_)))
        case c5 => repeat' (first | exact rfl | constructor)
        case c6 => omega
        intro v10 w10 hown10 hb10
        have hw10 := hw6.trans ((((Below.refl w6.heap.size w6).alloc (Nat.le_refl _) (.cells #[.int .i64 bL, .int .u32 (bA : Nat), .bool bT, .bool bW] 27)).trans (hb10.mono (by omega))).mono hw6.size)
        have hi10 := own_ops (l := l ++ [⟨8, 5, 0, 0⟩]) (by rw [stpCells_append]; exact hown10) (by rw [List.length_append, HN.out]; rfl) (fun i hi => by
          rcases List.mem_append.1 hi with hi | hi
          · exact HLB.out i hi
          · rw [List.mem_singleton.1 hi]; simp [Stp.bounded])
        have hwk := HW3.out v10 [⟨8, 5, 0, 0⟩] w10 hi10
        have hje := HJE.out (by first | trivial | rfl)
        have hX10 := (hb10.block w2.heap.size (by omega)).trans HX7.out
        have HX10 := Lib.hid hX10
        clear hown10 hi10 hX10 HO9 HX9 HX7 HJE HJL HW3 hb9 x0
        rcases hje with hje | hje
        · rw [hje] at hwk
          simp only [Fin4.value] at hwk
          have HWK := Lib.hid hwk
          clear hwk hje
          go_wp2_with fail
          refine (HWK.out).mono ?_
          rintro e w11 ⟨rfl, hb11⟩
          have hw11 := hw10.trans (hb11.mono hw10.size)
          have hX11 := (hb11.block _ (lt_of_block HX10.out)).trans HX10.out
          have HX11 := Lib.hid hX11
          clear hX11 HX10 hb11 HWK
          go_wp2_with fail
          refine (wordAlive _).mono ?_
          rintro e w12 ⟨rfl, hb12⟩
          have hw12 := (hw11.alloc hw11.size _).trans (hb12.mono (by have := hw11.size; simp; omega))
          have hX12 := (heap_alloc_old w11 (.cells #[.int .i64 (0), .int .u32 5, .bool true, .bool false] 27) (lt_of_block HX11.out)).trans HX11.out
          have hY12 := heap_alloc_new w11 (.cells #[.int .i64 (0), .int .u32 5, .bool true, .bool false] 27)
          have y0 := below_cell (v := .int .i64 (0)) hb12 hY12 0 rfl
          have y1 := below_cell (v := .int .u32 5) hb12 hY12 1 rfl
          have y2 := below_cell (v := .bool true) hb12 hY12 2 rfl
          have y3 := below_cell (v := .bool false) hb12 hY12 3 rfl
          have z0 := below_cell (v := .int .i64 (-1)) hb12 hX12 0 rfl
          have z1 := below_cell (v := .int .u32 0) hb12 hX12 1 rfl
          have z2 := below_cell (v := .bool false) hb12 hX12 2 rfl
          have z3 := below_cell (v := .bool false) hb12 hX12 3 rfl
          have q1 := fun u => eqFin ⟨0, 5, true, false⟩ ⟨0, 5, true, false⟩ u
          rw [show decide ((⟨0, 5, true, false⟩ : Fin4) = ⟨0, 5, true, false⟩) = true from by decide] at q1
          have q3 := fun u => eqFin ⟨-1, 0, false, false⟩ ⟨-1, 0, false, false⟩ u
          rw [decide_eq_true rfl] at q3
          simp only [Fin4.value] at q1 q3
          clear hX12 hY12
          go_wp2_with fail
          go_ret
          exact ⟨rfl, hw12⟩
        · rw [hje] at hwk
          simp only [Fin4.value] at hwk
          have HWK := Lib.hid hwk
          clear hwk hje
          go_wp2_with fail
          refine (HWK.out).mono ?_
          rintro e w11 ⟨rfl, hb11⟩
          have hw11 := hw10.trans (hb11.mono hw10.size)
          have hX11 := (hb11.block _ (lt_of_block HX10.out)).trans HX10.out
          have HX11 := Lib.hid hX11
          clear hX11 HX10 hb11 HWK
          go_wp2_with fail
          refine (wordAlive _).mono ?_
          rintro e w12 ⟨rfl, hb12⟩
          have hw12 := (hw11.alloc hw11.size _).trans (hb12.mono (by have := hw11.size; simp; omega))
          have hX12 := (heap_alloc_old w11 (.cells #[.int .i64 (-1), .int .u32 0, .bool false, .bool false] 27) (lt_of_block HX11.out)).trans HX11.out
          have hY12 := heap_alloc_new w11 (.cells #[.int .i64 (-1), .int .u32 0, .bool false, .bool false] 27)
          have y0 := below_cell (v := .int .i64 (-1)) hb12 hY12 0 rfl
          have y1 := below_cell (v := .int .u32 0) hb12 hY12 1 rfl
          have y2 := below_cell (v := .bool false) hb12 hY12 2 rfl
          have y3 := below_cell (v := .bool false) hb12 hY12 3 rfl
          have z0 := below_cell (v := .int .i64 (-1)) hb12 hX12 0 rfl
          have z1 := below_cell (v := .int .u32 0) hb12 hX12 1 rfl
          have z2 := below_cell (v := .bool false) hb12 hX12 2 rfl
          have z3 := below_cell (v := .bool false) hb12 hX12 3 rfl
          have q1 := fun u => eqFin ⟨-1, 0, false, false⟩ ⟨0, 5, true, false⟩ u
          rw [show decide ((⟨-1, 0, false, false⟩ : Fin4) = ⟨0, 5, true, false⟩) = false from by decide] at q1
          have q3 := fun u => eqFin ⟨-1, 0, false, false⟩ ⟨-1, 0, false, false⟩ u
          rw [decide_eq_true rfl] at q3
          simp only [Fin4.value] at q1 q3
          clear hX12 hY12
          go_wp2_with fail
          go_ret
          exact ⟨rfl, hw12⟩
      · have hLb : (eL == -1) = false := by rw [beq_eq_false_iff_ne]; exact hL
        have hlt := HL.out
        go_wp2_with (first | (at_builtin; go_must (refine wpList_pushes (m := 2) _ _ 22 49 HO9.out hb9 (by simp) Try.underlying22 hinf hz0 hz1 hz2 rfl (by decide) rfl rfl rfl rfl rfl ?c7 ?c8 ?_)))
        case c7 => intro u hu; simp at hu; rcases hu with rfl | rfl | rfl | rfl | rfl | rfl | rfl | rfl <;> rfl
        case c8 => omega
        intro v10 w10 hown10 hb10
        have hw10 := hw6.trans ((((Below.refl w6.heap.size w6).alloc (Nat.le_refl _) (.cells #[.int .i64 bL, .int .u32 (bA : Nat), .bool bT, .bool bW] 27)).trans (hb10.mono (by omega))).mono hw6.size)
        have hjl := HJL.out eL rfl hL
        have hi10 := own_ops (l := l ++ [⟨6, 0, eL, 0⟩, ⟨8, 6, 0, 0⟩]) (by rw [stpCells_append]; exact hown10) (by rw [List.length_append, HN.out]; rfl) (fun i hi => by
          rcases List.mem_append.1 hi with hi | hi
          · exact HLB.out i hi
          · simp only [List.mem_cons, List.not_mem_nil, or_false] at hi
            rcases hi with rfl | rfl
            · exact ⟨by simp, by simp, HBE.out, by simp⟩
            · simp [Stp.bounded])
        have HI10 := Lib.hid hi10
        clear hown10 hi10 HO9 HX9 HJE hb9 x0 hL
        go_wp2_with fail
        refine (wordAlive _).mono ?_
        rintro e w11 ⟨rfl, hb11⟩
        have hw11 := hw10.trans (hb11.mono hw10.size)
        have hwk := HW3.out v10 [⟨6, 0, eL, 0⟩, ⟨8, 6, 0, 0⟩] w11 (HI10.out.below hb11)
        rw [hjl] at hwk
        simp only [Fin4.value] at hwk
        have HWK := Lib.hid hwk
        have heq := fun u => eqFin ⟨0, 6, true, false⟩ ⟨0, 6, true, false⟩ u
        rw [decide_eq_true rfl] at heq
        simp only [Fin4.value] at heq
        clear hwk hjl HJL HI10 HW3 hb11
        go_wp2_with fail
        refine (keep hw11 (HWK.out)).mono ?_
        rintro e w12 ⟨rfl, hw12⟩
        go_wp2_with fail
        go_ret
        exact ⟨rfl, hw12⟩
  · have hs64 : (s.size : Int) ≤ 64 := by omega
    go_enter Try.func7, Try.ntmps7
    go_wp2_with fail
    go_quiet (fail)
    clear hs
    go_wp2_with fail
    have hw0 := belowN (Below.refl w.heap.size w) nq
    have HJ := Lib.hid (join_stop l l' (s)); have HJE := Lib.hid (join_end l (s)); have HJL := Lib.hid (join_label l (s)); have HJP := Lib.hid (walk_plain l (s))
    have hBE := labelR_bnd l (s) HL.out.bnd; have HLB := Lib.hid HL.out.bnd; have HLB' := Lib.hid HL'.out.bnd
    have hW1 := fun u hu => wordWalk_any (.slice a n cap) l (s) u (HL.out.below (w' := u) hu)
    have hW2 := fun v u hu => wordWalk_any v (l ++ l') (s) u hu
    have HW3 := Lib.hid (fun v m u hu => wordWalk_any v (l ++ m) (s) u hu)
    obtain ⟨E, hE⟩ : ∃ E, walkR l (s) = E := ⟨_, rfl⟩
    obtain ⟨E2, hE2⟩ : ∃ E, walkR (l ++ l') (s) = E := ⟨_, rfl⟩
    rw [hE] at hW1 HJ HJE HJL HJP hBE
    rw [hE2] at hW2 HJ
    clear hE hE2
    obtain ⟨eL, eA, eT, eW⟩ := E
    obtain ⟨bL, bA, bT, bW⟩ := E2
    have HBE := Lib.hid hBE; clear hBE
    dsimp only at HBE
    have HW1 := Lib.hid hW1; have HW2 := Lib.hid hW2
    clear hW1 hW2
    simp only [Fin4.value] at HW1 HW2
    refine (HW1.out _ hw0).mono ?_
    rintro e w2 ⟨rfl, hb2⟩
    have hw2 := hw0.trans (hb2.mono hw0.size)
    have hw3 := hw2.alloc hw2.size (.cells #[.int .i64 eL, .int .u32 (eA : Nat), .bool eT, .bool eW] 27)
    have hX := heap_alloc_new w2 (.cells #[.int .i64 eL, .int .u32 (eA : Nat), .bool eT, .bool eW] 27)
    have hb3 : Below (w2.heap.size + 1) (w2.alloc (.cells #[.int .i64 eL, .int .u32 (eA : Nat), .bool eT, .bool eW] 27)) ((w2.alloc (.cells #[.int .i64 eL, .int .u32 (eA : Nat), .bool eT, .bool eW] 27)).alloc (.cells #[] 49)) := (Below.refl _ _).alloc (by simp) _
    have hown0 : ((w2.alloc (.cells #[.int .i64 eL, .int .u32 (eA : Nat), .bool eT, .bool eW] 27)).alloc (.cells #[] 49)).ownsRow (w2.heap.size + 1) 49 4 (.slice (some ⟨w2.heap.size + 1, 0, none⟩) 0 0) 0 [] := by
      have := World.ownsRow_made (base := w2.heap.size + 1) (e := 49) (size := 4) (w2.alloc (.cells #[.int .i64 eL, .int .u32 (eA : Nat), .bool eT, .bool eW] 27)) #[] 0 (by simp) (by unfold maxLen; omega) rfl
      rwa [World.size_alloc] at this
    have hs1 := ops_source (HL.out.below (hw3.alloc hw3.size (.cells #[] 49)))
    have HX := Lib.hid hX; have HO := Lib.hid hown0; have HS1 := Lib.hid hs1
    clear hX hb2 hw0 hown0 hs1 HW1
    go_wp2_with (first | (at_builtin; go_must (refine wpList_extend _ _ 22 49 (stpCells l) HO.out hb3 (by simp) Try.underlying22 hinf hz0 hz1 hz2 rfl (by decide) rfl rfl rfl rfl HS1.out (by rw [stpCells_len, HN.out]) (stpCells_one l) ?c2 ?_)))
    case c2 => omega
    intro v4 w4 hown4 hb4
    have hw4 := hw3.trans (hb4.mono (by have := hw2.size; omega))
    have hs2 := ops_source (HL'.out.below hw4)
    have HO4 := Lib.hid hown4; have HS2 := Lib.hid hs2
    clear hown4 hs2 HO HS1 hb3
    go_wp2_with (first | (at_builtin; go_must (refine wpList_extend _ _ 22 49 (stpCells l') HO4.out hb4 (by simp) Try.underlying22 hinf hz0 hz1 hz2 rfl (by decide) rfl rfl rfl rfl HS2.out (by rw [stpCells_len, HN'.out]) (stpCells_one l') ?c3 ?_)))
    case c3 => omega
    intro v5 w5 hown5 hb5
    have hw5 := hw3.trans (hb5.mono (by have := hw2.size; omega))
    rw [← stpCells_append] at hown5
    have hi5 := own_ops hown5 (by rw [List.length_append, HN.out, HN'.out]) (fun i hi => by
      rcases List.mem_append.1 hi with hi | hi
      · exact HLB.out i hi
      · exact HLB'.out i hi)
    have HI5 := Lib.hid hi5
    clear hown5 hi5 HO4 HS2 hb4 hw4
    go_wp2_with fail
    refine (HW2.out _ _ HI5.out).mono ?_
    rintro e w6 ⟨rfl, hb6⟩
    have hw6 := hw5.trans (hb6.mono hw5.size)
    have hs52 : w2.heap.size + 1 ≤ w5.heap.size := by have := hb5.size; simp at this; omega
    have hX6 : w6.heap[w2.heap.size]? = some (.cells #[.int .i64 eL, .int .u32 (eA : Nat), .bool eT, .bool eW] 27) := (hb6.block _ (by omega)).trans ((hb5.block _ (by omega)).trans HX.out)
    have hX7 := (heap_alloc_old w6 (.cells #[.int .i64 bL, .int .u32 (bA : Nat), .bool bT, .bool bW] 27) (lt_of_block hX6)).trans hX6
    have hY7 := heap_alloc_new w6 (.cells #[.int .i64 bL, .int .u32 (bA : Nat), .bool bT, .bool bW] 27)
    have x0 : (w6.alloc (.cells #[.int .i64 bL, .int .u32 (bA : Nat), .bool bT, .bool bW] 27)).cell? ⟨w2.heap.size, 0, none⟩ = some (.int .i64 eL) := by rw [cell_of_row _ _ _ _ _ _ hX7]; rfl
    have x2 : (w6.alloc (.cells #[.int .i64 bL, .int .u32 (bA : Nat), .bool bT, .bool bW] 27)).cell? ⟨w2.heap.size, 2, none⟩ = some (.bool eT) := by rw [cell_of_row _ _ _ _ _ _ hX7]; rfl
    have x3 : (w6.alloc (.cells #[.int .i64 bL, .int .u32 (bA : Nat), .bool bT, .bool bW] 27)).cell? ⟨w2.heap.size, 3, none⟩ = some (.bool eW) := by rw [cell_of_row _ _ _ _ _ _ hX7]; rfl
    have hw7 := hw6.alloc hw6.size (.cells #[.int .i64 bL, .int .u32 (bA : Nat), .bool bT, .bool bW] 27)
    have hs6 : w2.heap.size < w6.heap.size := lt_of_block hX6
    have HX7 := Lib.hid hX7; have HY7 := Lib.hid hY7
    clear hX6 hX7 hY7 HI5 HW2 hb5 hb6 hw5 hs52 HX
    by_cases hst : eT = true ∨ eW = true
    · have hj := HJ.out hst
      injection hj with j1 j2 j3 j4
      subst j1 j2 j3 j4
      have heq := fun u => eqFin ⟨bL, bA, bT, bW⟩ ⟨bL, bA, bT, bW⟩ u
      rw [decide_eq_true rfl] at heq
      simp only [Fin4.value] at heq
      have hcs : (bT = true ∧ bW = true) ∨ (bT = true ∧ bW = false) ∨ (bT = false ∧ bW = true) := by cases bT <;> cases bW <;> simp_all
      clear hst HJ HJE HJL HJP x0
      rcases hcs with ⟨rfl, rfl⟩ | ⟨rfl, rfl⟩ | ⟨rfl, rfl⟩
      all_goals
        go_wp2_with fail
        refine (wordAlive _).mono ?_
        rintro e w8 ⟨rfl, hb8⟩
        have hw8 := hw7.trans (hb8.mono hw7.size)
        have y0 := below_cell (v := .int .i64 bL) hb8 HX7.out 0 rfl
        have y1 := below_cell (v := .int .u32 (bA : Nat)) hb8 HX7.out 1 rfl
        have y2 := below_cell hb8 HX7.out 2 rfl
        have y3 := below_cell hb8 HX7.out 3 rfl
        have z0 := below_cell (v := .int .i64 bL) hb8 HY7.out 0 rfl
        have z1 := below_cell (v := .int .u32 (bA : Nat)) hb8 HY7.out 1 rfl
        have z2 := below_cell hb8 HY7.out 2 rfl
        have z3 := below_cell hb8 HY7.out 3 rfl
        go_wp2_with fail
        go_ret
        exact ⟨rfl, hw8⟩
    · obtain rfl : eT = false := by cases eT <;> simp_all
      obtain rfl : eW = false := by cases eW <;> simp_all
      have hp := HJP.out rfl rfl
      injection hp with _ hpa
      subst hpa
      clear hst HJ HJP
      have hb8 : Below (w6.heap.size + 1) (w6.alloc (.cells #[.int .i64 bL, .int .u32 (bA : Nat), .bool bT, .bool bW] 27)) ((w6.alloc (.cells #[.int .i64 bL, .int .u32 (bA : Nat), .bool bT, .bool bW] 27)).alloc (.cells #[] 49)) := (Below.refl _ _).alloc (by simp) _
      have hown8 : ((w6.alloc (.cells #[.int .i64 bL, .int .u32 (bA : Nat), .bool bT, .bool bW] 27)).alloc (.cells #[] 49)).ownsRow (w6.heap.size + 1) 49 4 (.slice (some ⟨w6.heap.size + 1, 0, none⟩) 0 0) 0 [] := by
        have := World.ownsRow_made (base := w6.heap.size + 1) (e := 49) (size := 4) (w6.alloc (.cells #[.int .i64 bL, .int .u32 (bA : Nat), .bool bT, .bool bW] 27)) #[] 0 (by simp) (by unfold maxLen; omega) rfl
        rwa [World.size_alloc] at this
      have hs8 := ops_source (HL.out.below (hw7.alloc hw7.size (.cells #[] 49)))
      have HO8 := Lib.hid hown8; have HS8 := Lib.hid hs8
      clear hown8 hs8
      go_wp2_with (first | (at_builtin; go_must (refine wpList_extend _ _ 22 49 (stpCells l) HO8.out hb8 (by simp) Try.underlying22 hinf hz0 hz1 hz2 rfl (by decide) rfl rfl rfl rfl HS8.out (by rw [stpCells_len, HN.out]) (stpCells_one l) ?c4 ?_)))
      case c4 => omega
      intro v9 w9 hown9 hb9
      have hw9 := hw7.trans (hb9.mono (by have := hw6.size; omega))
      have hX9 := (hb9.block w2.heap.size (by omega)).trans HX7.out
      have x0 : w9.cell? ⟨w2.heap.size, 0, none⟩ = some (.int .i64 eL) := by rw [cell_of_row _ _ _ _ _ _ hX9]; rfl
      have HX9 := Lib.hid hX9
      have hown9' : w9.ownsRow (w6.heap.size + 1) 49 4 v9 n (stpCells l) := by simpa using hown9
      have HO9 := Lib.hid hown9'
      have hn200 : (n : Int) ≤ 100 := by omega
      clear hown9 hown9' HO8 HS8 hb8 hX9 x2 x3 HY7 hw7
      by_cases hL : eL = -1
      · subst hL
        go_wp2_with (first | (at_builtin; go_must (refine wpList_push _ _ 22 49 HO9.out hb9 (by simp) Try.underlying22 hinf hz0 hz1 hz2 rfl (by decide) rfl rfl rfl rfl rfl ?c5 ?c6 ?_)))
        case c5 => repeat' (first | exact rfl | constructor)
        case c6 => omega
        intro v10 w10 hown10 hb10
        have hw10 := hw6.trans ((((Below.refl w6.heap.size w6).alloc (Nat.le_refl _) (.cells #[.int .i64 bL, .int .u32 (bA : Nat), .bool bT, .bool bW] 27)).trans (hb10.mono (by omega))).mono hw6.size)
        have hi10 := own_ops (l := l ++ [⟨8, 5, 0, 0⟩]) (by rw [stpCells_append]; exact hown10) (by rw [List.length_append, HN.out]; rfl) (fun i hi => by
          rcases List.mem_append.1 hi with hi | hi
          · exact HLB.out i hi
          · rw [List.mem_singleton.1 hi]; simp [Stp.bounded])
        have hwk := HW3.out v10 [⟨8, 5, 0, 0⟩] w10 hi10
        have hje := HJE.out (by first | trivial | rfl)
        have hX10 := (hb10.block w2.heap.size (by omega)).trans HX7.out
        have HX10 := Lib.hid hX10
        clear hown10 hi10 hX10 HO9 HX9 HX7 HJE HJL HW3 hb9 x0
        rcases hje with hje | hje
        · rw [hje] at hwk
          simp only [Fin4.value] at hwk
          have HWK := Lib.hid hwk
          clear hwk hje
          go_wp2_with fail
          refine (HWK.out).mono ?_
          rintro e w11 ⟨rfl, hb11⟩
          have hw11 := hw10.trans (hb11.mono hw10.size)
          have hX11 := (hb11.block _ (lt_of_block HX10.out)).trans HX10.out
          have HX11 := Lib.hid hX11
          clear hX11 HX10 hb11 HWK
          go_wp2_with fail
          refine (wordAlive _).mono ?_
          rintro e w12 ⟨rfl, hb12⟩
          have hw12 := (hw11.alloc hw11.size _).trans (hb12.mono (by have := hw11.size; simp; omega))
          have hX12 := (heap_alloc_old w11 (.cells #[.int .i64 (0), .int .u32 5, .bool true, .bool false] 27) (lt_of_block HX11.out)).trans HX11.out
          have hY12 := heap_alloc_new w11 (.cells #[.int .i64 (0), .int .u32 5, .bool true, .bool false] 27)
          have y0 := below_cell (v := .int .i64 (0)) hb12 hY12 0 rfl
          have y1 := below_cell (v := .int .u32 5) hb12 hY12 1 rfl
          have y2 := below_cell (v := .bool true) hb12 hY12 2 rfl
          have y3 := below_cell (v := .bool false) hb12 hY12 3 rfl
          have z0 := below_cell (v := .int .i64 (-1)) hb12 hX12 0 rfl
          have z1 := below_cell (v := .int .u32 0) hb12 hX12 1 rfl
          have z2 := below_cell (v := .bool false) hb12 hX12 2 rfl
          have z3 := below_cell (v := .bool false) hb12 hX12 3 rfl
          have q1 := fun u => eqFin ⟨0, 5, true, false⟩ ⟨0, 5, true, false⟩ u
          rw [show decide ((⟨0, 5, true, false⟩ : Fin4) = ⟨0, 5, true, false⟩) = true from by decide] at q1
          have q3 := fun u => eqFin ⟨-1, 0, false, false⟩ ⟨-1, 0, false, false⟩ u
          rw [decide_eq_true rfl] at q3
          simp only [Fin4.value] at q1 q3
          clear hX12 hY12
          go_wp2_with fail
          go_ret
          exact ⟨rfl, hw12⟩
        · rw [hje] at hwk
          simp only [Fin4.value] at hwk
          have HWK := Lib.hid hwk
          clear hwk hje
          go_wp2_with fail
          refine (HWK.out).mono ?_
          rintro e w11 ⟨rfl, hb11⟩
          have hw11 := hw10.trans (hb11.mono hw10.size)
          have hX11 := (hb11.block _ (lt_of_block HX10.out)).trans HX10.out
          have HX11 := Lib.hid hX11
          clear hX11 HX10 hb11 HWK
          go_wp2_with fail
          refine (wordAlive _).mono ?_
          rintro e w12 ⟨rfl, hb12⟩
          have hw12 := (hw11.alloc hw11.size _).trans (hb12.mono (by have := hw11.size; simp; omega))
          have hX12 := (heap_alloc_old w11 (.cells #[.int .i64 (-1), .int .u32 0, .bool false, .bool false] 27) (lt_of_block HX11.out)).trans HX11.out
          have hY12 := heap_alloc_new w11 (.cells #[.int .i64 (-1), .int .u32 0, .bool false, .bool false] 27)
          have y0 := below_cell (v := .int .i64 (-1)) hb12 hY12 0 rfl
          have y1 := below_cell (v := .int .u32 0) hb12 hY12 1 rfl
          have y2 := below_cell (v := .bool false) hb12 hY12 2 rfl
          have y3 := below_cell (v := .bool false) hb12 hY12 3 rfl
          have z0 := below_cell (v := .int .i64 (-1)) hb12 hX12 0 rfl
          have z1 := below_cell (v := .int .u32 0) hb12 hX12 1 rfl
          have z2 := below_cell (v := .bool false) hb12 hX12 2 rfl
          have z3 := below_cell (v := .bool false) hb12 hX12 3 rfl
          have q1 := fun u => eqFin ⟨-1, 0, false, false⟩ ⟨0, 5, true, false⟩ u
          rw [show decide ((⟨-1, 0, false, false⟩ : Fin4) = ⟨0, 5, true, false⟩) = false from by decide] at q1
          have q3 := fun u => eqFin ⟨-1, 0, false, false⟩ ⟨-1, 0, false, false⟩ u
          rw [decide_eq_true rfl] at q3
          simp only [Fin4.value] at q1 q3
          clear hX12 hY12
          go_wp2_with fail
          go_ret
          exact ⟨rfl, hw12⟩
      · have hLb : (eL == -1) = false := by rw [beq_eq_false_iff_ne]; exact hL
        have hlt := HL.out
        go_wp2_with (first | (at_builtin; go_must (refine wpList_pushes (m := 2) _ _ 22 49 HO9.out hb9 (by simp) Try.underlying22 hinf hz0 hz1 hz2 rfl (by decide) rfl rfl rfl rfl rfl ?c7 ?c8 ?_)))
        case c7 => intro u hu; simp at hu; rcases hu with rfl | rfl | rfl | rfl | rfl | rfl | rfl | rfl <;> rfl
        case c8 => omega
        intro v10 w10 hown10 hb10
        have hw10 := hw6.trans ((((Below.refl w6.heap.size w6).alloc (Nat.le_refl _) (.cells #[.int .i64 bL, .int .u32 (bA : Nat), .bool bT, .bool bW] 27)).trans (hb10.mono (by omega))).mono hw6.size)
        have hjl := HJL.out eL rfl hL
        have hi10 := own_ops (l := l ++ [⟨6, 0, eL, 0⟩, ⟨8, 6, 0, 0⟩]) (by rw [stpCells_append]; exact hown10) (by rw [List.length_append, HN.out]; rfl) (fun i hi => by
          rcases List.mem_append.1 hi with hi | hi
          · exact HLB.out i hi
          · simp only [List.mem_cons, List.not_mem_nil, or_false] at hi
            rcases hi with rfl | rfl
            · exact ⟨by simp, by simp, HBE.out, by simp⟩
            · simp [Stp.bounded])
        have HI10 := Lib.hid hi10
        clear hown10 hi10 HO9 HX9 HJE hb9 x0 hL
        go_wp2_with fail
        refine (wordAlive _).mono ?_
        rintro e w11 ⟨rfl, hb11⟩
        have hw11 := hw10.trans (hb11.mono hw10.size)
        have hwk := HW3.out v10 [⟨6, 0, eL, 0⟩, ⟨8, 6, 0, 0⟩] w11 (HI10.out.below hb11)
        rw [hjl] at hwk
        simp only [Fin4.value] at hwk
        have HWK := Lib.hid hwk
        have heq := fun u => eqFin ⟨0, 6, true, false⟩ ⟨0, 6, true, false⟩ u
        rw [decide_eq_true rfl] at heq
        simp only [Fin4.value] at heq
        clear hwk hjl HJL HI10 HW3 hb11
        go_wp2_with fail
        refine (keep hw11 (HWK.out)).mono ?_
        rintro e w12 ⟨rfl, hw12⟩
        go_wp2_with fail
        go_ret
        exact ⟨rfl, hw12⟩
end Go.Proofs.Ytcpnofmofkcnlaa.lawWordJoins
