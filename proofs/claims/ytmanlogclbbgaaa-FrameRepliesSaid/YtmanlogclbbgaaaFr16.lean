/- frame.fit, frame.writable. -/
import Derived.Test.YtmanlogclbbgaaaLnR
import Derived.Deep.CutBlock
namespace Go.Proofs.Ytmanlogclbbgaaa
open Go.RowKit
set_option linter.unusedVariables false
set_option linter.unusedSimpArgs false

def unfit (n : Int) : Bool := decide (n < 0) || decide (65535 < n)
set_option maxRecDepth 100000 in
theorem fitOne (n : Int) (w : World) : Calls Try.prog 66 #[.int .i64 n] w fun e w' => e = .returned (.bool (unfit n)) ∧ Below w.heap.size w w' := by
  have HU : Hid (unfit n = (decide (n < 0) || decide (65535 < n))) := Lib.hid rfl
  by_cases h : n < 0
  · go_enter Try.func66, Try.ntmps66
    go_wp2_with fail
    go_ret
    exact ⟨by rw [HU.out]; simp [h], Below.refl _ _⟩
  · have h2 : 0 ≤ n := by omega
    have hd : decide (n < 0) = false := decide_eq_false h
    rw [hd] at HU
    go_enter Try.func66, Try.ntmps66
    go_wp2_with fail
    go_ret
    exact ⟨by rw [HU.out]; rfl, Below.refl _ _⟩

set_option maxRecDepth 100000 in
set_option maxHeartbeats 1000000 in
theorem idxFit (w : World) (v : Value) (l : List Int) (h : Reads1 encI w v l) :
    Calls Try.prog 70 #[v, .func (.func 66) #[] #[]] w fun e w' => ((l.any unfit = true ∧ ∃ j : Nat, e = .returned (.int .i64 j)) ∨ (l.any unfit = false ∧ e = .returned (.int .i64 (-1)))) ∧ Below w.heap.size w w' := by
  have hY : ∀ j (hj : j < l.length), unfit l[j] = true → l.any unfit = true := fun j hj h => List.any_eq_true.2 ⟨_, List.getElem_mem hj, h⟩
  have hN : (∀ i (hi : i < l.length), unfit l[i] = false) → l.any unfit = false := fun h => by
    rw [List.any_eq_false]
    intro x hx
    obtain ⟨i, hi, rfl⟩ := List.mem_iff_getElem.1 hx
    rw [h i hi]; decide
  have HY := Lib.hid hY; have HN := Lib.hid hN
  have HIS := Lib.hid h
  obtain ⟨A, n, c, rfl, hln, hc1, hc2, hat⟩ := id h
  subst hln
  have hnI : (l.length : Int) ≤ 9223372036854775807 := by omega
  have HAT := Lib.hid hat
  clear hY hN h hat
  go_enter Try.func70, Try.ntmps70
  go_wp2_with fail
  go_loopw [8] (fun z wr => ∃ j : Nat, z = .int .i64 (j : Nat) ∧ j ≤ l.length ∧ (∀ i (hi : i < l.length), i < j → unfit l[i] = false) ∧ Below w.heap.size w wr) (fun z _ => l.length - (intOf z).toNat)
  case atStart => exact ⟨0, rfl, by omega, fun i hi h => absurd h (Nat.not_lt_zero i), Below.refl _ _⟩
  case round =>
    obtain ⟨j, rfl, hj, hno, hwr⟩ := hrel
    have HNO := Lib.hid hno
    have HW := Lib.hid hwr
    clear hno
    by_cases hlt : j < l.length
    · have hjI : (j : Int) < l.length := by omega
      have hstep : unfit l[j] = false → ∀ i (hi : i < l.length), i < j + 1 → unfit l[i] = false := fun h i hi hij => by
        by_cases e : i < j
        · exact HNO.out i hi e
        · obtain rfl : i = j := by omega
          exact h
      have HST := Lib.hid hstep
      obtain ⟨b, off, rfl, hb, hat⟩ := HAT.out.resolve_left (by omega)
      have hcell : wr.cell? ⟨b, off + j, none⟩ = some (.int .i64 l[j]) := (HW.out.cell (p := ⟨b, off + j, none⟩) hb).trans (hat j hlt)
      obtain ⟨x, hx⟩ : ∃ x, l[j] = x := ⟨_, rfl⟩
      rw [hx] at hcell HST
      have HC := Lib.hid (fun u => fitOne x u)
      obtain ⟨pj, hpj⟩ : ∃ pj, unfit x = pj := ⟨_, rfl⟩
      rw [hpj] at HC
      have HYJ := Lib.hid (fun h : unfit x = true => HY.out j hlt (by rw [hx]; exact h))
      clear hat hx
      have HPJ := Lib.hid hpj
      clear hpj hstep
      go_wp2_with fail
      refine (HC.out _).mono ?_
      rintro e w4 ⟨rfl, hb4⟩
      have HW4 := Lib.hid (HW.out.trans (hb4.mono HW.out.size))
      clear hb4 hwr
      cases pj
      · have h2 := HST.out HPJ.out
        have HS2 := Lib.hid h2
        clear h2 HST
        go_wp2_with fail
        go_roundw
        case rel => exact ⟨j + 1, by go_num, by omega, HS2.out, HW4.out⟩
        case measure => simp [intOf]; omega
      · have hy := HYJ.out HPJ.out
        have HYY := Lib.hid hy
        clear hy
        go_wp2_with fail
        go_ret
        exact ⟨.inl ⟨HYY.out, j, rfl⟩, HW4.out⟩
    · obtain rfl : j = l.length := by omega
      have hnn := HN.out (fun i hi => HNO.out i hi hi)
      have HNN := Lib.hid hnn
      clear hnn
      go_wp2_with fail
      go_ret
      exact ⟨.inr ⟨HNN.out, rfl⟩, hwr⟩
set_option maxRecDepth 100000 in
theorem conFit (w : World) (v : Value) (l : List Int) (h : Reads1 encI w v l) :
    Calls Try.prog 65 #[v, .func (.func 66) #[] #[]] w fun e w' => e = .returned (.bool (l.any unfit)) ∧ Below w.heap.size w w' := by
  have HI := Lib.hid (idxFit w v l h)
  obtain ⟨A, n, c, rfl, hln, hc1, hc2, hat⟩ := id h
  clear h hat
  go_enter Try.func65, Try.ntmps65
  go_wp2_with fail
  refine HI.out.mono ?_
  rintro e w2 ⟨h, hb2⟩
  have HB2 := Lib.hid hb2
  clear hb2 HI
  rcases h with ⟨ha, j, rfl⟩ | ⟨ha, rfl⟩
  · have HAA := Lib.hid ha
    have hj0 : (0 : Int) ≤ j := by omega
    clear ha
    go_wp2_with fail
    go_ret
    exact ⟨by rw [HAA.out]; rfl, HB2.out⟩
  · have HAA := Lib.hid ha
    clear ha
    go_wp2_with fail
    go_ret
    exact ⟨by rw [HAA.out]; rfl, HB2.out⟩

set_option maxRecDepth 100000 in
theorem frFit (v : Value) (l : List Int) (w : World) (h : Reads1 encI w v l) : Calls Try.prog 58 #[v] w fun e w' => e = .returned (.bool (!l.any unfit)) ∧ Below w.heap.size w w' := by
  have HC := Lib.hid (conFit w v l h)
  obtain ⟨A, n, c, rfl, hln, hc1, hc2, hat⟩ := id h
  generalize l.any unfit = b at *
  clear h hat
  go_enter Try.func58, Try.ntmps58
  go_wp2_with fail
  refine HC.out.mono ?_
  rintro e w2 ⟨rfl, hb2⟩
  go_wp2_with fail
  go_ret
  exact ⟨rfl, hb2⟩
/-- a line that may not be written -/
def badLn (e : Ln) : Bool := decide (40 < e.name.size) || decide (6 < e.nos.length) || unfit e.cur || e.nos.any unfit
theorem reads1_new (w : World) (n : Int) : Reads1 encI (w.alloc (.cells #[.int .i64 n] 3)) (.slice (some ⟨w.heap.size, 0, none⟩) 1 1) [n] :=
  block_reads1 (enc := encI) (l := [n]) (heap_alloc_new w (.cells #[.int .i64 n] 3)) (by simp)
set_option maxRecDepth 100000 in
set_option maxHeartbeats 1000000 in
theorem lnBad (e : Ln) (k : Value) (w : World) (hbd : e.bounded) (hk : Reads1 encI w k e.nos) :
    Calls Try.prog 60 #[.agg #[.string e.name, .int .i64 e.cur, k]] w fun e' w' => e' = .returned (.bool (badLn e)) ∧ Below w.heap.size w w' := by
  have HB : Hid (badLn e = (decide (40 < e.name.size) || decide (6 < e.nos.length) || unfit e.cur || e.nos.any unfit)) := Lib.hid rfl
  obtain ⟨A, c, rfl, hc1, hc2⟩ := reads1_form hk
  have hnm := hbd.1
  obtain ⟨name, cur, nos⟩ := e
  simp only at *
  have b0 := heap_alloc_new w (.cells #[.string name, .int .i64 cur, .slice A nos.length c] 66)
  have hb0 := (Below.refl w.heap.size w).alloc (Nat.le_refl _) (.cells #[.string name, .int .i64 cur, .slice A nos.length c] 66)
  have hk1 := hk.below hb0
  obtain ⟨m, hm⟩ : ∃ m, nos.length = m := ⟨_, rfl⟩
  rw [hm] at HB b0 hb0 hk1 hc1 ⊢
  obtain ⟨u0, hU⟩ : ∃ u, w.alloc (.cells #[.string name, .int .i64 cur, .slice A m c] 66) = u := ⟨_, rfl⟩
  have HU := Lib.hid hU
  rw [hU] at b0 hb0 hk1
  have c0 := below_cell (Below.refl _ _) b0 0 rfl
  have c1 := below_cell (Below.refl _ _) b0 1 rfl
  have c2 := below_cell (Below.refl _ _) b0 2 rfl
  have c2a := fun o : Obj => (World.cell?_of_block (a := ⟨w.heap.size, 2, none⟩) (Below.heap_alloc u0 o w.heap.size (lt_of_block b0))).trans c2
  have HK1 := Lib.hid hk1; have HB0 := Lib.hid hb0; have HBK := Lib.hid b0
  have hnI : (name.size : Int) ≤ 9223372036854775807 := by omega
  have hmI : (m : Int) ≤ 9223372036854775807 := by omega
  clear hk hk1 hb0 b0 hbd hnm hm hU
  go_enter Try.func60, Try.ntmps60
  go_upto_region 1 with fail
  rw [HU.out]
  by_cases h1 : 40 < name.size
  · have h1I : (40 : Int) < name.size := by omega
    clear c2a
    go_wp2_with fail
    go_ret
    exact ⟨by rw [HB.out]; simp [h1], HB0.out⟩
  have h1I : (name.size : Int) ≤ 40 := by omega
  have d1 : decide ((40 : Int) < name.size) = false := decide_eq_false (by omega)
  have e1 : decide (40 < name.size) = false := decide_eq_false h1
  by_cases h2 : 6 < m
  · have h2I : (6 : Int) < m := by omega
    clear c2a
    go_wp2_with fail
    go_ret
    exact ⟨by rw [HB.out]; simp [h2], HB0.out⟩
  have h2I : (m : Int) ≤ 6 := by omega
  have d2 : decide ((6 : Int) < m) = false := decide_eq_false (by omega)
  have e2 : decide (6 < m) = false := decide_eq_false h2
  rw [e1, e2] at HB
  have HF1 := Lib.hid (frFit _ _ _ (reads1_new u0 cur))
  have hany : [cur].any unfit = unfit cur := by simp
  rw [hany] at HF1
  have HF2 := Lib.hid (fun u (hu : Below u0.heap.size u0 u) => frFit _ _ _ (HK1.out.below hu))
  generalize nos.any unfit = q at *
  clear e1 e2 hany h1 h2
  cases hu : unfit cur with
  | true =>
    rw [hu] at HF1 HB
    clear hu
    go_wp2_with (first | (go_at_call 58; refine HF1.out.mono ?_; rintro e w2 ⟨rfl, hb2⟩))
    go_ret
    exact ⟨by rw [HB.out]; rfl, (HB0.out.alloc HB0.out.size _).trans (hb2.mono (HB0.out.alloc HB0.out.size _).size)⟩
  | false =>
    rw [hu] at HF1 HB
    clear hu
    have HA := Lib.hid (fun (o : Obj) (w2 : World) (hb : Below (u0.alloc o).heap.size (u0.alloc o) w2) => (show Below u0.heap.size u0 w2 from ((Below.refl u0.heap.size u0).alloc (Nat.le_refl _) o).trans (hb.mono (by simp))))
    go_wp2_with fail
    refine HF1.out.mono ?_
    rintro e w2 ⟨rfl, hb2⟩
    have hx2 := HA.out _ _ hb2
    have g2 := below_cell hx2 HBK.out 2 rfl
    have HX2 := Lib.hid hx2
    clear hb2 hx2 c2a c0 c1 c2
    go_wp2_with fail
    refine (HF2.out _ HX2.out).mono ?_
    rintro e w3 ⟨rfl, hb3⟩
    have hx2 := HX2.out
    go_wp2_with fail
    go_ret
    exact ⟨by rw [HB.out]; simp, (HB0.out.trans (hx2.mono HB0.out.size)).trans (hb3.mono (HB0.out.trans (hx2.mono HB0.out.size)).size)⟩

set_option maxRecDepth 100000 in
set_option maxHeartbeats 1000000 in
theorem idxLn (w : World) (v : Value) (l : List Ln) (h : IsLns w v l) :
    Calls Try.prog 67 #[v, .func (.func 60) #[] #[]] w fun e w' => ((l.any badLn = true ∧ ∃ j : Nat, e = .returned (.int .i64 j)) ∨ (l.any badLn = false ∧ e = .returned (.int .i64 (-1)))) ∧ Below w.heap.size w w' := by
  have hY : ∀ j (hj : j < l.length), badLn l[j] = true → l.any badLn = true := fun j hj h => List.any_eq_true.2 ⟨_, List.getElem_mem hj, h⟩
  have hN : (∀ i (hi : i < l.length), badLn l[i] = false) → l.any badLn = false := fun h => by
    rw [List.any_eq_false]
    intro x hx
    obtain ⟨i, hi, rfl⟩ := List.mem_iff_getElem.1 hx
    rw [h i hi]; decide
  have HY := Lib.hid hY; have HN := Lib.hid hN
  have HIS := Lib.hid h
  obtain ⟨A, n, c, rfl, hln, hc1, hc2, _, hat⟩ := id h
  subst hln
  have hnI : (l.length : Int) ≤ 9223372036854775807 := by omega
  have HAT := Lib.hid hat
  clear hY hN h hat
  go_enter Try.func67, Try.ntmps67
  go_wp2_with fail
  go_loopw [8] (fun z wr => ∃ j : Nat, z = .int .i64 (j : Nat) ∧ j ≤ l.length ∧ (∀ i (hi : i < l.length), i < j → badLn l[i] = false) ∧ Below w.heap.size w wr) (fun z _ => l.length - (intOf z).toNat)
  case atStart => exact ⟨0, rfl, by omega, fun i hi h => absurd h (Nat.not_lt_zero i), Below.refl _ _⟩
  case round =>
    obtain ⟨j, rfl, hj, hno, hwr⟩ := hrel
    have HNO := Lib.hid hno
    have HW := Lib.hid hwr
    clear hno
    by_cases hlt : j < l.length
    · have hjI : (j : Int) < l.length := by omega
      have hstep : badLn l[j] = false → ∀ i (hi : i < l.length), i < j + 1 → badLn l[i] = false := fun h i hi hij => by
        by_cases e : i < j
        · exact HNO.out i hi e
        · obtain rfl : i = j := by omega
          exact h
      have HST := Lib.hid hstep
      obtain ⟨b, off, rfl, hb, hat⟩ := HAT.out.resolve_left (by omega)
      have hat := LnAt.below HW.out hb (hat j hlt)
      rw [show l.getD j lnZ = l[j] from by simp [List.getD, hlt]] at hat
      obtain ⟨x, hx⟩ : ∃ x, l[j] = x := ⟨_, rfl⟩
      rw [hx] at hat HST
      obtain ⟨hbd, k, hk, e0, e1, e2⟩ := hat
      obtain ⟨va, vc, rfl, _⟩ := reads1_form hk
      have HC := Lib.hid (lnBad x (.slice va x.nos.length vc) wr hbd hk)
      obtain ⟨pj, hpj⟩ : ∃ pj, badLn x = pj := ⟨_, rfl⟩
      rw [hpj] at HC
      have HYJ := Lib.hid (fun h : badLn x = true => HY.out j hlt (by rw [hx]; exact h))
      obtain ⟨name, cur, nos⟩ := x
      simp only at e0 e1 e2 HC
      clear hk hx hbd
      have HPJ := Lib.hid hpj
      clear hpj hstep
      go_wp2_with fail
      refine HC.out.mono ?_
      rintro e w4 ⟨rfl, hb4⟩
      have HW4 := Lib.hid (HW.out.trans (hb4.mono HW.out.size))
      clear hb4 hwr
      cases pj
      · have h2 := HST.out HPJ.out
        have HS2 := Lib.hid h2
        clear h2 HST
        go_wp2_with fail
        go_roundw
        case rel => exact ⟨j + 1, by go_num, by omega, HS2.out, HW4.out⟩
        case measure => simp [intOf]; omega
      · have hy := HYJ.out HPJ.out
        have HYY := Lib.hid hy
        clear hy
        go_wp2_with fail
        go_ret
        exact ⟨.inl ⟨HYY.out, j, rfl⟩, HW4.out⟩
    · obtain rfl : j = l.length := by omega
      have hnn := HN.out (fun i hi => HNO.out i hi hi)
      have HNN := Lib.hid hnn
      clear hnn
      go_wp2_with fail
      go_ret
      exact ⟨.inr ⟨HNN.out, rfl⟩, hwr⟩
set_option maxRecDepth 100000 in
theorem conLn (w : World) (v : Value) (l : List Ln) (h : IsLns w v l) :
    Calls Try.prog 59 #[v, .func (.func 60) #[] #[]] w fun e w' => e = .returned (.bool (l.any badLn)) ∧ Below w.heap.size w w' := by
  have HI := Lib.hid (idxLn w v l h)
  obtain ⟨A, n, c, rfl, hln, hc1, hc2, _, hat⟩ := id h
  clear h hat
  go_enter Try.func59, Try.ntmps59
  go_wp2_with fail
  refine HI.out.mono ?_
  rintro e w2 ⟨h, hb2⟩
  have HB2 := Lib.hid hb2
  clear hb2 HI
  rcases h with ⟨ha, j, rfl⟩ | ⟨ha, rfl⟩
  · have HAA := Lib.hid ha
    have hj0 : (0 : Int) ≤ j := by omega
    clear ha
    go_wp2_with fail
    go_ret
    exact ⟨by rw [HAA.out]; rfl, HB2.out⟩
  · have HAA := Lib.hid ha
    clear ha
    go_wp2_with fail
    go_ret
    exact ⟨by rw [HAA.out]; rfl, HB2.out⟩

end Go.Proofs.Ytmanlogclbbgaaa
