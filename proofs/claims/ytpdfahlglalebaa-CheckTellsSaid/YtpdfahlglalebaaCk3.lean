/- doorwardref12.reached. -/
import Derived.Test.YtpdfahlglalebaaCk1
namespace Go.Proofs.Ytpdfahlglalebaa
open Go.RowKit Go.ChangeShapes
set_option linter.unusedVariables false

/-- a block of truths -/
def BR (w : World) (g n : Nat) (f : Nat → Bool) : Prop := ∃ cs : Array Value, w.heap[g]? = some (.cells cs 4 (0, 0)) ∧ cs.size = n ∧ ∀ k, k < n → cs[k]? = some (.bool (f k))
theorem BR.cell {w : World} {g n : Nat} {f : Nat → Bool} (h : BR w g n f) {k : Nat} (hk : k < n) : w.cell? ⟨g, k, none⟩ = some (.bool (f k)) := by
  obtain ⟨cs, h1, h2, h3⟩ := h
  rw [cell_of_row _ _ _ _ _ _ h1, h3 k hk]
theorem BR.frozen {w : World} {g n : Nat} {f : Nat → Bool} (h : BR w g n f) (k : Nat) : w.frozen? ⟨g, k, none⟩ = false := by
  obtain ⟨cs, h1, _⟩ := h
  exact block_frozen h1 k
theorem BR.old {w w' : World} {g n : Nat} {f : Nat → Bool} (h : BR w g n f) (hb : w'.heap[g]? = w.heap[g]?) : BR w' g n f := by
  obtain ⟨cs, h1, h2⟩ := h
  exact ⟨cs, hb.trans h1, h2⟩
theorem BR.lt {w : World} {g n : Nat} {f : Nat → Bool} (h : BR w g n f) : g < w.heap.size := by obtain ⟨cs, h1, _⟩ := h; exact lt_of_block h1
theorem BR.set {w : World} {g n : Nat} {f : Nat → Bool} (h : BR w g n f) (t : Nat) (ht : t < n) (x : Bool) : BR (w.setCell ⟨g, t, none⟩ (.bool x)) g n (fun k => if k = t then x else f k) := by
  obtain ⟨cs, h1, h2, h3⟩ := h
  refine ⟨cs.setIfInBounds t (.bool x), block_set h1 t _, by simp [h2], fun k hk => ?_⟩
  by_cases e : k = t
  · subst e; simp [h2, hk]
  · rw [Array.getElem?_setIfInBounds_ne (fun h => e h.symm)]; simp only [if_neg e]; exact h3 k hk
theorem BR.congr {w : World} {g n : Nat} {f f' : Nat → Bool} (h : BR w g n f) (hf : ∀ k, k < n → f k = f' k) : BR w g n f' := by
  obtain ⟨cs, h1, h2, h3⟩ := h
  exact ⟨cs, h1, h2, fun k hk => by rw [h3 k hk, hf k hk]⟩
def pA (l : List Ins) (cell q j : Nat) : Bool := decide (q = 0) || (List.range j).any fun p => rch l cell p && !wrI (l.getD p insZ) cell && decide ((q : Int) ∈ folL p (l.getD p insZ))
theorem pA_step (l : List Ins) (cell q j : Nat) : pA l cell q (j + 1) = (pA l cell q j || (rch l cell j && !wrI (l.getD j insZ) cell && decide ((q : Int) ∈ folL j (l.getD j insZ)))) := by
  unfold pA
  rw [List.range_succ, List.any_append, List.any_cons, List.any_nil, Bool.or_false, Bool.or_assoc]
theorem pA_all (l : List Ins) (cell q : Nat) : pA l cell q q = rch l cell q := by
  rw [Bool.eq_iff_iff, rch_iff]
  unfold pA
  simp only [Bool.or_eq_true, decide_eq_true_eq, List.any_eq_true, List.mem_range, Bool.and_eq_true, Bool.not_eq_true']
  constructor
  · rintro (h | ⟨p, hp, ⟨h2, h3⟩, h4⟩)
    · exact .inl h
    · exact .inr ⟨p, hp, h2, h3, h4⟩
  · rintro (h | ⟨p, hp, h2, h3, h4⟩)
    · exact .inl h
    · exact .inr ⟨p, hp, ⟨h2, h3⟩, h4⟩
/-- the truths of the first so many instructions stand -/
def Upto (w : World) (g n q : Nat) (r : Nat → Bool) : Prop := ∃ f, BR w g n f ∧ ∀ k, k < q → f k = r k
set_option maxRecDepth 100000 in
set_option maxHeartbeats 4000000 in
theorem ck_reached (l : List Ins) (v : Value) (cell : Nat) (w : World) (hl : IsInsns w v l) (hN : l.length ≤ 4096) (hc : cell ≤ 16) (hf : ∀ p, p < l.length → fitsB (l.getD p insZ) = true) :
    Calls Try.prog 19 #[v, .int .i64 (cell : Int)] w fun e w' => (∃ g, e = .returned (.slice (some ⟨g, 0, none⟩) l.length l.length) ∧ w.heap.size ≤ g ∧ BR w' g l.length (rch l cell)) ∧ Below w.heap.size w w' := by
  obtain ⟨a, len, cap, rfl, hlen, hcap, hcm, hbd, hat2⟩ := hl
  rw [hlen] at hN hf ⊢
  obtain ⟨iB, hiB, hzB0, hzB1, hzB2⟩ := info_parts infoBool
  have hmk : ∀ u : World, (Instr.makeSlice 44 (.int .i64 (len : Int)) (.int .i64 (len : Int))).run Try.prog u = .ok (.slice (some ⟨u.heap.size, 0, none⟩) len len) (u.alloc (.cells (Array.replicate len (Value.bool false)) 4)) := fun u => by
    have h := run_make (P := Try.prog) u 44 4 iB (.bool false) Try.underlying44 hiB hzB0 .i64 .i64 len len (by omega) (Int.le_refl _) (by rw [hzB2]; omega) (by omega)
    simpa [hzB1, Value.cells, made_list] using h
  have hlI : (len : Int) ≤ 4096 := by omega
  have hcI : (cell : Int) ≤ 16 := by omega
  have hBR0 : BR (w.alloc (.cells (Array.replicate len (Value.bool false)) 4)) w.heap.size len (fun _ => false) := ⟨_, heap_alloc_new w _, by simp, fun k hk => by simp [hk]⟩
  have hal := (Below.refl w.heap.size w).alloc (Nat.le_refl _) (.cells (Array.replicate len (Value.bool false)) 4)
  have HB0 := Lib.hid hBR0; have HAL := Lib.hid hal
  have HF := Lib.hid hf; have HAT := Lib.hid hat2; have HBD := Lib.hid hbd; have HLEN := Lib.hid hlen
  clear hf hat2 hbd hBR0 hal hlen
  go_enter Try.func19, Try.ntmps19
  go_upto_region 2 with fail
  obtain ⟨w1, hW⟩ : ∃ w1, w.alloc (.cells (Array.replicate len (Value.bool false)) 4) = w1 := ⟨_, rfl⟩
  obtain ⟨G, hG⟩ : ∃ G, w.heap.size = G := ⟨_, rfl⟩
  have hGle : w.heap.size ≤ G := by omega
  rw [hW] at HB0 HAL ⊢
  rw [hG] at HB0
  (try rw [hG])
  clear hW hmk
  go_wp2_with fail
  go_loopw [15] (fun z wr => ∃ q : Nat, z = .int .i64 q ∧ q ≤ len ∧ Hid (Upto wr G len q (rch l cell)) ∧ Hid (Below w.heap.size w wr)) (fun z _ => len - (intOf z).toNat)
  case atStart => exact ⟨0, rfl, by omega, Lib.hid ⟨_, HB0.out, fun k h => by omega⟩, HAL⟩
  case round =>
    clear HB0 HAL
    obtain ⟨q, rfl, hq, HU, HWR⟩ := hrel
    by_cases hlt : q < len
    · have hqI : (q : Int) < len := by omega
      have hfz : wr.frozen? ⟨G, q, none⟩ = false := by obtain ⟨f, h1, _⟩ := HU.out; exact h1.frozen q
      have hold : ∃ x, wr.cell? ⟨G, q, none⟩ = some (.bool x) := by obtain ⟨f, h1, _⟩ := HU.out; exact ⟨_, h1.cell hlt⟩
      obtain ⟨ox, hox⟩ := hold
      obtain ⟨D, hD⟩ : ∃ D : Bool, ((q : Int) == 0) = D := ⟨_, rfl⟩
      have hD2 : D = pA l cell q 0 := by
        rw [← hD]; unfold pA
        rw [Bool.eq_iff_iff]; simp
      have hset : Upto (wr.setCell ⟨G, q, none⟩ (.bool D)) G len q (rch l cell) ∧ ∃ f, BR (wr.setCell ⟨G, q, none⟩ (.bool D)) G len f ∧ (∀ k, k < q → f k = rch l cell k) ∧ f q = pA l cell q 0 := by
        obtain ⟨f, h1, h2⟩ := HU.out
        have h3 := h1.set q hlt D
        exact ⟨⟨_, h3, fun k hk => by rw [if_neg (by omega)]; exact h2 k hk⟩, _, h3, fun k hk => by rw [if_neg (by omega)]; exact h2 k hk, by rw [if_pos rfl]; exact hD2⟩
      have hbs : Below w.heap.size w (wr.setCell ⟨G, q, none⟩ (.bool D))   := HWR.out.setCell (p := ⟨G, q, none⟩) hGle _
      have HS := Lib.hid hset.2
      have HBS := Lib.hid hbs
      clear hset hbs hD2 HU
      go_upto_region 6 with fail
      obtain ⟨w2, hW2⟩ : ∃ w2, wr.setCell ⟨G, q, none⟩ (.bool D) = w2 := ⟨_, rfl⟩
      rw [hW2] at HS HBS ⊢
      clear hW2 hfz hox hD HWR
      generalize wr = wo at *
      go_wp2_with fail
      go_loopw [7] (fun z wr => ∃ j : Nat, z = .int .i64 j ∧ j ≤ q ∧ Hid (∃ f, BR wr G len f ∧ (∀ k, k < q → f k = rch l cell k) ∧ f q = pA l cell q j) ∧ Hid (Below w.heap.size w wr)) (fun z _ => q - (intOf z).toNat)
      case atStart => exact ⟨0, rfl, by omega, HS, HBS⟩
      case round =>
        clear HS HBS
        obtain ⟨j, rfl, hj, HS, HBS⟩ := hrel
        by_cases hjl : j < q
        · have hjI : (j : Int) < q := by omega
          have hjlen : (j : Int) < len := by omega
          obtain ⟨b, off, rfl, hb, hat⟩ := HAT.out.resolve_left (by omega)
          obtain ⟨c0, c1, c2, c3⟩ := (hat j (by omega)).below HBS.out hb
          have hbi : (l.getD j insZ).bounded := by
            have := HLEN.out
            rw [List.getD_eq_getElem?_getD, List.getElem?_eq_getElem (by omega)]
            exact HBD.out _ (List.getElem_mem _)
          have hfi := HF.out j (by omega)
          obtain ⟨f1, f2, f3⟩ := fits_parts hfi
          have hfo := fun u => ck_fol (l.getD j insZ) j q u f1 hbi f2 (by omega) (by omega)
          have hps := pA_step l cell q j
          generalize l.getD j insZ = i at *
          obtain ⟨c, jt, jf, k⟩ := i
          unfold Ins.value at hfo
          dsimp only at hfo c0 c1 c2 c3
          obtain ⟨_, _, _, bk, bk1⟩ := hbi
          dsimp only at bk bk1
          obtain ⟨FO, hFO⟩ : ∃ FO, decide ((q : Int) ∈ folL j ⟨c, jt, jf, k⟩) = FO := ⟨_, rfl⟩
          obtain ⟨RJ, hRJ⟩ : ∃ RJ, rch l cell j = RJ := ⟨_, rfl⟩
          have hWI : wrI ⟨c, jt, jf, k⟩ cell = (((c == 2) || (c == 3)) && (k == (cell : Int))) := by
            unfold wrI; dsimp only; rw [Bool.eq_iff_iff]; simp; intro _; omega
          obtain ⟨WR, hWR⟩ : ∃ WR, wrI ⟨c, jt, jf, k⟩ cell = WR := ⟨_, rfl⟩
          rw [hFO] at hfo hps
          rw [hRJ, hWR] at hps
          rw [hWR] at hWI
          have hcj : wr.cell? ⟨G, j, none⟩ = some (.bool RJ) := by
            obtain ⟨f, h1, h2, _⟩ := HS.out
            rw [h1.cell (by omega), h2 j hjl, hRJ]
          have hal := (Below.refl wr.heap.size wr).alloc (Nat.le_refl _) (.cells #[.int .i64 c, .int .i64 jt, .int .i64 jf, .int .u32 k] 38)
          have hn := heap_alloc_new wr (.cells #[.int .i64 c, .int .i64 jt, .int .i64 jf, .int .u32 k] 38)
          have HN := Lib.hid hn; have HAL := Lib.hid hal; have HFO := Lib.hid hfo; have HPS := Lib.hid hps; have HWI := Lib.hid hWI; have HCJ := Lib.hid hcj
          clear hn hal hfo hps hWI hcj hRJ hFO hWR f1 f2 f3 hfi hat
          go_upto_region 10 with fail
          obtain ⟨w5, hW5⟩ : ∃ w5, wr.alloc (.cells #[.int .i64 c, .int .i64 jt, .int .i64 jf, .int .u32 k] 38) = w5 := ⟨_, rfl⟩
          obtain ⟨V, hV⟩ : ∃ V, wr.heap.size = V := ⟨_, rfl⟩
          have hS5 : ∃ f, BR w5 G len f ∧ (∀ k, k < q → f k = rch l cell k) ∧ f q = pA l cell q j := by
            obtain ⟨f, h1, h2, h3⟩ := HS.out
            exact ⟨f, h1.old (by rw [← hW5]; exact heap_alloc_old wr _ h1.lt), h2, h3⟩
          have HS5 := Lib.hid hS5
          have HB5 := Lib.hid (HBS.out.trans (HAL.out.mono HBS.out.size))
          have q3 := (HAL.out.cell (p := ⟨G, j, none⟩) (by obtain ⟨f, h1, _⟩ := HS.out; exact h1.lt)).trans HCJ.out
          rw [hW5] at HN HB5 q3 ⊢
          rw [hV] at HN
          (try rw [hV])
          clear hW5 hV c0 c1 c2 c3 HAL HS HBS HCJ hS5
          have d0 := below_cell (Below.refl _ w5) HN.out 0 rfl
          have d1 := below_cell (Below.refl _ w5) HN.out 1 rfl
          have d2 := below_cell (Below.refl _ w5) HN.out 2 rfl
          have d3 := below_cell (Below.refl _ w5) HN.out 3 rfl
          go_cut [9] (fun b wx => b = .bool WR ∧ wx = w5)
          case first =>
            have hwi := HWI.out
            obtain ⟨B2, hB2⟩ : ∃ B, (c == 2) = B := ⟨_, rfl⟩
            obtain ⟨B3, hB3⟩ : ∃ B, (c == 3) = B := ⟨_, rfl⟩
            obtain ⟨BK, hBK⟩ : ∃ B, (k == (cell : Int)) = B := ⟨_, rfl⟩
            rw [hB2, hB3, hBK] at hwi
            cases B2
            all_goals cases B3
            all_goals
              simp only [Bool.or_false, Bool.or_true, Bool.false_and, Bool.true_and] at hwi
              subst hwi
              go_wp2_with fail
              go_meet
              exact ⟨rfl, rfl⟩
          case rest =>
          obtain ⟨rfl, hwc⟩ := hcut
          have hwc := hwc.symm
          subst hwc
          clear HWI
          by_cases hgo : RJ = true ∧ WR = false
          · obtain ⟨rfl, rfl⟩ := hgo
            go_wp2_with fail
            refine (HFO.out _).mono ?_
            rintro e w6 ⟨rfl, hb6⟩
            have hS6 : ∃ f, BR w6 G len f ∧ (∀ k, k < q → f k = rch l cell k) ∧ f q = pA l cell q j := by
              obtain ⟨f, h1, h2, h3⟩ := HS5.out
              exact ⟨f, h1.old (hb6.block _ h1.lt), h2, h3⟩
            have HS6 := Lib.hid hS6
            have HB6 := Lib.hid (HB5.out.trans (hb6.mono HB5.out.size))
            clear hb6 hS6 HS5 HB5 q3 d0 d1 d2 d3 HN
            cases FO with
            | false =>
              have HK := Lib.hid (show ∃ f, BR w6 G len f ∧ (∀ k, k < q → f k = rch l cell k) ∧ f q = pA l cell q (j + 1) by
                obtain ⟨f, h1, h2, h3⟩ := HS6.out
                exact ⟨f, h1, h2, by rw [h3, HPS.out]; simp⟩)
              clear HS6 HPS
              go_wp2_with fail
              go_roundw
              case rel => exact ⟨j + 1, by go_num, by omega, HK, HB6⟩
              case measure => simp [intOf]; omega
            | true =>
              have hfz : w6.frozen? ⟨G, q, none⟩ = false := by obtain ⟨f, h1, _⟩ := HS6.out; exact h1.frozen q
              have hold : ∃ x, w6.cell? ⟨G, q, none⟩ = some (.bool x) := by obtain ⟨f, h1, _⟩ := HS6.out; exact ⟨_, h1.cell hlt⟩
              obtain ⟨ox, hox⟩ := hold
              have HK := Lib.hid (show ∃ f, BR (w6.setCell ⟨G, q, none⟩ (.bool true)) G len f ∧ (∀ k, k < q → f k = rch l cell k) ∧ f q = pA l cell q (j + 1) by
                obtain ⟨f, h1, h2, h3⟩ := HS6.out
                exact ⟨_, h1.set q hlt true, fun k hk => by rw [if_neg (by omega)]; exact h2 k hk, by rw [if_pos rfl, HPS.out]; simp⟩)
              have HBK := Lib.hid (show Below w.heap.size w (w6.setCell ⟨G, q, none⟩ (.bool true)) from HB6.out.setCell (p := ⟨G, q, none⟩) hGle _)
              clear HS6 HPS HB6
              go_wp2_with fail
              go_roundw
              case rel => exact ⟨j + 1, by go_num, by omega, HK, HBK⟩
              case measure => simp [intOf]; omega
          · have HK := Lib.hid (show ∃ f, BR w5 G len f ∧ (∀ k, k < q → f k = rch l cell k) ∧ f q = pA l cell q (j + 1) by
              obtain ⟨f, h1, h2, h3⟩ := HS5.out
              refine ⟨f, h1, h2, ?_⟩
              rw [h3, HPS.out]
              cases RJ <;> cases WR <;> simp at hgo ⊢)
            have hw : (RJ = false) ∨ (RJ = true ∧ WR = true) := by cases RJ <;> cases WR <;> simp at hgo ⊢
            clear HS5 HPS HFO hgo
            rcases hw with rfl | ⟨rfl, rfl⟩
            all_goals
              go_wp2_with fail
              go_roundw
              case rel => exact ⟨j + 1, by go_num, by omega, HK, HB5⟩
              case measure => simp [intOf]; omega
        · obtain rfl : j = q := by omega
          have hnl : ¬ (j : Int) < j := by omega
          have HK := Lib.hid (show Upto wr G len (j + 1) (rch l cell) by
            obtain ⟨f, h1, h2, h3⟩ := HS.out
            exact ⟨f, h1, fun k hk => by
              by_cases e : k = j
              · rw [e, h3, pA_all]
              · exact h2 k (by omega)⟩)
          clear HS
          go_wp2_with fail
          go_roundw
          case rel => exact ⟨j + 1, by go_num, by omega, HK, HBS⟩
          case measure => simp [intOf]; omega
    · obtain rfl : q = len := by omega
      have hnl : ¬ (q : Int) < q := by omega
      go_wp2_with fail
      go_ret
      refine ⟨⟨G, rfl, by omega, ?_⟩, hG ▸ HWR.out⟩
      obtain ⟨f, h1, h2⟩ := HU.out
      exact h1.congr h2
end Go.Proofs.Ytpdfahlglalebaa
