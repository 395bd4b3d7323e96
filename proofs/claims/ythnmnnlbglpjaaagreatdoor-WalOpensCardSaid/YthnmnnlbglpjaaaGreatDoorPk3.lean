/- Wl9, WlA, WlB, WlC, in one text. -/
import Derived.Test.YthnmnnlbglpjaaaGreatDoorPk2
import Derived.Test.YthnmnnlbglpjaaaGreatDoorPkD
namespace Go.Proofs.YthnmnnlbglpjaaaGreatDoor
section SWl9
open Go.RowKit
set_option linter.unusedVariables false
set_option linter.unusedSimpArgs false

def seenB (p : List Wrt) (n : Int) : Bool := p.any (fun y => decide (y.sector = n))
def allowF (N : Nat) : List Wrt → List Wrt → Bool
  | _, [] => true
  | p, x :: r => ((homeB N x.sector && !seenB p x.sector) && fitW x.bytes) && allowF N (p ++ [x]) r
theorem allowF_cons (N : Nat) (p : List Wrt) (x : Wrt) (r : List Wrt) : allowF N p (x :: r) = (((homeB N x.sector && !seenB p x.sector) && fitW x.bytes) && allowF N (p ++ [x]) r) := rfl
def allowL (N : Nat) (l : List Wrt) : Bool := allowF N [] l
def seenRow (p : List Wrt) : Array Value := ((List.range 256).map (fun i : Nat => Value.bool (seenB p i))).toArray
set_option maxRecDepth 100000 in
theorem seen_zero : Tryz.zeroCells99 = seenRow [] := by rfl
theorem seen_get (p : List Wrt) (n : Nat) (h : n < 256) : (seenRow p)[n]? = some (.bool (seenB p n)) := by
  unfold seenRow
  rw [List.getElem?_toArray, List.getElem?_map, List.getElem?_range h]
  rfl
theorem seen_set (p : List Wrt) (n : Nat) (b : ByteArray) (h : n < 256) : (seenRow p).setIfInBounds n (.bool true) = seenRow (p ++ [⟨n, b⟩]) := by
  apply Array.ext_getElem?
  intro i
  rw [Array.getElem?_setIfInBounds]
  have hsz : ∀ q, (seenRow q).size = 256 := fun q => by simp [seenRow]
  have hany : seenB (p ++ [⟨n, b⟩]) i = (seenB p i || decide ((n : Int) = i)) := by unfold seenB; rw [List.any_append]; simp
  by_cases hi : i < 256
  · rw [seen_get _ i hi, seen_get _ i hi, hsz, hany]
    by_cases hn : n = i
    · subst hn; rw [if_pos rfl, if_pos h]; simp
    · rw [if_neg hn]
      have : ¬ ((n : Int) = i) := by omega
      rw [decide_eq_false this]; simp
  · rw [if_neg (by omega), Array.getElem?_eq_none (by rw [hsz]; omega), Array.getElem?_eq_none (by rw [hsz]; omega)]
theorem setCell_block (w : World) (g i : Nat) (v : Value) (b : Nat) (h : b ≠ g) : (w.setCell ⟨g, i, none⟩ v).heap[b]? = w.heap[b]? := by
  simp [World.setCell, Array.getElem?_modify, Ne.symm h]
set_option maxRecDepth 100000 in
set_option maxHeartbeats 2000000 in
theorem wlAllowed (v wv : Value) (l : Lg) (xs : List Wrt) (w : World) (h : IsLog w v l) (hw : IsWrts w wv xs) (hN : l.secs.length ≤ 256) :
    Calls Tryz.prog 25 #[v, wv] w fun e w' => e = .returned (.bool (allowL l.secs.length xs)) ∧ Below w.heap.size w w' := by
  obtain ⟨a, c, a', c', a2, c2, rfl, ⟨h1, h2⟩, ⟨h3, h4⟩, ⟨h5, h6⟩, _⟩ := id h.form
  have HL2 := Lib.hid (fun x (hx : Below w.heap.size w x) => h.below hx)
  clear h
  obtain ⟨wa, M, wc, rfl, hM, hc1, hc2, hbd, hat⟩ := id hw
  obtain ⟨N, hNN⟩ : ∃ N, l.secs.length = N := ⟨_, rfl⟩
  have HH0 := Lib.hid (fun n x (hx : Below w.heap.size w x) => wlHome _ l n x (HL2.out x hx))
  clear HL2
  obtain ⟨secs, pend, left, epoch, seq, used, dirty⟩ := l
  simp only at h1 h2 h3 h4 h5 h6 hNN hN HH0 ⊢
  rw [hNN] at h1 hN HH0 ⊢
  generalize pend.length = P at *
  generalize dirty.length = D at *
  clear hNN
  obtain ⟨B, hB⟩ : ∃ B, allowL N xs = B := ⟨_, rfl⟩
  have HBQ := Lib.hid hB
  have b0 := heap_alloc_new w (.cells #[.slice a N c, .slice a' P c', .int .i64 left, .int .i64 epoch, .int .i64 seq, .int .i64 used, .slice a2 D c2] 29)
  have hb0 := (Below.refl w.heap.size w).alloc (Nat.le_refl _) (.cells #[.slice a N c, .slice a' P c', .int .i64 left, .int .i64 epoch, .int .i64 seq, .int .i64 used, .slice a2 D c2] 29)
  obtain ⟨u, hU⟩ : ∃ u, w.alloc (.cells #[.slice a N c, .slice a' P c', .int .i64 left, .int .i64 epoch, .int .i64 seq, .int .i64 used, .slice a2 D c2] 29) = u := ⟨_, rfl⟩
  rw [hU] at b0 hb0
  obtain ⟨W0, hW0⟩ : ∃ W0, w.heap.size = W0 := ⟨_, rfl⟩
  have hul : w.heap.size < u.heap.size := lt_of_block b0
  have z0 := heap_alloc_new u (.cells Tryz.zeroCells99 99)
  have hz0 := hb0.alloc hb0.size (.cells Tryz.zeroCells99 99)
  have hzu := (Below.refl u.heap.size u).alloc (Nat.le_refl _) (.cells Tryz.zeroCells99 99)
  have b1 := (hzu.block _ hul).trans b0
  obtain ⟨V, hV⟩ : ∃ V, u.alloc (.cells Tryz.zeroCells99 99) = V := ⟨_, rfl⟩
  rw [hV] at z0 hz0 b1
  rw [seen_zero] at z0
  obtain ⟨K, hK⟩ : ∃ K, u.heap.size = K := ⟨_, rfl⟩
  rw [hK] at z0 hul
  rw [hW0] at b1 hul
  have HU := Lib.hid hU; have HV := Lib.hid hV; have HZ := Lib.hid z0; have HB1 := Lib.hid b1; have HBV := Lib.hid hz0; have HK := Lib.hid hK; have HW0 := Lib.hid hW0; have HUL := Lib.hid hul; have HAT := Lib.hid hat; have HWB := Lib.hid hbd; have HM := Lib.hid hM
  clear hB b0 hb0 hU hV z0 hz0 hzu b1 hK hul hat hbd hM hW0
  go_enter Tryz.func25, Tryz.ntmps25
  go_upto_region 1 with fail
  rw [HU.out, HW0.out]
  go_upto_region 2 with fail
  rw [HV.out, HK.out]
  go_wp2_with fail
  go_loopw [10] (fun z wr => ∃ j : Nat, j ≤ M ∧ z = .int .i64 j ∧ allowF N (xs.take j) (xs.drop j) = B ∧ Hid (wr.heap[K]? = some (.cells (seenRow (xs.take j)) 99 (0, 0)) ∧ wr.heap[W0]? = some (.cells #[.slice a N c, .slice a' P c', .int .i64 left, .int .i64 epoch, .int .i64 seq, .int .i64 used, .slice a2 D c2] 29 (0, 0)) ∧ Below w.heap.size w wr)) (fun z _ => M - (intOf z).toNat)
  case atStart => exact ⟨0, Nat.zero_le _, rfl, HBQ.out, Lib.hid ⟨HZ.out, HB1.out, HBV.out⟩⟩
  case round =>
    obtain ⟨j, hj, rfl, hpre, HW⟩ := hrel
    by_cases hlt : j < M
    · have hjI : (j : Int) < M := by omega
      have hjl : j < xs.length := by rw [HM.out]; exact hlt
      obtain ⟨b, off, rfl, hbl, hat⟩ := HAT.out.resolve_left (by omega)
      obtain ⟨e0, e1⟩ := (hat j hlt).below HW.out.2.2 hbl
      have hbx := HWB.out _ (List.getElem_mem hjl)
      have hdr : xs.drop j = xs.getD j wrtZ :: xs.drop (j + 1) := by
        rw [List.drop_eq_getElem_cons hjl, show xs.getD j wrtZ = xs[j] from by simp [List.getD, hjl]]
      have htk : xs.take (j + 1) = xs.take j ++ [xs.getD j wrtZ] := by
        rw [← List.take_append_getElem hjl, show xs.getD j wrtZ = xs[j] from by simp [List.getD, hjl]]
      rw [hdr] at hpre
      rw [show xs[j] = xs.getD j wrtZ from by simp [List.getD, hjl]] at hbx
      have HTK := Lib.hid htk
      clear htk hdr hat
      generalize xs.getD j wrtZ = X at *
      obtain ⟨xs0, xb⟩ := X
      obtain ⟨⟨bx1, bx2⟩, bx3⟩ := hbx
      simp only at e0 e1 bx1 bx2 bx3
      rw [allowF_cons] at hpre
      have HP := Lib.hid hpre
      clear hpre
      have hn := heap_alloc_new wr (.cells #[.int .i64 xs0, .string xb] 46)
      have hal := (Below.refl wr.heap.size wr).alloc (Nat.le_refl _) (.cells #[.int .i64 xs0, .string xb] 46)
      have HN := Lib.hid hn; have HAL := Lib.hid hal
      clear hn hal
      go_upto_region 5 with fail
      obtain ⟨wz, hWz⟩ : ∃ wz, wr.alloc (.cells #[.int .i64 xs0, .string xb] 46) = wz := ⟨_, rfl⟩
      obtain ⟨Q, hQ⟩ : ∃ Q, wr.heap.size = Q := ⟨_, rfl⟩
      have HWW := Lib.hid (HW.out.2.2.trans (HAL.out.mono HW.out.2.2.size))
      have HKZ := Lib.hid ((HAL.out.block _ (lt_of_block HW.out.1)).trans HW.out.1)
      have HLZ := Lib.hid ((HAL.out.block _ (lt_of_block HW.out.2.1)).trans HW.out.2.1)
      rw [hWz] at HN HWW HKZ HLZ ⊢
      rw [hQ] at HN
      (try rw [hQ])
      clear hWz hQ e0 e1 HAL HW
      have q0 := below_cell (Below.refl _ wz) HN.out 0 rfl
      have q1 := below_cell (Below.refl _ wz) HN.out 1 rfl
      have hlk := HLZ.out
      have r0 := below_cell (Below.refl _ wz) hlk 0 rfl
      have r1 := below_cell (Below.refl _ wz) hlk 1 rfl
      have r2 := below_cell (Below.refl _ wz) hlk 2 rfl
      have r3 := below_cell (Below.refl _ wz) hlk 3 rfl
      have r4 := below_cell (Below.refl _ wz) hlk 4 rfl
      have r5 := below_cell (Below.refl _ wz) hlk 5 rfl
      have r6 := below_cell (Below.refl _ wz) hlk 6 rfl
      clear hlk
      have HH := Lib.hid (HH0.out xs0 wz HWW.out)
      have HFT := Lib.hid (fun u => wlFits xb u bx3)
      cases hh : homeB N xs0 with
      | false =>
        rw [hh] at HH
        have HF : Hid (B = false) := Lib.hid (by rw [← HP.out, hh]; rfl)
        clear HP hh
        go_wp2_with (first
          | (go_at_call 55; refine HH.out.mono ?_; rintro e w3 ⟨rfl, hb3⟩; have g0 := below_cell hb3 HN.out 0 rfl; have g1 := below_cell hb3 HN.out 1 rfl)
          | (go_at_call 56; refine (HFT.out _).mono ?_; rintro e w4 ⟨rfl, rfl⟩))
        go_ret
        exact ⟨by rw [HBQ.out, HF.out]; rfl, HWW.out.trans (hb3.mono HWW.out.size)⟩
      | true =>
      have hs2 : 53 ≤ xs0 ∧ xs0 < N := by unfold homeB at hh; rwa [decide_eq_true_eq] at hh
      rw [hh] at HH
      obtain ⟨s, rfl⟩ : ∃ s : Nat, xs0 = s := ⟨xs0.toNat, by omega⟩
      have hs : s < 256 := by omega
      have hsI : (s : Int) < 256 := by omega
      have hsI0 : (0 : Int) ≤ s := by omega
      have hk0 := fun w3 (h : Below wz.heap.size wz w3) => below_cell h HKZ.out s (seen_get _ s hs)
      have HK0 := Lib.hid hk0
      clear hk0
      cases hse : seenB (xs.take j) s with
      | true =>
        rw [hse] at HK0
        have HF : Hid (B = false) := Lib.hid (by rw [← HP.out, hh, hse]; rfl)
        clear HP hh hse
        go_wp2_with (first
          | (go_at_call 55; refine HH.out.mono ?_; rintro e w3 ⟨rfl, hb3⟩; have g0 := below_cell hb3 HN.out 0 rfl; have g1 := below_cell hb3 HN.out 1 rfl; have k0 := HK0.out _ hb3)
          | (go_at_call 56; refine (HFT.out _).mono ?_; rintro e w4 ⟨rfl, rfl⟩))
        go_ret
        exact ⟨by rw [HBQ.out, HF.out]; rfl, HWW.out.trans (hb3.mono HWW.out.size)⟩
      | false =>
      rw [hse] at HK0
      cases hf : fitW xb with
      | false =>
        rw [hf] at HFT
        have HF : Hid (B = false) := Lib.hid (by rw [← HP.out, hh, hse, hf]; rfl)
        clear HP hh hse hf
        go_wp2_with (first
          | (go_at_call 55; refine HH.out.mono ?_; rintro e w3 ⟨rfl, hb3⟩; have g0 := below_cell hb3 HN.out 0 rfl; have g1 := below_cell hb3 HN.out 1 rfl; have k0 := HK0.out _ hb3)
          | (go_at_call 56; refine (HFT.out _).mono ?_; rintro e w4 ⟨rfl, rfl⟩))
        go_ret
        exact ⟨by rw [HBQ.out, HF.out]; rfl, HWW.out.trans (hb3.mono HWW.out.size)⟩
      | true =>
        rw [hf] at HFT
        have HR : Hid (allowF N (xs.take (j + 1)) (xs.drop (j + 1)) = B) := Lib.hid (by rw [HTK.out, ← HP.out, hh, hse, hf]; simp)
        clear HP hh hse hf
        go_upto_region 7 with (first
          | (go_at_call 55; refine HH.out.mono ?_; rintro e w3 ⟨rfl, hb3⟩; have g0 := below_cell hb3 HN.out 0 rfl; have g1 := below_cell hb3 HN.out 1 rfl; have k0 := HK0.out _ hb3)
          | (go_at_call 56; refine (HFT.out _).mono ?_; rintro e w4 ⟨rfl, rfl⟩))
        have HX := Lib.hid (HWW.out.trans (hb3.mono HWW.out.size))
        have hky := (hb3.block _ (lt_of_block HKZ.out)).trans HKZ.out
        have hly := (hb3.block _ (lt_of_block HLZ.out)).trans HLZ.out
        have f0 := block_frozen hky s
        have hst := block_set hky s (.bool true)
        rw [seen_set _ s xb hs, ← HTK.out] at hst
        have HK2 := Lib.hid hst
        have HB2 := Lib.hid (HX.out.setCell (p := ⟨K, s, none⟩) (show w.heap.size ≤ K from by have := HUL.out; have := HW0.out; omega) (.bool true))
        have HL2 := Lib.hid ((setCell_block w3 K s (.bool true) W0 (by have := HUL.out; omega)).trans hly)
        clear hky hly hst
        go_wp2_with fail
        go_roundw
        case rel => exact ⟨j + 1, by omega, by go_num, HR.out, Lib.hid ⟨HK2.out, HL2.out, HB2.out⟩⟩
        case measure => simp [intOf]; omega
    · obtain rfl : j = M := by omega
      have hnl : ¬ (j : Int) < j := by omega
      have hT : B = true := by rw [← hpre, List.drop_eq_nil_of_le (by rw [HM.out]; exact Nat.le_refl _)]; rfl
      subst hT
      clear hpre
      go_wp2_with fail
      go_ret
      exact ⟨by rw [HBQ.out]; rfl, HW.out.2.2⟩
end SWl9
section SWlA
open Go.RowKit
set_option linter.unusedVariables false
set_option linter.unusedSimpArgs false

def NoText (w : World) (row : Option Nat) : Prop := ∀ g, row = some g → ∃ cs t fr, w.heap[g]? = some (.cells cs t fr) ∧ ∀ s, Value.string s ∉ cs
theorem strs_rows {w w' : World} {v : Value} {l : List ByteArray} {row : Option Nat} (h : IsStrs w v l) (hn : NoText w row) (hw : w.grownBy w' row) : IsStrs w' v l := by
  obtain ⟨a, len, cap, rfl, hl, h1, h2, h3, hat⟩ := h
  refine ⟨a, len, cap, rfl, hl, h1, h2, h3, ?_⟩
  by_cases h0 : len = 0
  · exact .inl h0
  · obtain ⟨b, off, rfl, hb, hat⟩ := hat.resolve_left h0
    have hbT : row ≠ some b := by
      intro e
      obtain ⟨cs, t, fr, hg, hno⟩ := hn b e
      have := hat 0 (by omega)
      rw [cell_of_row _ _ _ _ _ _ hg] at this
      exact hno _ (Array.mem_of_getElem? this)
    have hk := hw.block b hb (fun e => hbT e.symm)
    exact .inr ⟨b, off, rfl, Nat.lt_of_lt_of_le hb hw.size, fun i hi => (World.cell?_of_block (a := ⟨b, off + i, none⟩) hk).trans (hat i hi)⟩
theorem wrts_rows {w w' : World} {v : Value} {l : List Wrt} {row : Option Nat} (h : IsWrts w v l) (hn : NoText w row) (hw : w.grownBy w' row) : IsWrts w' v l := by
  obtain ⟨a, len, cap, rfl, hl, h1, h2, h3, hat⟩ := h
  refine ⟨a, len, cap, rfl, hl, h1, h2, h3, ?_⟩
  by_cases h0 : len = 0
  · exact .inl h0
  · obtain ⟨b, off, rfl, hb, hat⟩ := hat.resolve_left h0
    have hbT : row ≠ some b := by
      intro e
      obtain ⟨cs, t, fr, hg, hno⟩ := hn b e
      have := (hat 0 (by omega)).2
      rw [cell_of_row _ _ _ _ _ _ hg] at this
      exact hno _ (Array.mem_of_getElem? this)
    have hk := hw.block b hb (fun e => hbT e.symm)
    exact .inr ⟨b, off, rfl, Nat.lt_of_lt_of_le hb hw.size, fun i hi => ⟨(World.cell?_of_block (a := ⟨b, off + i * 2, none⟩) hk).trans (hat i hi).1, (World.cell?_of_block (a := ⟨b, off + i * 2 + 1, none⟩) hk).trans (hat i hi).2⟩⟩
theorem cls_rows {w w' : World} {T : Nat} {o : Outc} {row : Option Nat} (h : IsCls w T o) (hn : NoText w row) (hT : row ≠ some T) (hw : w.grownBy w' row) : IsCls w' T o := by
  obtain ⟨sv, pv, h1, sv', pv', he, h2, h3⟩ := h
  injection he with he
  injection he with he
  injection he with e1 he
  injection he with e2 he
  subst e1 e2
  exact ⟨sv, pv, (hw.block T (lt_of_block h1) (fun e => hT e.symm)).trans h1, sv, pv, rfl, strs_rows h2 hn hw, wrts_rows h3 hn hw⟩
/-- an own row of numbers, its block without text -/
def ownI (w : World) (base : Nat) (v : Value) (n : Nat) (l : List Int) : Prop := w.ownsRow base 3 1 v n (l.map encI) ∧ NoText w v.ownBlock
theorem ownI.kept {w w' : World} {base : Nat} {v : Value} {n : Nat} {l : List Int} {row : Option Nat} (h : ownI w base v n l) (hg : w.grownBy w' row) (hne : ∀ g, base ≤ g → row ≠ some g) : ownI w' base v n l := by
  have hr : v.ownBlock = none ∨ v.ownBlock ≠ row := by
    cases hv : v.ownBlock with
    | none => exact .inl rfl
    | some g => exact .inr (fun e => hne g (h.1.lt g hv).1 e.symm)
  refine ⟨h.1.kept hg hr, ?_⟩
  intro g hv
  obtain ⟨cs, t, fr, hh, hno⟩ := h.2 g hv
  exact ⟨cs, t, fr, (hg.block g (lt_of_block hh) (fun e => hne g (h.1.lt g hv).1 e.symm)).trans hh, hno⟩
theorem ownI.keep {w w' : World} {base : Nat} {v : Value} {n : Nat} {l : List Int} (h : ownI w base v n l) (hb : Below w.heap.size w w') : ownI w' base v n l :=
  h.kept (row := none) ⟨hb.os, hb.tape, hb.output, hb.size, fun k hk _ => hb.block k hk⟩ (fun _ _ => by simp)
theorem ownI_nil (w : World) (base : Nat) : ownI w base (.slice none 0 0) 0 [] := ⟨World.ownsRow_nil w base _ 1, fun g h => by simp [Value.ownBlock] at h⟩
theorem ownI.noText {w : World} {base : Nat} {v : Value} {n : Nat} {l : List Int} (h : ownI w base v n l) : NoText w v.ownBlock := h.2
theorem infoInt2 : (Tryz.prog.info? 3).map (fun i => (i.zero, i.size, i.bytes)) = some (some (.int .i64 0), 1, 8) := by kernel_rfl
theorem zeros_no (k : Nat) (s : ByteArray) : Value.string s ∉ Builtin.zeroCells (Value.int .i64 0).cells k := by
  simp [Builtin.zeroCells, Value.cells]
  intro x hx
  rw [show x % 1 = 0 by omega]
  simp
theorem ints_no (l : List Int) (s : ByteArray) : Value.string s ∉ l.map encI := by simp [encI]
theorem run_pushI (w : World) (base : Nat) (ty : TypeId) (v : Value) (n : Nat) (l : List Int) (x : Int) (h : ownI w base v n l) (hn : n ≤ 1000) (hbase : base ≤ w.heap.size) :
    ∃ v' w', (Builtin.append_ #[65, 65] ty #[v, .slice (some ⟨w.heap.size, 0, none⟩) 1 1]).run Tryz.prog (w.alloc (.cells #[.int .i64 x] 3)) = .ok v' w' ∧ ownI w' base v' (n + 1) (l ++ [x]) ∧ (w.alloc (.cells #[.int .i64 x] 3)).grownBy w' v.ownBlock := by
  obtain ⟨i, hi, hz, hs1, hs2⟩ := info_parts infoInt2
  have h2 := h.keep ((Below.refl w.heap.size w).alloc (Nat.le_refl _) (.cells #[.int .i64 x] 3))
  have hbase2 : base ≤ (w.alloc (.cells #[.int .i64 x] 3)).heap.size := by rw [World.size_alloc]; omega
  have hnews := cells_new w [.int .i64 x] 3
  have hcell1 : ∀ u ∈ [Value.int .i64 x], u.oneCell' = true := fun y hy => by rw [List.mem_singleton.1 hy]; rfl
  generalize hg : (⟨w.heap.size, 0, none⟩ : Addr) = ad at *
  generalize w.alloc (.cells #[.int .i64 x] 3) = W at *
  have hl : [Value.int .i64 x].length = 1 * i.size := by rw [hs1]; rfl
  obtain ⟨ho, hno⟩ := h2
  have hml : maxLen = 9223372036854775807 := by rfl
  rcases ho.2 with ⟨rfl, rfl⟩ | ⟨g, cap, cur, rfl, hbg, hgg, hnc, hcm, hcs, htake⟩
  · have hr := run_append_nil (P := Tryz.prog) W 65 ty 3 i _ Tryz.underlying65 hi hz ad 1 1 [.int .i64 x] hl hnews (by omega) (by omega) (by rw [hs2]; omega)
    have hx : l.map encI = [] := List.eq_nil_of_length_eq_zero (by simpa using ho.1)
    refine ⟨_, _, hr, ⟨⟨?_, .inr ⟨W.heap.size, _, _, rfl, hbase2, heap_alloc_new W.drew _, grownCap_ge W 1 0 _, grownCap_le_maxLen W 1 0 _ (by rw [hml]; omega), ?_, ?_⟩⟩, ?_⟩, ⟨rfl, rfl, rfl, by simp, fun k hk _ => heap_alloc_old W.drew _ hk⟩⟩
    · rw [List.map_append, hx]; rfl
    · have := grownCap_ge W 1 0 3
      simp only [Array.size_append, List.size_toArray, size_zeroCells, Value.cells, List.length_cons, List.length_nil, Array.size_singleton]
      simp; omega
    · rw [List.map_append, hx]; simp [encI]
    · intro g hgb
      simp only [Value.ownBlock, Option.some.injEq] at hgb
      subst hgb
      refine ⟨_, _, _, heap_alloc_new W.drew _, fun s hs => ?_⟩
      rw [Array.mem_append] at hs
      rcases hs with hs | hs
      · simp at hs
      · exact zeros_no _ s hs
  · by_cases hroom : n + 1 ≤ cap
    · have hr := run_append_room (P := Tryz.prog) W 65 ty 3 i Tryz.underlying65 hi g n cap cur hgg ad 1 1 [.int .i64 x] hl hnews hcell1 hroom (by rw [hs1]; simp; omega)
      refine ⟨_, _, hr, ⟨⟨by simp [encI]; have := ho.1; simp at this; omega, .inr ⟨g, cap, _, rfl, hbg, setRow_heap W g cur _ _ _ hgg, hroom, hcm, ?_, ?_⟩⟩, ?_⟩, ⟨rfl, rfl, rfl, by simp, fun k _ hk => setRow_other W g k _ (fun e => hk (by simp [Value.ownBlock, e]))⟩⟩
      · rw [hs1]; simp only [List.size_toArray, List.length_append, List.length_take, List.length_drop, Array.length_toList, List.length_cons, List.length_nil]
        omega
      · rw [hs1, htake, List.map_append]
        have h1 : (l.map encI ++ [Value.int .i64 x]).length = (n + 1) * 1 := by simp; have := ho.1; simp at this; omega
        rw [← h1]
        exact List.take_left
      · intro g' hgb
        simp only [Value.ownBlock, Option.some.injEq] at hgb
        subst hgb
        obtain ⟨cs2, t2, fr2, hh2, hno2⟩ := hno g rfl
        rw [hgg] at hh2
        injection hh2 with hh2
        injection hh2 with e1 e2 e3
        subst e1
        refine ⟨_, _, _, setRow_heap W g cur _ _ _ hgg, fun s hs => ?_⟩
        simp only [List.mem_toArray, List.mem_append] at hs
        rcases hs with (hs | hs) | hs
        · exact hno2 s (by simpa using List.mem_of_mem_take hs)
        · simp at hs
        · exact hno2 s (by simpa using List.mem_of_mem_drop hs)
    · have holds := ho.cells (g := g) rfl
      have hr := run_append_grow (P := Tryz.prog) W 65 ty 3 i _ Tryz.underlying65 hi hz ⟨g, 0, none⟩ n cap (l.map encI) (by rw [hs1]; exact ho.1) holds ad 1 1 [.int .i64 x] hl hnews (by omega) (by omega) (growslice_fits (by omega) (by rw [hs2]; omega))
      have hge := grownCap_ge W (n + 1) cap 3
      refine ⟨_, _, hr, ⟨⟨by simp [encI]; have := ho.1; simp at this; omega, .inr ⟨W.heap.size, _, _, rfl, hbase2, heap_alloc_new W.drew _, hge, grownCap_le_maxLen W (n + 1) cap _ (by rw [hml]; omega), ?_, ?_⟩⟩, ?_⟩, ⟨rfl, rfl, rfl, by simp, fun k hk _ => heap_alloc_old W.drew _ hk⟩⟩
      · simp only [Array.size_append, List.size_toArray, size_zeroCells, Value.cells, List.length_cons, List.length_nil, List.length_map, Array.size_singleton]
        have := ho.1; simp at this; simp; omega
      · rw [List.map_append]
        have h1 : (l.map encI ++ [Value.int .i64 x]).length = (n + 1) * 1 := by simp; have := ho.1; simp at this; omega
        simp only [Array.toList_append]
        rw [← h1]
        exact List.take_left
      · intro g' hgb
        simp only [Value.ownBlock, Option.some.injEq] at hgb
        subst hgb
        refine ⟨_, _, _, heap_alloc_new W.drew _, fun s hs => ?_⟩
        rw [Array.mem_append, Array.mem_append] at hs
        rcases hs with (hs | hs) | hs
        · exact ints_no l s (by simpa using hs)
        · simp at hs
        · exact zeros_no _ s hs
theorem wpList_pushI {ops : Array Oper} {rest : List Oper} {o : Oper} {a : Act} {Q : Exit → Act → World → Prop} {w : World} (s x : Operand) {base : Nat} {v : Value} {n : Nat} {l : List Int} (u : Int)
    (h : ownI w base v n l) (hbase : base ≤ w.heap.size) (hn : n ≤ 1000) (hgd : o.guard = none) (ho : o.op = .call { callee := .builtin .append, args := #[s, x], argTypes := #[65, 65] })
    (hs : a.eval s = v) (hx : a.eval x = .slice (some ⟨w.heap.size, 0, none⟩) 1 1)
    (k : ∀ v' w', ownI w' base v' (n + 1) (l ++ [u]) → (w.alloc (.cells #[.int .i64 u] 3)).grownBy w' v.ownBlock → wpList Tryz.prog ops Q rest (a.put o.dst v') w') :
    wpList Tryz.prog ops Q (o :: rest) a (w.alloc (.cells #[.int .i64 u] 3)) := by
  refine wpList_plain hgd fun _ hK => ?_
  obtain ⟨v', w', hr, h2, h3⟩ := run_pushI w base o.type v n l u h hn hbase
  unfold Oper.wp execOp
  simp only [ho, resolve, invoke, builtin, Sem.run_bind, Sem.run_pure, Result.andThen_ok, List.map_toArray, List.map_cons, List.map_nil, hs, hx, hr]
  exact hK _ _ (k v' w' h2 h3)
end SWlA
section SWlB
open Go.RowKit
set_option linter.unusedVariables false
set_option linter.unusedSimpArgs false

def imgL (used : Int) (xs : List Wrt) : List Wrt := (List.range xs.length).map (fun i : Nat => ⟨13 + used + i, (xs.getD i wrtZ).bytes⟩)
theorem imgL_len (used : Int) (xs : List Wrt) : (imgL used xs).length = xs.length := by simp [imgL]
theorem imgL_get (used : Int) (xs : List Wrt) (j : Nat) (h : j < xs.length) : (imgL used xs).getD j wrtZ = ⟨13 + used + j, (xs.getD j wrtZ).bytes⟩ := by
  simp [imgL, List.getD, h]
/-- what the disk's calls make of a transaction's record -/
def logO (o : Outc) (l : Lg) (xs : List Wrt) : Outc :=
  flS (wrS (flS (wrS ((imgL l.used xs).foldl wrS o) ⟨1 + l.seq, layS (headL l.epoch l.seq (xs.map Wrt.sector))⟩)) ⟨7 + l.seq, layS (commitL l.epoch l.seq)⟩)
theorem layS_small (l : List UInt8) (h : l.length ≤ 1000) : (layS l).size ≤ 9223372036854775807 := by
  unfold layS
  have h1 := trimS_le (sealL ⟨l.toArray⟩)
  have h2 := sealL_size ⟨l.toArray⟩
  have h4 : (ByteArray.mk l.toArray).size = l.length := ba_size _
  omega
theorem gtransO {w w1 w2 : World} {T : Nat} {row : Option Nat} (h : w.grownBy w1 (some T)) (h2 : w1.grownBy w2 row) (hr : ∀ g, row = some g → w.heap.size ≤ g) : w.grownBy w2 (some T) :=
  ⟨h2.os.trans h.os, h2.tape.trans h.tape, h2.output.trans h.output, Nat.le_trans h.size h2.size, fun k hk hne => (h2.block k (Nat.lt_of_lt_of_le hk h.size) (fun e => absurd (hr k e.symm) (by omega))).trans (h.block k hk hne)⟩
theorem cls_put1 {w : World} {T : Nat} {o : Outc} (h : IsCls w T o) {B : Nat} {cs : Array Value} {t : TypeId} {fr : Nat × Nat} (hb : w.heap[B]? = some (.cells cs t fr)) (hno : ∀ s, Value.string s ∉ cs) (hT : B ≠ T) (j : Nat) (v : Value) : IsCls (w.setCell ⟨B, j, none⟩ v) T o :=
  cls_rows (row := some B) h (fun g e => by injection e with e; subst e; exact ⟨_, _, _, hb, hno⟩) (fun e => hT (Option.some.inj e)) ⟨rfl, rfl, rfl, by simp [World.setCell], fun k _ hk => Below.heap_setCell _ _ _ _ (fun e => hk (by simp [e]))⟩
theorem head_no (E S : Int) (A : Option Addr) (n c : Nat) (s : ByteArray) : Value.string s ∉ (#[Value.int .i64 E, .int .i64 S, .slice A n c] : Array Value) := by simp
theorem ownI.form {w : World} {base : Nat} {v : Value} {n : Nat} {l : List Int} (h : ownI w base v n l) : ∃ A c, v = .slice A n c ∧ n ≤ c ∧ c ≤ 9223372036854775807 := own_form1 h.1
theorem ownI.ne {w : World} {base : Nat} {v : Value} {n : Nat} {l : List Int} (h : ownI w base v n l) {k : Nat} (hk : k < base) : some k ≠ v.ownBlock := fun e => by have := (h.1.lt k e.symm).1; omega
theorem ownI.ne2 {w : World} {base : Nat} {v : Value} {n : Nat} {l : List Int} (h : ownI w base v n l) {k : Nat} (hk : w.heap.size ≤ k) : some k ≠ v.ownBlock := fun e => by have := (h.1.lt k e.symm).2; omega
theorem gset1 (w : World) (g i : Nat) (v : Value) : w.grownBy (w.setCell ⟨g, i, none⟩ v) (some g) := gset ⟨rfl, rfl, rfl, Nat.le_refl _, fun _ _ _ => rfl⟩ i v
set_option maxRecDepth 100000 in
set_option maxHeartbeats 4000000 in
theorem wlLogged (T : Nat) (o : Outc) (v wv : Value) (l : Lg) (xs : List Wrt) (w : World) (h : IsCls w T o) (hl : IsLog w v l) (hx : IsWrts w wv xs) (hk : o.ok) (hp : o.dsk.pend.length ≤ 900) (hn : xs.length ≤ 40)
    (hs : headOk l.epoch l.seq (xs.map Wrt.sector) = true) (hu : 0 ≤ l.used ∧ l.used ≤ 40) :
    Calls Tryz.prog 26 #[.pointer (some ⟨T, 0, none⟩), v, wv] w fun e w' => e = .returned (.tuple #[]) ∧ IsCls w' T (logO o l xs) ∧ w.grownBy w' (some T) := by
  obtain ⟨a, c, a', c', a2, c2, rfl, ⟨h1, h2⟩, ⟨h3, h4⟩, ⟨h5, h6⟩, _⟩ := id hl.form
  clear hl
  have hO : logO o l xs = flS (wrS (flS (wrS ((imgL l.used xs).foldl wrS o) ⟨1 + l.seq, layS (headL l.epoch l.seq (xs.map Wrt.sector))⟩)) ⟨7 + l.seq, layS (commitL l.epoch l.seq)⟩) := rfl
  obtain ⟨R, hR⟩ : ∃ R, logO o l xs = R := ⟨_, rfl⟩
  rw [hR] at hO ⊢
  clear hR
  obtain ⟨secs, pend, left, epoch, seq, used, dirty⟩ := l
  simp only at *
  have hES : (1 ≤ epoch ∧ epoch ≤ 1099511627776) ∧ (0 ≤ seq ∧ seq < 6) := by
    unfold headOk at hs
    rw [Bool.and_eq_true, Bool.and_eq_true] at hs
    exact ⟨of_decide_eq_true hs.1, of_decide_eq_true hs.2.1⟩
  obtain ⟨hE, hS6⟩ := hES
  have hHD := fun tv u (hr : Reads1 encI u tv (xs.map Wrt.sector)) => slotHead_ok epoch seq tv (xs.map Wrt.sector) u hr hs
  have hCM := fun u => slotCommit_ok epoch seq u hE hS6
  have hLH := layS_small (headL epoch seq (xs.map Wrt.sector)) (by rw [headL_len, List.length_map]; omega)
  have hLC := layS_small (commitL epoch seq) (by unfold commitL; simp only [List.length_append, fieldsL_len, List.length_cons, List.length_nil]; omega)
  generalize layS (headL epoch seq (xs.map Wrt.sector)) = SH at *
  generalize layS (commitL epoch seq) = SC at *
  generalize secs.length = N at *
  generalize pend.length = P at *
  generalize dirty.length = D at *
  obtain ⟨cs0, hcs0, hno0⟩ := cls_text h
  have hTw : T < w.heap.size := lt_of_block hcs0
  have HW := Lib.hid (fun wr (hg : w.grownBy wr (some T)) => wrts_grown hx hcs0 hno0 hg)
  obtain ⟨wa, n, cap, rfl, hlen, hc1, hc2, hbd, _⟩ := id hx
  have hnI : (n : Int) ≤ 40 := by omega
  obtain ⟨B, hB⟩ : ∃ B, w.heap.size = B := ⟨_, rfl⟩
  have hX : Hid (∀ u : World, u = (w.alloc (.cells #[.slice a N c, .slice a' P c', .int .i64 left, .int .i64 epoch, .int .i64 seq, .int .i64 used, .slice a2 D c2] 29)).alloc (.cells #[.int .i64 epoch, .int .i64 seq, .slice none 0 0] 67) →
      u.heap[B]? = some (.cells #[.slice a N c, .slice a' P c', .int .i64 left, .int .i64 epoch, .int .i64 seq, .int .i64 used, .slice a2 D c2] 29 (0, 0)) ∧ u.heap[B + 1]? = some (.cells #[.int .i64 epoch, .int .i64 seq, .slice none 0 0] 67 (0, 0)) ∧ w.grownBy u (some T) ∧ IsCls u T o ∧ u.heap.size = B + 1 + 1) := Lib.hid (by
    rintro u rfl
    have b0 := heap_alloc_new w (.cells #[.slice a N c, .slice a' P c', .int .i64 left, .int .i64 epoch, .int .i64 seq, .int .i64 used, .slice a2 D c2] 29)
    have e1 := heap_alloc_new (w.alloc (.cells #[.slice a N c, .slice a' P c', .int .i64 left, .int .i64 epoch, .int .i64 seq, .int .i64 used, .slice a2 D c2] 29)) (.cells #[.int .i64 epoch, .int .i64 seq, .slice none 0 0] 67)
    rw [World.size_alloc] at e1
    rw [← hB]
    exact ⟨(heap_alloc_old _ _ (lt_of_block b0)).trans b0, e1, gbelow T (((Below.refl w.heap.size w).alloc (Nat.le_refl _) _).alloc (by simp) _), cls_alloc (cls_alloc h _) _, by rw [World.size_alloc, World.size_alloc]⟩)
  have HBD := Lib.hid hbd; have HL := Lib.hid hlen; have HK := Lib.hid hk; have HP := Lib.hid hp; have HBQ := Lib.hid hB; have HO := Lib.hid hO; have HHD := Lib.hid hHD; have HCM := Lib.hid hCM; have HLH := Lib.hid hLH; have HLC := Lib.hid hLC
  rw [hB] at hTw
  have hwu : wrap64 (13 + used) = 13 + used := IntWalk.wrap64_in _ ⟨by omega, by omega⟩
  have hw1 : wrap64 (1 + seq) = 1 + seq := IntWalk.wrap64_in _ ⟨by omega, by omega⟩
  have hw7 : wrap64 (7 + seq) = 7 + seq := IntWalk.wrap64_in _ ⟨by omega, by omega⟩
  have hbs : ∀ (k : Int) (s : ByteArray), 0 ≤ k → k ≤ 1000 → s.size ≤ 9223372036854775807 → (⟨k, s⟩ : Wrt).bounded := fun k s q1 q2 q3 => ⟨⟨by show (-9223372036854775808 : Int) ≤ k; omega, by show k ≤ (9223372036854775807 : Int); omega⟩, q3⟩
  have HBS := Lib.hid hbs
  clear hx hbd h hcs0 hno0 hk hp hB hO hHD hCM hLH hLC hlen hbs hs
  go_enter Tryz.func26, Tryz.ntmps26
  go_upto_region 2 with fail
  obtain ⟨u, hW⟩ : ∃ u, (w.alloc (.cells #[.slice a N c, .slice a' P c', .int .i64 left, .int .i64 epoch, .int .i64 seq, .int .i64 used, .slice a2 D c2] 29)).alloc (.cells #[.int .i64 epoch, .int .i64 seq, .slice none 0 0] 67) = u := ⟨_, rfl⟩
  rw [hW, HBQ.out]
  obtain ⟨hL1, hR1, hg1, hc1', hz1⟩ := hX.out u hW.symm
  have HL1 := Lib.hid hL1; have HR1 := Lib.hid hR1; have HG1 := Lib.hid hg1; have HC1 := Lib.hid hc1'
  have hz1' : B + 1 + 1 ≤ u.heap.size := by omega
  clear hW hX hL1 hR1 hg1 hc1' hz1
  go_wp2_with fail
  go_loopw [18] (fun z wr => ∃ (j : Nat) (tv : Value), j ≤ n ∧ z = .int .i64 j ∧ B + 1 + 1 ≤ wr.heap.size ∧ Hid (IsCls wr T (((imgL used xs).take j).foldl wrS o)) ∧ Hid (w.grownBy wr (some T)) ∧ Hid (wr.heap[B]? = some (.cells #[.slice a N c, .slice a' P c', .int .i64 left, .int .i64 epoch, .int .i64 seq, .int .i64 used, .slice a2 D c2] 29 (0, 0))) ∧
      Hid (wr.heap[B + 1]? = some (.cells #[.int .i64 epoch, .int .i64 seq, tv] 67 (0, 0))) ∧ Hid (ownI wr (B + 1 + 1) tv j ((xs.take j).map Wrt.sector))) (fun z _ => n - (intOf z).toNat)
  case atStart => exact ⟨0, _, Nat.zero_le _, rfl, hz1', HC1, HG1, HL1, HR1, Lib.hid (ownI_nil _ _)⟩
  case round =>
    clear HC1 HG1 HL1 HR1 hz1'
    obtain ⟨j, tv, hj, rfl, hzr, hC, hG, hL, hR, hI⟩ := hrel
    obtain ⟨A5, c5, rfl, _⟩ := hI.out.form
    by_cases hlt : j < n
    · have hjI : (j : Int) < n := by omega
      have hjl : j < xs.length := by rw [HL.out]; exact hlt
      obtain ⟨a9, n9, c9, hv9, _, _, _, _, hat⟩ := HW.out wr hG.out
      injection hv9 with t1 t2 t3
      subst t1 t2 t3
      obtain ⟨b, off, rfl, hbl, hat⟩ := hat.resolve_left (by omega)
      obtain ⟨e0, e1⟩ := hat j hlt
      have hbx := HBD.out _ (List.getElem_mem hjl)
      have hsn := fold_snoc (imgL used xs) o j (by rw [imgL_len]; exact hjl)
      rw [imgL_get used xs j hjl] at hsn
      have htk : (xs.take (j + 1)).map Wrt.sector = (xs.take j).map Wrt.sector ++ [(xs.getD j wrtZ).sector] := by
        rw [← List.take_append_getElem hjl, List.map_append, show xs.getD j wrtZ = xs[j] from by simp [List.getD, hjl]]; rfl
      have hok := fold_ok ((imgL used xs).take j) o HK.out
      have hpd := fold_pend ((imgL used xs).take j) o
      rw [List.length_take] at hpd
      have hpl : (((imgL used xs).take j).foldl wrS o).dsk.pend.length ≤ 950 := by have := HP.out; omega
      rw [show xs[j] = xs.getD j wrtZ from by simp [List.getD, hjl]] at hbx
      have HSN := Lib.hid hsn; have HTK := Lib.hid htk
      clear hpd hsn htk hat
      generalize ((imgL used xs).take j).foldl wrS o = q at *
      generalize (xs.take j).map Wrt.sector = M at *
      generalize xs.getD j wrtZ = X at *
      obtain ⟨xs0, xb⟩ := X
      obtain ⟨_, hbx⟩ := hbx
      simp only at e0 e1 hbx
      have hwj : wrap64 (13 + used + (j : Int)) = 13 + used + j := IntWalk.wrap64_in _ ⟨by omega, by omega⟩
      have hbw := HBS.out (13 + used + (j : Int)) xb (by omega) (by omega) hbx
      have HOK := Lib.hid hok; have HPL := Lib.hid hpl; have HBW := Lib.hid hbw
      obtain ⟨V, hV⟩ : ∃ V, wr.heap.size = V := ⟨_, rfl⟩
      have hX : Hid (∀ wz, wr.alloc (.cells #[.int .i64 xs0, .string xb] 46) = wz → wz.heap[V]? = some (.cells #[.int .i64 xs0, .string xb] 46 (0, 0)) ∧ IsCls wz T q ∧ w.grownBy wz (some T) ∧ wz.heap[B]? = some (.cells #[.slice a N c, .slice a' P c', .int .i64 left, .int .i64 epoch, .int .i64 seq, .int .i64 used, .slice a2 D c2] 29 (0, 0)) ∧
          wz.heap[B + 1]? = some (.cells #[.int .i64 epoch, .int .i64 seq, .slice A5 j c5] 67 (0, 0)) ∧ ownI wz (B + 1 + 1) (.slice A5 j c5) j M ∧ wz.heap.size = V + 1 ∧ some V ≠ (Value.slice A5 j c5).ownBlock) := Lib.hid (by
        rintro wz rfl
        have hal := (Below.refl wr.heap.size wr).alloc (Nat.le_refl _) (.cells #[.int .i64 xs0, .string xb] 46)
        exact ⟨by rw [← hV]; exact heap_alloc_new wr _, cls_alloc hC.out _, gtransO hG.out (World.grownBy_alloc wr _ none) (by simp), (hal.block _ (lt_of_block hL.out)).trans hL.out, (hal.block _ (lt_of_block hR.out)).trans hR.out, hI.out.keep hal, by rw [World.size_alloc, hV], hI.out.ne2 (by omega)⟩)
      have HVQ := Lib.hid hV
      clear hC hG hL hR hI hbl hok hpl hbw hV
      go_upto_region 5 with fail
      obtain ⟨wz, hW⟩ : ∃ wz, wr.alloc (.cells #[.int .i64 xs0, .string xb] 46) = wz := ⟨_, rfl⟩
      rw [hW]
      (try rw [HVQ.out])
      obtain ⟨hVz, hCz, hGz, hLz, hRz, hIz, hsz, hVne⟩ := hX.out wz hW
      have HVZ := Lib.hid hVz; have HCZ := Lib.hid hCz; have HGZ := Lib.hid hGz; have HLZ := Lib.hid hLz; have HRZ := Lib.hid hRz; have HIZ := Lib.hid hIz; have HSZ := Lib.hid hsz; have HVN := Lib.hid hVne
      have hbz : B + 1 + 1 ≤ wz.heap.size := by rw [HVQ.out] at hzr; omega
      have z0 := below_cell (Below.refl _ wz) hVz 0 rfl
      have r2 := below_cell (Below.refl _ wz) hRz 2 rfl
      clear hX hW hVz hCz hGz hLz hRz hIz hsz hVne e0 e1
      go_wp2_with (first | (at_builtin; go_must (refine wpList_pushI _ _ xs0 HIZ.out hbz (by omega) rfl rfl rfl rfl ?_)))
      intro tv5 w5 h5 g5
      obtain ⟨A6, c6, rfl, _⟩ := h5.form
      have hX : Hid (∀ w6, w5.setCell ⟨B + 1, 2, none⟩ (.slice A6 (j + 1) c6) = w6 → IsCls w6 T q ∧ w.grownBy w6 (some T) ∧ w6.heap[B]? = some (.cells #[.slice a N c, .slice a' P c', .int .i64 left, .int .i64 epoch, .int .i64 seq, .int .i64 used, .slice a2 D c2] 29 (0, 0)) ∧
          w6.heap[B + 1]? = some (.cells #[.int .i64 epoch, .int .i64 seq, .slice A6 (j + 1) c6] 67 (0, 0)) ∧ w6.heap[V]? = some (.cells #[.int .i64 xs0, .string xb] 46 (0, 0)) ∧ ownI w6 (B + 1 + 1) (.slice A6 (j + 1) c6) (j + 1) (M ++ [xs0]) ∧ B + 1 + 1 ≤ w6.heap.size) := Lib.hid (by
        rintro w6 rfl
        have hal := (Below.refl wz.heap.size wz).alloc (Nat.le_refl _) (.cells #[.int .i64 xs0] 3)
        have hIa := HIZ.out.keep hal
        have hCa := cls_alloc HCZ.out (.cells #[.int .i64 xs0] 3)
        have hGa := gtransO HGZ.out (World.grownBy_alloc wz (.cells #[.int .i64 xs0] 3) none) (by simp)
        have kk : ∀ (k : Nat) (cs : Array Value) (t : TypeId), some k ≠ (Value.slice A5 j c5).ownBlock → wz.heap[k]? = some (.cells cs t (0, 0)) → w5.heap[k]? = some (.cells cs t (0, 0)) := fun k cs t hk hh => by
          have := (hal.block _ (lt_of_block hh)).trans hh
          exact (g5.block k (lt_of_block this) hk).trans this
        have hL5 := kk B _ _ (HIZ.out.ne (by omega)) HLZ.out
        have hR5 := kk (B + 1) _ _ (HIZ.out.ne (by omega)) HRZ.out
        have hV5 := kk V _ _ HVN.out HVZ.out
        have hC5 := cls_rows hCa hIa.noText (fun e => hIa.ne (show T < B + 1 + 1 by omega) e.symm) g5
        have hG5 := gtransO hGa g5 (fun g hg => by have := (hIa.1.lt g hg).1; have := HBQ.out; omega)
        have gs := gset1 w5 (B + 1) 2 (.slice A6 (j + 1) c6)
        have hVB : V ≠ B + 1 := by have := HVQ.out; omega
        refine ⟨cls_put1 hC5 hR5 (head_no _ _ _ _ _) (by omega) 2 _, gtransO hG5 gs (fun g hg => by injection hg with hg; have := HBQ.out; omega), (Below.heap_setCell _ _ _ _ (show B ≠ B + 1 by omega)).trans hL5, block_set hR5 2 _, (Below.heap_setCell _ _ _ _ hVB).trans hV5, h5.kept gs (fun g hg e => by injection e with e; omega), ?_⟩
        rw [World.size_setCell]
        have := lt_of_block hR5
        omega)
      have hf2 : w5.frozen? ⟨B + 1, 2, none⟩ = false ∧ ∃ y, w5.cell? ⟨B + 1, 2, none⟩ = some y := by
        have hal := (Below.refl wz.heap.size wz).alloc (Nat.le_refl _) (.cells #[.int .i64 xs0] 3)
        have hh := (hal.block _ (lt_of_block HRZ.out)).trans HRZ.out
        have := (g5.block (B + 1) (lt_of_block hh) (HIZ.out.ne (by omega))).trans hh
        exact ⟨block_frozen this 2, _, below_cell (Below.refl _ w5) this 2 rfl⟩
      obtain ⟨hf2, y2, hy2⟩ := hf2
      clear h5 g5 HVN HRZ HIZ HCZ HGZ HLZ HVZ z0 r2
      go_upto_region 6 with fail
      obtain ⟨w6, hW⟩ : ∃ w6, w5.setCell ⟨B + 1, 2, none⟩ (.slice A6 (j + 1) c6) = w6 := ⟨_, rfl⟩
      rw [hW]
      obtain ⟨hC6, hG6, hL6, hR6, hV6, hI6, hz6⟩ := hX.out w6 hW
      have l5 := below_cell (Below.refl _ w6) hL6 5 rfl
      have z1 := below_cell (Below.refl _ w6) hV6 1 rfl
      have hal := (Below.refl w6.heap.size w6).alloc (Nat.le_refl _) (.cells #[.int .i64 (13 + used + (j : Int)), .string xb] 46)
      have hWR := wlWrite T q (.slice (some ⟨w6.heap.size, 0, none⟩) 1 1) [⟨13 + used + (j : Int), xb⟩] (w6.alloc (.cells #[.int .i64 (13 + used + (j : Int)), .string xb] 46)) (cls_alloc hC6 _) (one_wrt w6 ⟨13 + used + (j : Int), xb⟩ HBW.out) HOK.out (by have := HPL.out; simp only [List.length_cons, List.length_nil]; omega)
      simp only [List.foldl_cons, List.foldl_nil] at hWR
      have hY : Hid (∀ w8, (w6.alloc (.cells #[.int .i64 (13 + used + (j : Int)), .string xb] 46)).grownBy w8 (some T) → w.grownBy w8 (some T) ∧ w8.heap[B]? = some (.cells #[.slice a N c, .slice a' P c', .int .i64 left, .int .i64 epoch, .int .i64 seq, .int .i64 used, .slice a2 D c2] 29 (0, 0)) ∧
          w8.heap[B + 1]? = some (.cells #[.int .i64 epoch, .int .i64 seq, .slice A6 (j + 1) c6] 67 (0, 0)) ∧ ownI w8 (B + 1 + 1) (.slice A6 (j + 1) c6) (j + 1) (M ++ [xs0]) ∧ B + 1 + 1 ≤ w8.heap.size) := Lib.hid (by
        intro w8 hg8
        have hL7 := (hal.block _ (lt_of_block hL6)).trans hL6
        have hR7 := (hal.block _ (lt_of_block hR6)).trans hR6
        have hR8 := (hg8.block (B + 1) (lt_of_block hR7) (fun e => by injection e with e; omega)).trans hR7
        refine ⟨gtrans (gtransO hG6 (World.grownBy_alloc w6 _ none) (by simp)) hg8, (hg8.block B (lt_of_block hL7) (fun e => by injection e with e; omega)).trans hL7, hR8, (hI6.keep hal).kept hg8 (fun g hg e => by injection e with e; omega), ?_⟩
        have := lt_of_block hR8
        omega)
      have HWR := Lib.hid hWR
      clear hX hW hC6 hG6 hL6 hR6 hV6 hI6 hal hWR hf2 hy2
      go_wp2_with (first | (go_at_call 36; refine HWR.out.mono ?_; rintro e w8 ⟨rfl, hc8, hg8⟩))
      obtain ⟨hG8, hL8, hR8, hI8, hz8⟩ := hY.out w8 hg8
      have HC8 : Hid (IsCls w8 T (((imgL used xs).take (j + 1)).foldl wrS o)) := Lib.hid (by rw [HSN.out]; exact hc8)
      have HG8 := Lib.hid hG8; have HL8 := Lib.hid hL8; have HR8 := Lib.hid hR8
      have HI8 : Hid (ownI w8 (B + 1 + 1) (.slice A6 (j + 1) c6) (j + 1) ((xs.take (j + 1)).map Wrt.sector)) := Lib.hid (by rw [HTK.out]; exact hI8)
      clear hY hc8 hg8 hG8 hL8 hR8 hI8 HWR
      go_roundw
      case rel => exact ⟨j + 1, _, by omega, by go_num, hz8, HC8, HG8, HL8, HR8, HI8⟩
      case measure => simp [intOf]; omega
    · obtain rfl : j = n := by omega
      have hnl : ¬ (j : Int) < j := by omega
      have hall : xs.take j = xs := List.take_of_length_le (by rw [HL.out]; exact Nat.le_refl _)
      have hall2 : (imgL used xs).take j = imgL used xs := List.take_of_length_le (by rw [imgL_len, HL.out]; exact Nat.le_refl _)
      rw [hall] at hI
      rw [hall2] at hC
      have hok := fold_ok (imgL used xs) o HK.out
      have hpd := fold_pend (imgL used xs) o
      rw [imgL_len] at hpd
      have hpl : ((imgL used xs).foldl wrS o).dsk.pend.length ≤ 940 := by have := HP.out; omega
      have HRD := Lib.hid (fun x (hx : Below wr.heap.size wr x) => HHD.out (.slice A5 j c5) x (own_reads1 (hI.out.keep hx).1 (by rw [List.length_map]; exact HL.out)))
      have HOK := Lib.hid hok; have HPL := Lib.hid hpl
      clear hall hall2 hpd hok hpl hI
      generalize (imgL used xs).foldl wrS o = q at *
      have hb1 := HBS.out (1 + seq) SH (by omega) (by omega) HLH.out
      have hb7 := HBS.out (7 + seq) SC (by omega) (by omega) HLC.out
      have HB1 := Lib.hid hb1; have HB7 := Lib.hid hb7
      clear hb1 hb7
      have HIL := Lib.hid (fun (A x : World) (k : Nat) (hk : k ≠ T) (cs : Array Value) (Ty : TypeId) (h : A.heap[k]? = some (.cells cs Ty (0, 0))) (hg : A.grownBy x (some T)) => (hg.block k (lt_of_block h) (fun e => absurd (Option.some.inj e) hk)).trans h)
      have hBT : B ≠ T := by omega
      have hL := hL.out
      have r0 := below_cell (Below.refl _ wr) hR.out 0 rfl
      have r1 := below_cell (Below.refl _ wr) hR.out 1 rfl
      have r2 := below_cell (Below.refl _ wr) hR.out 2 rfl
      have HL0 := Lib.hid hL
      clear hL
      go_upto_region 9 with (first | (go_at_call 58; refine (HRD.out _ (Below.refl _ _)).mono ?_; rintro e w2 ⟨rfl, hb2⟩))
      have HL2 := Lib.hid ((hb2.block _ (lt_of_block HL0.out)).trans HL0.out)
      have HC2 : Hid (IsCls w2 T q) := Lib.hid (cls_rows (row := none) hC.out (fun g e => by cases e) (by simp) ⟨hb2.os, hb2.tape, hb2.output, hb2.size, fun k hk _ => hb2.block k hk⟩)
      have HG2 := Lib.hid (gtrans hG.out (gbelow T hb2))
      clear hb2 r0 r1 r2 hC hG hR HRD HL0
      have hWR := wlWrite T q (.slice (some ⟨w2.heap.size, 0, none⟩) 1 1) [⟨1 + seq, SH⟩] (w2.alloc (.cells #[.int .i64 (1 + seq), .string SH] 46)) (cls_alloc HC2.out _) (one_wrt w2 ⟨1 + seq, SH⟩ HB1.out) HOK.out (by have := HPL.out; simp only [List.length_cons, List.length_nil]; omega)
      simp only [List.foldl_cons, List.foldl_nil] at hWR
      have HWR := Lib.hid hWR
      have l4 := below_cell (Below.refl _ w2) HL2.out 4 rfl
      have HLa := Lib.hid ((heap_alloc_old w2 (.cells #[.int .i64 (1 + seq), .string SH] 46) (lt_of_block HL2.out)).trans HL2.out)
      have HGa := Lib.hid (gtransO HG2.out (World.grownBy_alloc w2 (.cells #[.int .i64 (1 + seq), .string SH] 46) none) (by simp))
      clear hWR
      go_upto_region 10 with (first | (go_at_call 36; refine HWR.out.mono ?_; rintro e w3 ⟨rfl, hc3, hg3⟩))
      have HL3 := Lib.hid (HIL.out _ w3 _ hBT _ _ HLa.out hg3)
      have HG3 := Lib.hid (gtrans HGa.out hg3)
      have hp3 := wr_pend q ⟨1 + seq, SH⟩
      have HK3 := Lib.hid (wr_left q ⟨1 + seq, SH⟩ HOK.out)
      have HP3 : Hid ((wrS q ⟨1 + seq, SH⟩).dsk.pend.length ≤ 941) := Lib.hid (by have := HPL.out; omega)
      clear hp3 hg3 HLa HGa HWR HL2 HC2 HG2 l4
      generalize wrS q ⟨1 + seq, SH⟩ = q1 at *
      have HFL := Lib.hid (wlFlush T q1 w3 hc3 HK3.out (by have := HP3.out; omega))
      clear hc3
      go_upto_region 11 with (first | (go_at_call 37; refine HFL.out.mono ?_; rintro e w4 ⟨rfl, hc4, hg4⟩))
      have HL4 := Lib.hid (HIL.out _ w4 _ hBT _ _ HL3.out hg4)
      have HG4 := Lib.hid (gtrans HG3.out hg4)
      have hp4 := fl_pend q1
      have HK4 := Lib.hid (fl_left q1 HK3.out)
      have HP4 : Hid ((flS q1).dsk.pend.length ≤ 941) := Lib.hid (by have := HP3.out; omega)
      have HC4 := Lib.hid hc4
      clear hp4 hg4 hc4 HFL HL3 HG3 HK3 HP3
      generalize flS q1 = q2 at *
      have l3 := below_cell (Below.refl _ w4) HL4.out 3 rfl
      have l4 := below_cell (Below.refl _ w4) HL4.out 4 rfl
      go_upto_region 12 with (first | (go_at_call 59; refine (HCM.out _).mono ?_; rintro e w5 ⟨rfl, hb5⟩))
      have HL5 := Lib.hid ((hb5.block _ (lt_of_block HL4.out)).trans HL4.out)
      have HC5 : Hid (IsCls w5 T q2) := Lib.hid (cls_rows (row := none) HC4.out (fun g e => by cases e) (by simp) ⟨hb5.os, hb5.tape, hb5.output, hb5.size, fun k hk _ => hb5.block k hk⟩)
      have HG5 := Lib.hid (gtrans HG4.out (gbelow T hb5))
      clear hb5 l3 l4 HC4 HG4 HL4
      have hWR := wlWrite T q2 (.slice (some ⟨w5.heap.size, 0, none⟩) 1 1) [⟨7 + seq, SC⟩] (w5.alloc (.cells #[.int .i64 (7 + seq), .string SC] 46)) (cls_alloc HC5.out _) (one_wrt w5 ⟨7 + seq, SC⟩ HB7.out) HK4.out (by have := HP4.out; simp only [List.length_cons, List.length_nil]; omega)
      simp only [List.foldl_cons, List.foldl_nil] at hWR
      have HWR := Lib.hid hWR
      have l4 := below_cell (Below.refl _ w5) HL5.out 4 rfl
      have HGa := Lib.hid (gtransO HG5.out (World.grownBy_alloc w5 (.cells #[.int .i64 (7 + seq), .string SC] 46) none) (by simp))
      clear hWR
      go_upto_region 13 with (first | (go_at_call 36; refine HWR.out.mono ?_; rintro e w6 ⟨rfl, hc6, hg6⟩))
      have HG6 := Lib.hid (gtrans HGa.out hg6)
      have hp6 := wr_pend q2 ⟨7 + seq, SC⟩
      have HK6 := Lib.hid (wr_left q2 ⟨7 + seq, SC⟩ HK4.out)
      have HP6 : Hid ((wrS q2 ⟨7 + seq, SC⟩).dsk.pend.length ≤ 942) := Lib.hid (by have := HP4.out; omega)
      clear hp6 hg6 HGa HWR HL5 HC5 HG5 l4
      generalize wrS q2 ⟨7 + seq, SC⟩ = q3 at *
      have HFL := Lib.hid (wlFlush T q3 w6 hc6 HK6.out (by have := HP6.out; omega))
      clear hc6
      go_wp2_with (first | (go_at_call 37; refine HFL.out.mono ?_; rintro e w7 ⟨rfl, hc7, hg7⟩))
      go_end0
      exact ⟨rfl, by rw [HO.out]; exact hc7, gtrans HG6.out hg7⟩
end SWlB
section SWlC
open Go.RowKit
set_option linter.unusedVariables false
set_option linter.unusedSimpArgs false

theorem fl_secs (o : Outc) : (flS o).dsk.secs.length = o.dsk.secs.length := by
  unfold flS
  split
  · unfold flO
    split
    · rfl
    · rename_i h
      exact crash_len o.dsk _ (ready_zero h).2
  · rfl
theorem wr_secs (o : Outc) (x : Wrt) : (wrS o x).dsk.secs.length = o.dsk.secs.length := by
  unfold wrS
  split
  · unfold wrO
    split
    · rfl
    · split
      · rfl
      · split
        · rfl
        · rfl
  · rfl
theorem fold_secs (l : List Wrt) : ∀ o : Outc, (l.foldl wrS o).dsk.secs.length = o.dsk.secs.length := by
  induction l with
  | nil => intro o; rfl
  | cons x l ih => intro o; rw [List.foldl_cons, ih, wr_secs]
theorem log_secs (o : Outc) (l : Lg) (xs : List Wrt) : (logO o l xs).dsk.secs.length = o.dsk.secs.length := by
  unfold logO; rw [fl_secs, wr_secs, fl_secs, wr_secs, fold_secs]
theorem log_ok (o : Outc) (l : Lg) (xs : List Wrt) (h : o.ok) : (logO o l xs).ok := by
  unfold logO; exact fl_left _ (wr_left _ _ (fl_left _ (wr_left _ _ (fold_ok _ _ h))))
theorem ck_secs (l : Lg) : (ckO l).dsk.secs.length = l.secs.length := by
  unfold ckO; rw [fl_secs, wr_secs, fl_secs, fold_secs]; rfl
theorem ck_ok (l : Lg) (h : i64ok l.left) : (ckO l).ok := by
  unfold ckO; exact fl_left _ (wr_left _ _ (fl_left _ (fold_ok _ _ h)))
theorem ck_pend (l : Lg) : (ckO l).dsk.pend.length ≤ l.pend.length + l.dirty.length + 1 := by
  unfold ckO
  have h1 := fold_pend l.dirty ⟨l.dsk, l.left, 0⟩
  have h1' : (l.dirty.foldl wrS ⟨l.dsk, l.left, 0⟩).dsk.pend.length ≤ l.pend.length + l.dirty.length := h1
  have h2 := fl_pend (l.dirty.foldl wrS ⟨l.dsk, l.left, 0⟩)
  have h3 := wr_pend (flS (l.dirty.foldl wrS ⟨l.dsk, l.left, 0⟩)) ⟨0, layS (superL (l.epoch + 1))⟩
  have h4 := fl_pend (wrS (flS (l.dirty.foldl wrS ⟨l.dsk, l.left, 0⟩)) ⟨0, layS (superL (l.epoch + 1))⟩)
  omega
theorem allow_facts {N : Nat} : ∀ {p l : List Wrt}, allowF N p l = true → (∀ x ∈ l, mayW N x ∧ ∀ y ∈ p, y.sector ≠ x.sector) ∧ (l.map Wrt.sector).Nodup
  | p, [], _ => ⟨fun x hx => absurd hx (by simp), by simp⟩
  | p, x :: r, h => by
    rw [allowF_cons, Bool.and_eq_true, Bool.and_eq_true, Bool.and_eq_true] at h
    obtain ⟨⟨⟨h1, h2⟩, h3⟩, h4⟩ := h
    obtain ⟨i1, i2⟩ := allow_facts h4
    have hp : ∀ y ∈ p, y.sector ≠ x.sector := by
      intro y hy e
      have : seenB p x.sector = true := by unfold seenB; rw [List.any_eq_true]; exact ⟨y, hy, decide_eq_true e⟩
      rw [this] at h2
      exact absurd h2 (by decide)
    refine ⟨fun z hz => ?_, ?_⟩
    · rcases List.mem_cons.1 hz with rfl | hz
      · exact ⟨⟨h1, of_decide_eq_true h3⟩, hp⟩
      · exact ⟨(i1 z hz).1, fun y hy => (i1 z hz).2 y (List.mem_append_left _ hy)⟩
    · rw [List.map_cons, List.nodup_cons]
      refine ⟨fun hm => ?_, i2⟩
      obtain ⟨z, hz, he⟩ := List.mem_map.1 hm
      exact (i1 z hz).2 x (List.mem_append_right _ (List.mem_singleton_self x)) he.symm
theorem allow_may {N : Nat} {xs : List Wrt} (h : allowL N xs = true) : ∀ x ∈ xs, mayW N x := fun x hx => ((allow_facts h).1 x hx).1
theorem allow_head {N : Nat} (hN : N ≤ 256) {xs : List Wrt} (h : allowL N xs = true) (h0 : xs.length ≠ 0) (h1 : xs.length ≤ 40) {E S : Int} (hE : 1 ≤ E ∧ E ≤ 1099511627776) (hS : 0 ≤ S ∧ S < 6) : headOk E S (xs.map Wrt.sector) = true := by
  unfold headOk
  rw [decide_eq_true hE, decide_eq_true hS]
  show okT _ = true
  unfold okT
  refine decide_eq_true ⟨by rw [List.length_map]; omega, by rw [List.length_map]; omega, fun t ht => ?_, (allow_facts h).2⟩
  obtain ⟨x, hx, rfl⟩ := List.mem_map.1 ht
  have := home_bnd (allow_may h x hx).1 hN
  omega
/-- behind the record: the log with one transaction more, or a disk's error -/
def tkL (q : Outc) (l : Lg) (xs : List Wrt) : Lg := takenL ⟨q.dsk.secs, q.dsk.pend, q.left, l.epoch, l.seq, l.used, l.dirty⟩ xs
def doneL (l : Lg) (xs : List Wrt) : Lg := if (logO ⟨l.dsk, l.left, 0⟩ l xs).code = 0 then tkL (logO ⟨l.dsk, l.left, 0⟩ l xs) l xs else goneL (logO ⟨l.dsk, l.left, 0⟩ l xs)
def doneE (l : Lg) (xs : List Wrt) : Int := (logO ⟨l.dsk, l.left, 0⟩ l xs).code
def fullB (l : Lg) (n : Nat) : Bool := decide (l.seq = 6 ∨ 40 < l.used + n)
def comL (l : Lg) (xs : List Wrt) : Lg :=
  if (rightL l && allowL l.secs.length xs) = true then
    if 40 < xs.length then zeroL else if xs.length = 0 then l else
    if fullB l xs.length = true then (if ckE l = 0 then doneL (ckL l) xs else ckL l) else doneL l xs
  else zeroL
def comE (l : Lg) (xs : List Wrt) : Int :=
  if (rightL l && allowL l.secs.length xs) = true then
    if 40 < xs.length then 30 else if xs.length = 0 then 0 else
    if fullB l xs.length = true then (if ckE l = 0 then doneE (ckL l) xs else ckE l) else doneE l xs
  else 1
theorem right_nums {l : Lg} (h : rightL l = true) : (1 ≤ l.epoch ∧ l.epoch ≤ 1099511627776) ∧ (0 ≤ l.seq ∧ l.seq ≤ 6) ∧ (0 ≤ l.used ∧ l.used ≤ 40) := by
  rw [rightL_eq] at h
  unfold numsB at h
  simp only [Bool.and_eq_true, decide_eq_true_eq] at h
  exact h.1.2
theorem ck_done {l : Lg} (hr : rightL l = true) (h : ckE l = 0) : ckL l = newL (ckO l) (l.epoch + 1) ∧ l.epoch < 1099511627776 := by
  unfold ckE at h
  unfold ckL
  rw [if_pos hr] at h ⊢
  have hn := (right_nums hr).1
  by_cases he : l.epoch = 1099511627776
  · rw [if_pos he] at h; exact absurd h (by decide)
  · rw [if_neg he] at h ⊢
    rw [if_pos h]
    exact ⟨rfl, by omega⟩
/-- what the record asks of a log -/
structure Ready (l : Lg) (xs : List Wrt) : Prop where
  head : headOk l.epoch l.seq (xs.map Wrt.sector) = true
  seq : 0 ≤ l.seq ∧ l.seq ≤ 1000
  used : 0 ≤ l.used ∧ l.used ≤ 40
  pend : l.pend.length ≤ 900
  n : xs.length ≤ 40
  ok : i64ok l.left
  dirty : dirtyB l.secs.length (-1) l.dirty = true
  small : l.secs.length ≤ 256
  may : ∀ x ∈ xs, mayW l.secs.length x
theorem ready_at {l : Lg} {xs : List Wrt} (hr : rightL l = true) (ha : allowL l.secs.length xs = true) (h0 : xs.length ≠ 0) (h1 : xs.length ≤ 40) (hf : fullB l xs.length = false) (hp : l.pend.length ≤ 600) (hk : i64ok l.left) : Ready l xs := by
  obtain ⟨n1, n2, n3⟩ := right_nums hr
  obtain ⟨d1, d2, _⟩ := right_dirty hr
  unfold fullB at hf
  rw [decide_eq_false_iff_not] at hf
  exact ⟨allow_head d2 ha h0 h1 n1 (by omega), by omega, n3, by omega, h1, hk, d1, d2, allow_may ha⟩
theorem ready_ck {l : Lg} {xs : List Wrt} (hr : rightL l = true) (ha : allowL l.secs.length xs = true) (h0 : xs.length ≠ 0) (h1 : xs.length ≤ 40) (hE : ckE l = 0) (hp : l.pend.length ≤ 600) (hk : i64ok l.left) : Ready (ckL l) xs := by
  obtain ⟨n1, n2, n3⟩ := right_nums hr
  obtain ⟨d1, d2, _⟩ := right_dirty hr
  obtain ⟨e1, e2⟩ := ck_done hr hE
  have hs := ck_secs l
  have hpd := ck_pend l
  have hdl := dirty_small d1 d2
  have hok := ck_ok l hk
  rw [e1]
  refine ⟨allow_head d2 ha h0 h1 (show 1 ≤ l.epoch + 1 ∧ l.epoch + 1 ≤ 1099511627776 by omega) (show (0 : Int) ≤ 0 ∧ (0 : Int) < 6 by omega), show (0 : Int) ≤ 0 ∧ (0 : Int) ≤ 1000 by omega, show (0 : Int) ≤ 0 ∧ (0 : Int) ≤ 40 by omega, ?_, h1, hok, rfl, ?_, ?_⟩
  · show (ckO l).dsk.pend.length ≤ 900
    omega
  · show (ckO l).dsk.secs.length ≤ 256
    omega
  · show ∀ x ∈ xs, mayW (ckO l).dsk.secs.length x
    rw [hs]
    exact allow_may ha
end SWlC
end Go.Proofs.YthnmnnlbglpjaaaGreatDoor
