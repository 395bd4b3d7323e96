/- The reference's run. -/
import Derived.Test.YtpdaenpcgcjmjaaRef11I
namespace Go.Proofs.Ytpdaenpcgcjmjaa
open Go.RowKit
set_option linter.unusedVariables false

theorem runR_mach (rec : ByteArray) (n : Nat) (r : RM) (D : Deed) : (D.runR rec r).mach = { (D.run rec n r.mach).2 with next := 0 } := by
  cases D with
  | setA v => rfl
  | setX v => rfl
  | over v => rfl
  | answer v => rfl
  | ldm k => unfold Deed.runR Deed.run; simp only; split <;> rfl
  | lxm k => unfold Deed.runR Deed.run; simp only; split <;> rfl
  | st k => unfold Deed.runR Deed.run; simp only; split <;> rfl
  | stx k => unfold Deed.runR Deed.run; simp only; split <;> rfl
  | abs k => unfold Deed.runR Deed.run; simp only; split <;> rfl
/-- what a step of both is -/
theorem alike_step (l : List Ins) (rec : ByteArray) (m : Mach) (r : RM) (hs : rec.size = 64) (h : Alike l.length m r) (hm : m.small) (hr : r.mach.small) (hb : ∀ i ∈ l, i.bounded) (hN : l.length ≤ 1000000) (f s : Nat) (hf : l.length ≤ m.next + f) :
    ((stepR l rec r).wrong = true ∧ runF l rec f m s = (0, 0, 51)) ∨
    ((stepR l rec r).wrong = false ∧ (stepR l rec r).mach.small ∧ (((stepR l rec r).done = true ∧ runF l rec f m s = ((stepR l rec r).out, s, 0) ∧ 1 ≤ f) ∨
      ((stepR l rec r).done = false ∧ ∃ m' f', f = f' + 1 ∧ Alike l.length m' (stepR l rec r) ∧ m'.small ∧ l.length ≤ m'.next + f' ∧ runF l rec f m s = runF l rec f' m' (s + 1)))) := by
  by_cases hlt : m.next < l.length
  · have hn : r.at' = m.next := by rcases h.next with h | h <;> omega
    cases f with
    | zero => omega
    | succ f =>
    have hti : r.at'.toNat = m.next := by omega
    have hrun : runF l rec (f + 1) m s = if insKnown (l.getD m.next insZ).code then if (stepM l rec m).1 then if (stepM l rec m).2.ret then ((stepM l rec m).2.ans, s, 0) else runF l rec f (stepM l rec m).2 (s + 1) else (0, 0, 51) else (0, 0, 51) := by
      show (if m.next < l.length then _ else _) = _
      rw [if_pos hlt]
    have hbi : (l.getD m.next insZ).bounded := by
      rw [List.getD_eq_getElem?_getD, List.getElem?_eq_getElem (by omega)]
      exact hb _ (List.getElem_mem _)
    have hst : stepM l rec m = (deedD m (l.getD m.next insZ).code.toNat (l.getD m.next insZ).k.toNat (l.getD m.next insZ).jt (l.getD m.next insZ).jf).run rec l.length { m with next := m.next + 1 } := rfl
    by_cases hk : insKnown (l.getD m.next insZ).code = true
    · have hsr : stepR l rec r = (deedD m (l.getD m.next insZ).code.toNat (l.getD m.next insZ).k.toNat (l.getD m.next insZ).jt (l.getD m.next insZ).jf).runR rec { r with at' := r.at' + 1 } := by
        unfold stepR
        rw [hti, if_pos ⟨by omega, by omega, hk⟩, deedD_congr r.mach m _ _ _ _ h.a h.x]
      rw [hrun, if_pos hk, hst, hsr]
      obtain ⟨bc, bt, bf, bk, bk1⟩ := hbi
      have hDs := deedD_small m (l.getD m.next insZ).code.toNat (l.getD m.next insZ).k.toNat (l.getD m.next insZ).jt (l.getD m.next insZ).jf hm (by omega) bt bf
      generalize deedD m (l.getD m.next insZ).code.toNat (l.getD m.next insZ).k.toNat (l.getD m.next insZ).jt (l.getD m.next insZ).jf = D at *
      have hA : Alike l.length { m with next := m.next + 1 } { r with at' := r.at' + 1 } := ⟨h.a, h.x, h.cells, h.ret, h.done, h.wrong, .inl (by rw [hn]; rfl)⟩
      obtain ⟨q1, q2⟩ := alike_run rec l.length { m with next := m.next + 1 } { r with at' := r.at' + 1 } hA (by show r.at' + 1 = ((m.next + 1 : Nat) : Int); omega) (by show m.next + 1 ≤ 2000000; omega) hN D hDs
      have hrs := run_small rec hs l.length { m with next := m.next + 1 } D hm hDs
      have hrr := run_small rec hs l.length ({ r with at' := r.at' + 1 } : RM).mach D hr hDs
      have hrm := runR_mach rec l.length { r with at' := r.at' + 1 } D
      have hnx := run_next rec l.length { m with next := m.next + 1 } D
      have hnx2 : m.next + 1 ≤ (D.run rec l.length { m with next := m.next + 1 }).2.next := hnx
      by_cases h1 : (D.run rec l.length { m with next := m.next + 1 }).1 = true
      · obtain ⟨p1, p2, p3⟩ := q2 h1
        rw [if_pos h1]
        refine .inr ⟨p1, by rw [hrm]; exact hrr, ?_⟩
        by_cases h2 : (D.run rec l.length { m with next := m.next + 1 }).2.ret = true
        · rw [if_pos h2]
          obtain ⟨d1, d2⟩ := p2 h2
          exact .inl ⟨d1, by rw [d2], by omega⟩
        · rw [if_neg h2]
          have hal := p3 (Bool.eq_false_iff.2 h2)
          exact .inr ⟨hal.done, _, f, rfl, hal, hrs, by omega, rfl⟩
      · rw [if_neg h1]
        exact .inl ⟨q1 (Bool.eq_false_iff.2 h1), rfl⟩
    · rw [hrun, if_neg hk]
      refine .inl ⟨?_, rfl⟩
      unfold stepR
      rw [hti, if_neg (fun h => hk h.2.2)]
  · refine .inl ⟨?_, runF_over l rec f m s (by omega)⟩
    unfold stepR
    rw [if_neg (fun h' => by rcases h.next with h | h <;> omega)]
theorem stepR_len (l : List Ins) (rec : ByteArray) (r : RM) (h : r.cells.length = 16) : (stepR l rec r).cells.length = 16 := by
  unfold stepR
  split
  · exact runR_len rec { r with at' := r.at' + 1 } _ h
  · exact h
theorem infoRMz : (Try.prog.info? 45).map (fun i => (i.zero, i.size)) = some (some (.agg rm0.arr), 22) := by kernel_rfl
set_option maxRecDepth 100000 in
theorem refRun_short (l : List Ins) (v : Value) (rec : ByteArray) (w : World) (hs : rec.size ≠ 64) : Calls Try.prog 10 #[v, .string rec] w fun e w' => e = .returned (resV (runR l rec)) ∧ Below w.heap.size w w' := by
  have hR : runR l rec = (0, 0, 52) := by unfold runR; rw [if_neg hs]
  rw [hR]
  have hsI : (rec.size : Int) ≠ 64 := by omega
  clear hR
  go_enter Try.func10, Try.ntmps10
  go_wp2_with fail
  go_ret3
  exact ⟨rfl, Below.refl _ _⟩
set_option maxRecDepth 100000 in
set_option maxHeartbeats 1000000 in
theorem refRun_any (l : List Ins) (v : Value) (rec : ByteArray) (w : World) (hl : IsInsns w v l) (hN : l.length ≤ 1000000) :
    Calls Try.prog 10 #[v, .string rec] w fun e w' => e = .returned (resV (runR l rec)) ∧ Below w.heap.size w w' := by
  by_cases hs : rec.size = 64
  · have hR : runR l rec = runF l rec l.length mach0 1 := by unfold runR; rw [if_pos hs]
    have hbd : ∀ i ∈ l, i.bounded := by obtain ⟨_, _, _, _, _, _, _, hbd, _⟩ := hl; exact hbd
    rw [hR]
    generalize hRR : runF l rec l.length mach0 1 = R
    have HRR := Lib.hid hRR
    have HL := Lib.hid hl
    have hone : rm0.arr.all (·.oneCell') = true := rarr_one rm0
    have HONE := Lib.hid hone
    have HBD := Lib.hid hbd
    obtain ⟨Z0, hZ0⟩ : ∃ Z0, Z0 = rm0.arr := ⟨_, rfl⟩
    have HZ0 := Lib.hid hZ0
    clear hRR hR hl hone hbd hZ0
    go_enter Try.func10, Try.ntmps10
    go_wp2_with (first | (refine wpList_store_row rfl 45 _ _ rfl w.heap.size rm0.arr rfl rfl 45 _ (heap_alloc_new w _) (by kernel_rfl) rfl HONE.out ?_))
    go_loopw [8] (fun c wr => ∃ (r : RM) (s : Nat), c = .int .i64 s ∧ s ≤ l.length ∧ IsR wr w.heap.size r ∧ Below w.heap.size w wr ∧ r.mach.small ∧
        ((r.done = true ∧ R = (r.out, s, 0)) ∨ (r.done = false ∧ ∃ m f, Alike l.length m r ∧ m.small ∧ s + f = l.length ∧ l.length ≤ m.next + f ∧ runF l rec f m (s + 1) = R))) (fun c _ => l.length + 1 - (intOf c).toNat)
    case atStart =>
      exact ⟨rm0, 0, rfl, by omega, ⟨setRow_heap _ _ _ _ _ _ (heap_alloc_new w _), rfl⟩, below_setRow ((Below.refl w.heap.size w).alloc (Nat.le_refl _) _) (Nat.le_refl _) _, mach0_small,
        .inr ⟨rfl, mach0, l.length, ⟨rfl, rfl, rfl, rfl, rfl, rfl, .inl rfl⟩, mach0_small, by omega, by omega, HRR.out⟩⟩
    case round =>
      obtain ⟨r, s, rfl, hsl, hM, hwr, hrs, hcase⟩ := hrel
      obtain ⟨_, _, _, q19, q20, q21⟩ := hM.facts
      have hsI : (s : Int) ≤ 1000000 := by omega
      rcases hcase with ⟨hd, hRe⟩ | ⟨hd, m, f, hal, hms, hsf, hf, hrf⟩
      · subst hRe
        rw [hd] at q20
        clear hd HRR
        have HW := Lib.hid hwr
        clear hwr hM q21
        go_wp2_with fail
        go_ret3
        exact ⟨rfl, HW.out⟩
      · have hA := alike_step l rec m r hs hal hms hrs HBD.out hN f (s + 1) hf
        have hS := ref_step_any l v r rec wr (HL.out.below hwr) hN hM.len hrs hs
        have hlen' := stepR_len l rec r hM.len
        rw [hrf] at hA
        have hsz0 := rarr_size r hM.len
        have hI0 : (Try.prog.info? 45).map (fun i => i.size) = some r.arr.size := by rw [hsz0]; exact infoRM
        have H0 := Lib.hid hI0
        have HB0 := Lib.hid hM.blk
        generalize stepR l rec r = r' at *
        have hsz := rarr_size r' hlen'
        have hI : (Try.prog.info? 45).map (fun i => i.size) = some r'.arr.size := by rw [hsz]; exact infoRM
        have H1 := Lib.hid hI
        have H2 := Lib.hid (rarr_one r')
        have hso : r.arr.size = r'.arr.size := by rw [hsz, hsz0]
        have H3 := Lib.hid hso
        have HS := Lib.hid hS
        have HA := Lib.hid hA
        have HW := Lib.hid hwr
        have HSF := Lib.hid hsf
        have HLT := Lib.hid hM.lt
        rw [hd] at q20
        clear hS hA hwr hsf hd hal hms hf hrf hI0 hI hso hsz hsz0 HRR q19 q21
        go_wp2_with (first | (refine wpList_load_row rfl 45 _ rfl w.heap.size rfl 45 r.arr (0, 0) _ HB0.out Try.underlying45 rfl H0.out ?_))
        refine HS.out.mono ?_
        rintro e w5 ⟨rfl, hb5⟩
        have hblk5 := (hb5.block _ HLT.out).trans HB0.out
        have HB5 := Lib.hid hblk5
        have HW5 := Lib.hid (HW.out.trans (hb5.mono HW.out.size))
        clear hb5 hblk5 q20
        go_upto_region 7 with (first | (refine wpList_store_row rfl 45 _ _ rfl w.heap.size r'.arr rfl rfl 45 r.arr HB5.out H1.out H3.out H2.out ?_))
        have hM6 : IsR (w5.setRow w.heap.size r'.arr) w.heap.size r' := ⟨setRow_heap _ _ _ _ _ _ HB5.out, hlen'⟩
        have HW6 := Lib.hid (below_setRow HW5.out (Nat.le_refl _) r'.arr)
        generalize w5.setRow w.heap.size r'.arr = w6 at *
        obtain ⟨_, _, _, p19, p20, p21⟩ := hM6.facts
        have HM6 := Lib.hid hM6
        clear hM6
        rcases HA.out with ⟨h1, h2⟩ | ⟨h1, hrs', h2⟩
        · subst h2
          rw [h1] at p21
          clear h1 HA
          go_wp2_with fail
          go_ret3
          exact ⟨rfl, HW6.out⟩
        · rw [h1] at p21
          have H22 := Lib.hid h2
          clear h1 HA h2
          go_wp2_with fail
          go_roundw
          case rel =>
            have hsf := HSF.out
            rcases H22.out with ⟨d1, d2, d3⟩ | ⟨d1, m', f', rfl, d2, d3, d4, d5⟩
            · exact ⟨r', s + 1, by go_num, by omega, HM6.out, HW6.out, hrs', .inl ⟨d1, d2⟩⟩
            · exact ⟨r', s + 1, by go_num, by omega, HM6.out, HW6.out, hrs', .inr ⟨d1, m', f', d2, d3, by omega, d4, d5.symm⟩⟩
          case measure => simp [intOf]; omega
  · exact refRun_short l v rec w hs
end Go.Proofs.Ytpdaenpcgcjmjaa
