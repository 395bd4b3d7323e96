/- The reference's Checkpoint. -/
import Derived.Test.YthnmnnlbglpjaaaGreatDoorRf5B
import Derived.Test.YthnmnnlbglpjaaaGreatDoorPk6
import Derived.Test.YthnmnnlbglpjaaaGreatDoorPkE
namespace Go.Proofs.YthnmnnlbglpjaaaGreatDoor
open Go.RowKit
set_option linter.unusedVariables false
set_option linter.unusedSimpArgs false

theorem infoCas : (Tryz.prog.info? 68).map (fun i => (i.zero, i.size, i.bytes)) = some (some (.agg #[.int .i64 0, .string ⟨#[]⟩]), 2, 24) := by kernel_rfl
def flC : Wrt := ⟨-1, ⟨#[]⟩⟩
def ckC (l : Lg) : List Wrt := l.dirty ++ [flC, ⟨0, layS (superL (l.epoch + 1))⟩, flC]
theorem ck_calls {l : Lg} (hr : rightL l = true) : (ckC l).foldl caS ⟨l.dsk, l.left, 0⟩ = ckO l := by
  obtain ⟨d1, _, _⟩ := right_dirty hr
  unfold ckC ckO
  rw [List.foldl_append, ca_writes l.dirty _ (fun x hx => by have := (dirty_mem d1 x hx).1; omega)]
  show caS (caS (caS _ ⟨-1, ⟨#[]⟩⟩) ⟨0, _⟩) ⟨-1, ⟨#[]⟩⟩ = _
  rw [ca_flush, ca_write _ ⟨0, layS (superL (l.epoch + 1))⟩ (show (0 : Int) ≤ 0 by omega), ca_flush]
theorem ck_told {l : Lg} (hr : rightL l = true) (h : (ckO l).code ≠ 0) : (ckO l).code = 21 := (ck_fair hr).code.resolve_left h
set_option maxRecDepth 100000 in
set_option maxHeartbeats 1500000 in
theorem refCk5 (v : Value) (l : Lg) (w : World) (h : IsLog w v l) (hp : l.pend.length ≤ 600) :
    Calls Tryz.prog 13 #[v] w (LogPost (ckL l) (ckE l) w) := by
  obtain ⟨hNI', hNI, hzI0, hzI1, hzI2⟩ := info_parts infoCas
  obtain ⟨x1, x2, x3, x4, x5, x6, rfl, ⟨_, _⟩, ⟨_, _⟩, ⟨h5, h6⟩, _⟩ := id h.form
  have hL : ckL l = if rightL l = true then (if l.epoch = 1099511627776 then zeroL else if (ckO l).code = 0 then newL (ckO l) (l.epoch + 1) else goneL (ckO l)) else zeroL := rfl
  have hE : ckE l = if rightL l = true then (if l.epoch = 1099511627776 then 2 else (ckO l).code) else 1 := rfl
  obtain ⟨CL, hCL⟩ : ∃ CL, ckL l = CL := ⟨_, rfl⟩
  obtain ⟨CE, hCE⟩ : ∃ CE, ckE l = CE := ⟨_, rfl⟩
  rw [hCL] at hL ⊢
  rw [hCE] at hE ⊢
  obtain ⟨B, hB⟩ : ∃ B, w.heap.size = B := ⟨_, rfl⟩
  have HX : Hid (∀ u : World, (w.alloc (.cells #[.slice x1 l.secs.length x2, .slice x3 l.pend.length x4, .int .i64 l.left, .int .i64 l.epoch, .int .i64 l.seq, .int .i64 l.used, .slice x5 l.dirty.length x6] 29)).alloc (.cells #[.slice none 0 0, .slice none 0 0, .int .i64 0, .int .i64 0, .int .i64 0, .int .i64 0, .slice none 0 0] 29) = u →
      u.heap[B]? = some (.cells #[.slice x1 l.secs.length x2, .slice x3 l.pend.length x4, .int .i64 l.left, .int .i64 l.epoch, .int .i64 l.seq, .int .i64 l.used, .slice x5 l.dirty.length x6] 29 (0, 0)) ∧ u.heap[B + 1]? = some (.cells #[.slice none 0 0, .slice none 0 0, .int .i64 0, .int .i64 0, .int .i64 0, .int .i64 0, .slice none 0 0] 29 (0, 0)) ∧ Below w.heap.size w u ∧ u.heap.size = B + 2) := Lib.hid (by
    rintro u rfl
    have b0 := heap_alloc_new w (.cells #[.slice x1 l.secs.length x2, .slice x3 l.pend.length x4, .int .i64 l.left, .int .i64 l.epoch, .int .i64 l.seq, .int .i64 l.used, .slice x5 l.dirty.length x6] 29)
    have e1 := heap_alloc_new (w.alloc (.cells #[.slice x1 l.secs.length x2, .slice x3 l.pend.length x4, .int .i64 l.left, .int .i64 l.epoch, .int .i64 l.seq, .int .i64 l.used, .slice x5 l.dirty.length x6] 29)) (.cells #[.slice none 0 0, .slice none 0 0, .int .i64 0, .int .i64 0, .int .i64 0, .int .i64 0, .slice none 0 0] 29)
    rw [World.size_alloc, hB] at e1
    rw [hB] at b0
    exact ⟨(heap_alloc_old _ _ (lt_of_block b0)).trans b0, e1, ((Below.refl w.heap.size w).alloc (Nat.le_refl _) _).alloc (by simp) _, by rw [World.size_alloc, World.size_alloc, hB]⟩)
  have HB := Lib.hid hB; have HH := Lib.hid h; have HP := Lib.hid hp; have HL := Lib.hid hL; have HE := Lib.hid hE
  clear hB h hp hL hE hCL hCE
  go_enter Tryz.func13, Tryz.ntmps13
  go_upto_region 1 with fail
  (try rw [HB.out])
  obtain ⟨u, hU⟩ : ∃ u, (w.alloc (.cells #[.slice x1 l.secs.length x2, .slice x3 l.pend.length x4, .int .i64 l.left, .int .i64 l.epoch, .int .i64 l.seq, .int .i64 l.used, .slice x5 l.dirty.length x6] 29)).alloc (.cells #[.slice none 0 0, .slice none 0 0, .int .i64 0, .int .i64 0, .int .i64 0, .int .i64 0, .slice none 0 0] 29) = u := ⟨_, rfl⟩
  rw [hU]
  obtain ⟨hP, hR, hb, hz⟩ := HX.out u hU
  have HPB := Lib.hid hP; have HRB := Lib.hid hR; have HBW := Lib.hid hb; have HZ := Lib.hid hz
  have HRT := refRight5_any _ l u (HH.out.below hb)
  obtain ⟨rl, hrl⟩ : ∃ rl, rightL l = rl := ⟨_, rfl⟩
  rw [hrl] at HRT
  have HRT := Lib.hid HRT; have HRL := Lib.hid hrl
  clear hU HX hP hR hb hz hrl
  have d0 := below_cell (Below.refl _ u) HPB.out 0 rfl
  have d1 := below_cell (Below.refl _ u) HPB.out 1 rfl
  have d2 := below_cell (Below.refl _ u) HPB.out 2 rfl
  have d3 := below_cell (Below.refl _ u) HPB.out 3 rfl
  have d4 := below_cell (Below.refl _ u) HPB.out 4 rfl
  have d5 := below_cell (Below.refl _ u) HPB.out 5 rfl
  have d6 := below_cell (Below.refl _ u) HPB.out 6 rfl
  go_upto_if 11 with (first | (go_at_call 21; refine HRT.out.mono ?_; rintro e u1 ⟨rfl, hb1⟩))
  have HP1 := Lib.hid ((hb1.block _ (lt_of_block HPB.out)).trans HPB.out)
  have hR1 := (hb1.block _ (lt_of_block HRB.out)).trans HRB.out
  have HW1 := Lib.hid (HBW.out.trans (hb1.mono HBW.out.size))
  have HZ1 := Lib.hid (show B + 2 ≤ u1.heap.size by rw [← HZ.out]; exact hb1.size)
  have HR1 := Lib.hid hR1
  clear hb1 HPB HRB HBW HZ HRT d0 d1 d2 d3 d4 d5 d6 hR1
  have bad : Hid (∀ E : Int, CL = zeroL → CE = E → ∀ u2 : World, u2 = u1.setRow (B + 1) #[.slice none 0 0, .slice none 0 0, .int .i64 0, .int .i64 0, .int .i64 0, .int .i64 0, .slice none 0 0] → LogPost CL CE w (.returned (.tuple #[.agg #[.slice none 0 0, .slice none 0 0, .int .i64 0, .int .i64 0, .int .i64 0, .int .i64 0, .slice none 0 0], .int .i64 E])) u2) := Lib.hid (by
    rintro E rfl rfl u2 rfl
    exact ⟨_, rfl, zero_log _, below_setRow HW1.out (show w.heap.size ≤ B + 1 by rw [HB.out]; omega) _⟩)
  have HSZ := Lib.hid (setRow_heap u1 (B + 1) _ #[.slice none 0 0, .slice none 0 0, .int .i64 0, .int .i64 0, .int .i64 0, .int .i64 0, .slice none 0 0] _ _ HR1.out)
  cases rl
  · have hst := HR1.out
    have e1 := HL.out; have e2 := HE.out
    rw [HRL.out, if_neg (by decide)] at e1 e2
    have HF := Lib.hid (bad.out 1 e1 e2 _ rfl)
    clear e1 e2 bad HL HE
    go_wp2_with (first | (refine wpList_store_row rfl 29 _ _ rfl (B + 1) #[.slice none 0 0, .slice none 0 0, .int .i64 0, .int .i64 0, .int .i64 0, .int .i64 0, .slice none 0 0] rfl rfl 29 _ hst (by kernel_rfl) rfl (by simp [Value.oneCell']) ?_))
    refine bodyPost_ret (results_row_tmp rfl _ _ (B + 1) _ _ _ _ rfl HSZ.out Tryz.underlying29 rfl (by kernel_rfl)) rfl (by exact HF.out)
  have hnum := (right_nums HRL.out).1
  have e1 := HL.out; have e2 := HE.out
  rw [HRL.out, if_pos rfl] at e1 e2
  have HL := Lib.hid e1; have HE := Lib.hid e2
  clear e1 e2
  have d3 := below_cell (Below.refl _ u1) HP1.out 3 rfl
  by_cases hmx : l.epoch = 1099511627776
  · have hst := HR1.out
    have e1 := HL.out; have e2 := HE.out
    rw [if_pos hmx] at e1 e2
    have HF := Lib.hid (bad.out 2 e1 e2 _ rfl)
    rw [hmx] at d3
    clear e1 e2 bad HL HE hnum hmx
    go_wp2_with (first | (refine wpList_store_row rfl 29 _ _ rfl (B + 1) #[.slice none 0 0, .slice none 0 0, .int .i64 0, .int .i64 0, .int .i64 0, .int .i64 0, .slice none 0 0] rfl rfl 29 _ hst (by kernel_rfl) rfl (by simp [Value.oneCell']) ?_))
    refine bodyPost_ret (results_row_tmp rfl _ _ (B + 1) _ _ _ _ rfl HSZ.out Tryz.underlying29 rfl (by kernel_rfl)) rfl (by exact HF.out)
  have hep : ¬ 1099511627776 ≤ l.epoch := by omega
  have HNUM := Lib.hid hnum
  have e1 := HL.out; have e2 := HE.out
  rw [if_neg hmx] at e1 e2
  have HL := Lib.hid e1; have HE := Lib.hid e2
  clear e1 e2 bad hnum hmx HSZ
  go_upto_region 6 with fail
  have hal := (Below.refl u1.heap.size u1).alloc (Nat.le_refl _) (.cells #[] 68)
  have hP2 := (hal.block _ (lt_of_block HP1.out)).trans HP1.out
  have hR2 := (hal.block _ (lt_of_block HR1.out)).trans HR1.out
  have hW2 := HW1.out.trans (hal.mono HW1.out.size)
  obtain ⟨D, hD⟩ : ∃ D, u1.heap.size = D := ⟨_, rfl⟩
  obtain ⟨W1, hU⟩ : ∃ W1, u1.alloc (.cells #[] 68) = W1 := ⟨_, rfl⟩
  have hsz : W1.heap.size = D + 1 := by rw [← hU, World.size_alloc, hD]
  rw [hU] at hP2 hR2 hW2 ⊢
  (try rw [hD])
  have HDZ := Lib.hid (show B + 2 ≤ D by rw [← hD]; exact HZ1.out)
  have hDB : B + 2 ≤ D := HDZ.out
  obtain ⟨d1, d2, _⟩ := right_dirty HRL.out
  have hds := dirty_small d1 d2
  have HCK := Lib.hid (ck_calls HRL.out); have HTL := Lib.hid (fun h => ck_told HRL.out h)
  have HOK := Lib.hid (ck_ok l HH.out.1.1)
  have hbdd : ∀ x ∈ l.dirty, x.bounded := dirty_bounded d2 d1
  have HPW := Lib.hid (fun x (hx : Below w.heap.size w x) => power_log (HH.out.below hx))
  obtain ⟨n, hn⟩ : ∃ n, l.dirty.length = n := ⟨_, rfl⟩
  have HDW : Hid (∀ u : World, Below w.heap.size w u → ∀ i : Nat, i < n → ∃ gp op, x5 = some ⟨gp, op, none⟩ ∧ gp < u.heap.size ∧ u.cell? ⟨gp, op + i * 2, none⟩ = some (.int .i64 (l.dirty.getD i wrtZ).sector) ∧ u.cell? ⟨gp, op + i * 2 + 1, none⟩ = some (.string (l.dirty.getD i wrtZ).bytes)) := Lib.hid (by
    intro u hu i hi
    obtain ⟨a9, n9, c9, hv9, _, _, _, _, hat⟩ := log_dirty (HH.out.below hu)
    injection hv9 with t1 t2 t3
    subst t1 t2 t3
    obtain ⟨gp, op, rfl, hgp, hcp⟩ := hat.resolve_left (by omega)
    exact ⟨gp, op, rfl, hgp, (hcp i (by rw [hn]; exact hi)).1, (hcp i (by rw [hn]; exact hi)).2⟩)
  rw [hn] at h5 hds hP2
  (try rw [hn])
  have HP2 := Lib.hid hP2; have HR2 := Lib.hid hR2; have HW2 := Lib.hid hW2; have HSZ := Lib.hid hsz; have HN := Lib.hid hn; have HBDD := Lib.hid hbdd
  have hnI : (n : Int) ≤ 256 := by omega
  have hnc : (n : Int) ≤ x6 := by omega
  have hxI : (x6 : Int) ≤ 9223372036854775807 := by omega
  clear hal hU hD hP2 hR2 hW2 hsz hn hbdd d1 d2 d3 HP1 HR1 HW1 HZ1
  have d6 := below_cell (Below.refl _ W1) HP2.out 6 rfl
  go_wp2_with fail
  go_loopw [4, 21] (fun vo z wr => ∃ (i : Nat), i ≤ n ∧ z = .int .i64 i ∧ Hid (ownsE wr (D + 1) 68 2 vo i (wcells (l.dirty.take i))) ∧ Hid (Below (D + 1) W1 wr)) (fun _ z _ => n - (intOf z).toNat)
  case atStart => exact ⟨0, Nat.zero_le _, rfl, Lib.hid (.inr ⟨rfl, rfl, D, rfl, by omega⟩), Lib.hid (by rw [← HSZ.out]; exact Below.refl _ _)⟩
  case round =>
    clear d6
    obtain ⟨i, hin, rfl, HO, HW⟩ := hrel
    have hWw := HW2.out.trans (HW.out.mono (by rw [HB.out]; omega))
    have hz2 : D + 1 ≤ wr.heap.size := by have := HW.out.size; rw [HSZ.out] at this; exact this
    by_cases hlt : i < n
    · have hiI : (i : Int) < n := by omega
      obtain ⟨gp, op, rfl, hgp, p0, p1⟩ := HDW.out wr hWw i hlt
      have hsn : wcells (l.dirty.take (i + 1)) = wcells (l.dirty.take i) ++ [.int .i64 (l.dirty.getD i wrtZ).sector, .string (l.dirty.getD i wrtZ).bytes] := by
        have hil : i < l.dirty.length := by rw [HN.out]; exact hlt
        rw [List.take_add_one, wcells_append]
        simp [List.getD, hil, wcells]
      obtain ⟨Y, hY⟩ : ∃ Y, l.dirty.getD i wrtZ = Y := ⟨_, rfl⟩
      rw [hY] at p0 p1 hsn
      have hal := HW.out.alloc (by rw [← HSZ.out]; exact HW.out.size) (.cells #[.int .i64 Y.sector, .string Y.bytes] 46)
      have hyx := heap_alloc_new wr (.cells #[.int .i64 Y.sector, .string Y.bytes] 46)
      have ho2 := HO.out.alloc (.cells #[.int .i64 Y.sector, .string Y.bytes] 46)
      have HSN := Lib.hid hsn
      clear hWw hY hsn HO HW hz2
      go_upto_region 9 with fail
      obtain ⟨E, hE⟩ : ∃ E, wr.heap.size = E := ⟨_, rfl⟩
      obtain ⟨u3, hU⟩ : ∃ u3, wr.alloc (.cells #[.int .i64 Y.sector, .string Y.bytes] 46) = u3 := ⟨_, rfl⟩
      rw [hU] at hal hyx ho2 ⊢
      rw [hE] at hyx
      (try rw [hE])
      have HA := Lib.hid hal; have HO := Lib.hid ho2
      have y0 := below_cell (Below.refl _ u3) hyx 0 rfl
      have y1 := below_cell (Below.refl _ u3) hyx 1 rfl
      clear hU hE hal ho2 hyx p0 p1
      go_wp2_with (first | (at_builtin; go_must (refine wpList_pushE (m := 1) (news := [.int .i64 Y.sector, .string Y.bytes]) _ _ 64 68 HO.out HA.out (Nat.le_of_eq HSZ.out.symm) Tryz.underlying64 hNI hzI0 hzI1 hzI2 rfl (by decide) rfl rfl (by rfl) (by rfl) (by rfl) (by decide) (by simp [Value.oneCell']) ?c1 ?_)))
      case c1 => exact ⟨by omega, by omega⟩
      intro v6 w6 hown6 hb6 hg6
      rw [← HSN.out] at hown6
      have HOW6 := Lib.hid hown6; have HB6 := Lib.hid hb6
      clear hown6 hb6 hg6 y0 y1
      go_wp2_with fail
      go_roundw
      case rel => exact ⟨i + 1, by omega, by go_num, Lib.hid (.inl HOW6.out), HB6⟩
      case measure => simp [intOf]; omega
    · obtain rfl : i = n := by omega
      have hnl : ¬ (i : Int) < i := by omega
      rw [show l.dirty.take i = l.dirty from by rw [← HN.out, List.take_length]] at HO
      have hPr := (HW.out.block _ (by omega)).trans HP2.out
      have hRr := (HW.out.block _ (by omega)).trans HR2.out
      have HPr := Lib.hid hPr; have HRr := Lib.hid hRr
      clear hWw hPr hRr HDW
      have HSU := Lib.hid (fun x => ref4Super_any (l.epoch + 1) x (by have := HNUM.out; omega) (by have := HNUM.out; omega))
      obtain ⟨S, hS⟩ : ∃ S, layS (superL (l.epoch + 1)) = S := ⟨_, rfl⟩
      rw [hS] at HSU
      have hcc : ckC l = l.dirty ++ [⟨-1, ⟨#[]⟩⟩, ⟨0, S⟩, ⟨-1, ⟨#[]⟩⟩] := by unfold ckC; rw [hS]; rfl
      have hSs : S.size ≤ 9223372036854775807 := by rw [← hS]; exact layS_small _ (by unfold superL; rw [List.length_append, fieldsL_len, fieldsL_len]; simp)
      have hWe : wrap64 (l.epoch + 1) = l.epoch + 1 := IntWalk.wrap64_in _ (by have := HNUM.out; omega)
      have HCC := Lib.hid hcc; have HSS := Lib.hid hSs
      clear hS hcc hSs
      have d3 := below_cell (Below.refl _ wr) HPr.out 3 rfl
      go_upto_region 12 with (first | (go_at_call 38; refine (HSU.out _).mono ?_; rintro e u4 ⟨rfl, hb4⟩; have HB4 := Lib.hid (HW.out.trans (hb4.mono (by rw [← HSZ.out]; exact HW.out.size))); have HO4 := Lib.hid (HO.out.keep hb4)) | (at_builtin; go_must (refine wpList_pushE (m := 3) (news := [.int .i64 (-1), .string ⟨#[]⟩, .int .i64 0, .string S, .int .i64 (-1), .string ⟨#[]⟩]) _ _ 64 68 HO4.out HB4.out (Nat.le_of_eq HSZ.out.symm) Tryz.underlying64 hNI hzI0 hzI1 hzI2 rfl (by decide) rfl rfl (by rfl) (by rfl) (by rfl) (by decide) (by simp [Value.oneCell']) ?c1 ?_)))
      case c1 => exact ⟨by omega, by omega⟩
      intro v6 w6 hown6 hb6 hg6
      have hP6 := (hb6.block _ (by omega)).trans HP2.out
      have hR6 := (hb6.block _ (by omega)).trans HR2.out
      have hW6 := HW2.out.trans (hb6.mono (by rw [HB.out]; omega))
      have hcw : IsWrts w6 v6 (ckC l) := by
        have h9 := hown6
        rw [show wcells l.dirty ++ [.int .i64 (-1), .string ⟨#[]⟩, .int .i64 0, .string S, .int .i64 (-1), .string ⟨#[]⟩] = wcells (ckC l) from by rw [HCC.out, wcells_append]; rfl] at h9
        refine own_wrts h9 (fun x hx => ?_)
        rw [HCC.out] at hx
        rcases List.mem_append.1 hx with h | h
        · exact HBDD.out x h
        · simp only [List.mem_cons, List.not_mem_nil, or_false] at h
          rcases h with rfl | rfl | rfl
          · exact ⟨⟨by decide, by decide⟩, by show 0 ≤ _; omega⟩
          · exact ⟨⟨by show (-9223372036854775808 : Int) ≤ 0; decide, by show (0 : Int) ≤ 9223372036854775807; decide⟩, HSS.out⟩
          · exact ⟨⟨by decide, by decide⟩, by show 0 ≤ _; omega⟩
      have hcl : (ckC l).length = i + 3 := by rw [HCC.out, List.length_append, HN.out]; rfl
      have HDO := refDo5 _ v6 l.dsk l.left (ckC l) w6 (HPW.out w6 hW6) hcw HH.out.1.1 (by have := HP.out; have e : l.dsk.pend.length = l.pend.length := rfl; rw [hcl, e]; omega)
      rw [HCK.out] at HDO
      have HDO := Lib.hid HDO; have HP6 := Lib.hid hP6; have HR6 := Lib.hid hR6; have HW6 := Lib.hid hW6
      clear hown6 hb6 hg6 hP6 hR6 hW6 hcw hcl HB4 HO4 HPr HRr HP2 HR2 HW2 HO HW HCC HSS HSU hb4 HCK d3
      obtain ⟨O, hO⟩ : ∃ O, ckO l = O := ⟨_, rfl⟩
      rw [hO] at HDO HL HE HTL HOK
      have HO' := Lib.hid hO
      clear hO
      have d0 := below_cell (Below.refl _ w6) HP6.out 0 rfl
      have d1 := below_cell (Below.refl _ w6) HP6.out 1 rfl
      have d2 := below_cell (Below.refl _ w6) HP6.out 2 rfl
      go_upto_region 13 with (first | (go_at_call 33; refine HDO.out.mono ?_; rintro e u7 ⟨v7, rfl, hp7, hb7⟩; obtain ⟨a, c, a', c', rfl, _⟩ := id hp7.form))
      have hal := (Below.refl u7.heap.size u7).alloc (Nat.le_refl _) (.cells #[.slice a O.dsk.secs.length c, .slice a' O.dsk.pend.length c', .int .i64 O.left] 27)
      have hqx := heap_alloc_new u7 (.cells #[.slice a O.dsk.secs.length c, .slice a' O.dsk.pend.length c', .int .i64 O.left] 27)
      have hP8 := (hal.block _ (lt_of_block ((hb7.block _ (lt_of_block HP6.out)).trans HP6.out))).trans ((hb7.block _ (lt_of_block HP6.out)).trans HP6.out)
      have hR8 := (hal.block _ (lt_of_block ((hb7.block _ (lt_of_block HR6.out)).trans HR6.out))).trans ((hb7.block _ (lt_of_block HR6.out)).trans HR6.out)
      have hW8 := (HW6.out.trans (hb7.mono HW6.out.size)).trans (hal.mono (HW6.out.trans (hb7.mono HW6.out.size)).size)
      have hp8 := hp7.below hal
      obtain ⟨F, hF⟩ : ∃ F, u7.heap.size = F := ⟨_, rfl⟩
      obtain ⟨u8, hU⟩ : ∃ u8, u7.alloc (.cells #[.slice a O.dsk.secs.length c, .slice a' O.dsk.pend.length c', .int .i64 O.left] 27) = u8 := ⟨_, rfl⟩
      rw [hU] at hqx hP8 hR8 hW8 hp8 ⊢
      rw [hF] at hqx
      (try rw [hF])
      have HP8 := Lib.hid hP8; have HR8 := Lib.hid hR8; have HW8 := Lib.hid hW8; have HPP := Lib.hid hp8
      clear hU hF hal hP8 hR8 hW8 hp7 hp8 hb7 HP6 HR6 HW6 HDO d0 d1 d2
      have q0 := below_cell (Below.refl _ u8) hqx 0 rfl
      have q1 := below_cell (Below.refl _ u8) hqx 1 rfl
      have q2 := below_cell (Below.refl _ u8) hqx 2 rfl
      have d3 := below_cell (Below.refl _ u8) HP8.out 3 rfl
      clear hqx
      by_cases hc : O.code = 0
      · have e1 := HL.out; have e2 := HE.out
        rw [if_pos hc] at e1
        rw [hc] at e2
        have hst := HR8.out
        have HS := Lib.hid (setRow_heap u8 (B + 1) _ #[.slice a O.dsk.secs.length c, .slice a' O.dsk.pend.length c', .int .i64 O.left, .int .i64 (l.epoch + 1), .int .i64 0, .int .i64 0, .slice none 0 0] _ _ hst)
        have HF := Lib.hid (below_setRow HW8.out (show w.heap.size ≤ B + 1 by rw [HB.out]; omega) #[.slice a O.dsk.secs.length c, .slice a' O.dsk.pend.length c', .int .i64 O.left, .int .i64 (l.epoch + 1), .int .i64 0, .int .i64 0, .slice none 0 0])
        have HPN := Lib.hid (HPP.out.apart (w' := u8.setRow (B + 1) #[.slice a O.dsk.secs.length c, .slice a' O.dsk.pend.length c', .int .i64 O.left, .int .i64 (l.epoch + 1), .int .i64 0, .int .i64 0, .slice none 0 0]) hst (box_no _ _ _ _ _ _ _ _ _ _ _ _ _) (by rw [setRow_size]; exact Nat.le_refl _) (fun k hk => setRow_other u8 (B + 1) k _ hk))
        have HL := Lib.hid e1; have HE := Lib.hid e2
        clear e1 e2 HTL
        go_wp2_with (first | (refine wpList_store_row rfl 29 _ _ rfl (B + 1) #[.slice a O.dsk.secs.length c, .slice a' O.dsk.pend.length c', .int .i64 O.left, .int .i64 (l.epoch + 1), .int .i64 0, .int .i64 0, .slice none 0 0] rfl rfl 29 _ hst (by kernel_rfl) rfl (by simp [Value.oneCell']) ?_))
        refine bodyPost_ret (results_row_tmp rfl _ _ (B + 1) _ _ _ _ rfl HS.out Tryz.underlying29 rfl (by kernel_rfl)) rfl (by exact ⟨_, by rw [HE.out]; rfl, by rw [HL.out]; exact new_log HPN.out HOK.out (by have := HNUM.out; constructor <;> omega), HF.out⟩)
      · have e1 := HL.out; have e2 := HE.out
        rw [if_neg hc] at e1
        have h21 := HTL.out hc
        have hne : (O.code == 0) = false := by simpa using hc
        have hne2 : (O.code != 0) = true := by simpa using hc
        have HTO := refTold _ O u8 HPP.out HOK.out
        rw [if_pos h21] at HTO
        have HTO := Lib.hid HTO
        have HL := Lib.hid e1; have HE := Lib.hid e2
        obtain ⟨R, hR⟩ : ∃ R, goneL O = R := ⟨_, rfl⟩
        rw [hR] at HTO HL
        clear e1 e2 HTL h21 hR
        go_wp2_with (first
          | (go_at_call 34; refine HTO.out.mono ?_; rintro e u9 ⟨v9, rfl, hl9, hb9⟩; obtain ⟨t1, t2, t3, t4, t5, t6, rfl, _⟩ := id hl9.form; have hst := (hb9.block _ (lt_of_block HR8.out)).trans HR8.out; have HS := Lib.hid (setRow_heap u9 (B + 1) _ #[.slice t1 R.secs.length t2, .slice t3 R.pend.length t4, .int .i64 R.left, .int .i64 R.epoch, .int .i64 R.seq, .int .i64 R.used, .slice t5 R.dirty.length t6] _ _ hst))
          | (refine wpList_store_row rfl 29 _ _ rfl (B + 1) #[.slice t1 R.secs.length t2, .slice t3 R.pend.length t4, .int .i64 R.left, .int .i64 R.epoch, .int .i64 R.seq, .int .i64 R.used, .slice t5 R.dirty.length t6] rfl rfl 29 _ hst (by kernel_rfl) rfl (by simp [Value.oneCell']) ?_))
        have hlN := hl9.apart (w' := u9.setRow (B + 1) #[.slice t1 R.secs.length t2, .slice t3 R.pend.length t4, .int .i64 R.left, .int .i64 R.epoch, .int .i64 R.seq, .int .i64 R.used, .slice t5 R.dirty.length t6]) hst (box_no _ _ _ _ _ _ _ _ _ _ _ _ _) (by rw [setRow_size]; exact Nat.le_refl _) (fun k hk => setRow_other u9 (B + 1) k _ hk)
        have hF := below_setRow (HW8.out.trans (hb9.mono HW8.out.size)) (show w.heap.size ≤ B + 1 by rw [HB.out]; omega) #[.slice t1 R.secs.length t2, .slice t3 R.pend.length t4, .int .i64 R.left, .int .i64 R.epoch, .int .i64 R.seq, .int .i64 R.used, .slice t5 R.dirty.length t6]
        refine bodyPost_ret (results_row_tmp rfl _ _ (B + 1) _ _ _ _ rfl HS.out Tryz.underlying29 rfl (by kernel_rfl)) rfl (by exact ⟨_, by rw [HE.out]; rfl, by rw [HL.out]; exact hlN, hF⟩)
end Go.Proofs.YthnmnnlbglpjaaaGreatDoor
