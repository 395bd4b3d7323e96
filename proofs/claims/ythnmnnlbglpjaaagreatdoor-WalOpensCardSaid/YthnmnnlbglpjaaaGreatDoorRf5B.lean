/- The reference: calls of a disk, one behind the other, up to the first error; what is told of an error. -/
import Derived.Test.YthnmnnlbglpjaaaGreatDoorRf5A
import Derived.Test.YthnmnnlbglpjaaaGreatDoorPk4
import Derived.Test.YthnmnnlbglpjaaaGreatDoorPkC
namespace Go.Proofs.YthnmnnlbglpjaaaGreatDoor
open Go.RowKit
set_option linter.unusedVariables false
set_option linter.unusedSimpArgs false

theorem ca_stop : ∀ (l : List Wrt) (o : Outc), o.code ≠ 0 → l.foldl caS o = o
  | [], _, _ => rfl
  | x :: l, o, h => by
    rw [List.foldl_cons, show caS o x = o from by unfold caS; rw [if_neg h]]
    exact ca_stop l o h
theorem ca_bad (o : Outc) (x : Wrt) (h0 : o.code = 0) (h : (caS o x).code ≠ 0) : (caS o x).dsk = o.dsk ∧ (caS o x).left = o.left := by
  unfold caS at h ⊢
  rw [if_pos h0] at h ⊢
  split at h
  · rename_i hs
    rw [if_pos hs]
    unfold flO at h ⊢
    split at h
    · rename_i h1; rw [if_pos h1]; exact ⟨rfl, rfl⟩
    · exact absurd rfl h
  · rename_i hs
    rw [if_neg hs]
    unfold wrO at h ⊢
    split at h
    · rename_i h1; rw [if_pos h1]; exact ⟨rfl, rfl⟩
    · rename_i h1
      split at h
      · rename_i h2; rw [if_neg h1, if_pos h2]; exact ⟨rfl, rfl⟩
      · rename_i h2
        split at h
        · rename_i h3; rw [if_neg h1, if_neg h2, if_pos h3]; exact ⟨rfl, rfl⟩
        · exact absurd rfl h
theorem ca_end (l : List Wrt) (o : Outc) (i : Nat) (hi : i < l.length) (h : (caS ((l.take i).foldl caS o) (l.getD i wrtZ)).code ≠ 0) : l.foldl caS o = caS ((l.take i).foldl caS o) (l.getD i wrtZ) := by
  have e : l.foldl caS o = (l.drop (i + 1)).foldl caS ((l.take (i + 1)).foldl caS o) := by rw [← List.foldl_append, List.take_append_drop]
  rw [e, ca_snoc l o i hi]
  exact ca_stop _ _ h
theorem caS_do (v : Value) (o : Outc) (s : Int) (x : ByteArray) (w : World) (h : IsPower w v o.dsk o.left) (h0 : o.code = 0) (hk : o.ok) (hxs : x.size ≤ 9223372036854775807) (hk4 : o.dsk.pend.length ≤ 1000) :
    Calls Tryz.prog 65 #[v, .agg #[.int .i64 s, .string x]] w (OutPost (caS o ⟨s, x⟩) w) := by
  unfold caS
  rw [if_pos h0]
  by_cases hs : s < 0
  · rw [if_pos hs]
    exact refDo_neg v o.dsk o.left s x w h hk.1 hk.2 hxs hs
  · rw [if_neg hs]
    exact refDo_any v o.dsk o.left s x w h hk.1 hk.2 hxs hk4 (by omega)
set_option maxRecDepth 100000 in
set_option maxHeartbeats 1000000 in
theorem refDo5 (v cv : Value) (d : Dsk) (left : Int) (l : List Wrt) (w : World) (h : IsPower w v d left) (hc : IsWrts w cv l) (hk : i64ok left) (hp : d.pend.length + l.length ≤ 1000) :
    Calls Tryz.prog 33 #[v, cv] w (OutPost (l.foldl caS ⟨d, left, 0⟩) w) := by
  obtain ⟨a, c, a', c', rfl, _⟩ := id h.form
  obtain ⟨ca, cc, rfl, hc1, hc2⟩ := hc.form
  have hbd : ∀ x ∈ l, x.bounded := by obtain ⟨_, _, _, _, _, _, _, hh, _⟩ := hc; exact hh
  obtain ⟨n, hn⟩ : ∃ n, l.length = n := ⟨_, rfl⟩
  have HBD := Lib.hid hbd
  have HFIN : Hid (∀ i (hi : i < n), (caS ((l.take i).foldl caS ⟨d, left, 0⟩) (l.getD i wrtZ)).code ≠ 0 → l.foldl caS ⟨d, left, 0⟩ = caS ((l.take i).foldl caS ⟨d, left, 0⟩) (l.getD i wrtZ)) := Lib.hid (fun i hi => ca_end l _ i (by rw [hn]; exact hi))
  have HSN : Hid (∀ i (hi : i < n), (l.take (i + 1)).foldl caS ⟨d, left, 0⟩ = caS ((l.take i).foldl caS ⟨d, left, 0⟩) (l.getD i wrtZ)) := Lib.hid (fun i hi => ca_snoc l _ i (by rw [hn]; exact hi))
  have HALL : Hid (l.foldl caS ⟨d, left, 0⟩ = (l.take n).foldl caS ⟨d, left, 0⟩) := Lib.hid (by rw [← hn, List.take_length])
  have HOK : Hid (∀ i, ((l.take i).foldl caS ⟨d, left, 0⟩).ok) := Lib.hid (fun i => ca_foldok _ _ hk)
  have HPD : Hid (∀ i, i ≤ n → ((l.take i).foldl caS ⟨d, left, 0⟩).dsk.pend.length ≤ 1000) := Lib.hid (fun i hi => by
    have h1 := ca_foldpend (l.take i) ⟨d, left, 0⟩
    have h2 : (l.take i).length ≤ l.length := by rw [List.length_take]; omega
    have h3 : (Outc.dsk ⟨d, left, 0⟩).pend.length = d.pend.length := rfl
    omega)
  have HMB : Hid (∀ i, i < n → (l.getD i wrtZ).bounded) := Lib.hid (fun i hi => hbd _ (getD_memW (by rw [hn]; exact hi)))
  have HBW : Hid (∀ u : World, Below w.heap.size w u → ∀ i : Nat, i < n → ∃ gp op, ca = some ⟨gp, op, none⟩ ∧ gp < u.heap.size ∧ u.cell? ⟨gp, op + i * 2, none⟩ = some (.int .i64 (l.getD i wrtZ).sector) ∧ u.cell? ⟨gp, op + i * 2 + 1, none⟩ = some (.string (l.getD i wrtZ).bytes)) := Lib.hid (by
    intro u hu i hi
    obtain ⟨a9, n9, c9, hv9, _, _, _, _, hat⟩ := hc.below hu
    injection hv9 with t1 t2 t3
    subst t1 t2 t3
    obtain ⟨gp, op, rfl, hgp, hcp⟩ := hat.resolve_left (by omega)
    exact ⟨gp, op, rfl, hgp, (hcp i (by rw [hn]; exact hi)).1, (hcp i (by rw [hn]; exact hi)).2⟩)
  rw [hn] at hc1 hp ⊢
  have hcI : (n : Int) ≤ cc := by omega
  have hcI2 : (cc : Int) ≤ 9223372036854775807 := by omega
  have hnI : (n : Int) ≤ 1000 := by omega
  obtain ⟨B, hB⟩ : ∃ B, w.heap.size = B := ⟨_, rfl⟩
  have HH := Lib.hid h
  clear hc hbd hn HBD h
  have HX : Hid (∀ u : World, (w.alloc (.cells #[.slice a d.secs.length c, .slice a' d.pend.length c', .int .i64 left] 27)).alloc (.cells #[.slice none 0 0, .slice none 0 0, .int .i64 0] 27) = u →
      u.heap[B]? = some (.cells #[.slice a d.secs.length c, .slice a' d.pend.length c', .int .i64 left] 27 (0, 0)) ∧ u.heap[B + 1]? = some (.cells #[.slice none 0 0, .slice none 0 0, .int .i64 0] 27 (0, 0)) ∧ Below w.heap.size w u ∧ u.heap.size = B + 2) := Lib.hid (by
    rintro u rfl
    have b0 := heap_alloc_new w (.cells #[.slice a d.secs.length c, .slice a' d.pend.length c', .int .i64 left] 27)
    have e1 := heap_alloc_new (w.alloc (.cells #[.slice a d.secs.length c, .slice a' d.pend.length c', .int .i64 left] 27)) (.cells #[.slice none 0 0, .slice none 0 0, .int .i64 0] 27)
    rw [World.size_alloc, hB] at e1
    rw [hB] at b0
    exact ⟨(heap_alloc_old _ _ (lt_of_block b0)).trans b0, e1, ((Below.refl w.heap.size w).alloc (Nat.le_refl _) _).alloc (by simp) _, by rw [World.size_alloc, World.size_alloc, hB]⟩)
  have HB := Lib.hid hB
  clear hB
  go_enter Tryz.func33, Tryz.ntmps33
  go_upto_region 1 with fail
  (try rw [HB.out])
  obtain ⟨u, hU⟩ : ∃ u, (w.alloc (.cells #[.slice a d.secs.length c, .slice a' d.pend.length c', .int .i64 left] 27)).alloc (.cells #[.slice none 0 0, .slice none 0 0, .int .i64 0] 27) = u := ⟨_, rfl⟩
  rw [hU]
  obtain ⟨hP, hR, hb, hz⟩ := HX.out u hU
  have HP0 := Lib.hid hP; have HR0 := Lib.hid hR; have HB0 := Lib.hid hb; have HZ0 := Lib.hid hz
  clear hU HX hP hR hb hz
  go_wp2_with fail
  go_loopw [12] (fun z wr => ∃ (i : Nat), i ≤ n ∧ z = .int .i64 i ∧ Hid (((l.take i).foldl caS ⟨d, left, 0⟩).code = 0) ∧ Hid (∃ b m b' m', wr.heap[B]? = some (.cells #[.slice b ((l.take i).foldl caS ⟨d, left, 0⟩).dsk.secs.length m, .slice b' ((l.take i).foldl caS ⟨d, left, 0⟩).dsk.pend.length m', .int .i64 ((l.take i).foldl caS ⟨d, left, 0⟩).left] 27 (0, 0)) ∧ IsPower wr (.agg #[.slice b ((l.take i).foldl caS ⟨d, left, 0⟩).dsk.secs.length m, .slice b' ((l.take i).foldl caS ⟨d, left, 0⟩).dsk.pend.length m', .int .i64 ((l.take i).foldl caS ⟨d, left, 0⟩).left]) ((l.take i).foldl caS ⟨d, left, 0⟩).dsk ((l.take i).foldl caS ⟨d, left, 0⟩).left) ∧ Hid (wr.heap[B + 1]? = some (.cells #[.slice none 0 0, .slice none 0 0, .int .i64 0] 27 (0, 0))) ∧ Hid (Below w.heap.size w wr)) (fun z _ => n - (intOf z).toNat)
  case atStart => exact ⟨0, Nat.zero_le _, rfl, Lib.hid rfl, Lib.hid ⟨a, c, a', c', HP0.out, HH.out.below HB0.out⟩, HR0, HB0⟩
  case round =>
    clear HP0 HR0 HB0 HZ0 HH
    obtain ⟨i, hin, rfl, HC0, HPW, HR, HW⟩ := hrel
    have hok := HOK.out i
    have hpd := HPD.out i hin
    by_cases hlt : i < n
    · have hiI : (i : Int) < n := by omega
      have hfin := HFIN.out i hlt
      have hsn := HSN.out i hlt
      obtain ⟨gp, op, rfl, hgp, p0, p1⟩ := HBW.out wr HW.out i hlt
      have hmb := HMB.out i hlt
      obtain ⟨Y, hY⟩ : ∃ Y, l.getD i wrtZ = Y := ⟨_, rfl⟩
      rw [hY] at p0 p1 hfin hsn hmb
      obtain ⟨O, hO⟩ : ∃ O, (l.take i).foldl caS ⟨d, left, 0⟩ = O := ⟨_, rfl⟩
      rw [hO] at HC0 HPW hok hpd hfin hsn
      obtain ⟨b, m, b', m', hPB, hPP⟩ := HPW.out
      have hal := (Below.refl wr.heap.size wr).alloc (Nat.le_refl _) (.cells #[.int .i64 Y.sector, .string Y.bytes] 68)
      have hcx := heap_alloc_new wr (.cells #[.int .i64 Y.sector, .string Y.bytes] 68)
      have hPB2 := (hal.block _ (lt_of_block hPB)).trans hPB
      have hR2 := (hal.block _ (lt_of_block HR.out)).trans HR.out
      have hPP2 := hPP.below hal
      have hW2 := HW.out.trans (hal.mono HW.out.size)
      have HFI := Lib.hid hfin; have HSI := Lib.hid hsn; have HOI := Lib.hid hok
      clear hY hO hfin hsn hok HPW HW HR hPB hPP hal
      go_upto_region 4 with fail
      obtain ⟨D, hD⟩ : ∃ D, wr.heap.size = D := ⟨_, rfl⟩
      obtain ⟨u2, hU⟩ : ∃ u2, wr.alloc (.cells #[.int .i64 Y.sector, .string Y.bytes] 68) = u2 := ⟨_, rfl⟩
      rw [hU] at hcx hPB2 hR2 hPP2 hW2 ⊢
      rw [hD] at hcx
      (try rw [hD])
      have HD := Lib.hid (caS_do _ O Y.sector Y.bytes u2 hPP2 HC0.out HOI.out hmb.2 hpd)
      have HPB := Lib.hid hPB2; have HR2 := Lib.hid hR2; have HPP := Lib.hid hPP2; have HW2 := Lib.hid hW2
      have c0 := below_cell (Below.refl _ u2) hcx 0 rfl
      have c1 := below_cell (Below.refl _ u2) hcx 1 rfl
      have q0 := below_cell (Below.refl _ u2) HPB.out 0 rfl
      have q1 := below_cell (Below.refl _ u2) HPB.out 1 rfl
      have q2 := below_cell (Below.refl _ u2) HPB.out 2 rfl
      clear hU hD hcx hPB2 hR2 hPP2 hW2 p0 p1 hmb
      go_upto_region 5 with (first | (go_at_call 65; refine HD.out.mono ?_; rintro e u3 ⟨v3, rfl, hp3, hb3⟩; obtain ⟨d1, e1, d2, e2, rfl, _⟩ := id hp3.form))
      have HCE : caS O ⟨Y.sector, Y.bytes⟩ = caS O Y := rfl
      rw [HCE] at hp3
      (try rw [HCE])
      obtain ⟨N, hN⟩ : ∃ N, caS O Y = N := ⟨_, rfl⟩
      rw [hN] at hp3 HFI HSI
      (try rw [hN])
      clear HCE
      have hal := (Below.refl u3.heap.size u3).alloc (Nat.le_refl _) (.cells #[.slice d1 N.dsk.secs.length e1, .slice d2 N.dsk.pend.length e2, .int .i64 N.left] 27)
      have hqx := heap_alloc_new u3 (.cells #[.slice d1 N.dsk.secs.length e1, .slice d2 N.dsk.pend.length e2, .int .i64 N.left] 27)
      have hPB4 := (hal.block _ (lt_of_block ((hb3.block _ (lt_of_block HPB.out)).trans HPB.out))).trans ((hb3.block _ (lt_of_block HPB.out)).trans HPB.out)
      have hR4 := (hal.block _ (lt_of_block ((hb3.block _ (lt_of_block HR2.out)).trans HR2.out))).trans ((hb3.block _ (lt_of_block HR2.out)).trans HR2.out)
      have hPP4 := (HPP.out.below hb3).below hal
      have hp4 := hp3.below hal
      have hW4 := (HW2.out.trans (hb3.mono HW2.out.size)).trans (hal.mono (HW2.out.trans (hb3.mono HW2.out.size)).size)
      obtain ⟨E, hE⟩ : ∃ E, u3.heap.size = E := ⟨_, rfl⟩
      obtain ⟨u4, hU⟩ : ∃ u4, u3.alloc (.cells #[.slice d1 N.dsk.secs.length e1, .slice d2 N.dsk.pend.length e2, .int .i64 N.left] 27) = u4 := ⟨_, rfl⟩
      rw [hU] at hqx hPB4 hR4 hPP4 hp4 hW4 ⊢
      rw [hE] at hqx
      (try rw [hE])
      have HPB := Lib.hid hPB4; have HR4 := Lib.hid hR4; have HPP := Lib.hid hPP4; have HP4 := Lib.hid hp4; have HW4 := Lib.hid hW4
      have HNC := Lib.hid (fun (h : N.code ≠ 0) => (by have := ca_bad O Y HC0.out (by rw [hN]; exact h); rw [hN] at this; exact this : N.dsk = O.dsk ∧ N.left = O.left))
      clear hU hE hN hal hb3 hp3 hPB4 hR4 hPP4 hp4 hW4 HR2 HW2 HD c0 c1 q0 q1 q2
      have q0 := below_cell (Below.refl _ u4) HPB.out 0 rfl
      have q1 := below_cell (Below.refl _ u4) HPB.out 1 rfl
      have q2 := below_cell (Below.refl _ u4) HPB.out 2 rfl
      have n0 := below_cell (Below.refl _ u4) hqx 0 rfl
      have n1 := below_cell (Below.refl _ u4) hqx 1 rfl
      have n2 := below_cell (Below.refl _ u4) hqx 2 rfl
      by_cases hc : N.code = 0
      · have hst := HPB.out
        have HS := Lib.hid (setRow_heap u4 B _ #[.slice d1 N.dsk.secs.length e1, .slice d2 N.dsk.pend.length e2, .int .i64 N.left] _ _ hst)
        have HF := Lib.hid (below_setRow HW4.out (show w.heap.size ≤ B by rw [HB.out]; exact Nat.le_refl _) #[.slice d1 N.dsk.secs.length e1, .slice d2 N.dsk.pend.length e2, .int .i64 N.left])
        have HPN := Lib.hid (HP4.out.apart (w' := u4.setRow B #[.slice d1 N.dsk.secs.length e1, .slice d2 N.dsk.pend.length e2, .int .i64 N.left]) hst (no_text _ _ _ _ _ _ _) (by rw [setRow_size]; exact Nat.le_refl _) (fun k hk => setRow_other u4 B k _ hk))
        have HRN := Lib.hid ((setRow_other u4 B (B + 1) #[.slice d1 N.dsk.secs.length e1, .slice d2 N.dsk.pend.length e2, .int .i64 N.left] (by omega)).trans HR4.out)
        have HCN := Lib.hid hc
        clear HNC hqx
        go_wp2_with (first | (refine wpList_store_row rfl 27 _ _ rfl B #[.slice d1 N.dsk.secs.length e1, .slice d2 N.dsk.pend.length e2, .int .i64 N.left] rfl rfl 27 _ hst (by kernel_rfl) rfl (by simp [Value.oneCell']) ?_))
        go_roundw
        case rel => exact ⟨i + 1, by omega, by go_num, by rw [HSI.out]; exact HCN, Lib.hid (by rw [HSI.out]; exact ⟨d1, e1, d2, e2, HS.out, HPN.out⟩), HRN, HF⟩
        case measure => simp [intOf]; omega
      · have hne : (N.code == 0) = false := by simpa using hc
        have hne2 : (N.code != 0) = true := by simpa using hc
        obtain ⟨f1, f2⟩ := HNC.out hc
        have hst := HR4.out
        have HS := Lib.hid (setRow_heap u4 (B + 1) _ #[.slice b O.dsk.secs.length m, .slice b' O.dsk.pend.length m', .int .i64 O.left] _ _ hst)
        have HF := Lib.hid (below_setRow HW4.out (show w.heap.size ≤ B + 1 by rw [HB.out]; omega) #[.slice b O.dsk.secs.length m, .slice b' O.dsk.pend.length m', .int .i64 O.left])
        have HPN := Lib.hid (HPP.out.apart (w' := u4.setRow (B + 1) #[.slice b O.dsk.secs.length m, .slice b' O.dsk.pend.length m', .int .i64 O.left]) hst (no_text _ _ _ _ _ _ _) (by rw [setRow_size]; exact Nat.le_refl _) (fun k hk => setRow_other u4 (B + 1) k _ hk))
        have HFN := Lib.hid (HFI.out hc)
        have HF1 := Lib.hid f1; have HF2 := Lib.hid f2
        clear HNC hqx f1 f2 HSI HFI
        go_wp2_with (first | (refine wpList_store_row rfl 27 _ _ rfl (B + 1) #[.slice b O.dsk.secs.length m, .slice b' O.dsk.pend.length m', .int .i64 O.left] rfl rfl 27 _ hst (by kernel_rfl) rfl (by simp [Value.oneCell']) ?_))
        refine bodyPost_ret (results_row_tmp rfl _ _ (B + 1) _ _ _ _ rfl HS.out Tryz.underlying27 rfl (by kernel_rfl)) rfl (by exact ⟨_, by rw [HFN.out]; rfl, by rw [HFN.out, HF1.out, HF2.out]; exact HPN.out, HF.out⟩)
    · obtain rfl : i = n := by omega
      have hnl : ¬ (i : Int) < i := by omega
      have hall := HALL.out
      obtain ⟨F, hF⟩ : ∃ F, (l.take i).foldl caS ⟨d, left, 0⟩ = F := ⟨_, rfl⟩
      rw [hF] at hall HC0 HPW
      have HAL := Lib.hid hall
      obtain ⟨b, m, b', m', hPB, hPP⟩ := HPW.out
      have hst := HR.out
      have HS := Lib.hid (setRow_heap wr (B + 1) _ #[.slice b F.dsk.secs.length m, .slice b' F.dsk.pend.length m', .int .i64 F.left] _ _ hst)
      have HF := Lib.hid (below_setRow HW.out (show w.heap.size ≤ B + 1 by rw [HB.out]; omega) #[.slice b F.dsk.secs.length m, .slice b' F.dsk.pend.length m', .int .i64 F.left])
      have HPN := Lib.hid (hPP.apart (w' := wr.setRow (B + 1) #[.slice b F.dsk.secs.length m, .slice b' F.dsk.pend.length m', .int .i64 F.left]) hst (no_text _ _ _ _ _ _ _) (by rw [setRow_size]; exact Nat.le_refl _) (fun k hk => setRow_other wr (B + 1) k _ hk))
      have q0 := below_cell (Below.refl _ wr) hPB 0 rfl
      have q1 := below_cell (Below.refl _ wr) hPB 1 rfl
      have q2 := below_cell (Below.refl _ wr) hPB 2 rfl
      clear hF hall HPW hPB hPP hok hpd
      go_wp2_with (first | (refine wpList_store_row rfl 27 _ _ rfl (B + 1) #[.slice b F.dsk.secs.length m, .slice b' F.dsk.pend.length m', .int .i64 F.left] rfl rfl 27 _ hst (by kernel_rfl) rfl (by simp [Value.oneCell']) ?_))
      refine bodyPost_ret (results_row_tmp rfl _ _ (B + 1) _ _ _ _ rfl HS.out Tryz.underlying27 rfl (by kernel_rfl)) rfl (by exact ⟨_, by rw [HAL.out, HC0.out]; rfl, by rw [HAL.out]; exact HPN.out, HF.out⟩)
set_option maxRecDepth 100000 in
set_option maxHeartbeats 1000000 in
theorem refTold (v : Value) (o : Outc) (w : World) (h : IsPower w v o.dsk o.left) (hk : o.ok) :
    Calls Tryz.prog 34 #[v, .int .i64 o.code] w (LogPost (if o.code = 21 then goneL o else zeroL) o.code w) := by
  obtain ⟨a, c, a', c', rfl, _⟩ := id h.form
  obtain ⟨B, hB⟩ : ∃ B, w.heap.size = B := ⟨_, rfl⟩
  have HX : Hid (∀ u : World, (w.alloc (.cells #[.slice a o.dsk.secs.length c, .slice a' o.dsk.pend.length c', .int .i64 o.left] 27)).alloc (.cells #[.slice none 0 0, .slice none 0 0, .int .i64 0, .int .i64 0, .int .i64 0, .int .i64 0, .slice none 0 0] 29) = u →
      u.heap[B]? = some (.cells #[.slice a o.dsk.secs.length c, .slice a' o.dsk.pend.length c', .int .i64 o.left] 27 (0, 0)) ∧ u.heap[B + 1]? = some (.cells #[.slice none 0 0, .slice none 0 0, .int .i64 0, .int .i64 0, .int .i64 0, .int .i64 0, .slice none 0 0] 29 (0, 0)) ∧ Below w.heap.size w u) := Lib.hid (by
    rintro u rfl
    have b0 := heap_alloc_new w (.cells #[.slice a o.dsk.secs.length c, .slice a' o.dsk.pend.length c', .int .i64 o.left] 27)
    have e1 := heap_alloc_new (w.alloc (.cells #[.slice a o.dsk.secs.length c, .slice a' o.dsk.pend.length c', .int .i64 o.left] 27)) (.cells #[.slice none 0 0, .slice none 0 0, .int .i64 0, .int .i64 0, .int .i64 0, .int .i64 0, .slice none 0 0] 29)
    rw [World.size_alloc, hB] at e1
    rw [hB] at b0
    exact ⟨(heap_alloc_old _ _ (lt_of_block b0)).trans b0, e1, ((Below.refl w.heap.size w).alloc (Nat.le_refl _) _).alloc (by simp) _⟩)
  have HB := Lib.hid hB; have HH := Lib.hid h; have HK := Lib.hid hk
  clear hB h hk
  obtain ⟨E, hE⟩ : ∃ E, o.code = E := ⟨_, rfl⟩
  rw [hE]
  go_enter Tryz.func34, Tryz.ntmps34
  go_upto_region 1 with fail
  (try rw [HB.out])
  obtain ⟨u, hU⟩ : ∃ u, (w.alloc (.cells #[.slice a o.dsk.secs.length c, .slice a' o.dsk.pend.length c', .int .i64 o.left] 27)).alloc (.cells #[.slice none 0 0, .slice none 0 0, .int .i64 0, .int .i64 0, .int .i64 0, .int .i64 0, .slice none 0 0] 29) = u := ⟨_, rfl⟩
  rw [hU]
  obtain ⟨hP, hR, hb⟩ := HX.out u hU
  have hPW := HH.out.below hb
  clear hU HX HH
  by_cases h21 : E = 21
  · subst h21
    rw [if_pos rfl]
    have q0 := below_cell (Below.refl _ u) hP 0 rfl
    have q1 := below_cell (Below.refl _ u) hP 1 rfl
    have q2 := below_cell (Below.refl _ u) hP 2 rfl
    have HS := Lib.hid (setRow_heap u (B + 1) _ #[.slice a o.dsk.secs.length c, .slice a' o.dsk.pend.length c', .int .i64 o.left, .int .i64 0, .int .i64 0, .int .i64 0, .slice none 0 0] _ _ hR)
    have HF := Lib.hid (below_setRow hb (show w.heap.size ≤ B + 1 by rw [HB.out]; omega) #[.slice a o.dsk.secs.length c, .slice a' o.dsk.pend.length c', .int .i64 o.left, .int .i64 0, .int .i64 0, .int .i64 0, .slice none 0 0])
    have HPN := Lib.hid (hPW.apart (w' := u.setRow (B + 1) #[.slice a o.dsk.secs.length c, .slice a' o.dsk.pend.length c', .int .i64 o.left, .int .i64 0, .int .i64 0, .int .i64 0, .slice none 0 0]) hR (box_no _ _ _ _ _ _ _ _ _ _ _ _ _) (by rw [setRow_size]; exact Nat.le_refl _) (fun k hk => setRow_other u (B + 1) k _ hk))
    clear hPW hP hb
    go_wp2_with (first | (refine wpList_store_row rfl 29 _ _ rfl (B + 1) #[.slice a o.dsk.secs.length c, .slice a' o.dsk.pend.length c', .int .i64 o.left, .int .i64 0, .int .i64 0, .int .i64 0, .slice none 0 0] rfl rfl 29 _ hR (by kernel_rfl) rfl (by simp [Value.oneCell']) ?_))
    refine bodyPost_ret (results_row_tmp rfl _ _ (B + 1) _ _ _ _ rfl HS.out Tryz.underlying29 rfl (by kernel_rfl)) rfl (by exact ⟨_, rfl, new_log HPN.out HK.out i64_zero, HF.out⟩)
  · have hne : (E == 21) = false := by simpa using h21
    rw [if_neg h21]
    have HS := Lib.hid (setRow_heap u (B + 1) _ #[.slice none 0 0, .slice none 0 0, .int .i64 0, .int .i64 0, .int .i64 0, .int .i64 0, .slice none 0 0] _ _ hR)
    have HF := Lib.hid (below_setRow hb (show w.heap.size ≤ B + 1 by rw [HB.out]; omega) #[.slice none 0 0, .slice none 0 0, .int .i64 0, .int .i64 0, .int .i64 0, .int .i64 0, .slice none 0 0])
    clear hPW hP hb
    go_wp2_with (first | (refine wpList_store_row rfl 29 _ _ rfl (B + 1) #[.slice none 0 0, .slice none 0 0, .int .i64 0, .int .i64 0, .int .i64 0, .int .i64 0, .slice none 0 0] rfl rfl 29 _ hR (by kernel_rfl) rfl (by simp [Value.oneCell']) ?_))
    refine bodyPost_ret (results_row_tmp rfl _ _ (B + 1) _ _ _ _ rfl HS.out Tryz.underlying29 rfl (by kernel_rfl)) rfl (by exact ⟨_, rfl, zero_log _, HF.out⟩)
end Go.Proofs.YthnmnnlbglpjaaaGreatDoor
