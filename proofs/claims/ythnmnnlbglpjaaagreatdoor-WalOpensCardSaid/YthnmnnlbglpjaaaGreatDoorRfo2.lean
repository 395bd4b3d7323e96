/- doorwardref05.Open: as wal.Open, told otherwise. -/
import Derived.Deep.RegionHeld
import Derived.Test.YthnmnnlbglpjaaaGreatDoorRfo1
import Derived.Test.YthnmnnlbglpjaaaGreatDoorRf5C
import Derived.Test.YthnmnnlbglpjaaaGreatDoorPkF
import Derived.Test.YthnmnnlbglpjaaaGreatDoorPkC
import Derived.Test.YthnmnnlbglpjaaaGreatDoorWq0
namespace Go.Proofs.YthnmnnlbglpjaaaGreatDoor
open Go.RowKit
set_option linter.unusedVariables false
set_option linter.unusedSimpArgs false

theorem dirty_risesB' {N : Nat} : ∀ {p : Int} {l : List Wrt}, dirtyB N p l = true → risesB p l
  | _, [], _ => trivial
  | p, x :: l, h => by
    unfold dirtyB at h
    rw [Bool.and_eq_true, Bool.and_eq_true, Bool.and_eq_true] at h
    exact ⟨of_decide_eq_true h.1.1.2, dirty_risesB' h.2⟩
theorem fold_withE' {N : Nat} {d xs : List Wrt} (hd : dirtyB N (-1) d = true) (hm : ∀ x ∈ xs, mayW N x) (i : Nat) (hi : i < xs.length) :
    withE ⟨(xs.getD i wrtZ).sector, trimS (xs.getD i wrtZ).bytes⟩ ((xs.take i).foldl withT d) = (xs.take (i + 1)).foldl withT d := by
  have h1 := fold_with (xs.take i) d (fun x hx => hm x (List.mem_of_mem_take hx)) hd
  rw [withE_rises _ _ _ (dirty_risesB' h1), fold_take d xs i hi]
  rfl
def withD (l : Lg) (d : List Wrt) : Lg := ⟨l.secs, l.pend, l.left, l.epoch, l.seq, l.used, d⟩
theorem log_withD {w : World} {sv pv dv dv' : Value} {l : Lg} {x y z t : Int} (h : IsLog w (.agg #[sv, pv, .int .i64 x, .int .i64 y, .int .i64 z, .int .i64 t, dv]) l) {d : List Wrt} (hd : IsWrts w dv' d) : IsLog w (.agg #[sv, pv, .int .i64 x, .int .i64 y, .int .i64 z, .int .i64 t, dv']) (withD l d) := by
  obtain ⟨hb, sv', pv', dv0, hv, k1, k2, k3⟩ := h
  injection hv with hv
  injection hv with hv
  injection hv with e1 hv
  injection hv with e2 hv
  injection hv with e3 hv
  injection hv with e4 hv
  injection hv with e5 hv
  injection hv with e6 hv
  subst e1 e2
  injection e3 with _ e3
  injection e4 with _ e4
  injection e5 with _ e5
  injection e6 with _ e6
  subst e3 e4 e5 e6
  exact ⟨hb, _, _, _, rfl, k1, k2, hd⟩
theorem refWithW (v : Value) (l : List Wrt) (s : Int) (b : ByteArray) (w : World) (h : IsWrts w v l) (hs : i64ok s) (hb : b.size ≤ 9223372036854775807) (hl : l.length ≤ 1000) :
    Calls Tryz.prog 30 #[v, .int .i64 s, .string b] w fun e w' => ∃ v', e = .returned v' ∧ IsWrts w' v' (withE ⟨s, trimS b⟩ l) ∧ Below w.heap.size w w' :=
  (refWithO v l s b w h hs hb hl).mono fun e w' ⟨v', he, ho, hbl⟩ => ⟨v', he, by
    have hbd : ∀ x ∈ l, x.bounded := by obtain ⟨_, _, _, _, _, _, _, hh, _⟩ := h; exact hh
    rcases ho with ho | ⟨h0, E, rfl⟩
    · exact own_wrts ho (withE_mem (Q := Wrt.bounded) ⟨hs, Nat.le_trans (trimS_le b) hb⟩ hbd)
    · rw [h0]; exact ⟨_, 0, 0, rfl, rfl, by omega, by omega, by simp, .inl rfl⟩, hbl⟩
theorem cell_keep {w : World} {p a : Addr} {x z : Value} (hp : w.cell? p = some x) (ha : w.cell? a = some z) (hne : x ≠ z) (v : Value) : (w.setCell p v).cell? a = some z := by
  rw [World.cell?_setCell_other _ _ _ _ (fun e => by subst e; rw [hp] at ha; injection ha with ha; exact hne ha)]
  exact ha
theorem reads_set {w : World} {v : Value} {l : List Int} (h : Reads1 encI w v l) {g k : Nat} {a : Option Addr} {m c : Nat} (hc : w.cell? ⟨g, k, none⟩ = some (.slice a m c)) (y : Value) : Reads1 encI (w.setCell ⟨g, k, none⟩ y) v l := by
  obtain ⟨a, len, cap, rfl, h1, h2, h3, hat⟩ := h
  refine ⟨a, len, cap, rfl, h1, h2, h3, hat.imp id ?_⟩
  rintro ⟨b, off, rfl, hb, hat⟩
  exact ⟨b, off, rfl, by simpa using hb, fun i hi => cell_keep hc (hat i hi) (by unfold encI; simp) y⟩
theorem with_later {wr : World} {v : Value} {l : List Wrt} {s : Int} {b : ByteArray} (h : IsWrts wr v l) (hs : i64ok s) (hb : b.size ≤ 9223372036854775807) (hl : l.length ≤ 1000) :
    ∀ u, Below wr.heap.size wr u → Calls Tryz.prog 30 #[v, .int .i64 s, .string b] u fun e w' => ∃ v', e = .returned v' ∧ IsWrts w' v' (withE ⟨s, trimS b⟩ l) ∧ Below u.heap.size u w' :=
  fun u hu => refWithW v l s b u (h.below hu) hs hb hl
theorem log_taken {w : World} {a1 a2 a3 : Option Addr} {n1 n2 n3 n4 n5 n6 : Nat} {l : Lg} {XW : List Wrt} {n : Nat} (hn : XW.length = n) (h : IsLog w (.agg #[.slice a1 n1 n2, .slice a2 n3 n4, .int .i64 l.left, .int .i64 l.epoch, .int .i64 l.seq, .int .i64 l.used, .slice a3 n5 n6]) (withD l (XW.foldl withT l.dirty))) (hb : (takenL l XW).bounded) :
    IsLog w (.agg #[.slice a1 n1 n2, .slice a2 n3 n4, .int .i64 l.left, .int .i64 l.epoch, .int .i64 (l.seq + 1), .int .i64 (l.used + (n : Int)), .slice a3 n5 n6]) (takenL l XW) := by
  obtain ⟨_, sv, pv, dv, hv, k1, k2, k3⟩ := h
  injection hv with hv
  injection hv with hv
  injection hv with e1 hv
  injection hv with e2 hv
  injection hv with e3 hv
  injection hv with e4 hv
  injection hv with e5 hv
  injection hv with e6 hv
  injection hv with e7 hv
  subst e1 e2 e7 hn
  exact ⟨hb, _, _, _, rfl, k1, k2, k3⟩

set_option maxRecDepth 100000 in
set_option maxHeartbeats 20000000 in
theorem refOpen5 (v : Value) (d : Dsk) (left : Int) (w : World) (h : IsPower w v d left) (hk : i64ok left) (hp : d.pend.length ≤ 600) :
    Calls Tryz.prog 17 #[v] w (LogPost (opL d left) (opE d left) w) := by
  obtain ⟨x1, x2, x3, x4, rfl, hd⟩ := id h.form
  have hSS : IsStrs w (.slice x1 d.secs.length x2) d.secs := hd.secs
  have hL : opL d left = if openB d = true then (if superE (supS0 d) = 0 then ckL (openLg d left) else zeroL) else zeroL := rfl
  have hE : opE d left = if openB d = true then (if superE (supS0 d) = 0 then ckE (openLg d left) else 32) else 1 := rfl
  obtain ⟨CL, hCL⟩ : ∃ CL, opL d left = CL := ⟨_, rfl⟩
  obtain ⟨CE, hCE⟩ : ∃ CE, opE d left = CE := ⟨_, rfl⟩
  rw [hCL] at hL ⊢
  rw [hCE] at hE ⊢
  have hOB : openB d = (rightD d && decide (64 ≤ d.secs.length ∧ d.pend.length = 0)) := rfl
  have hOG : openLg d left = openF 6 (open0 d left (superV (supS0 d))) := rfl
  obtain ⟨B, hB⟩ : ∃ B, w.heap.size = B := ⟨_, rfl⟩
  have HX : Hid (∀ u : World, (w.alloc (.cells #[.slice x1 d.secs.length x2, .slice x3 d.pend.length x4, .int .i64 left] 27)).alloc (.cells #[.slice none 0 0, .slice none 0 0, .int .i64 0, .int .i64 0, .int .i64 0, .int .i64 0, .slice none 0 0] 29) = u →
      u.heap[B]? = some (.cells #[.slice x1 d.secs.length x2, .slice x3 d.pend.length x4, .int .i64 left] 27 (0, 0)) ∧ u.heap[B + 1]? = some (.cells #[.slice none 0 0, .slice none 0 0, .int .i64 0, .int .i64 0, .int .i64 0, .int .i64 0, .slice none 0 0] 29 (0, 0)) ∧ Below w.heap.size w u ∧ u.heap.size = B + 2) := Lib.hid (by
    rintro u rfl
    have b0 := heap_alloc_new w (.cells #[.slice x1 d.secs.length x2, .slice x3 d.pend.length x4, .int .i64 left] 27)
    have e1 := heap_alloc_new (w.alloc (.cells #[.slice x1 d.secs.length x2, .slice x3 d.pend.length x4, .int .i64 left] 27)) (.cells #[.slice none 0 0, .slice none 0 0, .int .i64 0, .int .i64 0, .int .i64 0, .int .i64 0, .slice none 0 0] 29)
    rw [World.size_alloc, hB] at e1
    rw [hB] at b0
    exact ⟨(heap_alloc_old _ _ (lt_of_block b0)).trans b0, e1, ((Below.refl w.heap.size w).alloc (Nat.le_refl _) _).alloc (by simp) _, by rw [World.size_alloc, World.size_alloc, hB]⟩)
  have hSf : d.secs.length ≤ x2 ∧ x2 ≤ 9223372036854775807 := by obtain ⟨_, _, e, k1, k2⟩ := hSS.form; injection e with e1 e2 e3; subst e3; exact ⟨k1, k2⟩
  have HB := Lib.hid hB; have HH := Lib.hid h; have HP := Lib.hid hp; have HL := Lib.hid hL; have HE := Lib.hid hE; have HOB := Lib.hid hOB; have HOG := Lib.hid hOG; have HS := Lib.hid hSS; have HK := Lib.hid hk; have HD := Lib.hid hd
  clear hB h hp hL hE hCL hCE hOB hOG hSS hk hd
  go_enter Tryz.func17, Tryz.ntmps17
  go_upto_region 1 with fail
  (try rw [HB.out])
  obtain ⟨u, hU⟩ : ∃ u, (w.alloc (.cells #[.slice x1 d.secs.length x2, .slice x3 d.pend.length x4, .int .i64 left] 27)).alloc (.cells #[.slice none 0 0, .slice none 0 0, .int .i64 0, .int .i64 0, .int .i64 0, .int .i64 0, .slice none 0 0] 29) = u := ⟨_, rfl⟩
  rw [hU]
  obtain ⟨hP, hR, hb, hz⟩ := HX.out u hU
  have HPB := Lib.hid hP; have HRB := Lib.hid hR; have HBW := Lib.hid hb; have HZ := Lib.hid hz
  have HRT := refDiskRight_any _ d u (HD.out.below hb)
  obtain ⟨rd, hrd⟩ : ∃ rd, rightD d = rd := ⟨_, rfl⟩
  rw [hrd] at HRT
  have hob := HOB.out
  rw [hrd] at hob
  have HOB := Lib.hid hob
  have HRT := Lib.hid HRT; have HRD := Lib.hid hrd
  clear hU HX hP hR hb hz hrd hob
  have d0 := below_cell (Below.refl _ u) HPB.out 0 rfl
  have d1 := below_cell (Below.refl _ u) HPB.out 1 rfl
  have bad : Hid (∀ E : Int, CL = zeroL → CE = E → ∀ u1 : World, Below u.heap.size u u1 → LogPost CL CE w (.returned (.tuple #[.agg #[.slice none 0 0, .slice none 0 0, .int .i64 0, .int .i64 0, .int .i64 0, .int .i64 0, .slice none 0 0], .int .i64 E])) (u1.setRow (B + 1) #[.slice none 0 0, .slice none 0 0, .int .i64 0, .int .i64 0, .int .i64 0, .int .i64 0, .slice none 0 0])) := Lib.hid (by
    rintro E rfl rfl u1 h1
    exact ⟨_, rfl, zero_log _, below_setRow (HBW.out.trans (h1.mono HBW.out.size)) (show w.heap.size ≤ B + 1 by rw [HB.out]; omega) _⟩)
  have HSZ := Lib.hid (fun (u1 : World) (h1 : Below u.heap.size u u1) => setRow_heap u1 (B + 1) _ #[.slice none 0 0, .slice none 0 0, .int .i64 0, .int .i64 0, .int .i64 0, .int .i64 0, .slice none 0 0] _ _ ((h1.block _ (lt_of_block HRB.out)).trans HRB.out))
  have HBA : Hid (openB d = false → CL = zeroL ∧ CE = 1) := Lib.hid (fun h => ⟨HL.out.trans (if_neg (by rw [h]; decide)), HE.out.trans (if_neg (by rw [h]; decide))⟩)
  go_upto_region 1 with fail
  cases rd
  · obtain ⟨e1, e2⟩ := HBA.out (by rw [HOB.out]; rfl)
    have HF := Lib.hid (bad.out 1 e1 e2)
    clear bad HL HE e1 e2 HBA
    go_wp2_with (first
      | (go_at_call 46; refine HRT.out.mono ?_; rintro e u1 ⟨rfl, hb1⟩; have hst := (hb1.block _ (lt_of_block HRB.out)).trans HRB.out)
      | (refine wpList_store_row rfl 29 _ _ rfl (B + 1) #[.slice none 0 0, .slice none 0 0, .int .i64 0, .int .i64 0, .int .i64 0, .int .i64 0, .slice none 0 0] rfl rfl 29 _ hst (by kernel_rfl) rfl (by simp [Value.oneCell']) ?_))
    refine bodyPost_ret (results_row_tmp rfl _ _ (B + 1) _ _ _ _ rfl (HSZ.out u1 hb1) Tryz.underlying29 rfl (by kernel_rfl)) rfl (by exact HF.out u1 hb1)
  by_cases h64 : d.secs.length < 64
  · obtain ⟨e1, e2⟩ := HBA.out (by rw [HOB.out, decide_eq_false (by omega)]; rfl)
    have HF := Lib.hid (bad.out 1 e1 e2)
    have h64I : (d.secs.length : Int) < 64 := by omega
    clear bad HL HE e1 e2 HBA
    go_wp2_with (first
      | (go_at_call 46; refine HRT.out.mono ?_; rintro e u1 ⟨rfl, hb1⟩; have hst := (hb1.block _ (lt_of_block HRB.out)).trans HRB.out; have k0 := below_cell hb1 HPB.out 0 rfl)
      | (refine wpList_store_row rfl 29 _ _ rfl (B + 1) #[.slice none 0 0, .slice none 0 0, .int .i64 0, .int .i64 0, .int .i64 0, .int .i64 0, .slice none 0 0] rfl rfl 29 _ hst (by kernel_rfl) rfl (by simp [Value.oneCell']) ?_))
    refine bodyPost_ret (results_row_tmp rfl _ _ (B + 1) _ _ _ _ rfl (HSZ.out u1 hb1) Tryz.underlying29 rfl (by kernel_rfl)) rfl (by exact HF.out u1 hb1)
  by_cases hpe : d.pend.length = 0
  rotate_left
  · obtain ⟨e1, e2⟩ := HBA.out (by rw [HOB.out, decide_eq_false (by omega)]; rfl)
    have HF := Lib.hid (bad.out 1 e1 e2)
    have h64I : ¬ (d.secs.length : Int) < 64 := by omega
    have hpI : (0 : Int) < d.pend.length := by omega
    clear bad HL HE e1 e2 HBA
    go_wp2_with (first
      | (go_at_call 46; refine HRT.out.mono ?_; rintro e u1 ⟨rfl, hb1⟩; have hst := (hb1.block _ (lt_of_block HRB.out)).trans HRB.out; have k0 := below_cell hb1 HPB.out 0 rfl; have k1 := below_cell hb1 HPB.out 1 rfl)
      | (refine wpList_store_row rfl 29 _ _ rfl (B + 1) #[.slice none 0 0, .slice none 0 0, .int .i64 0, .int .i64 0, .int .i64 0, .int .i64 0, .slice none 0 0] rfl rfl 29 _ hst (by kernel_rfl) rfl (by simp [Value.oneCell']) ?_))
    refine bodyPost_ret (results_row_tmp rfl _ _ (B + 1) _ _ _ _ rfl (HSZ.out u1 hb1) Tryz.underlying29 rfl (by kernel_rfl)) rfl (by exact HF.out u1 hb1)
  have hob : openB d = true := by rw [HOB.out, decide_eq_true ⟨by omega, hpe⟩]; rfl
  have e1 := HL.out.trans (if_pos hob); have e2 := HE.out.trans (if_pos hob)
  have HLb := Lib.hid e1; have HEb := Lib.hid e2
  have h64I : ¬ (d.secs.length : Int) < 64 := by omega
  have hpI : ¬ (0 : Int) < d.pend.length := by omega
  have HS64 := Lib.hid h64; have HPE := Lib.hid hpe
  clear e1 e2 hob HBA hpe h64
  go_upto_region 3 with (first
      | (go_at_call 46; refine HRT.out.mono ?_; rintro e u1 ⟨rfl, hb1⟩; have k0 := below_cell hb1 HPB.out 0 rfl; have k1 := below_cell hb1 HPB.out 1 rfl))
  have HP1 := Lib.hid ((hb1.block _ (lt_of_block HPB.out)).trans HPB.out)
  have HR1 := Lib.hid ((hb1.block _ (lt_of_block HRB.out)).trans HRB.out)
  have HW1 := Lib.hid (HBW.out.trans (hb1.mono HBW.out.size))
  have HZ1 := Lib.hid (show B + 2 ≤ u1.heap.size by rw [← HZ.out]; exact hb1.size)
  have HB1 := Lib.hid hb1
  have hSS1 := HS.out.below HW1.out
  have hcell : ∃ b off, x1 = some ⟨b, off, none⟩ ∧ u1.cell? ⟨b, off, none⟩ = some (.string (supS0 d)) := by
    obtain ⟨a9, n9, c9, hv9, hl9, _, _, _, hat9⟩ := hSS1
    injection hv9 with t1 t2 t3
    subst t1 t2 t3
    obtain ⟨b, off, rfl, hbb, hc⟩ := hat9.resolve_left (by have := HS64.out; omega)
    exact ⟨b, off, rfl, hc 0 (by have := HS64.out; omega)⟩
  obtain ⟨b, off, rfl, p0⟩ := hcell
  have hlen0 : (0 : Int) < d.secs.length := by have := HS64.out; omega
  have HS0 : Hid ((supS0 d).size ≤ 2000) := Lib.hid (by
    have hk : 0 < d.secs.length := by have := HS64.out; omega
    have hf := right_secs d HRD.out (d.secs[0]) (List.getElem_mem hk)
    rw [show supS0 d = d.secs[0] from by unfold supS0; simp [List.getD, hk]]
    have := (fits_size5 hf).2.2; omega)
  have HSR := Lib.hid (fun x => ref4ReadSuper_any (supS0 d) x HS0.out)
  obtain ⟨ep, hep⟩ : ∃ e, superV (supS0 d) = e := ⟨_, rfl⟩
  obtain ⟨sE, hsE⟩ : ∃ e, superE (supS0 d) = e := ⟨_, rfl⟩
  have hs1 := HSR.out; rw [hep, hsE] at hs1
  have HSR := Lib.hid hs1
  have e1 := HLb.out; have e2 := HEb.out; have e3 := HOG.out
  rw [hsE] at e1 e2
  rw [hep] at e3
  have HLc := Lib.hid e1; have HEc := Lib.hid e2; have HOGc := Lib.hid e3
  have HEPV := Lib.hid hep; have HSEV := Lib.hid hsE
  clear hs1 e1 e2 e3 hep hsE hSS1 hb1 k0 k1 d0 d1 HPB HRB HBW HZ HRT
  have d0 := below_cell (Below.refl _ u1) HP1.out 0 rfl
  have d1 := below_cell (Below.refl _ u1) HP1.out 1 rfl
  have d2 := below_cell (Below.refl _ u1) HP1.out 2 rfl
  go_upto_region 4 with (first | (go_at_call 47; refine (HSR.out _).mono ?_; rintro e u2 ⟨rfl, hb2⟩))
  have hal := (Below.refl u2.heap.size u2).alloc (Nat.le_refl _) (.cells #[.int .i64 ep] 78)
  have hn := heap_alloc_new u2 (.cells #[.int .i64 ep] 78)
  have hP3 := (hal.block _ (lt_of_block ((hb2.block _ (lt_of_block HP1.out)).trans HP1.out))).trans ((hb2.block _ (lt_of_block HP1.out)).trans HP1.out)
  have hR3 := (hal.block _ (lt_of_block ((hb2.block _ (lt_of_block HR1.out)).trans HR1.out))).trans ((hb2.block _ (lt_of_block HR1.out)).trans HR1.out)
  have hW3 := (HW1.out.trans (hb2.mono HW1.out.size)).trans (hal.mono (HW1.out.trans (hb2.mono HW1.out.size)).size)
  have hz3 : B + 2 ≤ u2.heap.size := Nat.le_trans HZ1.out hb2.size
  have hb3 : Below u.heap.size u (u2.alloc (.cells #[.int .i64 ep] 78)) := (HB1.out.trans (hb2.mono HB1.out.size)).trans (hal.mono (HB1.out.trans (hb2.mono HB1.out.size)).size)
  obtain ⟨E, hE⟩ : ∃ E, u2.heap.size = E := ⟨_, rfl⟩
  obtain ⟨u3, hU⟩ : ∃ u3, u2.alloc (.cells #[.int .i64 ep] 78) = u3 := ⟨_, rfl⟩
  have hzz : E + 1 = u3.heap.size := by rw [← hU, World.size_alloc, hE]
  rw [hU] at hn hP3 hR3 hW3 hb3 ⊢
  rw [hE] at hn hz3
  (try rw [hE])
  have HSX := Lib.hid hn; have HP3 := Lib.hid hP3; have HR3 := Lib.hid hR3; have HW3 := Lib.hid hW3; have HB3 := Lib.hid hb3; have HZ3 := Lib.hid hz3; have HZZ := Lib.hid hzz
  clear hU hE hal hn hP3 hR3 hW3 hb2 hb3 hz3 hzz HP1 HR1 HW1 HZ1 HB1 d0 d1 d2 p0 HSR
  generalize (some ⟨b, off, none⟩ : Option Addr) = x1 at *
  by_cases hse : sE = 0
  rotate_left
  · have hA2 : (sE != 0) = true := by simpa using hse
    have hA3 : (sE == 0) = false := by simpa using hse
    have HF := Lib.hid (bad.out 32 (HLc.out.trans (if_neg hse)) (HEc.out.trans (if_neg hse)))
    have hst := HR3.out
    clear bad HLc HEc
    go_wp2_with (first | (refine wpList_store_row rfl 29 _ _ rfl (B + 1) #[.slice none 0 0, .slice none 0 0, .int .i64 0, .int .i64 0, .int .i64 0, .int .i64 0, .slice none 0 0] rfl rfl 29 _ hst (by kernel_rfl) rfl (by simp [Value.oneCell']) ?_))
    refine bodyPost_ret (results_row_tmp rfl _ _ (B + 1) _ _ _ _ rfl (HSZ.out u3 HB3.out) Tryz.underlying29 rfl (by kernel_rfl)) rfl (by exact HF.out u3 HB3.out)
  have e1 := HLc.out.trans (if_pos hse); have e2 := HEc.out.trans (if_pos hse)
  rw [HOGc.out] at e1 e2
  subst hse
  have HLd := Lib.hid e1; have HEd := Lib.hid e2
  have hepb : i64ok ep := by rw [← HEPV.out]; exact super_i64 _
  have HEB := Lib.hid hepb
  have HIL : Hid (IsLog u3 (.agg #[.slice x1 d.secs.length x2, .slice x3 d.pend.length x4, .int .i64 left, .int .i64 ep, .int .i64 0, .int .i64 0, .slice none 0 0]) (open0 d left ep)) := Lib.hid ⟨⟨HK.out, hepb, i64_zero, i64_zero⟩, _, _, _, rfl, (HS.out.below HW3.out), (HD.out.below HW3.out).pend, nilWrts _⟩
  clear e1 e2 bad HSZ HOGc HEPV HSEV hepb
  have d0 := below_cell (Below.refl _ u3) HP3.out 0 rfl
  have d1 := below_cell (Below.refl _ u3) HP3.out 1 rfl
  have d2 := below_cell (Below.refl _ u3) HP3.out 2 rfl
  have s0 := below_cell (Below.refl _ u3) HSX.out 0 rfl
  go_upto_region 7 with fail
  have HX : Hid (∀ W, u3.alloc (.cells #[.slice x1 d.secs.length x2, .slice x3 d.pend.length x4, .int .i64 left, .int .i64 ep, .int .i64 0, .int .i64 0, .slice none 0 0] 29) = W → W.heap.size = E + 2 ∧ W.heap[E + 1]? = some (.cells #[.slice x1 d.secs.length x2, .slice x3 d.pend.length x4, .int .i64 left, .int .i64 ep, .int .i64 0, .int .i64 0, .slice none 0 0] 29 (0, 0)) ∧ W.heap[B + 1]? = some (.cells #[.slice none 0 0, .slice none 0 0, .int .i64 0, .int .i64 0, .int .i64 0, .int .i64 0, .slice none 0 0] 29 (0, 0)) ∧ Below w.heap.size w W ∧ IsLog W (.agg #[.slice x1 d.secs.length x2, .slice x3 d.pend.length x4, .int .i64 left, .int .i64 ep, .int .i64 0, .int .i64 0, .slice none 0 0]) (open0 d left ep)) := Lib.hid (by
    rintro W rfl
    have hal := (Below.refl u3.heap.size u3).alloc (Nat.le_refl _) (.cells #[.slice x1 d.secs.length x2, .slice x3 d.pend.length x4, .int .i64 left, .int .i64 ep, .int .i64 0, .int .i64 0, .slice none 0 0] 29)
    have hn := heap_alloc_new u3 (.cells #[.slice x1 d.secs.length x2, .slice x3 d.pend.length x4, .int .i64 left, .int .i64 ep, .int .i64 0, .int .i64 0, .slice none 0 0] 29)
    rw [← HZZ.out] at hn
    exact ⟨by rw [World.size_alloc, ← HZZ.out], hn, (hal.block _ (lt_of_block HR3.out)).trans HR3.out, HW3.out.trans (hal.mono HW3.out.size), HIL.out.below hal⟩)
  rw [← HZZ.out]
  obtain ⟨W, hW⟩ : ∃ W, u3.alloc (.cells #[.slice x1 d.secs.length x2, .slice x3 d.pend.length x4, .int .i64 left, .int .i64 ep, .int .i64 0, .int .i64 0, .slice none 0 0] 29) = W := ⟨_, rfl⟩
  rw [hW]
  obtain ⟨hz1, hg1, hr1, hw1, hl1⟩ := HX.out W hW
  have hpb1 : W.heap[B]? = some (.cells #[.slice x1 d.secs.length x2, .slice x3 d.pend.length x4, .int .i64 left] 27 (0, 0)) := by rw [← hW]; exact (heap_alloc_old _ _ (lt_of_block HP3.out)).trans HP3.out
  have HPB1 := Lib.hid hpb1
  have HZ1 := Lib.hid hz1; have HG1 := Lib.hid hg1; have HR1 := Lib.hid hr1; have HW1 := Lib.hid hw1; have HL1 := Lib.hid hl1
  have HGB : Hid (B + 2 ≤ E) := HZ3
  have hGB := HGB.out
  have h64 := HS64.out
  have h256 : d.secs.length ≤ 256 := by
    have := HRD.out
    unfold rightD at this
    rw [Bool.and_eq_true, Bool.and_eq_true] at this
    exact (of_decide_eq_true this.1.1).2
  have hsz : ∀ s ∈ d.secs, s.size ≤ 2000 := fun s hs => by have := (fits_size5 (right_secs d HRD.out s hs)).2.2; omega
  have HSZ := Lib.hid hsz
  have HOK0 : Hid (OpenOk d left ep (open0 d left ep)) := Lib.hid ⟨rfl, rfl, rfl, rfl, ⟨Int.le_refl _, by show (0 : Int) ≤ 6; decide⟩, ⟨Int.le_refl _, by show (0 : Int) ≤ 40; decide⟩, rfl⟩
  obtain ⟨F, hF⟩ : ∃ F, openF 6 (open0 d left ep) = F := ⟨_, rfl⟩
  rw [hF] at HLd HEd
  have HF0 : Hid (openF (6 - (open0 d left ep).seq.toNat) (open0 d left ep) = F) := Lib.hid hF
  clear hpb1 hW HX hz1 hg1 hr1 hw1 hl1 HSX HP3 HR3 HW3 HB3 HZ3 HZZ HIL hF hsz d0 d1 d2 s0
  have hdec : decide ((d.secs.length : Int) < 64) = false := decide_eq_false (by omega)
  rw [hdec]
  clear hdec
  go_loopw [7] (fun v7 wr => ∃ (l : Lg) (y1 : Option Addr) (y2 : Nat) (y3 : Option Addr) (y4 : Nat) (y5 : Option Addr) (y6 : Nat), Hid (OpenOk d left ep l) ∧ Hid (openF (6 - l.seq.toNat) l = F) ∧ Hid (wr.heap[E + 1]? = some (.cells #[.slice y1 l.secs.length y2, .slice y3 l.pend.length y4, .int .i64 l.left, .int .i64 l.epoch, .int .i64 l.seq, .int .i64 l.used, .slice y5 l.dirty.length y6] 29 (0, 0))) ∧ Hid (IsLog wr (.agg #[.slice y1 l.secs.length y2, .slice y3 l.pend.length y4, .int .i64 l.left, .int .i64 l.epoch, .int .i64 l.seq, .int .i64 l.used, .slice y5 l.dirty.length y6]) l) ∧ Hid (wr.heap[B + 1]? = some (.cells #[.slice none 0 0, .slice none 0 0, .int .i64 0, .int .i64 0, .int .i64 0, .int .i64 0, .slice none 0 0] 29 (0, 0))) ∧ Hid (Below w.heap.size w wr) ∧ Hid (wr.heap[B]? = some (.cells #[.slice x1 d.secs.length x2, .slice x3 d.pend.length x4, .int .i64 left] 27 (0, 0)))) (fun _ wr => 6 - (intOf ((wr.cell? ⟨E + 1, 4, none⟩).getD undef)).toNat)
  case atStart => exact ⟨open0 d left ep, x1, x2, x3, x4, none, 0, HOK0, HF0, HG1, HL1, HR1, HW1, HPB1⟩
  case round =>
    clear HZ1 HG1 HR1 HW1 HL1 HOK0 HF0 HPB1
    obtain ⟨l, y1, y2, y3, y4, y5, y6, HOK, HFF, HG, HIL, HRB, HWW, HPB⟩ := hrel
    have hok := HOK.out
    obtain ⟨q, hq⟩ : ∃ q : Nat, l.seq = q := ⟨l.seq.toNat, by have := hok.seq.1; omega⟩
    have hq6 : q ≤ 6 := by have := hok.seq.2; omega
    have g4 := below_cell (Below.refl _ wr) HG.out 4 rfl
    by_cases hlt : q < 6
    rotate_left
    · have hFl : l = F := by
        have e6 : q = 6 := by omega
        have := HFF.out
        rw [show l.seq.toNat = 6 from by omega] at this
        exact this
      have hltI : ¬ l.seq < 6 := by omega
      have HQ := Lib.hid hq
      clear hq hq6 hlt g4 hok
      have hckl : ckL l = CL := by rw [HLd.out, ← hFl]
      have hcke : ckE l = CE := by rw [HEd.out, ← hFl]
      have hckk := refCk5 _ l wr HIL.out (by rw [HOK.out.pend]; exact HP.out)
      rw [hckl, hcke] at hckk
      have HCKK := Lib.hid hckk
      clear hckl hcke hckk hFl
      have g0 := below_cell (Below.refl _ wr) HG.out 0 rfl
      have g1 := below_cell (Below.refl _ wr) HG.out 1 rfl
      have g2 := below_cell (Below.refl _ wr) HG.out 2 rfl
      have g3 := below_cell (Below.refl _ wr) HG.out 3 rfl
      have g4 := below_cell (Below.refl _ wr) HG.out 4 rfl
      have g5 := below_cell (Below.refl _ wr) HG.out 5 rfl
      have g6 := below_cell (Below.refl _ wr) HG.out 6 rfl
      go_wp2_with (first
        | (go_at_call 13; refine HCKK.out.mono ?_; rintro e u9 ⟨v9, rfl, hl9, hb9⟩; obtain ⟨t1, t2, t3, t4, t5, t6, rfl, _⟩ := id hl9.form; have hst := (hb9.block _ (lt_of_block HRB.out)).trans HRB.out; have HS' := Lib.hid (setRow_heap u9 (B + 1) _ #[.slice t1 CL.secs.length t2, .slice t3 CL.pend.length t4, .int .i64 CL.left, .int .i64 CL.epoch, .int .i64 CL.seq, .int .i64 CL.used, .slice t5 CL.dirty.length t6] _ _ hst))
        | (refine wpList_store_row rfl 29 _ _ rfl (B + 1) #[.slice t1 CL.secs.length t2, .slice t3 CL.pend.length t4, .int .i64 CL.left, .int .i64 CL.epoch, .int .i64 CL.seq, .int .i64 CL.used, .slice t5 CL.dirty.length t6] rfl rfl 29 _ hst (by kernel_rfl) rfl (by simp [Value.oneCell']) ?_))
      have hlN := hl9.apart (w' := u9.setRow (B + 1) #[.slice t1 CL.secs.length t2, .slice t3 CL.pend.length t4, .int .i64 CL.left, .int .i64 CL.epoch, .int .i64 CL.seq, .int .i64 CL.used, .slice t5 CL.dirty.length t6]) hst (box_no _ _ _ _ _ _ _ _ _ _ _ _ _) (by rw [setRow_size]; exact Nat.le_refl _) (fun k hk => setRow_other u9 (B + 1) k _ hk)
      have hF9 := below_setRow (HWW.out.trans (hb9.mono HWW.out.size)) (show w.heap.size ≤ B + 1 by rw [HB.out]; omega) #[.slice t1 CL.secs.length t2, .slice t3 CL.pend.length t4, .int .i64 CL.left, .int .i64 CL.epoch, .int .i64 CL.seq, .int .i64 CL.used, .slice t5 CL.dirty.length t6]
      refine bodyPost_ret (results_row_tmp rfl _ _ (B + 1) _ _ _ _ rfl HS'.out Tryz.underlying29 rfl (by kernel_rfl)) rfl (by exact ⟨_, rfl, hlN, hF9⟩)
    have hltI : l.seq < 6 := by omega
    have hstd := refStand _ l wr HIL.out (by rw [hok.secs]; exact HSZ.out) (by rw [hok.secs]; omega) (by rw [hok.secs]; omega) ⟨hok.seq.1, hltI⟩ hok.used
    have HST := Lib.hid hstd
    have HQ := Lib.hid hq; have HLT := Lib.hid hlt; have HG4 := Lib.hid g4
    clear hstd hok hq hq6
    have g0 := below_cell (Below.refl _ wr) HG.out 0 rfl
    have g1 := below_cell (Below.refl _ wr) HG.out 1 rfl
    have g2 := below_cell (Below.refl _ wr) HG.out 2 rfl
    have g3 := below_cell (Below.refl _ wr) HG.out 3 rfl
    have g5 := below_cell (Below.refl _ wr) HG.out 5 rfl
    have g6 := below_cell (Below.refl _ wr) HG.out 6 rfl
    go_upto_region 9 with (first | (go_at_call 48; refine HST.out.mono ?_; rintro e w2 ⟨vh, ⟨z0, z1, z2, z3, z4, rfl⟩, rfl, hish, hb2⟩))
    obtain ⟨u9, H, hU, hH, hn, hbw, hal, hwH, hz9⟩ := step_alloc (HWW.out.trans (hb2.mono HWW.out.size)) (.cells #[.int .i64 z0, .int .i64 z1, .slice z2 z3 z4] 67)
    rw [hU]
    (try rw [hH])
    have HG9 := Lib.hid (Below.at' hal (Below.at' hb2 HG.out)); have HIL9 := Lib.hid ((HIL.out.below hb2).below hal); have HRB9 := Lib.hid (Below.at' hal (Below.at' hb2 HRB.out)); have HPB9 := Lib.hid (Below.at' hal (Below.at' hb2 HPB.out)); have HWW9 := Lib.hid hbw; have HHB := Lib.hid hn
    have HISH := Lib.hid (fun h => (hish h).below hal)
    have HEH := Lib.hid (show E + 1 < H by rw [← hH]; exact (Array.getElem?_eq_some_iff.1 (Below.at' hb2 HG.out)).1)
    clear hU hH hn hbw hal hwH hz9 hb2 hish HG HIL HRB HPB HWW HST g0 g1 g2 g3 g4 g5 g6 hltI
    by_cases hs : StandP l
    rotate_left
    · have hFl : l = F := by rw [← HFF.out, open_no hs]
      have hdec : decide (StandP l) = false := decide_eq_false hs
      rw [hdec]
      clear hdec HISH hs
      have hckl : ckL l = CL := by rw [HLd.out, ← hFl]
      have hcke : ckE l = CE := by rw [HEd.out, ← hFl]
      have hckk := refCk5 _ l u9 HIL9.out (by rw [HOK.out.pend]; exact HP.out)
      rw [hckl, hcke] at hckk
      have HCKK := Lib.hid hckk
      clear hckl hcke hckk hFl
      have g0 := below_cell (Below.refl _ u9) HG9.out 0 rfl
      have g1 := below_cell (Below.refl _ u9) HG9.out 1 rfl
      have g2 := below_cell (Below.refl _ u9) HG9.out 2 rfl
      have g3 := below_cell (Below.refl _ u9) HG9.out 3 rfl
      have g4 := below_cell (Below.refl _ u9) HG9.out 4 rfl
      have g5 := below_cell (Below.refl _ u9) HG9.out 5 rfl
      have g6 := below_cell (Below.refl _ u9) HG9.out 6 rfl
      go_wp2_with (first
        | (go_at_call 13; refine HCKK.out.mono ?_; rintro e u9 ⟨v9, rfl, hl9, hb9⟩; obtain ⟨t1, t2, t3, t4, t5, t6, rfl, _⟩ := id hl9.form; have hst := (hb9.block _ (lt_of_block HRB9.out)).trans HRB9.out; have HS' := Lib.hid (setRow_heap u9 (B + 1) _ #[.slice t1 CL.secs.length t2, .slice t3 CL.pend.length t4, .int .i64 CL.left, .int .i64 CL.epoch, .int .i64 CL.seq, .int .i64 CL.used, .slice t5 CL.dirty.length t6] _ _ hst))
        | (refine wpList_store_row rfl 29 _ _ rfl (B + 1) #[.slice t1 CL.secs.length t2, .slice t3 CL.pend.length t4, .int .i64 CL.left, .int .i64 CL.epoch, .int .i64 CL.seq, .int .i64 CL.used, .slice t5 CL.dirty.length t6] rfl rfl 29 _ hst (by kernel_rfl) rfl (by simp [Value.oneCell']) ?_))
      have hlN := hl9.apart (w' := u9.setRow (B + 1) #[.slice t1 CL.secs.length t2, .slice t3 CL.pend.length t4, .int .i64 CL.left, .int .i64 CL.epoch, .int .i64 CL.seq, .int .i64 CL.used, .slice t5 CL.dirty.length t6]) hst (box_no _ _ _ _ _ _ _ _ _ _ _ _ _) (by rw [setRow_size]; exact Nat.le_refl _) (fun k hk => setRow_other u9 (B + 1) k _ hk)
      have hF9 := below_setRow (HWW9.out.trans (hb9.mono HWW9.out.size)) (show w.heap.size ≤ B + 1 by rw [HB.out]; omega) #[.slice t1 CL.secs.length t2, .slice t3 CL.pend.length t4, .int .i64 CL.left, .int .i64 CL.epoch, .int .i64 CL.seq, .int .i64 CL.used, .slice t5 CL.dirty.length t6]
      refine bodyPost_ret (results_row_tmp rfl _ _ (B + 1) _ _ _ _ rfl HS'.out Tryz.underlying29 rfl (by kernel_rfl)) rfl (by exact ⟨_, rfl, hlN, hF9⟩)
    have hdec : decide (StandP l) = true := decide_eq_true hs
    rw [hdec]
    obtain ⟨tv, hv, htv⟩ := HISH.out hdec
    injection hv with hv
    injection hv with hv
    injection hv with k1 hv
    injection hv with k2 hv
    injection hv with k3 hv
    injection k1 with _ k1
    injection k2 with _ k2
    subst k1 k2 k3
    obtain ⟨ta, tc, hv3, ht1, ht2, hat⟩ := reads1_form htv
    injection hv3 with k1 k2 k3
    subst k1 k2 k3
    obtain ⟨TG, hTG⟩ : ∃ TG, (headV (headS l)).tgt = TG := ⟨_, rfl⟩
    have hmay := open_may HRD.out HOK.out hs
    have hnext := open_step HRD.out HOK.out (show l.seq < 6 by rw [HQ.out]; have := HLT.out; omega) hs
    have hF2 := open_at HQ.out HLT.out hs
    have h40 := hs.2.2.2.2.1
    have htl := head_tgt hs.1
    rw [hTG] at hmay hnext hF2 h40 htl hat htv ht1 HHB
    (try rw [hTG])
    obtain ⟨XW, hXW⟩ : ∃ XW, imgW l TG = XW := ⟨_, rfl⟩
    have hXL : XW.length = TG.length := by rw [← hXW]; exact imgW_len l TG
    have hXG : ∀ j, j < TG.length → XW.getD j wrtZ = ⟨TG.getD j 0, l.secs.getD (13 + l.used.toNat + j) ⟨#[]⟩⟩ := fun j hj => by
      rw [← hXW]
      have : j < (imgW l TG).length := by rw [imgW_len]; exact hj
      simp only [List.getD, imgW, List.getElem?_map, List.getElem?_range hj]
      rfl
    rw [hXW] at hmay hnext hF2
    obtain ⟨n, hn⟩ : ∃ n, TG.length = n := ⟨_, rfl⟩
    rw [hn] at h40 hXL ht1 HHB hat htv
    (try rw [hn])
    have HXL := Lib.hid hXL; have HXG := Lib.hid (hn ▸ hXG); have HMAY := Lib.hid hmay; have HNX := Lib.hid hnext; have HF2 := Lib.hid hF2; have H40 := Lib.hid h40; have HAT := Lib.hid hat; have HNN := Lib.hid hn; have HTL := Lib.hid htl
    have htv0 := htv
    clear hmay hnext hF2 h40 htl hat htv hXL hXG hXW hTG hn hv HISH hdec hs
    have h2 := below_cell (Below.refl _ u9) HHB.out 2 rfl
    go_upto_region 12 with fail
    clear h2
    have HTV0 : Hid (Reads1 encI u9 (.slice z2 n z4) TG) := Lib.hid htv0
    go_loopw [63] (fun z wr => ∃ (j : Nat) (z5 : Option Addr) (z6 : Nat) (dl : List Wrt), j ≤ n ∧ z = .int .i64 j ∧ Hid ((XW.take j).foldl withT l.dirty = dl) ∧ Hid (wr.heap[E + 1]? = some (.cells #[.slice y1 l.secs.length y2, .slice y3 l.pend.length y4, .int .i64 l.left, .int .i64 l.epoch, .int .i64 l.seq, .int .i64 l.used, .slice z5 dl.length z6] 29 (0, 0))) ∧ Hid (IsLog wr (.agg #[.slice y1 l.secs.length y2, .slice y3 l.pend.length y4, .int .i64 l.left, .int .i64 l.epoch, .int .i64 l.seq, .int .i64 l.used, .slice z5 dl.length z6]) (withD l dl)) ∧ Hid (wr.heap[B + 1]? = some (.cells #[.slice none 0 0, .slice none 0 0, .int .i64 0, .int .i64 0, .int .i64 0, .int .i64 0, .slice none 0 0] 29 (0, 0))) ∧ Hid (wr.heap[B]? = some (.cells #[.slice x1 d.secs.length x2, .slice x3 d.pend.length x4, .int .i64 left] 27 (0, 0))) ∧ Hid (wr.heap[H]? = some (.cells #[.int .i64 (headV (headS l)).epoch, .int .i64 (headV (headS l)).seq, .slice z2 n z4] 67 (0, 0))) ∧ Hid (Reads1 encI wr (.slice z2 n z4) TG) ∧ Hid (Below w.heap.size w wr)) (fun z _ => n - (intOf z).toNat)
    case atStart => exact ⟨0, y5, y6, l.dirty, by omega, rfl, Lib.hid rfl, HG9, HIL9, HRB9, HPB9, HHB, HTV0, HWW9⟩
    case round =>
      clear HG9 HIL9 HRB9 HPB9 HHB HTV0 HWW9
      obtain ⟨j, z5, z6, dl, hj, rfl, HDL, HGi, HILi, HRBi, HPBi, HHBi, HTVi, HWWi⟩ := hrel
      by_cases hjn : j < n
      · have hjI : (j : Int) < n := by omega
        obtain ⟨_, _, _, hv9, _, _, _, hat9⟩ := HTVi.out
        injection hv9 with k1 k2 k3
        subst k1 k2 k3
        obtain ⟨bt, ot, rfl, hbt, hct⟩ := hat9.resolve_left (by omega)
        have pt := hct j (by rw [HNN.out]; exact hjn)
        obtain ⟨tj, htj⟩ : ∃ tj, TG.getD j 0 = tj := ⟨_, rfl⟩
        have htj2 : TG[j]'(by rw [HNN.out]; exact hjn) = tj := by rw [← htj]; simp [List.getD, show j < TG.length by rw [HNN.out]; exact hjn]
        rw [htj2] at pt
        unfold encI at pt
        clear hct hat9 hbt htj2
        go_upto_region 14 with fail
        have hok := HOK.out
        have h40 := H40.out
        obtain ⟨KX, hKX⟩ : ∃ K : Nat, 13 + l.used.toNat + j = K := ⟨_, rfl⟩
        have hu0 := hok.used
        have h64 := HS64.out
        have hKI : (13 + l.used + (j : Int)) = (KX : Nat) := by omega
        have HV1 : Hid (IntKind.i64.wrap (13 + l.used) = 13 + l.used) := Lib.hid (IntWalk.i64_in _ (by omega))
        have HV2 : Hid (IntKind.i64.wrap (13 + l.used + (j : Int)) = (KX : Nat)) := Lib.hid (by rw [hKI]; exact IntWalk.i64_in _ (by omega))
        have HV1p : Hid (wrap64 (13 + l.used) = 13 + l.used) := Lib.hid (IntWalk.wrap64_in _ ⟨by omega, by omega⟩)
        have HV2p : Hid (wrap64 (13 + l.used + (j : Int)) = (KX : Nat)) := Lib.hid (by rw [hKI]; exact IntWalk.wrap64_in _ ⟨by omega, by omega⟩)
        obtain ⟨SS, hSS9⟩ : ∃ SS, d.secs.getD KX ⟨#[]⟩ = SS := ⟨_, rfl⟩
        have hel : XW.getD j wrtZ = ⟨tj, SS⟩ := by rw [HXG.out j hjn, htj, hKX, hok.secs, hSS9]
        have hdir : dirtyB d.secs.length (-1) dl = true := by
          rw [← HDL.out]
          exact fold_with (XW.take j) l.dirty (fun x hx => by rw [← hok.secs]; exact HMAY.out x (List.mem_of_mem_take hx)) hok.dirty
        have hfe := fold_withE' (N := d.secs.length) (d := l.dirty) (xs := XW) hok.dirty (fun x hx => by rw [← hok.secs]; exact HMAY.out x hx) j (by rw [HXL.out]; exact hjn)
        rw [hel, HDL.out] at hfe
        have hKN : KX < d.secs.length := by omega
        have hsb : SS.size ≤ 2000 := by rw [← hSS9, show d.secs.getD KX ⟨#[]⟩ = d.secs[KX] from by simp [List.getD, hKN]]; exact HSZ.out _ (List.getElem_mem hKN)
        have hti : i64ok tj := by
          have := home_bnd (HMAY.out (XW.getD j wrtZ) (by have hq : j < XW.length := by rw [HXL.out]; exact hjn
                                                          simp [List.getD, hq])).1 (by rw [hok.secs]; exact h256)
          rw [hel] at this
          have h1 : 53 ≤ tj := this.1
          have h2 : tj ≤ 256 := this.2.2
          constructor <;> omega
        have hdn : dl.length ≤ 1000 := by have := dirty_small hdir h256; omega
        obtain ⟨DN, hDN⟩ : ∃ DN, withE ⟨tj, trimS SS⟩ dl = DN := ⟨_, rfl⟩
        rw [hDN] at hfe
        have hdw : IsWrts wr (.slice z5 dl.length z6) dl := by
          obtain ⟨_, _, _, dv, hv, _, _, h3⟩ := HILi.out
          injection hv with hv
          have e7 : Value.slice z5 dl.length z6 = dv := by have := congrArg (fun z : Array Value => z[6]?) hv; simpa using this
          rw [e7]; exact h3
        have HWI : Hid (∀ u, Below wr.heap.size wr u → Calls Tryz.prog 30 #[.slice z5 dl.length z6, .int .i64 tj, .string SS] u fun e w' => ∃ v', e = .returned v' ∧ IsWrts w' v' DN ∧ Below u.heap.size u w') := Lib.hid (hDN ▸ with_later hdw hti (Nat.le_trans hsb (by decide)) hdn)
        have HFE := Lib.hid hfe; have HHX := Lib.hid hjn
        have hns := HS.out.below HWWi.out
        obtain ⟨a9, n9, c9, hv9, hl9, _, _, _, hat9⟩ := hns
        injection hv9 with k1 k2 k3
        subst k1 k2 k3
        obtain ⟨b2, o2, rfl, hb2', hc9⟩ := hat9.resolve_left (by omega)
        have p0 := hc9 KX hKN
        rw [show d.secs.getD KX ByteArray.empty = SS from hSS9] at p0
        have c0 := below_cell (Below.refl _ wr) HPBi.out 0 rfl
        have c5 := below_cell (Below.refl _ wr) HGi.out 5 rfl
        obtain ⟨ns, hns9⟩ : ∃ ns, d.secs.length = ns := ⟨_, rfl⟩
        rw [hns9] at c0 hKN
        have hKNI : (KX : Int) < ns := by omega
        have hw1 := HV1.out; have hw2 := HV2.out; have hw1' := HV1p.out; have hw2' := HV2p.out
        clear hok h40 hu0 h64 hKI hSS9 hel hdir hfe hsb hti hdn hDN hdw hc9 hat9 hb2' hns9 hKN htj hKX pt
        have hbd := (Below.refl wr.heap.size wr).drew
        refine wp_region_held_drew (S := fun u => Below w.heap.size w u ∧ u.cell? ⟨B, 0, none⟩ = some (.slice (some ⟨b2, o2, none⟩) ns x2) ∧ u.cell? ⟨E + 1, 5, none⟩ = some (.int .i64 l.used) ∧ u.cell? ⟨b2, o2 + KX, none⟩ = some (.string SS)) (by kernel_rfl) ⟨HWWi.out.drew, c0, c5, p0⟩ (fun hS => ?_)
        obtain ⟨y, hWd⟩ : ∃ y, wr.drew = y := ⟨_, rfl⟩
        rw [hWd] at hS hbd ⊢
        clear hWd
        have HBD := Lib.hid hbd
        have c6 := below_cell hbd HGi.out 6 rfl
        clear hbd c0 c5 p0
        refine wpAnyH_take (i := 0) (v := (.pointer (some ⟨E + 1, 6, none⟩))) rfl (by kernel_rfl) (by kernel_rfl) (by kernel_rfl) (fun _ _ _ h => h) (Or.inl ⟨by rfl, fun w hSw => ?_⟩) (by assumption) ?_
        · clear hSw; go_simp
        try simp only [Act.put, List.setIfInBounds_toArray, List.set_cons_zero, List.set_cons_succ]
        refine wpAnyH_take (i := 2) (v := (.int .i64 tj)) rfl (by kernel_rfl) (by kernel_rfl) (by kernel_rfl) (fun _ _ _ h => h) (Or.inl ⟨by rfl, fun w hSw => ?_⟩) (by assumption) ?_
        · clear hSw; go_simp
        try simp only [Act.put, List.setIfInBounds_toArray, List.set_cons_zero, List.set_cons_succ]
        refine wpAnyH_take (i := 3) (v := (.pointer (some ⟨B, 0, none⟩))) rfl (by kernel_rfl) (by kernel_rfl) (by kernel_rfl) (fun _ _ _ h => h) (Or.inl ⟨by rfl, fun w hSw => ?_⟩) (by assumption) ?_
        · clear hSw; go_simp
        try simp only [Act.put, List.setIfInBounds_toArray, List.set_cons_zero, List.set_cons_succ]
        refine wpAnyH_take (i := 4) (v := (.pointer (some ⟨B, 0, none⟩))) rfl (by kernel_rfl) (by kernel_rfl) (by kernel_rfl) (fun _ _ _ h => h) (Or.inl ⟨by rfl, fun w hSw => ?_⟩) (by assumption) ?_
        · clear hSw; go_simp
        try simp only [Act.put, List.setIfInBounds_toArray, List.set_cons_zero, List.set_cons_succ]
        refine wpAnyH_take (i := 5) (v := (.slice (some ⟨b2, o2, none⟩) ns x2)) rfl (by kernel_rfl) (by kernel_rfl) (by kernel_rfl) (fun _ _ _ h => h) (Or.inl ⟨by rfl, fun w hSw => ?_⟩) (by assumption) ?_
        · obtain ⟨_, s0, s1, s2⟩ := hSw
          go_simp
        try simp only [Act.put, List.setIfInBounds_toArray, List.set_cons_zero, List.set_cons_succ]
        refine wpAnyH_take (i := 6) (v := (.pointer (some ⟨E + 1, 5, none⟩))) rfl (by kernel_rfl) (by kernel_rfl) (by kernel_rfl) (fun _ _ _ h => h) (Or.inl ⟨by rfl, fun w hSw => ?_⟩) (by assumption) ?_
        · clear hSw; go_simp
        try simp only [Act.put, List.setIfInBounds_toArray, List.set_cons_zero, List.set_cons_succ]
        refine wpAnyH_take (i := 7) (v := (.int .i64 l.used)) rfl (by kernel_rfl) (by kernel_rfl) (by kernel_rfl) (fun _ _ _ h => h) (Or.inl ⟨by rfl, fun w hSw => ?_⟩) (by assumption) ?_
        · obtain ⟨_, s0, s1, s2⟩ := hSw
          go_simp
        try simp only [Act.put, List.setIfInBounds_toArray, List.set_cons_zero, List.set_cons_succ]
        refine wpAnyH_take (i := 8) (v := (.int .i64 (13 + l.used))) rfl (by kernel_rfl) (by kernel_rfl) (by kernel_rfl) (fun _ _ _ h => h) (Or.inl ⟨by rfl, fun w hSw => ?_⟩) (by assumption) ?_
        · clear hSw; go_simp
        try simp only [Act.put, List.setIfInBounds_toArray, List.set_cons_zero, List.set_cons_succ]
        refine wpAnyH_take (i := 9) (v := (.int .i64 (j : Int))) rfl (by kernel_rfl) (by kernel_rfl) (by kernel_rfl) (fun _ _ _ h => h) (Or.inl ⟨by rfl, fun w hSw => ?_⟩) (by assumption) ?_
        · clear hSw; go_simp
        try simp only [Act.put, List.setIfInBounds_toArray, List.set_cons_zero, List.set_cons_succ]
        refine wpAnyH_take (i := 10) (v := (.int .i64 (KX : Nat))) rfl (by kernel_rfl) (by kernel_rfl) (by kernel_rfl) (fun _ _ _ h => h) (Or.inl ⟨by rfl, fun w hSw => ?_⟩) (by assumption) ?_
        · clear hSw; go_simp
        try simp only [Act.put, List.setIfInBounds_toArray, List.set_cons_zero, List.set_cons_succ]
        refine wpAnyH_take (i := 11) (v := (.pointer (some ⟨b2, o2 + KX, none⟩))) rfl (by kernel_rfl) (by kernel_rfl) (by kernel_rfl) (fun _ _ _ h => h) (Or.inl ⟨by rfl, fun w hSw => ?_⟩) (by assumption) ?_
        · clear hSw; go_simp
        try simp only [Act.put, List.setIfInBounds_toArray, List.set_cons_zero, List.set_cons_succ]
        refine wpAnyH_take (i := 12) (v := (.string SS)) rfl (by kernel_rfl) (by kernel_rfl) (by kernel_rfl) (fun _ _ _ h => h) (Or.inl ⟨by rfl, fun w hSw => ?_⟩) (by assumption) ?_
        · obtain ⟨_, s0, s1, s2⟩ := hSw
          go_simp
        try simp only [Act.put, List.setIfInBounds_toArray, List.set_cons_zero, List.set_cons_succ]
        refine wpAnyH_ready (rs := [1]) (by kernel_rfl) (by simp) ?_
        refine AllReadyH.cons rfl (fun K hK => ?_) AllReadyH.nil
        go_simp
        refine hK.out _ _ (hS) (fun hS => ?_)
        clear hK K
        try simp only [Act.put, List.setIfInBounds_toArray, List.set_cons_zero, List.set_cons_succ]
        refine wpAnyH_ready (rs := [13]) (by kernel_rfl) (by simp) ?_
        refine AllReadyH.cons rfl (fun K hK => ?_) AllReadyH.nil
        go_simp
        refine (HWI.out _ HBD.out).mono ?_
        rintro e wv ⟨v', rfl, hwv, hbv⟩
        obtain ⟨q5, q6, rfl, _, _⟩ := hwv.form
        have hS2 := (⟨hS.1.trans (hbv.mono hS.1.size), (hbv.cell (World.block_lt_of_cell? _ _ hS.2.1)).trans hS.2.1, (hbv.cell (World.block_lt_of_cell? _ _ hS.2.2.1)).trans hS.2.2.1, (hbv.cell (World.block_lt_of_cell? _ _ hS.2.2.2)).trans hS.2.2.2⟩ : (fun u : World => Below w.heap.size w u ∧ u.cell? ⟨B, 0, none⟩ = some (.slice (some ⟨b2, o2, none⟩) ns x2) ∧ u.cell? ⟨E + 1, 5, none⟩ = some (.int .i64 l.used) ∧ u.cell? ⟨b2, o2 + KX, none⟩ = some (.string SS)) wv)
        have hGv := Below.at' hbv (Below.at' HBD.out HGi.out)
        have c6 := below_cell (Below.refl _ wv) hGv 6 rfl
        have f6 := block_frozen hGv 6
        have HWV := Lib.hid hwv; have HBV := Lib.hid hbv; have HGV := Lib.hid hGv; have HS2 := Lib.hid hS2
        clear hwv hbv hGv hS2
        refine hK.out _ _ (HS2.out) (fun hS => ?_)
        clear hK K
        try simp only [Act.put, List.setIfInBounds_toArray, List.set_cons_zero, List.set_cons_succ]
        refine wpAnyH_ready (rs := [14]) (by kernel_rfl) (by simp) ?_
        refine AllReadyH.cons rfl (fun K hK => ?_) AllReadyH.nil
        go_simp
        refine hK.out _ _ (hS) (fun hS => ?_)
        clear hK K
        try simp only [Act.put, List.setIfInBounds_toArray, List.set_cons_zero, List.set_cons_succ]
        refine wpAnyH_ready (rs := [15]) (by kernel_rfl) (by simp) ?_
        refine AllReadyH.cons rfl (fun K hK => ?_) AllReadyH.nil
        go_simp
        have hS3 := (⟨hS.1.setCell (p := ⟨E + 1, 6, none⟩) (show w.heap.size ≤ E + 1 by rw [HB.out]; have := HGB.out; omega) _, (World.cell?_setCell_other _ _ _ _ (by intro e; injection e with e1; have := HGB.out; omega)).trans hS.2.1, (World.cell?_setCell_other _ _ _ _ (by intro e; injection e with _ e2; omega)).trans hS.2.2.1, cell_keep c6 hS.2.2.2 (by simp) _⟩ : (fun u : World => Below w.heap.size w u ∧ u.cell? ⟨B, 0, none⟩ = some (.slice (some ⟨b2, o2, none⟩) ns x2) ∧ u.cell? ⟨E + 1, 5, none⟩ = some (.int .i64 l.used) ∧ u.cell? ⟨b2, o2 + KX, none⟩ = some (.string SS)) (wv.setCell ⟨E + 1, 6, none⟩ (.slice q5 DN.length q6)))
        refine hK.out _ _ (hS3) (fun hS => ?_)
        clear hK K
        try simp only [Act.put, List.setIfInBounds_toArray, List.set_cons_zero, List.set_cons_succ]
        refine wpAnyH_done (by kernel_rfl) ?_ _
        have hGN := block_set HGV.out 6 (.slice q5 DN.length q6)
        have hbw := HBD.out.trans (HBV.out.mono HBD.out.size)
        have hlN := (log_withD (HILi.out.below hbw) HWV.out).apart (w' := wv.setCell ⟨E + 1, 6, none⟩ (.slice q5 DN.length q6)) HGV.out (box_no _ _ _ _ _ _ _ _ _ _ _ _ _) (by simp) (fun k hk => Below.heap_setCell _ _ _ _ hk)
        have hRN := (Below.heap_setCell wv ⟨E + 1, 6, none⟩ (.slice q5 DN.length q6) (B + 1) (show B + 1 ≠ E + 1 by have := HGB.out; omega)).trans (Below.at' hbw HRBi.out)
        have hPN := (Below.heap_setCell wv ⟨E + 1, 6, none⟩ (.slice q5 DN.length q6) B (show B ≠ E + 1 by have := HGB.out; omega)).trans (Below.at' hbw HPBi.out)
        have hHN := (Below.heap_setCell wv ⟨E + 1, 6, none⟩ (.slice q5 DN.length q6) H (show H ≠ E + 1 by have := HEH.out; omega)).trans (Below.at' hbw HHBi.out)
        have hTN := reads_set (HTVi.out.below hbw) (below_cell (Below.refl _ wv) HGV.out 6 rfl) (.slice q5 DN.length q6)
        have hWN : Below w.heap.size w (wv.setCell ⟨E + 1, 6, none⟩ (.slice q5 DN.length q6)) := (HWWi.out.trans (hbw.mono HWWi.out.size)).setCell (p := ⟨E + 1, 6, none⟩) (show w.heap.size ≤ E + 1 by rw [HB.out]; have := HGB.out; omega) (.slice q5 DN.length q6)
        have HGN : Hid ((wv.setCell ⟨E + 1, 6, none⟩ (.slice q5 DN.length q6)).heap[E + 1]? = some (.cells #[.slice y1 l.secs.length y2, .slice y3 l.pend.length y4, .int .i64 l.left, .int .i64 l.epoch, .int .i64 l.seq, .int .i64 l.used, .slice q5 DN.length q6] 29 (0, 0))) := Lib.hid hGN
        have HLN : Hid (IsLog (wv.setCell ⟨E + 1, 6, none⟩ (.slice q5 DN.length q6)) (.agg #[.slice y1 l.secs.length y2, .slice y3 l.pend.length y4, .int .i64 l.left, .int .i64 l.epoch, .int .i64 l.seq, .int .i64 l.used, .slice q5 DN.length q6]) (withD l DN)) := Lib.hid hlN
        have HRN := Lib.hid hRN; have HPN := Lib.hid hPN; have HHN := Lib.hid hHN; have HTN := Lib.hid hTN; have HWN := Lib.hid hWN; have HFN := Lib.hid HFE.out.symm
        clear hGN hbw hlN hRN hPN hHN hTN hWN hS c6 f6
        go_wp2_with fail
        go_roundw
        case rel => exact ⟨j + 1, q5, q6, DN, by omega, by push_cast; rfl, HFN, HGN, HLN, HRN, HPN, HHN, HTN, HWN⟩
        case measure => simp [intOf]; omega
      · have hjnI : ¬ (j : Int) < n := by omega
        have hjE : j = n := by omega
        subst hjE
        have hfull : XW.foldl withT l.dirty = dl := by rw [← HDL.out, List.take_of_length_le (by rw [HXL.out]; exact Nat.le_refl _)]
        have hok := HOK.out
        have hnx := HNX.out
        have hsq : IntKind.i64.wrap (l.seq + 1) = l.seq + 1 := IntWalk.i64_in _ (by have := hok.seq; omega)
        have hsq2 : wrap64 (l.seq + 1) = l.seq + 1 := IntWalk.wrap64_in _ (by have := hok.seq; constructor <;> omega)
        have h40 := H40.out
        have hus : IntKind.i64.wrap (l.used + (j : Int)) = l.used + (j : Int) := IntWalk.i64_in _ (by have := hok.used; omega)
        have hus2 : wrap64 (l.used + (j : Int)) = l.used + (j : Int) := IntWalk.wrap64_in _ (by have := hok.used; constructor <;> omega)
        have hbd : (takenL l XW).bounded := by
          obtain ⟨b1, b2, b3, b4⟩ := HILi.out.1
          refine ⟨b1, b2, ?_, ?_⟩
          · have := hnx.seq; constructor <;> omega
          · have := hnx.used; constructor <;> omega
        have HBND := Lib.hid hbd; have HFULL := Lib.hid hfull
        have c4 := below_cell (Below.refl _ wr) HGi.out 4 rfl
        have f4 := block_frozen HGi.out 4
        clear hok hnx hbd hfull h40
        go_upto_region 17 with fail
        have hG1 := block_set HGi.out 4 (.int .i64 (l.seq + 1))
        have hH1 := (Below.heap_setCell wr ⟨E + 1, 4, none⟩ (.int .i64 (l.seq + 1)) H (show H ≠ E + 1 by have := HEH.out; omega)).trans HHBi.out
        have hR1 := (Below.heap_setCell wr ⟨E + 1, 4, none⟩ (.int .i64 (l.seq + 1)) (B + 1) (show B + 1 ≠ E + 1 by have := HGB.out; omega)).trans HRBi.out
        have hP1 := (Below.heap_setCell wr ⟨E + 1, 4, none⟩ (.int .i64 (l.seq + 1)) B (show B ≠ E + 1 by have := HGB.out; omega)).trans HPBi.out
        have hL1 := HILi.out.apart (w' := wr.setCell ⟨E + 1, 4, none⟩ (.int .i64 (l.seq + 1))) HGi.out (box_no _ _ _ _ _ _ _ _ _ _ _ _ _) (by simp) (fun k hk => Below.heap_setCell _ _ _ _ hk)
        have hW1 := HWWi.out.setCell (p := ⟨E + 1, 4, none⟩) (show w.heap.size ≤ E + 1 by rw [HB.out]; have := HGB.out; omega) (.int .i64 (l.seq + 1))
        obtain ⟨wq, hwq⟩ : ∃ wq, wr.setCell ⟨E + 1, 4, none⟩ (.int .i64 (l.seq + 1)) = wq := ⟨_, rfl⟩
        rw [hwq] at hG1 hH1 hR1 hP1 hL1 hW1 ⊢
        have hG1' : wq.heap[E + 1]? = some (.cells #[.slice y1 l.secs.length y2, .slice y3 l.pend.length y4, .int .i64 l.left, .int .i64 l.epoch, .int .i64 (l.seq + 1), .int .i64 l.used, .slice z5 dl.length z6] 29 (0, 0)) := hG1
        have c5 := below_cell (Below.refl _ wq) hG1' 5 rfl
        have f5 := block_frozen hG1' 5
        have c2 := below_cell (Below.refl _ wq) hH1 2 rfl
        have hG2 := block_set hG1' 5 (.int .i64 (l.used + (j : Int)))
        have hR2 := (Below.heap_setCell wq ⟨E + 1, 5, none⟩ (.int .i64 (l.used + (j : Int))) (B + 1) (show B + 1 ≠ E + 1 by have := HGB.out; omega)).trans hR1
        have hP2 := (Below.heap_setCell wq ⟨E + 1, 5, none⟩ (.int .i64 (l.used + (j : Int))) B (show B ≠ E + 1 by have := HGB.out; omega)).trans hP1
        have hL2 := hL1.apart (w' := wq.setCell ⟨E + 1, 5, none⟩ (.int .i64 (l.used + (j : Int)))) hG1' (box_no _ _ _ _ _ _ _ _ _ _ _ _ _) (by simp) (fun k hk => Below.heap_setCell _ _ _ _ hk)
        have hW2 := hW1.setCell (p := ⟨E + 1, 5, none⟩) (show w.heap.size ≤ E + 1 by rw [HB.out]; have := HGB.out; omega) (.int .i64 (l.used + (j : Int)))
        rw [← HFULL.out] at hL2
        have hL3 := log_taken HXL.out hL2 HBND.out
        have HL3 := Lib.hid hL3; have HR3 := Lib.hid hR2; have HP3' := Lib.hid hP2; have HW3 := Lib.hid hW2
        have HG3 : Hid ((wq.setCell ⟨E + 1, 5, none⟩ (.int .i64 (l.used + (j : Int)))).heap[E + 1]? = some (.cells #[.slice y1 l.secs.length y2, .slice y3 l.pend.length y4, .int .i64 l.left, .int .i64 l.epoch, .int .i64 (l.seq + 1), .int .i64 (l.used + (j : Int)), .slice z5 dl.length z6] 29 (0, 0))) := Lib.hid hG2
        have HF3 := Lib.hid (HF2.out.symm.trans HFF.out)
        have c44 := below_cell (Below.refl _ _) HG3.out 4 rfl
        have HC44 := Lib.hid c44
        clear hG1 hH1 hR1 hP1 hL1 hW1 hG2 hR2 hP2 hL2 hW2 hL3 hwq hG1' c44
        go_wp2_with fail
        have hMe : takenL l XW = ⟨l.secs, l.pend, l.left, l.epoch, l.seq + 1, l.used + (j : Int), dl⟩ := by
          unfold takenL
          rw [HXL.out, HFULL.out]
        have HNX' := HNX
        rw [hMe] at HNX' HF3 HL3
        rw [HFULL.out] at HL3
        refine ⟨⟨⟨l.secs, l.pend, l.left, l.epoch, l.seq + 1, l.used + (j : Int), dl⟩, y1, y2, y3, y4, z5, z6, HNX', HF3, HG3, HL3, HR3, HW3, HP3'⟩, ?_⟩
        rw [HC44.out, HG4.out]
        have e1 := HOK.out.seq
        have e2 := HQ.out
        have e3 := HLT.out
        show 6 - (l.seq + 1).toNat < 6 - l.seq.toNat
        omega
end Go.Proofs.YthnmnnlbglpjaaaGreatDoor
