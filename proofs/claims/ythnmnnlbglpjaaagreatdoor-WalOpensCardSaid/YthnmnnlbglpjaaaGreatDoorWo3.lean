/- wal.Open. -/
import Derived.Test.YthnmnnlbglpjaaaGreatDoorWo2
import Derived.Test.YthnmnnlbglpjaaaGreatDoorPk4
import Derived.Test.YthnmnnlbglpjaaaGreatDoorPkE
namespace Go.Proofs.YthnmnnlbglpjaaaGreatDoor
open Go.RowKit
set_option linter.unusedVariables false
set_option linter.unusedSimpArgs false

/-- the log with the transactions that stand behind it, at most so many -/
def openF : Nat → Lg → Lg
  | 0, l => l
  | f + 1, l => if StandP l then openF f (takenL l (imgW l (headV (headS l)).tgt)) else l
def open0 (d : Dsk) (left ep : Int) : Lg := ⟨d.secs, d.pend, left, ep, 0, 0, []⟩
def supS0 (d : Dsk) : ByteArray := d.secs.getD 0 ⟨#[]⟩
def openLg (d : Dsk) (left : Int) : Lg := openF 6 (open0 d left (superV (supS0 d)))
def openB (d : Dsk) : Bool := rightD d && decide (64 ≤ d.secs.length ∧ d.pend.length = 0)
def opL (d : Dsk) (left : Int) : Lg := if openB d = true then (if superE (supS0 d) = 0 then ckL (openLg d left) else zeroL) else zeroL
def opE (d : Dsk) (left : Int) : Int := if openB d = true then (if superE (supS0 d) = 0 then ckE (openLg d left) else 32) else 1
/-- what holds of the log while it is opened -/
structure OpenOk (d : Dsk) (left ep : Int) (l : Lg) : Prop where
  secs : l.secs = d.secs
  pend : l.pend = d.pend
  left : l.left = left
  epoch : l.epoch = ep
  seq : 0 ≤ l.seq ∧ l.seq ≤ 6
  used : 0 ≤ l.used ∧ l.used ≤ 40
  dirty : dirtyB d.secs.length (-1) l.dirty = true
theorem super_i64 (s : ByteArray) : i64ok (superV s) := by
  unfold superV
  by_cases h : superIs s
  · rw [if_pos h]
    unfold superIs at h
    constructor <;> omega
  · rw [if_neg h]; exact ⟨by decide, by decide⟩
theorem fits_size5 {b : ByteArray} (h : fitsB b = true) : (trimS b).size ≤ 512 ∧ trimS b = b ∧ b.size ≤ 512 := by
  unfold fitsB at h
  obtain ⟨b4, b5⟩ := of_decide_eq_true h
  exact ⟨by rw [b5]; exact b4, b5, b4⟩
theorem open_may {d : Dsk} {left ep : Int} {l : Lg} (hr : rightD d = true) (h : OpenOk d left ep l) (hs : StandP l) : ∀ x ∈ imgW l (headV (headS l)).tgt, mayW l.secs.length x := by
  intro x hx
  unfold imgW at hx
  obtain ⟨i, hi, rfl⟩ := List.mem_map.1 hx
  have hil : i < (headV (headS l)).tgt.length := List.mem_range.1 hi
  have hok := head_tgt hs.1
  unfold okT at hok
  obtain ⟨_, _, k3, _⟩ := of_decide_eq_true hok
  have hmem : (headV (headS l)).tgt.getD i 0 ∈ (headV (headS l)).tgt := by simp [List.getD, hil]
  refine ⟨?_, ?_⟩
  · unfold homeB
    exact decide_eq_true ⟨(k3 _ hmem).1, hs.2.2.2.1 _ hmem⟩
  · show (trimS (l.secs.getD (13 + l.used.toNat + i) ⟨#[]⟩)).size ≤ 512
    by_cases hk : 13 + l.used.toNat + i < l.secs.length
    · have hf := right_secs d hr (l.secs[13 + l.used.toNat + i]) (by rw [← h.secs]; exact List.getElem_mem hk)
      rw [show l.secs.getD (13 + l.used.toNat + i) ⟨#[]⟩ = l.secs[13 + l.used.toNat + i] from by simp [List.getD, hk]]
      exact (fits_size5 hf).1
    · rw [show l.secs.getD (13 + l.used.toNat + i) ⟨#[]⟩ = ⟨#[]⟩ from by simp [List.getD, Nat.le_of_not_lt hk]]
      have := trimS_le ⟨#[]⟩
      have h0 : (⟨#[]⟩ : ByteArray).size = 0 := rfl
      omega
theorem open_step {d : Dsk} {left ep : Int} {l : Lg} (hr : rightD d = true) (h : OpenOk d left ep l) (h6 : l.seq < 6) (hs : StandP l) : OpenOk d left ep (takenL l (imgW l (headV (headS l)).tgt)) := by
  have hm := open_may hr h hs
  refine ⟨h.secs, h.pend, h.left, h.epoch, ⟨show 0 ≤ l.seq + 1 by have := h.seq.1; omega, show l.seq + 1 ≤ 6 by omega⟩, ⟨?_, ?_⟩, ?_⟩
  · show 0 ≤ l.used + ((imgW l _).length : Int)
    have := h.used.1; omega
  · show l.used + ((imgW l _).length : Int) ≤ 40
    rw [imgW_len]; exact hs.2.2.2.2.1
  · rw [h.secs] at hm
    exact fold_with _ _ hm h.dirty
theorem open_at {l : Lg} {q : Nat} (hq : l.seq = q) (h6 : q < 6) (hs : StandP l) : openF (6 - l.seq.toNat) l = openF (6 - (takenL l (imgW l (headV (headS l)).tgt)).seq.toNat) (takenL l (imgW l (headV (headS l)).tgt)) := by
  have e1 : l.seq.toNat = q := by omega
  have e2 : (takenL l (imgW l (headV (headS l)).tgt)).seq.toNat = q + 1 := by show (l.seq + 1).toNat = _; omega
  rw [e1, e2, show 6 - q = (6 - (q + 1)) + 1 from by omega]
  show (if StandP l then _ else _) = _
  rw [if_pos hs]
theorem open_no {l : Lg} (hs : ¬ StandP l) : ∀ f, openF f l = l
  | 0 => rfl
  | f + 1 => if_neg hs
theorem com_none {l : Lg} (h : comT l = []) : ¬ StandP l := fun hs => by
  unfold comT at h
  rw [if_pos hs] at h
  have hok := head_tgt hs.1
  unfold okT at hok
  obtain ⟨k1, _⟩ := of_decide_eq_true hok
  rw [h] at k1
  exact absurd k1 (by decide)
theorem com_some {l : Lg} (h : comT l ≠ []) : StandP l ∧ comT l = (headV (headS l)).tgt := by
  unfold comT at h ⊢
  by_cases hs : StandP l
  · rw [if_pos hs]; exact ⟨hs, rfl⟩
  · rw [if_neg hs] at h; exact absurd rfl h
set_option maxRecDepth 100000 in
set_option maxHeartbeats 4000000 in
theorem wlOpen (v : Value) (d : Dsk) (left : Int) (w : World) (h : IsPower w v d left) (hk : i64ok left) (hp : d.pend.length ≤ 600) :
    Calls Tryz.prog 16 #[v] w (LogPost (opL d left) (opE d left) w) := by
  obtain ⟨x1, x2, x3, x4, rfl, hd⟩ := id h.form
  have hSS : IsStrs w (.slice x1 d.secs.length x2) d.secs := hd.secs
  have hL : opL d left = if openB d = true then (if superE (supS0 d) = 0 then ckL (openLg d left) else zeroL) else zeroL := rfl
  have hE : opE d left = if openB d = true then (if superE (supS0 d) = 0 then ckE (openLg d left) else 32) else 1 := rfl
  obtain ⟨CL, hCL⟩ : ∃ CL, opL d left = CL := ⟨_, rfl⟩
  obtain ⟨CE, hCE⟩ : ∃ CE, opE d left = CE := ⟨_, rfl⟩
  rw [hCL] at hL ⊢
  rw [hCE] at hE ⊢
  have hOB : openB d = (rightD d && decide (64 ≤ d.secs.length ∧ d.pend.length = 0)) := rfl
  have hOG : openLg d left = openF 6 (open0 d left (superV (supS0 d))) := rfl
  obtain ⟨B, hB⟩ : ∃ B, w.heap.size = B := ⟨_, rfl⟩
  have HX : Hid (∀ u : World, (w.alloc (.cells #[.slice x1 d.secs.length x2, .slice x3 d.pend.length x4, .int .i64 left] 27)).alloc (.cells #[.slice none 0 0, .slice none 0 0, .int .i64 0, .int .i64 0, .int .i64 0, .int .i64 0, .slice none 0 0] 29) = u →
      u.heap[B]? = some (.cells #[.slice x1 d.secs.length x2, .slice x3 d.pend.length x4, .int .i64 left] 27 (0, 0)) ∧ u.heap[B + 1]? = some (.cells #[.slice none 0 0, .slice none 0 0, .int .i64 0, .int .i64 0, .int .i64 0, .int .i64 0, .slice none 0 0] 29 (0, 0)) ∧ Below w.heap.size w u ∧ u.heap.size = B + 2) := Lib.hid (by
    rintro u rfl
    have b0 := heap_alloc_new w (.cells #[.slice x1 d.secs.length x2, .slice x3 d.pend.length x4, .int .i64 left] 27)
    have e1 := heap_alloc_new (w.alloc (.cells #[.slice x1 d.secs.length x2, .slice x3 d.pend.length x4, .int .i64 left] 27)) (.cells #[.slice none 0 0, .slice none 0 0, .int .i64 0, .int .i64 0, .int .i64 0, .int .i64 0, .slice none 0 0] 29)
    rw [World.size_alloc, hB] at e1
    rw [hB] at b0
    exact ⟨(heap_alloc_old _ _ (lt_of_block b0)).trans b0, e1, ((Below.refl w.heap.size w).alloc (Nat.le_refl _) _).alloc (by simp) _, by rw [World.size_alloc, World.size_alloc, hB]⟩)
  have hSf : d.secs.length ≤ x2 ∧ x2 ≤ 9223372036854775807 := by obtain ⟨_, _, e, k1, k2⟩ := hSS.form; injection e with e1 e2 e3; subst e3; exact ⟨k1, k2⟩
  have HB := Lib.hid hB; have HH := Lib.hid h; have HP := Lib.hid hp; have HL := Lib.hid hL; have HE := Lib.hid hE; have HOB := Lib.hid hOB; have HOG := Lib.hid hOG; have HS := Lib.hid hSS; have HK := Lib.hid hk; have HD := Lib.hid hd
  clear hB h hp hL hE hCL hCE hOB hOG hSS hk hd
  go_enter Tryz.func16, Tryz.ntmps16
  go_upto_region 1 with fail
  (try rw [HB.out])
  obtain ⟨u, hU⟩ : ∃ u, (w.alloc (.cells #[.slice x1 d.secs.length x2, .slice x3 d.pend.length x4, .int .i64 left] 27)).alloc (.cells #[.slice none 0 0, .slice none 0 0, .int .i64 0, .int .i64 0, .int .i64 0, .int .i64 0, .slice none 0 0] 29) = u := ⟨_, rfl⟩
  rw [hU]
  obtain ⟨hP, hR, hb, hz⟩ := HX.out u hU
  have HPB := Lib.hid hP; have HRB := Lib.hid hR; have HBW := Lib.hid hb; have HZ := Lib.hid hz
  have HRT := diskRight_any _ d u (HD.out.below hb)
  obtain ⟨rd, hrd⟩ : ∃ rd, rightD d = rd := ⟨_, rfl⟩
  rw [hrd] at HRT
  have hob := HOB.out
  rw [hrd] at hob
  have HOB := Lib.hid hob
  have HRT := Lib.hid HRT; have HRD := Lib.hid hrd
  clear hU HX hP hR hb hz hrd hob
  have d0 := below_cell (Below.refl _ u) HPB.out 0 rfl
  have d1 := below_cell (Below.refl _ u) HPB.out 1 rfl
  have bad : Hid (∀ E : Int, CL = zeroL → CE = E → ∀ u1 : World, Below u.heap.size u u1 → LogPost CL CE w (.returned (.tuple #[.agg #[.slice none 0 0, .slice none 0 0, .int .i64 0, .int .i64 0, .int .i64 0, .int .i64 0, .slice none 0 0], .int .i64 E])) (u1.setRow (B + 1) #[.slice none 0 0, .slice none 0 0, .int .i64 0, .int .i64 0, .int .i64 0, .int .i64 0, .slice none 0 0])) := Lib.hid (by
    rintro E rfl rfl u1 h1
    exact ⟨_, rfl, zero_log _, below_setRow (HBW.out.trans (h1.mono HBW.out.size)) (show w.heap.size ≤ B + 1 by rw [HB.out]; omega) _⟩)
  have HSZ := Lib.hid (fun (u1 : World) (h1 : Below u.heap.size u u1) => setRow_heap u1 (B + 1) _ #[.slice none 0 0, .slice none 0 0, .int .i64 0, .int .i64 0, .int .i64 0, .int .i64 0, .slice none 0 0] _ _ ((h1.block _ (lt_of_block HRB.out)).trans HRB.out))
  have HBA : Hid (openB d = false → CL = zeroL ∧ CE = 1) := Lib.hid (fun h => ⟨HL.out.trans (if_neg (by rw [h]; decide)), HE.out.trans (if_neg (by rw [h]; decide))⟩)
  go_upto_region 1 with fail
  cases rd
  · obtain ⟨e1, e2⟩ := HBA.out (by rw [HOB.out]; rfl)
    have HF := Lib.hid (bad.out 1 e1 e2)
    clear bad HL HE e1 e2 HBA
    go_wp2_with (first
      | (go_at_call 42; refine HRT.out.mono ?_; rintro e u1 ⟨rfl, hb1⟩; have hst := (hb1.block _ (lt_of_block HRB.out)).trans HRB.out)
      | (refine wpList_store_row rfl 29 _ _ rfl (B + 1) #[.slice none 0 0, .slice none 0 0, .int .i64 0, .int .i64 0, .int .i64 0, .int .i64 0, .slice none 0 0] rfl rfl 29 _ hst (by kernel_rfl) rfl (by simp [Value.oneCell']) ?_))
    refine bodyPost_ret (results_row_tmp rfl _ _ (B + 1) _ _ _ _ rfl (HSZ.out u1 hb1) Tryz.underlying29 rfl (by kernel_rfl)) rfl (by exact HF.out u1 hb1)
  by_cases h64 : d.secs.length < 64
  · obtain ⟨e1, e2⟩ := HBA.out (by rw [HOB.out, decide_eq_false (by omega)]; rfl)
    have HF := Lib.hid (bad.out 1 e1 e2)
    have h64I : (d.secs.length : Int) < 64 := by omega
    clear bad HL HE e1 e2 HBA
    go_wp2_with (first
      | (go_at_call 42; refine HRT.out.mono ?_; rintro e u1 ⟨rfl, hb1⟩; have hst := (hb1.block _ (lt_of_block HRB.out)).trans HRB.out; have k0 := below_cell hb1 HPB.out 0 rfl)
      | (refine wpList_store_row rfl 29 _ _ rfl (B + 1) #[.slice none 0 0, .slice none 0 0, .int .i64 0, .int .i64 0, .int .i64 0, .int .i64 0, .slice none 0 0] rfl rfl 29 _ hst (by kernel_rfl) rfl (by simp [Value.oneCell']) ?_))
    refine bodyPost_ret (results_row_tmp rfl _ _ (B + 1) _ _ _ _ rfl (HSZ.out u1 hb1) Tryz.underlying29 rfl (by kernel_rfl)) rfl (by exact HF.out u1 hb1)
  by_cases hpe : d.pend.length = 0
  rotate_left
  · obtain ⟨e1, e2⟩ := HBA.out (by rw [HOB.out, decide_eq_false (by omega)]; rfl)
    have HF := Lib.hid (bad.out 1 e1 e2)
    have h64I : ¬ (d.secs.length : Int) < 64 := by omega
    have hpI : (0 : Int) < d.pend.length := by omega
    clear bad HL HE e1 e2 HBA
    go_wp2_with (first
      | (go_at_call 42; refine HRT.out.mono ?_; rintro e u1 ⟨rfl, hb1⟩; have hst := (hb1.block _ (lt_of_block HRB.out)).trans HRB.out; have k0 := below_cell hb1 HPB.out 0 rfl; have k1 := below_cell hb1 HPB.out 1 rfl)
      | (refine wpList_store_row rfl 29 _ _ rfl (B + 1) #[.slice none 0 0, .slice none 0 0, .int .i64 0, .int .i64 0, .int .i64 0, .int .i64 0, .slice none 0 0] rfl rfl 29 _ hst (by kernel_rfl) rfl (by simp [Value.oneCell']) ?_))
    refine bodyPost_ret (results_row_tmp rfl _ _ (B + 1) _ _ _ _ rfl (HSZ.out u1 hb1) Tryz.underlying29 rfl (by kernel_rfl)) rfl (by exact HF.out u1 hb1)
  have hob : openB d = true := by rw [HOB.out, decide_eq_true ⟨by omega, hpe⟩]; rfl
  have e1 := HL.out.trans (if_pos hob); have e2 := HE.out.trans (if_pos hob)
  have HLb := Lib.hid e1; have HEb := Lib.hid e2
  have h64I : ¬ (d.secs.length : Int) < 64 := by omega
  have hpI : ¬ (0 : Int) < d.pend.length := by omega
  have HS64 := Lib.hid h64; have HPE := Lib.hid hpe
  clear e1 e2 hob HBA hpe h64
  go_upto_region 3 with (first
      | (go_at_call 42; refine HRT.out.mono ?_; rintro e u1 ⟨rfl, hb1⟩; have k0 := below_cell hb1 HPB.out 0 rfl; have k1 := below_cell hb1 HPB.out 1 rfl))
  have HP1 := Lib.hid ((hb1.block _ (lt_of_block HPB.out)).trans HPB.out)
  have HR1 := Lib.hid ((hb1.block _ (lt_of_block HRB.out)).trans HRB.out)
  have HW1 := Lib.hid (HBW.out.trans (hb1.mono HBW.out.size))
  have HZ1 := Lib.hid (show B + 2 ≤ u1.heap.size by rw [← HZ.out]; exact hb1.size)
  have HB1 := Lib.hid hb1
  have hSS1 := HS.out.below HW1.out
  have hcell : ∃ b off, x1 = some ⟨b, off, none⟩ ∧ u1.cell? ⟨b, off, none⟩ = some (.string (supS0 d)) := by
    obtain ⟨a9, n9, c9, hv9, hl9, _, _, _, hat9⟩ := hSS1
    injection hv9 with t1 t2 t3
    subst t1 t2 t3
    obtain ⟨b, off, rfl, hbb, hc⟩ := hat9.resolve_left (by have := HS64.out; omega)
    exact ⟨b, off, rfl, hc 0 (by have := HS64.out; omega)⟩
  obtain ⟨b, off, rfl, p0⟩ := hcell
  have hlen0 : (0 : Int) < d.secs.length := by have := HS64.out; omega
  have HS0 : Hid ((supS0 d).size ≤ 2000) := Lib.hid (by
    have hk : 0 < d.secs.length := by have := HS64.out; omega
    have hf := right_secs d HRD.out (d.secs[0]) (List.getElem_mem hk)
    rw [show supS0 d = d.secs[0] from by unfold supS0; simp [List.getD, hk]]
    have := (fits_size5 hf).2.2; omega)
  have HSR := Lib.hid (fun x => slotReadSuper_any (supS0 d) x HS0.out)
  obtain ⟨ep, hep⟩ : ∃ e, superV (supS0 d) = e := ⟨_, rfl⟩
  obtain ⟨sE, hsE⟩ : ∃ e, superE (supS0 d) = e := ⟨_, rfl⟩
  have hs1 := HSR.out; rw [hep, hsE] at hs1
  have HSR := Lib.hid hs1
  have e1 := HLb.out; have e2 := HEb.out; have e3 := HOG.out
  rw [hsE] at e1 e2
  rw [hep] at e3
  have HLc := Lib.hid e1; have HEc := Lib.hid e2; have HOGc := Lib.hid e3
  have HEPV := Lib.hid hep; have HSEV := Lib.hid hsE
  clear hs1 e1 e2 e3 hep hsE hSS1 hb1 k0 k1 d0 d1 HPB HRB HBW HZ HRT
  have d0 := below_cell (Below.refl _ u1) HP1.out 0 rfl
  have d1 := below_cell (Below.refl _ u1) HP1.out 1 rfl
  have d2 := below_cell (Below.refl _ u1) HP1.out 2 rfl
  go_upto_region 4 with (first | (go_at_call 43; refine (HSR.out _).mono ?_; rintro e u2 ⟨rfl, hb2⟩))
  have hal := (Below.refl u2.heap.size u2).alloc (Nat.le_refl _) (.cells #[.int .i64 ep] 78)
  have hn := heap_alloc_new u2 (.cells #[.int .i64 ep] 78)
  have hP3 := (hal.block _ (lt_of_block ((hb2.block _ (lt_of_block HP1.out)).trans HP1.out))).trans ((hb2.block _ (lt_of_block HP1.out)).trans HP1.out)
  have hR3 := (hal.block _ (lt_of_block ((hb2.block _ (lt_of_block HR1.out)).trans HR1.out))).trans ((hb2.block _ (lt_of_block HR1.out)).trans HR1.out)
  have hW3 := (HW1.out.trans (hb2.mono HW1.out.size)).trans (hal.mono (HW1.out.trans (hb2.mono HW1.out.size)).size)
  have hz3 : B + 2 ≤ u2.heap.size := Nat.le_trans HZ1.out hb2.size
  have hb3 : Below u.heap.size u (u2.alloc (.cells #[.int .i64 ep] 78)) := (HB1.out.trans (hb2.mono HB1.out.size)).trans (hal.mono (HB1.out.trans (hb2.mono HB1.out.size)).size)
  obtain ⟨E, hE⟩ : ∃ E, u2.heap.size = E := ⟨_, rfl⟩
  obtain ⟨u3, hU⟩ : ∃ u3, u2.alloc (.cells #[.int .i64 ep] 78) = u3 := ⟨_, rfl⟩
  have hzz : E + 1 = u3.heap.size := by rw [← hU, World.size_alloc, hE]
  rw [hU] at hn hP3 hR3 hW3 hb3 ⊢
  rw [hE] at hn hz3
  (try rw [hE])
  have HSX := Lib.hid hn; have HP3 := Lib.hid hP3; have HR3 := Lib.hid hR3; have HW3 := Lib.hid hW3; have HB3 := Lib.hid hb3; have HZ3 := Lib.hid hz3; have HZZ := Lib.hid hzz
  clear hU hE hal hn hP3 hR3 hW3 hb2 hb3 hz3 hzz HP1 HR1 HW1 HZ1 HB1 d0 d1 d2 p0 HSR
  generalize (some ⟨b, off, none⟩ : Option Addr) = x1 at *
  by_cases hse : sE = 0
  rotate_left
  · have hA2 : (sE != 0) = true := by simpa using hse
    have hA3 : (sE == 0) = false := by simpa using hse
    have HF := Lib.hid (bad.out 32 (HLc.out.trans (if_neg hse)) (HEc.out.trans (if_neg hse)))
    have hst := HR3.out
    clear bad HLc HEc
    go_wp2_with (first | (refine wpList_store_row rfl 29 _ _ rfl (B + 1) #[.slice none 0 0, .slice none 0 0, .int .i64 0, .int .i64 0, .int .i64 0, .int .i64 0, .slice none 0 0] rfl rfl 29 _ hst (by kernel_rfl) rfl (by simp [Value.oneCell']) ?_))
    refine bodyPost_ret (results_row_tmp rfl _ _ (B + 1) _ _ _ _ rfl (HSZ.out u3 HB3.out) Tryz.underlying29 rfl (by kernel_rfl)) rfl (by exact HF.out u3 HB3.out)
  have e1 := HLc.out.trans (if_pos hse); have e2 := HEc.out.trans (if_pos hse)
  rw [HOGc.out] at e1 e2
  subst hse
  have HLd := Lib.hid e1; have HEd := Lib.hid e2
  have hepb : i64ok ep := by rw [← HEPV.out]; exact super_i64 _
  have HEB := Lib.hid hepb
  have HIL : Hid (IsLog u3 (.agg #[.slice x1 d.secs.length x2, .slice x3 d.pend.length x4, .int .i64 left, .int .i64 ep, .int .i64 0, .int .i64 0, .slice none 0 0]) (open0 d left ep)) := Lib.hid ⟨⟨HK.out, hepb, i64_zero, i64_zero⟩, _, _, _, rfl, (HS.out.below HW3.out), (HD.out.below HW3.out).pend, nilWrts _⟩
  clear e1 e2 bad HSZ HOGc HEPV HSEV hepb
  have d0 := below_cell (Below.refl _ u3) HP3.out 0 rfl
  have d1 := below_cell (Below.refl _ u3) HP3.out 1 rfl
  have d2 := below_cell (Below.refl _ u3) HP3.out 2 rfl
  have s0 := below_cell (Below.refl _ u3) HSX.out 0 rfl
  go_upto_region 7 with fail
  have HX : Hid (∀ W, u3.alloc (.cells #[.slice x1 d.secs.length x2, .slice x3 d.pend.length x4, .int .i64 left, .int .i64 ep, .int .i64 0, .int .i64 0, .slice none 0 0] 29) = W → W.heap.size = E + 2 ∧ W.heap[E + 1]? = some (.cells #[.slice x1 d.secs.length x2, .slice x3 d.pend.length x4, .int .i64 left, .int .i64 ep, .int .i64 0, .int .i64 0, .slice none 0 0] 29 (0, 0)) ∧ W.heap[B + 1]? = some (.cells #[.slice none 0 0, .slice none 0 0, .int .i64 0, .int .i64 0, .int .i64 0, .int .i64 0, .slice none 0 0] 29 (0, 0)) ∧ Below w.heap.size w W ∧ IsLog W (.agg #[.slice x1 d.secs.length x2, .slice x3 d.pend.length x4, .int .i64 left, .int .i64 ep, .int .i64 0, .int .i64 0, .slice none 0 0]) (open0 d left ep)) := Lib.hid (by
    rintro W rfl
    have hal := (Below.refl u3.heap.size u3).alloc (Nat.le_refl _) (.cells #[.slice x1 d.secs.length x2, .slice x3 d.pend.length x4, .int .i64 left, .int .i64 ep, .int .i64 0, .int .i64 0, .slice none 0 0] 29)
    have hn := heap_alloc_new u3 (.cells #[.slice x1 d.secs.length x2, .slice x3 d.pend.length x4, .int .i64 left, .int .i64 ep, .int .i64 0, .int .i64 0, .slice none 0 0] 29)
    rw [← HZZ.out] at hn
    exact ⟨by rw [World.size_alloc, ← HZZ.out], hn, (hal.block _ (lt_of_block HR3.out)).trans HR3.out, HW3.out.trans (hal.mono HW3.out.size), HIL.out.below hal⟩)
  rw [← HZZ.out]
  obtain ⟨W, hW⟩ : ∃ W, u3.alloc (.cells #[.slice x1 d.secs.length x2, .slice x3 d.pend.length x4, .int .i64 left, .int .i64 ep, .int .i64 0, .int .i64 0, .slice none 0 0] 29) = W := ⟨_, rfl⟩
  rw [hW]
  obtain ⟨hz1, hg1, hr1, hw1, hl1⟩ := HX.out W hW
  have HZ1 := Lib.hid hz1; have HG1 := Lib.hid hg1; have HR1 := Lib.hid hr1; have HW1 := Lib.hid hw1; have HL1 := Lib.hid hl1
  have HGB : Hid (B + 2 ≤ E) := HZ3
  have hGB := HGB.out
  have h64 := HS64.out
  have h256 : d.secs.length ≤ 256 := by
    have := HRD.out
    unfold rightD at this
    rw [Bool.and_eq_true, Bool.and_eq_true] at this
    exact (of_decide_eq_true this.1.1).2
  have hsz : ∀ s ∈ d.secs, s.size ≤ 2000 := fun s hs => by have := (fits_size5 (right_secs d HRD.out s hs)).2.2; omega
  have HSZ := Lib.hid hsz
  have HOK0 : Hid (OpenOk d left ep (open0 d left ep)) := Lib.hid ⟨rfl, rfl, rfl, rfl, ⟨Int.le_refl _, by show (0 : Int) ≤ 6; decide⟩, ⟨Int.le_refl _, by show (0 : Int) ≤ 40; decide⟩, rfl⟩
  obtain ⟨F, hF⟩ : ∃ F, openF 6 (open0 d left ep) = F := ⟨_, rfl⟩
  rw [hF] at HLd HEd
  have HF0 : Hid (openF (6 - (open0 d left ep).seq.toNat) (open0 d left ep) = F) := Lib.hid hF
  clear hW HX hz1 hg1 hr1 hw1 hl1 HSX HP3 HR3 HW3 HB3 HZ3 HZZ HIL hF hsz d0 d1 d2 s0
  have hdec : decide ((d.secs.length : Int) < 64) = false := decide_eq_false (by omega)
  rw [hdec]
  clear hdec
  go_loopw [7] (fun v7 wr => ∃ (l : Lg) (y1 : Option Addr) (y2 : Nat) (y3 : Option Addr) (y4 : Nat) (y5 : Option Addr) (y6 : Nat), Hid (OpenOk d left ep l) ∧ Hid (openF (6 - l.seq.toNat) l = F) ∧ Hid (wr.heap[E + 1]? = some (.cells #[.slice y1 l.secs.length y2, .slice y3 l.pend.length y4, .int .i64 l.left, .int .i64 l.epoch, .int .i64 l.seq, .int .i64 l.used, .slice y5 l.dirty.length y6] 29 (0, 0))) ∧ Hid (IsLog wr (.agg #[.slice y1 l.secs.length y2, .slice y3 l.pend.length y4, .int .i64 l.left, .int .i64 l.epoch, .int .i64 l.seq, .int .i64 l.used, .slice y5 l.dirty.length y6]) l) ∧ Hid (wr.heap[B + 1]? = some (.cells #[.slice none 0 0, .slice none 0 0, .int .i64 0, .int .i64 0, .int .i64 0, .int .i64 0, .slice none 0 0] 29 (0, 0))) ∧ Hid (Below w.heap.size w wr)) (fun _ wr => 6 - (intOf ((wr.cell? ⟨E + 1, 4, none⟩).getD undef)).toNat)
  case atStart => exact ⟨open0 d left ep, x1, x2, x3, x4, none, 0, HOK0, HF0, HG1, HL1, HR1, HW1⟩
  case round =>
    clear HZ1 HG1 HR1 HW1 HL1 HOK0 HF0
    obtain ⟨l, y1, y2, y3, y4, y5, y6, HOK, HFF, HG, HIL, HRB, HWW⟩ := hrel
    have hok := HOK.out
    have hiq := HIL.out
    obtain ⟨q, hq⟩ : ∃ q : Nat, l.seq = q := ⟨l.seq.toNat, by have := hok.seq.1; omega⟩
    have hq6 : q ≤ 6 := by have := hok.seq.2; omega
    have g4 := below_cell (Below.refl _ wr) HG.out 4 rfl
    by_cases hlt : q < 6
    · have hltI : l.seq < 6 := by omega
      have hcm := wlCommitted _ l wr HIL.out (by rw [hok.secs]; exact HSZ.out) (by rw [hok.secs]; omega) (by rw [hok.secs]; omega) ⟨hok.seq.1, hltI⟩ hok.used
      have HCM := Lib.hid hcm
      have HQ := Lib.hid hq; have HLT := Lib.hid hlt; have HG4 := Lib.hid g4
      clear hcm hok hiq hq hq6
      rw [show (6 : Int) = 6 from rfl] at hltI
      have g0 := below_cell (Below.refl _ wr) HG.out 0 rfl
      have g1 := below_cell (Below.refl _ wr) HG.out 1 rfl
      have g2 := below_cell (Below.refl _ wr) HG.out 2 rfl
      have g3 := below_cell (Below.refl _ wr) HG.out 3 rfl
      have g5 := below_cell (Below.refl _ wr) HG.out 5 rfl
      have g6 := below_cell (Below.refl _ wr) HG.out 6 rfl
      go_upto_region 9 with (first | (go_at_call 44; refine HCM.out.mono ?_; rintro e w2 ⟨tv, rfl, htv, hb2⟩; obtain ⟨ta, tc, rfl, ht1, ht2, _⟩ := reads1_form htv))
      have HG2 := Lib.hid ((hb2.block _ (lt_of_block HG.out)).trans HG.out)
      have HIL2 := Lib.hid (HIL.out.below hb2)
      have HRB2 := Lib.hid ((hb2.block _ (lt_of_block HRB.out)).trans HRB.out)
      have HWW2 := Lib.hid (HWW.out.trans (hb2.mono HWW.out.size))
      have HTV := Lib.hid htv
      clear hb2 htv HG HIL HRB HWW HCM g0 g1 g2 g3 g4 g5 g6 hltI
      by_cases hnil : comT l = []
      · have hns := com_none hnil
        have hFl : l = F := by rw [← HFF.out, open_no hns]
        have hok := HOK.out
        rw [show (comT l).length = 0 from by rw [hnil]; rfl]
        have hckl : ckL l = CL := by rw [HLd.out, ← hFl]
        have hcke : ckE l = CE := by rw [HEd.out, ← hFl]
        have hckk := wlCheckpoint _ l w2 HIL2.out (by rw [hok.pend]; exact HP.out)
        rw [hckl, hcke] at hckk
        have HCKK := Lib.hid hckk
        clear hckl hcke hckk hFl hok
        have g0 := below_cell (Below.refl _ w2) HG2.out 0 rfl
        have g1 := below_cell (Below.refl _ w2) HG2.out 1 rfl
        have g2 := below_cell (Below.refl _ w2) HG2.out 2 rfl
        have g3 := below_cell (Below.refl _ w2) HG2.out 3 rfl
        have g4 := below_cell (Below.refl _ w2) HG2.out 4 rfl
        have g5 := below_cell (Below.refl _ w2) HG2.out 5 rfl
        have g6 := below_cell (Below.refl _ w2) HG2.out 6 rfl
        go_wp2_with (first
          | (go_at_call 12; refine HCKK.out.mono ?_; rintro e u9 ⟨v9, rfl, hl9, hb9⟩; obtain ⟨t1, t2, t3, t4, t5, t6, rfl, _⟩ := id hl9.form; have hst := (hb9.block _ (lt_of_block HRB2.out)).trans HRB2.out; have HS' := Lib.hid (setRow_heap u9 (B + 1) _ #[.slice t1 CL.secs.length t2, .slice t3 CL.pend.length t4, .int .i64 CL.left, .int .i64 CL.epoch, .int .i64 CL.seq, .int .i64 CL.used, .slice t5 CL.dirty.length t6] _ _ hst))
          | (refine wpList_store_row rfl 29 _ _ rfl (B + 1) #[.slice t1 CL.secs.length t2, .slice t3 CL.pend.length t4, .int .i64 CL.left, .int .i64 CL.epoch, .int .i64 CL.seq, .int .i64 CL.used, .slice t5 CL.dirty.length t6] rfl rfl 29 _ hst (by kernel_rfl) rfl (by simp [Value.oneCell']) ?_))
        have hlN := hl9.apart (w' := u9.setRow (B + 1) #[.slice t1 CL.secs.length t2, .slice t3 CL.pend.length t4, .int .i64 CL.left, .int .i64 CL.epoch, .int .i64 CL.seq, .int .i64 CL.used, .slice t5 CL.dirty.length t6]) hst (box_no _ _ _ _ _ _ _ _ _ _ _ _ _) (by rw [setRow_size]; exact Nat.le_refl _) (fun k hk => setRow_other u9 (B + 1) k _ hk)
        have hF9 := below_setRow (HWW2.out.trans (hb9.mono HWW2.out.size)) (show w.heap.size ≤ B + 1 by rw [HB.out]; omega) #[.slice t1 CL.secs.length t2, .slice t3 CL.pend.length t4, .int .i64 CL.left, .int .i64 CL.epoch, .int .i64 CL.seq, .int .i64 CL.used, .slice t5 CL.dirty.length t6]
        refine bodyPost_ret (results_row_tmp rfl _ _ (B + 1) _ _ _ _ rfl HS'.out Tryz.underlying29 rfl (by kernel_rfl)) rfl (by exact ⟨_, rfl, hlN, hF9⟩)
      · obtain ⟨hst1, hct⟩ := com_some hnil
        obtain ⟨nt, hnt⟩ : ∃ nt, (comT l).length = nt := ⟨_, rfl⟩
        have hnt0 : nt ≠ 0 := fun h => hnil (List.eq_nil_of_length_eq_zero (hnt.trans h))
        have hne0 : ¬ (nt : Int) = 0 := by omega
        have hne1 : ((nt : Int) == 0) = false := by simpa using hnt0
        have htv2 := HTV.out
        rw [hnt] at htv2
        (try rw [hnt])
        have HIM : Hid (∀ x, Below w2.heap.size w2 x → Calls Tryz.prog 45 #[.agg #[.slice y1 l.secs.length y2, .slice y3 l.pend.length y4, .int .i64 l.left, .int .i64 l.epoch, .int .i64 l.seq, .int .i64 l.used, .slice y5 l.dirty.length y6], .slice ta nt tc] x fun e w' => ∃ v', e = .returned v' ∧ IsWrts w' v' (imgW l (comT l)) ∧ Below x.heap.size x w') := Lib.hid (fun x hx => wlImages _ _ l (comT l) x (HIL2.out.below hx) (htv2.below hx) (by
          have hok := HOK.out
          refine ⟨hok.used.1, ?_⟩
          have h5 := hst1.2.2.2.2.1
          rw [hct]; exact h5) (by rw [HOK.out.secs]; omega) (fun t ht => by
          rw [hct] at ht
          have hh := head_tgt hst1.1
          unfold okT at hh
          obtain ⟨_, _, k3, _⟩ := of_decide_eq_true hh
          have := k3 t ht
          constructor <;> omega))
        have HTK : Hid (∀ x vw, Below w2.heap.size w2 x → IsWrts x vw (imgW l (comT l)) → Calls Tryz.prog 28 #[.agg #[.slice y1 l.secs.length y2, .slice y3 l.pend.length y4, .int .i64 l.left, .int .i64 l.epoch, .int .i64 l.seq, .int .i64 l.used, .slice y5 l.dirty.length y6], vw] x fun e w' => ∃ v', e = .returned v' ∧ IsLog w' v' (takenL l (imgW l (comT l))) ∧ Below x.heap.size x w') := Lib.hid (fun x vw hx hw => by
          have hok := HOK.out
          have hmay := open_may HRD.out hok hst1
          exact wlTaken _ _ l (imgW l (comT l)) x (HIL2.out.below hx) hw (by rw [hok.secs]; exact hok.dirty) (by rw [hok.secs]; omega) (by rw [hct]; exact hmay) (by
            rw [imgW_len, hct]
            have h5 := hst1.2.2.2.2.1
            have := hok.used.1
            omega) ⟨hok.seq.1, by have := hok.seq.2; omega⟩ ⟨hok.used.1, by have := hok.used.2; omega⟩)
        have HM : Hid (OpenOk d left ep (takenL l (imgW l (comT l))) ∧ openF (6 - (takenL l (imgW l (comT l))).seq.toNat) (takenL l (imgW l (comT l))) = F ∧ (takenL l (imgW l (comT l))).seq = ((q + 1 : Nat) : Int)) := Lib.hid (by
          have hok := HOK.out
          have hs6 : l.seq < 6 := by have := HQ.out; have := HLT.out; omega
          rw [hct]
          exact ⟨open_step HRD.out hok hs6 hst1, by rw [← open_at HQ.out HLT.out hst1]; exact HFF.out, by show l.seq + 1 = _; have := HQ.out; omega⟩)
        obtain ⟨M, hMM⟩ : ∃ M, takenL l (imgW l (comT l)) = M := ⟨_, rfl⟩
        rw [hMM] at HTK HM
        clear hnt htv2 hst1 hct hnil hnt0 hMM HTV HOK HFF
        have g0 := below_cell (Below.refl _ w2) HG2.out 0 rfl
        have g1 := below_cell (Below.refl _ w2) HG2.out 1 rfl
        have g2 := below_cell (Below.refl _ w2) HG2.out 2 rfl
        have g3 := below_cell (Below.refl _ w2) HG2.out 3 rfl
        have g4 := below_cell (Below.refl _ w2) HG2.out 4 rfl
        have g5 := below_cell (Below.refl _ w2) HG2.out 5 rfl
        have g6 := below_cell (Below.refl _ w2) HG2.out 6 rfl
        go_upto_region 10 with fail
        go_region_with (first
          | (go_at_call 45; refine (HIM.out _ (Below.refl _ _).drew).mono ?_; rintro e w5 ⟨vw, rfl, hiw, hb5⟩; have hb52 : Below w2.heap.size w2 w5 := (Below.refl w2.heap.size w2).drew.trans (hb5.mono (Nat.le_refl _)); have hG5 := (hb52.block _ (lt_of_block HG2.out)).trans HG2.out; have i0 := below_cell (Below.refl _ w5) hG5 0 rfl; have i1 := below_cell (Below.refl _ w5) hG5 1 rfl; have i2 := below_cell (Below.refl _ w5) hG5 2 rfl; have i3 := below_cell (Below.refl _ w5) hG5 3 rfl; have i4 := below_cell (Below.refl _ w5) hG5 4 rfl; have i5 := below_cell (Below.refl _ w5) hG5 5 rfl; have i6 := below_cell (Below.refl _ w5) hG5 6 rfl)
          | (go_at_call 28; refine (HTK.out _ _ hb52 hiw).mono ?_; rintro e w6 ⟨vm, rfl, hl6, hb6⟩; obtain ⟨z1, z2, z3, z4, z5, z6, rfl, _⟩ := id hl6.form; have hG6 := (hb6.block _ (lt_of_block hG5)).trans hG5; have j0 := below_cell (Below.refl _ w6) hG6 0 rfl; have jf0 := block_frozen hG6 0; have j1 := below_cell (Below.refl _ w6) hG6 1 rfl; have jf1 := block_frozen hG6 1; have j2 := below_cell (Below.refl _ w6) hG6 2 rfl; have jf2 := block_frozen hG6 2; have j3 := below_cell (Below.refl _ w6) hG6 3 rfl; have jf3 := block_frozen hG6 3; have j4 := below_cell (Below.refl _ w6) hG6 4 rfl; have jf4 := block_frozen hG6 4; have j5 := below_cell (Below.refl _ w6) hG6 5 rfl; have jf5 := block_frozen hG6 5; have j6 := below_cell (Below.refl _ w6) hG6 6 rfl; have jf6 := block_frozen hG6 6)
          | fail)
        all_goals
          have hbw6 := HWW2.out.trans ((hb52.trans (hb6.mono hb52.size)).mono HWW2.out.size)
          have hR6 := (hb6.block _ (lt_of_block ((hb52.block _ (lt_of_block HRB2.out)).trans HRB2.out))).trans ((hb52.block _ (lt_of_block HRB2.out)).trans HRB2.out)
          have hS := set7_block hG6 (.slice z1 M.secs.length z2) (.slice z3 M.pend.length z4) (.int .i64 M.left) (.int .i64 M.epoch) (.int .i64 M.seq) (.int .i64 M.used) (.slice z5 M.dirty.length z6)
          have hF := set7_below hbw6 (show w.heap.size ≤ E + 1 by rw [HB.out]; omega) (.slice z1 M.secs.length z2) (.slice z3 M.pend.length z4) (.int .i64 M.left) (.int .i64 M.epoch) (.int .i64 M.seq) (.int .i64 M.used) (.slice z5 M.dirty.length z6)
          have hLg := hl6.apart (w' := set7 w6 (E + 1) (.slice z1 M.secs.length z2) (.slice z3 M.pend.length z4) (.int .i64 M.left) (.int .i64 M.epoch) (.int .i64 M.seq) (.int .i64 M.used) (.slice z5 M.dirty.length z6)) hG6 (box_no _ _ _ _ _ _ _ _ _ _ _ _ _) (by rw [set7_size]; exact Nat.le_refl _) (fun b hb => set7_other _ _ _ _ _ _ _ _ _ _ hb)
          have hRx := (set7_other w6 (E + 1) (.slice z1 M.secs.length z2) (.slice z3 M.pend.length z4) (.int .i64 M.left) (.int .i64 M.epoch) (.int .i64 M.seq) (.int .i64 M.used) (.slice z5 M.dirty.length z6) (B + 1) (by omega)).trans hR6
          have h4 := below_cell (Below.refl _ _) hS 4 rfl
          unfold set7 at hS hF hLg hRx h4
          have HS7 := Lib.hid hS; have HF7 := Lib.hid hF; have HL7 := Lib.hid hLg; have HR7 := Lib.hid hRx; have H47 := Lib.hid h4
          clear hS hF hLg hRx h4 hbw6 hR6 hb5 hb52 hG5 hiw hb6 hG6 hl6
          go_roundw
          case rel => exact ⟨_, _, _, _, _, _, _, _, _, _, _, _, _, _, ⟨M, z1, z2, z3, z4, z5, z6, Lib.hid HM.out.1, Lib.hid HM.out.2.1, HS7, HL7, HR7, HF7⟩, rfl⟩
          case measure =>
            rw [H47.out, HG4.out]
            have e1 := HM.out.2.2
            have e2 := HQ.out
            have e3 := HLT.out
            show 6 - (M.seq).toNat < 6 - (l.seq).toNat
            omega
    · have hFl : l = F := by
        have e6 : q = 6 := by omega
        have := HFF.out
        rw [show l.seq.toNat = 6 from by omega] at this
        exact this
      have hltI : ¬ l.seq < 6 := by omega
      have HQ := Lib.hid hq
      clear hiq hq hq6 hlt g4
      have hckl : ckL l = CL := by rw [HLd.out, ← hFl]
      have hcke : ckE l = CE := by rw [HEd.out, ← hFl]
      have hckk := wlCheckpoint _ l wr HIL.out (by rw [hok.pend]; exact HP.out)
      rw [hckl, hcke] at hckk
      have HCKK := Lib.hid hckk
      clear hckl hcke hckk hFl hok
      have g0 := below_cell (Below.refl _ wr) HG.out 0 rfl
      have g1 := below_cell (Below.refl _ wr) HG.out 1 rfl
      have g2 := below_cell (Below.refl _ wr) HG.out 2 rfl
      have g3 := below_cell (Below.refl _ wr) HG.out 3 rfl
      have g4 := below_cell (Below.refl _ wr) HG.out 4 rfl
      have g5 := below_cell (Below.refl _ wr) HG.out 5 rfl
      have g6 := below_cell (Below.refl _ wr) HG.out 6 rfl
      go_wp2_with (first
        | (go_at_call 12; refine HCKK.out.mono ?_; rintro e u9 ⟨v9, rfl, hl9, hb9⟩; obtain ⟨t1, t2, t3, t4, t5, t6, rfl, _⟩ := id hl9.form; have hst := (hb9.block _ (lt_of_block HRB.out)).trans HRB.out; have HS' := Lib.hid (setRow_heap u9 (B + 1) _ #[.slice t1 CL.secs.length t2, .slice t3 CL.pend.length t4, .int .i64 CL.left, .int .i64 CL.epoch, .int .i64 CL.seq, .int .i64 CL.used, .slice t5 CL.dirty.length t6] _ _ hst))
        | (refine wpList_store_row rfl 29 _ _ rfl (B + 1) #[.slice t1 CL.secs.length t2, .slice t3 CL.pend.length t4, .int .i64 CL.left, .int .i64 CL.epoch, .int .i64 CL.seq, .int .i64 CL.used, .slice t5 CL.dirty.length t6] rfl rfl 29 _ hst (by kernel_rfl) rfl (by simp [Value.oneCell']) ?_))
      have hlN := hl9.apart (w' := u9.setRow (B + 1) #[.slice t1 CL.secs.length t2, .slice t3 CL.pend.length t4, .int .i64 CL.left, .int .i64 CL.epoch, .int .i64 CL.seq, .int .i64 CL.used, .slice t5 CL.dirty.length t6]) hst (box_no _ _ _ _ _ _ _ _ _ _ _ _ _) (by rw [setRow_size]; exact Nat.le_refl _) (fun k hk => setRow_other u9 (B + 1) k _ hk)
      have hF9 := below_setRow (HWW.out.trans (hb9.mono HWW.out.size)) (show w.heap.size ≤ B + 1 by rw [HB.out]; omega) #[.slice t1 CL.secs.length t2, .slice t3 CL.pend.length t4, .int .i64 CL.left, .int .i64 CL.epoch, .int .i64 CL.seq, .int .i64 CL.used, .slice t5 CL.dirty.length t6]
      refine bodyPost_ret (results_row_tmp rfl _ _ (B + 1) _ _ _ _ rfl HS'.out Tryz.underlying29 rfl (by kernel_rfl)) rfl (by exact ⟨_, rfl, hlN, hF9⟩)
end Go.Proofs.YthnmnnlbglpjaaaGreatDoor
