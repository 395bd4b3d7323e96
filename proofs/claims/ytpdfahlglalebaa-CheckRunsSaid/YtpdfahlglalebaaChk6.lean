/- The ways joined. -/
import Derived.Test.YtpdfahlglalebaaChk5
import Derived.WalkMore
import Derived.StillTailTactics
import Derived.Lib.SliceRun
import Derived.Deep.LoopGhost
namespace Go.Proofs.Ytpdfahlglalebaa
open Go.RowKit Go.ChangeShapes
set_option linter.unusedVariables false

theorem infoBools : (Try.prog.info? 44).map (fun i => (i.zero, i.size, i.bytes)) = some (some (.slice none 0 0), 1, 24) := by kernel_rfl
/-- the rows as they are made -/
theorem JS.made (w : World) (o : Obj) (n : Nat) : JS (((w.alloc o).alloc (Obj.cells (Array.replicate (16 * n) (Value.bool false)) 4)).alloc (Obj.cells (Array.replicate n (Value.slice none 0 0)) 44)) (w.heap.size + 1) (w.heap.size + 1 + 1) n (fun _ => none) := by
  refine ⟨⟨List.replicate (16 * n) (Value.bool false), ?_, by simp, ?_, ?_⟩, ⟨List.replicate n (Value.slice none 0 0), ?_, by simp, ?_⟩, by omega⟩
  · refine (heap_alloc_old _ _ (by simp)).trans ?_
    have := heap_alloc_new (w.alloc o) (Obj.cells (Array.replicate (16 * n) (Value.bool false)) 4)
    rw [World.size_alloc] at this
    rw [this]
    simp
  · intro v hv
    rw [List.eq_of_mem_replicate hv]
    rfl
  · intro k j hk hj
    rw [List.getElem?_replicate, if_pos (by omega)]
    rfl
  · have := heap_alloc_new ((w.alloc o).alloc (Obj.cells (Array.replicate (16 * n) (Value.bool false)) 4)) (Obj.cells (Array.replicate n (Value.slice none 0 0)) 44)
    rw [World.size_alloc, World.size_alloc] at this
    rw [this]
    simp
  · intro k hk
    rw [List.getElem?_replicate, if_pos hk]
    rfl
theorem storeRow_run {P : Program} {u : World} {g : Nat} {t : TypeId} {old R : Array Value} (hg : u.heap[g]? = some (.cells old t (0, 0))) (ho : old.size = R.size) (h1 : R.all (·.oneCell') = true) :
    (storeCells ⟨g, 0, none⟩ R.toList).run P u = .ok () (u.setRow g R) := by
  have := run_storeCells_from (P := P) g t R.toList 0 old u hg (by simp; omega) (fun v hv => (Array.all_eq_true_iff_forall_mem.1 h1) v (by simpa using hv))
  simpa [ho, addr_add] using this
theorem eqNone (u : World) : (binOp .eql 44 (.slice none 0 0) (.slice none 0 0)).run Try.prog u = .ok (.bool true) u := Lib.run_eql_slice_nil u _ _ _ _ _ _ _ Try.underlying44
theorem eqSome (u : World) (g o : Nat) : (binOp .eql 44 (.slice (some ⟨g, o, none⟩) 16 16) (.slice none 0 0)).run Try.prog u = .ok (.bool false) u := Lib.run_eql_slice_nil u _ _ _ _ _ _ _ Try.underlying44
theorem made_list (z : Value) (n : Nat) : madeCells #[z] n = Array.replicate n z := by
  rw [fill_zero, fill]; simp
set_option maxRecDepth 100000 in
set_option maxHeartbeats 2000000 in
theorem chkJoin_any (l : List Ins) (v : Value) (w : World) (hl : IsInsns w v l) (h0 : 0 < l.length) (hN : l.length ≤ 4096) (hwell : ∀ i, i < l.length → wellB l i = true) :
    Calls Try.prog 17 #[graphV v] w fun e w' => (∃ gA gR, e = .returned (.slice (some ⟨gR, 0, none⟩) l.length l.length) ∧ JS w' gA gR l.length (joinS l l.length)) ∧ Below w.heap.size w w' := by
  have hl0 := hl
  obtain ⟨a, len, cap, rfl, hlen, hcap, hcm, hbd, hat2⟩ := hl
  obtain ⟨b, off, rfl, hb, hat2⟩ := hat2.resolve_left (by omega)
  unfold graphV
  rw [hlen]
  rw [hlen] at h0 hN hwell
  obtain ⟨iB, hiB, hzB0, hzB1, hzB2⟩ := info_parts infoBool
  obtain ⟨iS, hiS, hzS0, hzS1, hzS2⟩ := info_parts infoBools
  have hmkA : ∀ u : World, (Instr.makeSlice 44 (.int .i64 (16 * (len : Int))) (.int .i64 (16 * (len : Int)))).run Try.prog u = .ok (.slice (some ⟨u.heap.size, 0, none⟩) (16 * len) (16 * len)) (u.alloc (.cells (Array.replicate (16 * len) (Value.bool false)) 4)) := fun u => by
    have e : (16 * (len : Int)).toNat = 16 * len := by omega
    have h := run_make (P := Try.prog) u 44 4 iB (.bool false) Try.underlying44 hiB hzB0 .i64 .i64 (16 * len) (16 * len) (by omega) (Int.le_refl _) (by rw [hzB2]; omega) (by omega)
    rw [e, hzB1] at h
    simpa [Value.cells, made_list] using h
  have hmkR : ∀ u : World, (Instr.makeSlice 27 (.int .i64 (len : Int)) (.int .i64 (len : Int))).run Try.prog u = .ok (.slice (some ⟨u.heap.size, 0, none⟩) len len) (u.alloc (.cells (Array.replicate len (Value.slice none 0 0)) 44)) := fun u => by
    have h := run_make (P := Try.prog) u 27 44 iS (.slice none 0 0) Try.underlying27 hiS hzS0 .i64 .i64 len len (by omega) (Int.le_refl _) (by rw [hzS2]; omega) (by omega)
    simpa [hzS1, Value.cells, made_list] using h
  have hlI : (len : Int) ≤ 4096 := by omega
  have h0I : (1 : Int) ≤ len := by omega
  have HAT := Lib.hid hat2; have HBD := Lib.hid hbd; have HLEN := Lib.hid hlen; have HWE := Lib.hid hwell; have HL := Lib.hid hl0
  clear hat2 hbd hlen hl0 hwell hiB hiS hzB0 hzB1 hzB2 hzS0 hzS1 hzS2
  go_enter Try.func17, Try.ntmps17
  go_upto_region 3 with fail
  have hJ := JS.made w (Obj.cells #[Value.slice (some ⟨b, off, none⟩) len cap, Value.func (Fn.func 15) #[] #[]] 41) len
  have hB3 : Below w.heap.size w (((w.alloc (Obj.cells #[Value.slice (some ⟨b, off, none⟩) len cap, Value.func (Fn.func 15) #[] #[]] 41)).alloc (Obj.cells (Array.replicate (16 * len) (Value.bool false)) 4)).alloc (Obj.cells (Array.replicate len (Value.slice none 0 0)) 44)) := (((Below.refl _ _).alloc (Nat.le_refl _) _).alloc (by simp) _).alloc (by simp; omega) _
  have hG3 : (((w.alloc (Obj.cells #[Value.slice (some ⟨b, off, none⟩) len cap, Value.func (Fn.func 15) #[] #[]] 41)).alloc (Obj.cells (Array.replicate (16 * len) (Value.bool false)) 4)).alloc (Obj.cells (Array.replicate len (Value.slice none 0 0)) 44)).heap[w.heap.size]? = some (.cells #[Value.slice (some ⟨b, off, none⟩) len cap, Value.func (Fn.func 15) #[] #[]] 41 (0, 0)) :=
    (heap_alloc_old _ _ (by simp; omega)).trans ((heap_alloc_old _ _ (by simp)).trans (heap_alloc_new w _))
  generalize ((w.alloc (Obj.cells #[Value.slice (some ⟨b, off, none⟩) len cap, Value.func (Fn.func 15) #[] #[]] 41)).alloc (Obj.cells (Array.replicate (16 * len) (Value.bool false)) 4)).alloc (Obj.cells (Array.replicate len (Value.slice none 0 0)) 44) = w3 at *
  have HROW := fun u => chkRow_any (w.heap.size + 1) (16 * len) 0 u (by omega) (by omega)
  have hrow0 := hJ.row 0 h0
  have hfz : w3.frozen? ⟨w.heap.size + 1 + 1, 0, none⟩ = false := by obtain ⟨cr, r1, _⟩ := hJ.r; exact block_frozen r1 0
  have hJ4 := hJ.lay 0 h0 rfl
  rw [show (16 * 0 : Nat) = 0 from rfl] at HROW hJ4
  have hB4 := hB3.setCell (p := ⟨w.heap.size + 1 + 1, 0, none⟩) (by show w.heap.size ≤ w.heap.size + 1 + 1; omega) (.slice (some ⟨w.heap.size + 1, 0, none⟩) 16 16)
  have hG4 := (Below.heap_setCell w3 ⟨w.heap.size + 1 + 1, 0, none⟩ (.slice (some ⟨w.heap.size + 1, 0, none⟩) 16 16) w.heap.size (by show w.heap.size ≠ w.heap.size + 1 + 1; omega)).trans hG3
  have hrow0' : w3.cell? ⟨w.heap.size + 1 + 1, 0, none⟩ = some (.slice none 0 0) := hrow0
  have HJ4 := Lib.hid hJ4; have HB4 := Lib.hid hB4; have HG4 := Lib.hid hG4; have HR0 := Lib.hid HROW
  clear hJ hB3 hG3 hrow0 hJ4 hB4 hG4 HROW hmkA hmkR
  go_wp2_with fail
  refine (HR0.out _).mono ?_
  rintro e w5 ⟨rfl, rfl⟩
  go_upto_region 4 with fail
  generalize w3.setCell ⟨w.heap.size + 1 + 1, 0, none⟩ (.slice (some ⟨w.heap.size + 1, 0, none⟩) 16 16) = w4 at *
  have hb1 : w.heap.size < w.heap.size + 1 := by omega
  obtain ⟨gA, hgA⟩ : ∃ gA, w.heap.size + 1 = gA := ⟨_, rfl⟩
  rw [hgA] at HJ4 hb1 ⊢
  obtain ⟨gR, hgR⟩ : ∃ gR, gA + 1 = gR := ⟨_, rfl⟩
  rw [hgR] at HJ4 ⊢
  have hb2 : w.heap.size < gR := by omega
  have q0 := below_cell (Below.refl _ w4) HG4.out 0 rfl
  have q1 := below_cell (Below.refl _ w4) HG4.out 1 rfl
  clear hfz hrow0' hgA hgR
  go_wp2_with fail
  go_loopw [27] (fun z wr => ∃ n : Nat, z = .int .i64 n ∧ n ≤ len ∧ JS wr gA gR len (joinS l n) ∧ Below w.heap.size w wr ∧ wr.heap[w.heap.size]? = some (.cells #[Value.slice (some ⟨b, off, none⟩) len cap, Value.func (Fn.func 15) #[] #[]] 41 (0, 0))) (fun z _ => len - (intOf z).toNat)
  case atStart => exact ⟨0, rfl, by omega, HJ4.out, HB4.out, HG4.out⟩
  case round =>
    clear HJ4 HB4 HG4 q0 q1
    obtain ⟨n, rfl, hn, hJ, hwr, hgr⟩ := hrel
    have q0 := below_cell (Below.refl _ wr) hgr 0 rfl
    have q1 := below_cell (Below.refl _ wr) hgr 1 rfl
    by_cases hlt : n < len
    · have hi := (HAT.out n hlt).below hwr hb
      have hrow := hJ.row n hlt
      have hnI : (n : Int) < len := by omega
      have hwn := HWE.out n hlt
      unfold wellB at hwn
      rw [Bool.and_eq_true] at hwn
      obtain ⟨hfit, hland⟩ := hwn
      have hbi : (l.getD n insZ).bounded := by
        have := HLEN.out
        rw [List.getD_eq_getElem?_getD, List.getElem?_eq_getElem (by omega)]
        exact HBD.out _ (List.getElem_mem _)
      obtain ⟨hkn, hjj, _⟩ := fits_parts hfit
      have hfl := folL_le n (l.getD n insZ) (by omega) hbi.2.2.2 hjj
      have hfol := fun u => chkFollowers_any n (l.getD n insZ) u hkn hbi (by omega) hjj
      have hwri := fun b o u hu => chkWritten_any b gA o (l.getD n insZ) u hfit hbi hu
      have hstep : joinS l (n + 1) = stepJ l (joinS l n) n := rfl
      unfold stepJ at hstep
      unfold landsB at hland
      rw [HLEN.out] at hland
      have hland2 : ∀ t ∈ folL n (l.getD n insZ), t < (len : Int) := fun t ht => of_decide_eq_true (List.all_eq_true.1 hland t ht)
      clear hland hkn hjj hfit
      generalize joinS l n = s at *
      generalize folL n (l.getD n insZ) = fl at *
      generalize l.getD n insZ = i at *
      obtain ⟨c, jt, jf, k⟩ := i
      unfold Ins.value at hfol hwri
      obtain ⟨c0, c1, c2, c3⟩ := hi
      dsimp only at hfol hwri c0 c1 c2 c3
      have HFO := Lib.hid hfol; have HWR := Lib.hid hwri; have HST := Lib.hid hstep; have HFL := Lib.hid hfl; have HLA := Lib.hid hland2; have HJ := Lib.hid hJ; have HW := Lib.hid hwr; have HG := Lib.hid hgr
      clear hfol hwri hstep hfl hland2 hJ hbi
      go_wp2_with fail
      go_step3
      have hA := heap_alloc_new wr (Obj.cells #[.int .i64 c, .int .i64 jt, .int .i64 jf, .int .u32 k] 38)
      have hG2 := (heap_alloc_old wr (Obj.cells #[.int .i64 c, .int .i64 jt, .int .i64 jf, .int .u32 k] 38) (lt_of_block hgr)).trans hgr
      have hJ2 := HJ.out.below ((Below.refl _ wr).alloc (Nat.le_refl _) (Obj.cells #[.int .i64 c, .int .i64 jt, .int .i64 jf, .int .u32 k] 38))
      have hW2 := hwr.alloc hwr.size (Obj.cells #[.int .i64 c, .int .i64 jt, .int .i64 jf, .int .u32 k] 38)
      have hgAR : gA < wr.heap.size := by obtain ⟨ca, a1, _⟩ := HJ.out.a; exact lt_of_block a1
      have hgRR : gR < wr.heap.size := by obtain ⟨ca, a1, _⟩ := HJ.out.r; exact lt_of_block a1
      have hpi : wr.heap.size < (wr.alloc (Obj.cells #[.int .i64 c, .int .i64 jt, .int .i64 jf, .int .u32 k] 38)).heap.size := by simp
      generalize wr.heap.size = gI at *
      clear c0 c1 c2 c3 q0 q1 hrow hwr hgr
      generalize wr.alloc (Obj.cells #[.int .i64 c, .int .i64 jt, .int .i64 jf, .int .u32 k] 38) = wA at *
      have hrow := hJ2.row n hlt
      have i0 := below_cell (v := .int .i64 c) (Below.refl _ wA) hA 0 rfl
      have i1 := below_cell (v := .int .i64 jt) (Below.refl _ wA) hA 1 rfl
      have i2 := below_cell (v := .int .i64 jf) (Below.refl _ wA) hA 2 rfl
      have i3 := below_cell (v := .int .u32 k) (Below.refl _ wA) hA 3 rfl
      have HA := Lib.hid hA; have HG2 := Lib.hid hG2; have HJ2 := Lib.hid hJ2; have HW2 := Lib.hid hW2
      clear hA hG2 hJ2 hW2 HJ HW HG
      have hq1 := eqNone
      have hq2 := eqSome
      cases hs : s n with
      | none =>
        rw [hs] at hrow HST
        have hrow2 : wA.cell? ⟨gR, n, none⟩ = some (.slice none 0 0) := hrow
        clear hs hrow
        go_wp2_with fail
        go_roundw
        case rel => exact ⟨n + 1, by go_num, by omega, by rw [HST.out]; exact HJ2.out, HW2.out, HG2.out⟩
        case measure => simp [intOf]; omega
      | some r =>
        rw [hs] at hrow HST
        have hrow2 : wA.cell? ⟨gR, n, none⟩ = some (.slice (some ⟨gA, 16 * n, none⟩) 16 16) := hrow
        have hbits := fun u (hu : Below wA.heap.size wA u) j (hj : j < 16) => ((HJ2.out.below hu).bit n j hlt hj)
        rw [hs] at hbits
        have hwri2 := fun u (hu : Below wA.heap.size wA u) => HWR.out r (16 * n) u (hbits u hu)
        have HWRI := Lib.hid hwri2
        clear hwri2 hbits hrow hs HWR
        go_upto_region 8 with fail
        obtain ⟨bh, hbh⟩ : ∃ bh, wrB r ⟨c, jt, jf, k⟩ = bh := ⟨_, rfl⟩
        rw [hbh] at HWRI
        have hst2 : joinS l (n + 1) = fl.foldl (fun s t => mergeS bh s t.toNat) s := by rw [← hbh]; exact HST.out
        have HST := Lib.hid hst2
        clear hst2 hbh
        obtain ⟨RR, hRR⟩ : ∃ RR, (bits16 bh).toArray = RR := ⟨_, rfl⟩
        rw [hRR] at HWRI
        have hsz : RR.size = 16 := by rw [← hRR, List.size_toArray]; rfl
        have hone : RR.all (·.oneCell') = true := by rw [← hRR, List.all_toArray]; exact List.all_eq_true.2 (bits16_one _)
        have HONE := Lib.hid hone
        have HRR := Lib.hid hRR
        clear hRR hone
        go_cut [7] (fun p wx => ∃ g, p = .pointer (some ⟨g, 0, none⟩) ∧ wx.heap[g]? = some (.cells (bits16 bh).toArray 56 (0, 0)) ∧ wA.heap.size ≤ g ∧ Below wA.heap.size wA wx)
        case first =>
          have hb0 := (Below.refl wA.heap.size wA)
          have ca := fun (o : Obj) (g j : Nat) (x : Value) (h : wA.cell? ⟨g, j, none⟩ = some x) => ((hb0.alloc (Nat.le_refl _) o).cell (p := ⟨g, j, none⟩) (World.block_lt_of_cell? _ _ h)).trans h
          have d0 := fun o => ca o _ _ _ i0
          have d1 := fun o => ca o _ _ _ i1
          have d2 := fun o => ca o _ _ _ i2
          have d3 := fun o => ca o _ _ _ i3
          have d4 := fun o => ca o _ _ _ hrow2
          clear ca
          go_region_with (first | (refine (HWRI.out _ ?_).mono ?_; (first | exact hb0 | exact hb0.drew | exact hb0.drew.alloc (Nat.le_refl _) _); rintro e w6 ⟨rfl, hb6⟩; have fA := storeRow_run (P := Try.prog) (heap_alloc_new w6 (Obj.cells #[.bool false, .bool false, .bool false, .bool false, .bool false, .bool false, .bool false, .bool false, .bool false, .bool false, .bool false, .bool false, .bool false, .bool false, .bool false, .bool false] 56)) (hsz.symm : _ = RR.size) HONE.out; (first | (have hT : w6.heap[wA.heap.size]? = some (.cells #[.bool false, .bool false, .bool false, .bool false, .bool false, .bool false, .bool false, .bool false, .bool false, .bool false, .bool false, .bool false, .bool false, .bool false, .bool false, .bool false] 56 (0, 0)) := (hb6.block _ (by simp)).trans (heap_alloc_new wA.drew (Obj.cells #[.bool false, .bool false, .bool false, .bool false, .bool false, .bool false, .bool false, .bool false, .bool false, .bool false, .bool false, .bool false, .bool false, .bool false, .bool false, .bool false] 56)); have fB := storeRow_run (P := Try.prog) hT (hsz.symm : _ = RR.size) HONE.out) | skip)) | fail)
          all_goals
            go_wp2_with fail
            go_meet
            have hW6 : Below wA.heap.size wA w6 := by first | exact hb0.drew.trans (hb6.mono (Nat.le_refl _)) | exact ((hb0.alloc (Nat.le_refl _) _).drew).trans (hb6.mono (by simp))
            have hle := hW6.size
            first
              | exact ⟨w6.heap.size, rfl, by rw [HRR.out]; exact setRow_heap _ _ _ _ _ _ (heap_alloc_new w6 _), hle, below_setRow (hW6.alloc hle _) hle _⟩
              | exact ⟨wA.heap.size, rfl, by rw [HRR.out]; exact setRow_heap _ _ _ _ _ _ hT, Nat.le_refl _, below_setRow hW6 (Nat.le_refl _) _⟩
        case rest =>
        obtain ⟨gB, rfl, hBH, hgB, hwc⟩ := hcut
        clear HWRI HRR HONE hsz hrow2 i0 i1 i2 i3
        have HJ3 := Lib.hid (HJ2.out.below hwc)
        have hA3 := (hwc.block _ (lt_of_block HA.out)).trans HA.out
        have hG3 := (hwc.block _ (lt_of_block HG2.out)).trans HG2.out
        have HW3 := Lib.hid (HW2.out.trans (hwc.mono HW2.out.size))
        have i0 := below_cell (v := .int .i64 c) (Below.refl _ wc) hA3 0 rfl
        have i1 := below_cell (v := .int .i64 jt) (Below.refl _ wc) hA3 1 rfl
        have i2 := below_cell (v := .int .i64 jf) (Below.refl _ wc) hA3 2 rfl
        have i3 := below_cell (v := .int .u32 k) (Below.refl _ wc) hA3 3 rfl
        have q0 := below_cell (v := .slice (some ⟨b, off, none⟩) len cap) (Below.refl _ wc) hG3 0 rfl
        have q1 := below_cell (v := .func (.func 15) #[] #[]) (Below.refl _ wc) hG3 1 rfl
        have HBH := Lib.hid hBH; have HG3 := Lib.hid hG3
        have hA3lt : gB < wc.heap.size := lt_of_block hBH
        have hgA3 : gA < gB := by have := hpi; omega
        have hgR3 : gR < gB := by have := hpi; omega
        clear hBH hG3 hA3 HA HG2 HW2 HJ2 hwc
        go_wp2_with fail
        go_step3
        go_wp2_with fail
        refine (HFO.out _).mono ?_
        rintro e w6 ⟨⟨vf, rfl, A, m, C, rfl, hml, hmC, hC, hfa⟩, hb6⟩
        have HFA := Lib.hid hfa
        have HJ4 := Lib.hid (HJ3.out.below hb6)
        have HW4 := Lib.hid (HW3.out.trans (hb6.mono HW3.out.size))
        have HG4 := Lib.hid ((hb6.block _ (lt_of_block HG3.out)).trans HG3.out)
        have HBH4 := Lib.hid ((hb6.block _ (lt_of_block HBH.out)).trans HBH.out)
        have HJ4' := HJ4
        have hmI : (m : Int) ≤ 9223372036854775807 := by omega
        clear hfa HJ3 HW3 HG3 HBH HFO i0 i1 i2 i3 q0 q1
        go_wp2_with fail
        have hgB6 : gB < w6.heap.size := lt_of_block HBH4.out
        go_loopw [49] (fun z w2 => ∃ p : Nat, z = .int .i64 p ∧ p ≤ m ∧ JS w2 gA gR len ((fl.take p).foldl (fun s t => mergeS bh s t.toNat) s) ∧ Below w.heap.size w w2 ∧ KeepAR gA gR w6 w2) (fun z _ => m - (intOf z).toNat)
        case atStart => exact ⟨0, rfl, by omega, HJ4.out, HW4.out, KeepAR.refl _ _ _⟩
        case round =>
          clear HJ4 HW4
          obtain ⟨p, rfl, hp, hJ, hw2, hK⟩ := hrel
          generalize wr = w2 at *
          by_cases hpm : p < m
          · have hpI : (p : Int) < m := by omega
            obtain ⟨b', off', rfl, hb', hat'⟩ := HFA.out.resolve_left (by omega)
            have hc0 := hat' p (by omega)
            have hmem : fl[p]'(by omega) ∈ fl := List.getElem_mem _
            have hle1 := HFL.out _ hmem
            have hle2 := HLA.out _ hmem
            have hfold : (fl.take (p + 1)).foldl (fun s t => mergeS bh s t.toNat) s = mergeS bh ((fl.take p).foldl (fun s t => mergeS bh s t.toNat) s) (fl[p]'(by omega)).toNat := by
              rw [List.take_succ_eq_append_getElem (by omega), List.foldl_append]
              rfl
            obtain ⟨t, ht⟩ := Int.eq_ofNat_of_zero_le (show 0 ≤ fl[p]'(by omega) by omega)
            rw [ht] at hc0 hle1 hle2 hfold
            rw [Int.toNat_natCast] at hfold
            unfold intV at hc0
            generalize (fl.take p).foldl (fun s t => mergeS bh s t.toNat) s = sp at *
            have hap := HJ4'.out.apart hc0
            have hcell := hK.cell hap.1 hap.2 hc0
            have htl : t < len := by omega
            have htI : (t : Int) < len := by omega
            have hrow := hJ.row t htl
            have HROW := Lib.hid (fun u => chkRow_any gA (16 * len) t u (by omega) (by omega))
            have hbB := HBH4.out
            have hgBA : gB ≠ gA := by omega
            have hgBR : gB ≠ gR := by omega
            have HFD := Lib.hid hfold; have HK := Lib.hid hK; have HW2 := Lib.hid hw2
            have hAR : gA ≠ gR := hJ.ne
            have hB2 := (hK.2 gB hgBA hgBR hgB6).trans hbB
            have HB2 := Lib.hid hB2
            clear hfold hK hw2 hmem hap hc0 hle1 hle2 hat' hB2 hbB
            cases hst : sp t with
            | none =>
              rw [hst] at hrow
              have hrow2 : w2.cell? ⟨gR, t, none⟩ = some (.slice none 0 0) := hrow
              have hfz := (hJ.frozen t).2
              have hJ3 := hJ.lay t htl hst
              have HK3 := Lib.hid (HK.out.set (.inr rfl) t (.slice (some ⟨gA, 16 * t, none⟩) 16 16))
              have HW3 := Lib.hid (HW2.out.setCell (p := ⟨gR, t, none⟩) (by show w.heap.size ≤ gR; omega) (.slice (some ⟨gA, 16 * t, none⟩) 16 16))
              have HB3 := Lib.hid ((Below.heap_setCell w2 ⟨gR, t, none⟩ (.slice (some ⟨gA, 16 * t, none⟩) 16 16) gB hgBR).trans HB2.out)
              have hmg : mergeS bh sp t = sp.set t bh := by unfold mergeS; rw [hst]
              have HMG := Lib.hid hmg
              have HJ3 := Lib.hid hJ3
              clear hJ3 hJ hmg hst hrow
              go_wp2_with fail
              refine (HROW.out _).mono ?_
              rintro e w3 ⟨rfl, rfl⟩
              go_upto_region 14 with fail
              clear hrow2 hfz hcell
              generalize w2.setCell ⟨gR, t, none⟩ (.slice (some ⟨gA, 16 * t, none⟩) 16 16) = w3 at *
              have hrow3 := HJ3.out.row t htl
              rw [St.set_same] at hrow3
              have hrow4 : w3.cell? ⟨gR, t, none⟩ = some (.slice (some ⟨gA, 16 * t, none⟩) 16 16) := hrow3
              obtain ⟨X, hX⟩ : ∃ X, X = bits16 bh := ⟨_, rfl⟩
              have hXl : X.length = 16 := by rw [hX]; rfl
              obtain ⟨cur, hcur, hcl, _, _⟩ := HJ3.out.a
              have hsrc : ∀ j v, X[j]? = some v → w3.drew.cell? ((⟨gB, 0, none⟩ : Addr).add j) = some v := by
                intro j v hv
                rw [addr_add, Nat.zero_add]
                show w3.cell? ⟨gB, j, none⟩ = some v
                rw [cell_of_row _ _ _ _ _ _ HB3.out, ← hX, List.getElem?_toArray]
                exact hv
              have hX1 : ∀ v ∈ X, v.oneCell' = true := by rw [hX]; exact bits16_one bh
              have hfit : 16 * t + X.length ≤ cur.length := by omega
              have hbi : (Try.prog.info? 4).map (·.size) = some 1 := by kernel_rfl
              have HX1 := Lib.hid hX1; have HXl := Lib.hid (show X.length = Nat.min 16 16 by rw [hXl]; rfl); have HSR := Lib.hid hsrc; have HFT := Lib.hid hfit; have HBI := Lib.hid hbi; have HCUR := Lib.hid hcur
              have hJ9 : ∀ w', w'.heap[gR]? = w3.heap[gR]? → w'.heap[gA]? = some (.cells (splice cur (16 * t) X).toArray 4 (0, 0)) → JS w' gA gR len (mergeS bh sp t) := by
                intro w' h1 h2
                rw [hX] at h2
                have := HJ3.out.copied t htl bh (by rw [St.set_same]; rfl) h1 cur hcur h2
                rw [HMG.out]
                refine this.congr ?_ ?_
                · intro k hk
                  by_cases e : k = t
                  · subst e; rw [St.set_same, St.set_same]
                  · rw [St.set_other _ _ _ _ e, St.set_other _ _ _ _ e, St.set_other _ _ _ _ e]
                · intro k j hk hj
                  by_cases e : k = t
                  · subst e; rw [St.set_same, St.set_same]
                  · rw [St.set_other _ _ _ _ e, St.set_other _ _ _ _ e, St.set_other _ _ _ _ e]
              have HJ9 := Lib.hid hJ9
              clear hX hXl hcur hcl hsrc hX1 hfit hbi hJ9 hrow3
              go_region_law (refine step_copy_row (by rfl) (.tmp 67) (.tmp 68) 44 44 (by rfl) 4 Try.underlying44 HBI.out gA (16 * t) 16 16 ⟨gB, 0, none⟩ 16 16 (by simp [go_sem]) (by simp [go_sem]) cur 4 HCUR.out X HXl.out HSR.out HFT.out HX1.out ?_)
              have hJN := HJ9.out (w3.drew.setRow gA (splice cur (16 * t) X).toArray) (by simp [World.setRow, Array.getElem?_modify, hAR]; rfl) (setRow_heap _ _ _ _ _ _ HCUR.out)
              have HJN := Lib.hid hJN
              have HKN := Lib.hid (HK3.out.drew.setRow (.inl rfl) (splice cur (16 * t) X).toArray)
              have HWN := Lib.hid (below_setRow HW3.out.drew (by omega : w.heap.size ≤ gA) (splice cur (16 * t) X).toArray)
              clear hJN
              generalize w3.drew.setRow gA (splice cur (16 * t) X).toArray = w9 at *
              clear hrow4
              go_wp2_with fail
              go_roundw
              case rel => exact ⟨p + 1, by go_num, by omega, by rw [HFD.out]; exact HJN.out, HWN.out, HKN.out⟩
              case measure => simp [intOf]; omega
            | some o =>
              rw [hst] at hrow
              have hrow2 : w2.cell? ⟨gR, t, none⟩ = some (.slice (some ⟨gA, 16 * t, none⟩) 16 16) := hrow
              have HMX := Lib.hid (hJ.mix_start bh hst)
              have HST2 := Lib.hid hst
              clear hJ hst hrow
              go_wp2_with fail
              go_loopw [70] (fun z w4 => ∃ q : Nat, z = .int .i64 q ∧ q ≤ 16 ∧ JS w4 gA gR len (sp.set t (mixB o bh q)) ∧ Below w.heap.size w w4 ∧ KeepAR gA gR w6 w4) (fun z _ => 16 - (intOf z).toNat)
              case atStart => exact ⟨0, rfl, by omega, HMX.out, HW2.out, HK.out⟩
              case round =>
                clear HMX HW2 HK hrow2 hcell HB2
                obtain ⟨q, rfl, hq, hJ, hw4, hK⟩ := hrel
                generalize wr = w4 at *
                by_cases hq16 : q < 16
                · have hqI : (q : Int) ≤ 15 := by omega
                  have hrow := hJ.row t htl
                  rw [St.set_same] at hrow
                  have hrow4 : w4.cell? ⟨gR, t, none⟩ = some (.slice (some ⟨gA, 16 * t, none⟩) 16 16) := hrow
                  have hbit := hJ.bit t q htl hq16
                  rw [St.set_same] at hbit
                  have hbit4 : w4.cell? ⟨gA, 16 * t + q, none⟩ = some (.bool (o q)) := by
                    rw [hbit]
                    show some (Value.bool (mixB o bh q q)) = _
                    unfold mixB
                    rw [if_neg (by omega)]
                  have hfz := (hJ.frozen (16 * t + q)).1
                  have hB4 := (hK.2 gB hgBA hgBR hgB6).trans HBH4.out
                  have hbb := below_cell (v := .bool (bh q)) (Below.refl _ w4) hB4 q (by rw [List.getElem?_toArray]; exact bits16_get bh q hq16)
                  have hJ5 := hJ.mixed htl hq16
                  have HJ5 := Lib.hid hJ5; have HW5 := Lib.hid (hw4.setCell (p := ⟨gA, 16 * t + q, none⟩) (by show w.heap.size ≤ gA; omega) (.bool (o q && bh q))); have HK5 := Lib.hid (hK.set (.inl rfl) (16 * t + q) (.bool (o q && bh q)))
                  clear hJ hrow hbit hB4 hJ5 hw4 hK
                  generalize o q = x at *
                  generalize bh q = y at *
                  go_upto_region 18 with fail
                  cases x
                  all_goals
                    go_still_tail 18, (by kernel_rfl)
                    simp only [Bool.false_and, Bool.true_and] at HJ5 HW5 HK5
                    go_wp2_with fail
                    go_roundw
                    case rel => exact ⟨q + 1, by go_num, by omega, HJ5.out.drew, HW5.out.drew, HK5.out.drew⟩
                    case measure => simp [intOf]; omega
                · obtain rfl : q = 16 := by omega
                  have HJE := Lib.hid (hJ.mix_end HST2.out)
                  have HWE2 := Lib.hid hw4; have HKE := Lib.hid hK
                  rw [show ((16 : Nat) : Int) = 16 from rfl]
                  clear hJ hw4 hK
                  go_wp2_with fail
                  go_roundw
                  case rel => exact ⟨p + 1, by go_num, by omega, by rw [HFD.out]; exact HJE.out, HWE2.out, HKE.out⟩
                  case measure => simp [intOf]; omega
          · obtain rfl : p = m := by omega
            have hfe : fl.take p = fl := List.take_of_length_le (by omega)
            rw [hfe, ← HST.out] at hJ
            have HJE := Lib.hid hJ; have HWE2 := Lib.hid hw2
            have HGE := Lib.hid ((hK.2 w.heap.size (by omega) (by omega) (lt_of_block HG4.out)).trans HG4.out)
            clear hJ hw2 hK hfe
            go_wp2_with fail
            rw [Exit.noGoto_normal]
            go_wp2_with fail
            go_roundw
            case rel => exact ⟨n + 1, by go_num, by omega, HJE.out, HWE2.out, HGE.out⟩
            case measure => simp [intOf]; omega
    · obtain rfl : n = len := by omega
      have HJE := Lib.hid hJ; have HWE2 := Lib.hid hwr
      clear hJ hwr hgr
      go_wp2_with fail
      go_ret
      exact ⟨⟨gA, gR, rfl, HJE.out⟩, HWE2.out⟩
end Go.Proofs.Ytpdfahlglalebaa
