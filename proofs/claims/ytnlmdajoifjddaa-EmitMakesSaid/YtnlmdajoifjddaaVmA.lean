/- A filter's run. -/
import Derived.Test.YtnlmdajoifjddaaVm9
import Derived.Test.YtnlmdajoifjddaaInsnRow
namespace Go.Proofs.Ytnlmdajoifjddaa
open Go.RowKit
set_option linter.unusedVariables false

def mach0 : Mach := ⟨0, 0, List.replicate 16 0, 0, 0, false⟩
/-- one instruction -/
def stepM (l : List Ins) (rec : ByteArray) (m : Mach) : Bool × Mach :=
  let i := l.getD m.next insZ
  (deedD m i.code.toNat i.k.toNat i.jt i.jf).run rec l.length { m with next := m.next + 1 }
def runF (l : List Ins) (rec : ByteArray) : Nat → Mach → Nat → Nat × Nat × Int
  | 0, _, _ => (0, 0, 51)
  | f + 1, m, s =>
    if m.next < l.length then
      if insKnown (l.getD m.next insZ).code then
        if (stepM l rec m).1 then
          if (stepM l rec m).2.ret then ((stepM l rec m).2.ans, s, 0) else runF l rec f (stepM l rec m).2 (s + 1)
        else (0, 0, 51)
      else (0, 0, 51)
    else (0, 0, 51)
def runR (l : List Ins) (rec : ByteArray) : Nat × Nat × Int := if rec.size = 64 then runF l rec l.length mach0 1 else (0, 0, 52)
def resV (r : Nat × Nat × Int) : Value := .tuple #[.int .u32 (r.1 : Int), .int .i64 (r.2.1 : Int), .int .i64 r.2.2]
set_option maxRecDepth 100000 in
theorem vmRun_short (l : List Ins) (v : Value) (rec : ByteArray) (w : World) (hs : rec.size ≠ 64) : Calls Try.prog 16 #[v, .string rec] w fun e w' => e = .returned (resV (runR l rec)) ∧ Below w.heap.size w w' := by
  have hR : runR l rec = (0, 0, 52) := by unfold runR; rw [if_neg hs]
  rw [hR]
  have hsI : (rec.size : Int) ≠ 64 := by omega
  clear hR
  go_enter Try.func16, Try.ntmps16
  go_wp2_with fail
  go_ret3
  exact ⟨rfl, Below.refl _ _⟩
theorem known_code (c : Int) (h : insKnown c = true) : ∃ n : Nat, c = n ∧ n ∈ codeList := by
  unfold insKnown at h
  simp only [Bool.and_eq_true, decide_eq_true_eq, List.contains_iff_mem] at h
  exact ⟨c.toNat, by omega, h.2⟩
theorem run_next (rec : ByteArray) (n : Nat) (m : Mach) (D : Deed) : m.next ≤ (D.run rec n m).2.next := by
  cases D with
  | setA v => exact Nat.le_refl _
  | setX v => exact Nat.le_refl _
  | over v => exact Nat.le_add_right _ _
  | answer v => exact Nat.le_refl _
  | ldm k => unfold Deed.run; simp only; split <;> exact Nat.le_refl _
  | lxm k => unfold Deed.run; simp only; split <;> exact Nat.le_refl _
  | st k => unfold Deed.run; simp only; split <;> exact Nat.le_refl _
  | stx k => unfold Deed.run; simp only; split <;> exact Nat.le_refl _
  | abs k => unfold Deed.run; simp only; split <;> exact Nat.le_refl _
theorem mach0_small : mach0.small := ⟨Nat.zero_le _, Nat.zero_le _, Nat.zero_le _, fun v hv => by
  have : v = 0 := List.eq_of_mem_replicate hv
  omega⟩
set_option maxRecDepth 100000 in
set_option maxHeartbeats 1000000 in
theorem vmRun_any (l : List Ins) (v : Value) (rec : ByteArray) (w : World) (hl : IsInsns w v l) (hN : l.length ≤ 1000000) :
    Calls Try.prog 16 #[v, .string rec] w fun e w' => e = .returned (resV (runR l rec)) ∧ Below w.heap.size w w' := by
  obtain ⟨a, len, cap, rfl, hlen, hcap, hcm, hbd, hat⟩ := hl
  have hlI : (len : Int) ≤ 1000000 := by omega
  have hBd := Lib.hid hbd
  have HAT := Lib.hid hat
  clear hbd hat
  by_cases hs : rec.size = 64
  · have hsz : (mach0.arr rec len).size = 23 := rfl
    have hone : (mach0.arr rec len).all (·.oneCell') = true := by simp [Mach.arr, mach0, u32V, Value.oneCell', List.replicate]
    have HONE := Lib.hid hone
    clear hone
    have hR : runR l rec = runF l rec len mach0 1 := by unfold runR; rw [if_pos hs, hlen]
    rw [hR]
    have HR := Lib.hid hR
    clear hR
    generalize hRR : runF l rec len mach0 1 = R
    have HRR := Lib.hid hRR
    clear hRR
    go_enter Try.func16, Try.ntmps16
    go_wp2_with (first | (refine wpList_store_row rfl 61 _ _ rfl w.heap.size (mach0.arr rec len) rfl rfl 61 _ (heap_alloc_new w _) (by kernel_rfl) rfl HONE.out ?_))
    go_loopw [8] (fun c wr => ∃ (m : Mach) (f s : Nat), c = .int .i64 s ∧ s + f = len + 1 ∧ IsM wr w.heap.size rec len m ∧ len ≤ m.next + f ∧ runF l rec f m s = R ∧ m.small ∧ Below w.heap.size w wr) (fun c _ => len + 1 - (intOf c).toNat)
    case atStart =>
      exact ⟨mach0, len, 1, rfl, by omega, ⟨setRow_heap _ _ _ _ _ _ (heap_alloc_new w _), rfl⟩, by omega, HRR.out, mach0_small, below_setRow ((Below.refl w.heap.size w).alloc (Nat.le_refl _) _) (Nat.le_refl _) _⟩
    case round =>
      obtain ⟨m, f, s, rfl, hsf, hM, hf, hrf, hsm, hwr⟩ := hrel
      obtain ⟨m0, m1, m2, m19, m20, m21, m22⟩ := hM.facts
      have hsI : (s : Int) ≤ 1000001 := by omega
      have hs0 : (0 : Int) ≤ s := by omega
      by_cases hlt : m.next < len
      · obtain ⟨b, off, rfl, hbl, hat⟩ := HAT.out.resolve_left (by omega)
        have hi := (hat m.next hlt).below hwr hbl
        have hbi : (l.getD m.next insZ).bounded := by
          rw [List.getD_eq_getElem?_getD, List.getElem?_eq_getElem (by omega)]
          exact hBd.out _ (List.getElem_mem _)
        cases f with
        | zero => exact absurd hlt (by omega)
        | succ f =>
        have hlt' : m.next < l.length := by omega
        have hR2 : R = if insKnown (l.getD m.next insZ).code then if (stepM l rec m).1 then if (stepM l rec m).2.ret then ((stepM l rec m).2.ans, s, 0) else runF l rec f (stepM l rec m).2 (s + 1) else (0, 0, 51) else (0, 0, 51) := by
          rw [← hrf]
          show (if m.next < l.length then _ else _) = _
          rw [if_pos hlt']
        have hST : stepM l rec m = (deedD m (l.getD m.next insZ).code.toNat (l.getD m.next insZ).k.toNat (l.getD m.next insZ).jt (l.getD m.next insZ).jf).run rec len { m with next := m.next + 1 } := by unfold stepM; rw [hlen]
        generalize l.getD m.next insZ = i at *
        obtain ⟨c, jt, jf, k⟩ := i
        obtain ⟨c0, c1, c2, c3⟩ := hi
        obtain ⟨bc, bt, bf, bk, bk1⟩ := hbi
        dsimp only at c0 c1 c2 c3 bc bt bf bk bk1 hR2 hST
        obtain ⟨k, rfl⟩ := Int.eq_ofNat_of_zero_le bk
        have HST := Lib.hid hST
        have HR2 := Lib.hid hR2
        have HSM := Lib.hid hsm
        have hnI : (m.next : Int) < len := by omega
        have hn0 : (0 : Int) ≤ m.next := by omega
        have hlen' := Lib.hid hlen
        have hlt2 := Lib.hid hlt
        have HM := Lib.hid hM
        clear hST hR2 hsm hrf hM hlen hlt hlt'
        go_upto_region 8 with fail
        have hMA := HM.out.below (alloc1 wr (Obj.cells #[.int .i64 c, .int .i64 jt, .int .i64 jf, .int .u32 (k : Int)] 44))
        have hbA := heap_alloc_new wr (Obj.cells #[.int .i64 c, .int .i64 jt, .int .i64 jf, .int .u32 (k : Int)] 44)
        have hwA := hwr.alloc hwr.size (Obj.cells #[.int .i64 c, .int .i64 jt, .int .i64 jf, .int .u32 (k : Int)] 44)
        have hgB : w.heap.size < wr.heap.size := (Array.getElem?_eq_some_iff.1 HM.out.blk).1
        clear m0 m1 m2 m19 m20 m21 m22 c0 c1 c2 c3 hat hbl
        have HW := Lib.hid hwr
        clear hwr
        generalize wr.alloc (Obj.cells #[.int .i64 c, .int .i64 jt, .int .i64 jf, .int .u32 (k : Int)] 44) = wA at *
        generalize wr.heap.size = g at *
        obtain ⟨m0, m1, m2, m19, m20, m21, m22⟩ := hMA.facts
        have f19 := block_frozen hMA.blk 19
        have hMB := hMA.setNext (m.next + 1)
        have hwB := hwA.setCell (p := ⟨w.heap.size, 19, none⟩) (Nat.le_refl _) (.int .i64 ((m.next + 1 : Nat) : Int))
        have hbB := (Below.heap_setCell wA ⟨w.heap.size, 19, none⟩ (.int .i64 ((m.next + 1 : Nat) : Int)) g (by show g ≠ w.heap.size; omega)).trans hbA
        have HBB := Lib.hid hbB
        have HWB := Lib.hid hwB
        have HMB := Lib.hid hMB
        clear hbB hwB hMB hMA hbA hwA
        have hcast : ((m.next + 1 : Nat) : Int) = (m.next : Int) + 1 := rfl
        rw [hcast] at HBB HWB HMB
        clear hcast
        go_upto_region 9 with fail
        generalize wA.setCell ⟨w.heap.size, 19, none⟩ (.int .i64 ((m.next : Int) + 1)) = wB at *
        have k0 := below_cell (Below.refl _ wB) HBB.out 0 rfl
        by_cases hk : insKnown c = true
        · obtain ⟨cn, rfl, hcn⟩ := known_code c hk
          have HK := Lib.hid hk
          clear hk m0 m1 m2 m19 m20 m21 m22 f19
          go_wp2_with fail
          refine (insnKnown_any _ _).mono ?_
          rintro e w5 ⟨rfl, hb5⟩
          rw [HK.out]
          have hg5 : g < wB.heap.size := (Array.getElem?_eq_some_iff.1 HBB.out).1
          have hg5' := (hb5.block g hg5).trans HBB.out
          have l0 := below_cell (Below.refl _ w5) hg5' 0 rfl
          have l1 := below_cell (Below.refl _ w5) hg5' 1 rfl
          have l2 := below_cell (Below.refl _ w5) hg5' 2 rfl
          have l3 := below_cell (Below.refl _ w5) hg5' 3 rfl
          have HM5 := Lib.hid (HMB.out.below hb5)
          have HW5 := Lib.hid (HWB.out.trans (hb5.mono HWB.out.size))
          clear hb5 hg5 hg5' k0
          go_wp2_with fail
          obtain ⟨sa, sx, _, _⟩ := HSM.out
          refine (vm_deed cn hcn rec len _ w.heap.size k jt jf w5 HM5.out sa sx (by omega)).mono ?_
          rintro e w6 ⟨⟨f6, rfl, hf6⟩, hb6⟩
          have hDs : (deedD { m with next := m.next + 1 } cn k jt jf).small := deedD_small _ cn k jt jf HSM.out (by omega) bt bf
          have hST2 : stepM l rec m = (deedD { m with next := m.next + 1 } cn k jt jf).run rec len { m with next := m.next + 1 } := HST.out
          have hcall := IsDeed.calls (HM5.out.below hb6) hs (by omega) (by show m.next + 1 ≤ 2000000; have := hlt2.out; omega) hDs hf6
          have hrs := run_small rec hs len _ _ (show ({ m with next := m.next + 1 } : Mach).small from HSM.out) hDs
          have hge := run_next rec len { m with next := m.next + 1 } (deedD { m with next := m.next + 1 } cn k jt jf)
          have HW6 := Lib.hid (HW5.out.trans (hb6.mono HW5.out.size))
          have hb56 := hb6.size
          clear hf6 hb6 l0 l1 l2 l3 sa sx hDs
          have HRS := Lib.hid hrs
          have HGE := Lib.hid hge
          have HST2 := Lib.hid hST2
          have HCALL := Lib.hid hcall
          clear hrs hge hST2 hcall
          generalize hr : (deedD { m with next := m.next + 1 } cn k jt jf).run rec len { m with next := m.next + 1 } = r at *
          have HRr := Lib.hid hr
          clear hr
          rcases HCALL.out with ⟨x6, y6, rfl, hc6⟩ | ⟨x6, y6, rfl, hc6⟩ | ⟨x6, y6, rfl, hc6⟩ | ⟨x6, y6, rfl, hc6⟩ | ⟨x6, y6, rfl, hc6⟩ | ⟨x6, y6, z6, rfl, hc6⟩
          all_goals
            clear HCALL
            have HC6 := Lib.hid hc6
            clear hc6
            go_wp2_with fail
            refine HC6.out.mono ?_
            rintro e w7 ⟨rfl, hM7, hO7, hs7⟩
            rw [HRr.out] at *
            obtain ⟨ok, m'⟩ := r
            have HW7 := Lib.hid (hO7 w.heap.size w (Nat.le_refl _) HW6.out)
            clear hO7 hs7 hb56 HC6
            cases ok with
            | false =>
              have hE : R = (0, 0, 51) := by rw [HR2.out, if_pos HK.out, HST2.out]; rfl
              subst hE
              have HM7 := Lib.hid hM7
              clear hM7
              go_wp2_with fail
              go_ret3
              exact ⟨rfl, HW7.out⟩
            | true =>
              obtain ⟨_, _, _, _, _, q21, q22⟩ := hM7.facts
              have HM7 := Lib.hid hM7
              clear hM7
              dsimp only at q21 q22
              cases hret : m'.ret with
              | true =>
                have hE : R = (m'.ans, s, 0) := by
                  rw [HR2.out, if_pos HK.out, HST2.out]
                  show (if m'.ret = true then _ else _) = _
                  rw [if_pos hret]
                subst hE
                rw [hret] at q22
                clear hret
                go_wp2_with fail
                go_ret3
                exact ⟨rfl, HW7.out⟩
              | false =>
                have hE : R = runF l rec f m' (s + 1) := by
                  rw [HR2.out, if_pos HK.out, HST2.out]
                  show (if m'.ret = true then _ else _) = _
                  rw [if_neg (by rw [hret]; exact Bool.false_ne_true)]
                have HE := Lib.hid hE
                rw [hret] at q22
                clear hret hE
                go_wp2_with fail
                go_roundw
                case rel =>
                  have h1 := hlt2.out
                  have h2 : m.next + 1 ≤ m'.next := HGE.out
                  exact ⟨m', f, s + 1, by go_num, by omega, HM7.out, by omega, HE.out.symm, HRS.out, HW7.out⟩
                case measure => simp [intOf]; omega
        · have HK := Lib.hid (Bool.eq_false_iff.2 hk)
          have hE : R = (0, 0, 51) := by rw [HR2.out, if_neg hk]
          subst hE
          clear hk m0 m1 m2 m19 m20 m21 m22 f19
          go_wp2_with fail
          refine (insnKnown_any _ _).mono ?_
          rintro e w5 ⟨rfl, hb5⟩
          rw [HK.out]
          have HW5 := Lib.hid (HWB.out.trans (hb5.mono HWB.out.size))
          clear hb5 k0
          go_wp2_with fail
          go_ret3
          exact ⟨rfl, HW5.out⟩
      · have hnI : (len : Int) ≤ m.next := by omega
        have hE : R = (0, 0, 51) := by
          rw [← hrf]
          cases f with
          | zero => rfl
          | succ f => unfold runF; rw [hlen]; exact if_neg hlt
        subst hE
        have HS := Lib.hid hsm
        have HM := Lib.hid hM
        clear hM hsm hrf
        go_wp2_with fail
        go_ret3
        exact ⟨rfl, hwr⟩
  · exact vmRun_short l _ rec w hs
end Go.Proofs.Ytnlmdajoifjddaa
