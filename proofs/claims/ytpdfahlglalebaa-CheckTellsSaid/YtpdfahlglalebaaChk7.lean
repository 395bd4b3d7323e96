/- Which filters may be: check.Check, check.Cells. -/
import Derived.Test.YtpdfahlglalebaaChk6
namespace Go.Proofs.Ytpdfahlglalebaa
open Go.RowKit Go.ChangeShapes
set_option linter.unusedVariables false

/-- a load of a cell that is not written on each way to it -/
def rdBad (l : List Ins) (s : St) (i : Nat) : Bool := (decide ((l.getD i insZ).code = 96) || decide ((l.getD i insZ).code = 97)) && (match s i with | none => false | some b => !b (l.getD i insZ).k.toNat)
def readV (l : List Ins) : Value := badV (firstBad (fun i => !rdBad l (joinS l l.length) i) l.length)
def allWell (l : List Ins) : Prop := 0 < l.length ∧ l.length ≤ 4096 ∧ ∀ i, i < l.length → wellB l i = true
instance (l : List Ins) : Decidable (allWell l) := by unfold allWell; exact inferInstance
def checkV (l : List Ins) : Value := if allWell l then readV l else wellV l
theorem wellV_cases (l : List Ins) : (allWell l ∧ wellV l = .tuple #[.int .i64 0, .int .i64 0]) ∨ (¬ allWell l ∧ ∃ (x : Nat) (y : Int), wellV l = .tuple #[.int .i64 (x : Int), .int .i64 y] ∧ y ≠ 0) := by
  unfold wellV allWell
  by_cases h0 : l.length = 0
  · rw [if_pos h0]
    exact .inr ⟨fun h => by omega, 0, 51, rfl, by decide⟩
  · rw [if_neg h0]
    by_cases h1 : 4096 < l.length
    · rw [if_pos h1]
      exact .inr ⟨fun h => by omega, 0, 2, rfl, by decide⟩
    · rw [if_neg h1]
      rcases firstBad_cases (wellB l) l.length with ⟨h2, h3⟩ | ⟨k, h2, h3, h4, h5⟩
      · rw [h2]
        exact .inl ⟨⟨by omega, by omega, h3⟩, rfl⟩
      · rw [h2]
        refine .inr ⟨fun h => ?_, k, 51, rfl, by decide⟩
        rw [h.2.2 k h3] at h4
        cases h4
theorem neNone (u : World) : (binOp .neq 44 (.slice none 0 0) (.slice none 0 0)).run Try.prog u = .ok (.bool false) u := run_neq_slice_nil_any u _ _ _ _ _ _ _ Try.underlying44
theorem neSome (u : World) (g o : Nat) : (binOp .neq 44 (.slice (some ⟨g, o, none⟩) 16 16) (.slice none 0 0)).run Try.prog u = .ok (.bool true) u := run_neq_slice_nil_any u _ _ _ _ _ _ _ Try.underlying44
set_option maxRecDepth 100000 in
set_option maxHeartbeats 1000000 in
theorem chkCells_any (l : List Ins) (v : Value) (w : World) (hl : IsInsns w v l) :
    Calls Try.prog 10 #[v] w fun e w' => ((allWell l ∧ ∃ gA gR, e = .returned (.tuple #[.slice (some ⟨gR, 0, none⟩) l.length l.length, .int .i64 0]) ∧ JS w' gA gR l.length (joinS l l.length)) ∨
      (¬ allWell l ∧ ∃ (x : Nat) (y : Int), wellV l = .tuple #[.int .i64 (x : Int), .int .i64 y] ∧ y ≠ 0 ∧ e = .returned (.tuple #[.slice none 0 0, .int .i64 y]))) ∧ Below w.heap.size w w' := by
  have hl0 := hl
  obtain ⟨a, len, cap, rfl, hlen, hcap, hcm, hbd, hat2⟩ := hl
  have hw1 := below_setRow ((Below.refl w.heap.size w).alloc (Nat.le_refl _) (Obj.cells #[Value.slice none 0 0, Value.nilFunc] 41)) (Nat.le_refl w.heap.size) #[Value.slice a len cap, Value.func (Fn.func 15) #[] #[]]
  have hg1 := setRow_heap (w.alloc (Obj.cells #[Value.slice none 0 0, Value.nilFunc] 41)) w.heap.size _ #[Value.slice a len cap, Value.func (Fn.func 15) #[] #[]] 41 (0, 0) (heap_alloc_new w (Obj.cells #[Value.slice none 0 0, Value.nilFunc] 41))
  have hone : #[Value.slice a len cap, Value.func (Fn.func 15) #[] #[]].all (·.oneCell') = true := by simp [Value.oneCell']
  have hl1 := insns_below hl0 hw1
  have hwe := fun u hu => chkWell_any l (.slice a len cap) u hu
  have hjo := fun u hu h => chkJoin_any l (.slice a len cap) u hu (h : allWell l).1 h.2.1 h.2.2
  unfold graphV at hwe hjo
  have HL1 := Lib.hid hl1; have HWE := Lib.hid hwe; have HJO := Lib.hid hjo; have HW1 := Lib.hid hw1; have HG1 := Lib.hid hg1
  clear hl0 hl1 hwe hjo hw1 hg1 hbd hat2
  go_enter Try.func10, Try.ntmps10
  go_upto_region 2 with (first | (refine wpList_store_row rfl 41 _ _ rfl w.heap.size #[Value.slice a len cap, Value.func (Fn.func 15) #[] #[]] rfl rfl 41 _ (heap_alloc_new w _) (by kernel_rfl) rfl hone ?_))
  generalize (w.alloc (Obj.cells #[Value.slice none 0 0, Value.nilFunc] 41)).setRow w.heap.size #[Value.slice a len cap, Value.func (Fn.func 15) #[] #[]] = wA at *
  have q0 := below_cell (v := .slice a len cap) (Below.refl _ wA) HG1.out 0 rfl
  have q1 := below_cell (v := .func (.func 15) #[] #[]) (Below.refl _ wA) HG1.out 1 rfl
  go_wp2_with fail
  refine (HWE.out _ HL1.out).mono ?_
  rintro e w2 ⟨rfl, hb2⟩
  have hg2 := (hb2.block _ (lt_of_block HG1.out)).trans HG1.out
  have p0 := below_cell (v := .slice a len cap) (Below.refl _ w2) hg2 0 rfl
  have p1 := below_cell (v := .func (.func 15) #[] #[]) (Below.refl _ w2) hg2 1 rfl
  have HL2 := Lib.hid (insns_below HL1.out hb2)
  have HW2 := Lib.hid (HW1.out.trans (hb2.mono HW1.out.size))
  clear hb2 hg2 q0 q1
  rcases wellV_cases l with ⟨haw, hv⟩ | ⟨haw, x, y, hv, hy⟩
  · rw [hv]
    clear hv
    go_wp2_with fail
    refine (HJO.out _ HL2.out haw).mono ?_
    rintro e w3 ⟨⟨gA, gR, rfl, hJ⟩, hb3⟩
    have HJ := Lib.hid hJ
    have HW3 := Lib.hid (HW2.out.trans (hb3.mono HW2.out.size))
    clear hJ hb3
    go_wp2_with fail
    go_ret2
    exact ⟨.inl ⟨haw, gA, gR, by rw [hlen]; rfl, HJ.out⟩, HW3.out⟩
  · rw [hv]
    have hyb : (y != 0) = true := by rw [bne_iff_ne]; exact hy
    have HV := Lib.hid hv
    clear hv
    go_wp2_with fail
    go_ret2
    exact ⟨.inr ⟨haw, x, y, HV.out, hy, rfl⟩, HW2.out⟩
set_option maxRecDepth 100000 in
set_option maxHeartbeats 1000000 in
theorem chkCheck_any (l : List Ins) (v : Value) (w : World) (hl : IsInsns w v l) :
    Calls Try.prog 8 #[v] w fun e w' => e = .returned (checkV l) ∧ Below w.heap.size w w' := by
  have hl0 := hl
  obtain ⟨a, len, cap, rfl, hlen, hcap, hcm, hbd, hat2⟩ := hl
  have hw1 := below_setRow ((Below.refl w.heap.size w).alloc (Nat.le_refl _) (Obj.cells #[Value.slice none 0 0, Value.nilFunc] 41)) (Nat.le_refl w.heap.size) #[Value.slice a len cap, Value.func (Fn.func 15) #[] #[]]
  have hg1 := setRow_heap (w.alloc (Obj.cells #[Value.slice none 0 0, Value.nilFunc] 41)) w.heap.size _ #[Value.slice a len cap, Value.func (Fn.func 15) #[] #[]] 41 (0, 0) (heap_alloc_new w (Obj.cells #[Value.slice none 0 0, Value.nilFunc] 41))
  have hone : #[Value.slice a len cap, Value.func (Fn.func 15) #[] #[]].all (·.oneCell') = true := by simp [Value.oneCell']
  have hl1 := insns_below hl0 hw1
  have hwe := fun u hu => chkWell_any l (.slice a len cap) u hu
  have hjo := fun u hu h => chkJoin_any l (.slice a len cap) u hu (h : allWell l).1 h.2.1 h.2.2
  unfold graphV at hwe hjo
  have HL1 := Lib.hid hl1; have HWE := Lib.hid hwe; have HJO := Lib.hid hjo; have HW1 := Lib.hid hw1; have HG1 := Lib.hid hg1; have HLEN := Lib.hid hlen; have HAT := Lib.hid hat2; have HBD := Lib.hid hbd
  clear hl0 hl1 hwe hjo hw1 hg1 hbd hat2 hlen
  obtain ⟨CK, hCK⟩ : ∃ CK, checkV l = CK := ⟨_, rfl⟩
  rw [hCK]
  have HCK := Lib.hid hCK
  clear hCK
  go_enter Try.func8, Try.ntmps8
  go_upto_region 2 with (first | (refine wpList_store_row rfl 41 _ _ rfl w.heap.size #[Value.slice a len cap, Value.func (Fn.func 15) #[] #[]] rfl rfl 41 _ (heap_alloc_new w _) (by kernel_rfl) rfl hone ?_))
  generalize (w.alloc (Obj.cells #[Value.slice none 0 0, Value.nilFunc] 41)).setRow w.heap.size #[Value.slice a len cap, Value.func (Fn.func 15) #[] #[]] = wA at *
  have q0 := below_cell (v := .slice a len cap) (Below.refl _ wA) HG1.out 0 rfl
  have q1 := below_cell (v := .func (.func 15) #[] #[]) (Below.refl _ wA) HG1.out 1 rfl
  go_wp2_with fail
  refine (HWE.out _ HL1.out).mono ?_
  rintro e w2 ⟨rfl, hb2⟩
  have hg2 := (hb2.block _ (lt_of_block HG1.out)).trans HG1.out
  have p0 := below_cell (v := .slice a len cap) (Below.refl _ w2) hg2 0 rfl
  have p1 := below_cell (v := .func (.func 15) #[] #[]) (Below.refl _ w2) hg2 1 rfl
  have HL2 := Lib.hid (insns_below HL1.out hb2)
  have HW2 := Lib.hid (HW1.out.trans (hb2.mono HW1.out.size))
  clear hb2 hg2 q0 q1
  rcases wellV_cases l with ⟨haw, hv⟩ | ⟨haw, x, y, hv, hy⟩
  · have hck : checkV l = readV l := if_pos haw
    rw [hv]
    obtain ⟨R, hR⟩ : ∃ R, R = CK := ⟨_, rfl⟩
    subst hR
    have hR : badV (firstBad (fun i => !rdBad l (joinS l l.length) i) l.length) = R := by rw [← HCK.out, hck]; rfl
    rw [HLEN.out] at hR
    have HR := Lib.hid hR
    clear HCK
    have HAW := Lib.hid haw
    clear hv hck hR haw
    go_wp2_with fail
    refine (HJO.out _ HL2.out HAW.out).mono ?_
    rintro e w3 ⟨⟨gA, gR, rfl, hJ⟩, hb3⟩
    rw [HLEN.out] at hJ ⊢
    have HJ := Lib.hid hJ
    have HW3 := Lib.hid (HW2.out.trans (hb3.mono HW2.out.size))
    have hl96 : (len : Int) ≤ 4096 := by have h1 := HAW.out.2.1; have h2 := HLEN.out; omega
    clear hJ hb3 p0 p1
    generalize joinS l len = s at *
    go_wp2_with fail
    go_loopw [25] (fun z wr => ∃ j : Nat, z = .int .i64 j ∧ j ≤ len ∧ JS wr gA gR len s ∧ Below w.heap.size w wr ∧ ∀ i, i < j → (!rdBad l s i) = true) (fun z _ => len - (intOf z).toNat)
    case atStart => exact ⟨0, rfl, by omega, HJ.out, HW3.out, fun i hi => by omega⟩
    case round =>
      clear HJ HW3
      obtain ⟨j, rfl, hj, hJ, hwr, hall⟩ := hrel
      have HALL := Lib.hid hall
      clear hall
      by_cases hlt : j < len
      · obtain ⟨b, off, rfl, hb, hat2⟩ := HAT.out.resolve_left (by omega)
        have hi := (hat2 j hlt).below hwr hb
        obtain ⟨rc, hrc⟩ : ∃ rc, rowCell gA j (s j) = rc := ⟨_, rfl⟩
        have hrow := hJ.row j hlt
        rw [hrc] at hrow
        have HRC := Lib.hid hrc
        clear hrc
        have hbit := fun q (hq : q < 16) => hJ.bit j q hlt hq
        have hjI : (j : Int) < len := by omega
        have hwl := HAW.out.2.2 j (by have := HLEN.out; omega)
        unfold wellB at hwl
        rw [Bool.and_eq_true] at hwl
        have hfk := (fits_parts hwl.1).2.2
        have hbi : (l.getD j insZ).bounded := by
          have := HLEN.out
          rw [List.getD_eq_getElem?_getD, List.getElem?_eq_getElem (by omega)]
          exact HBD.out _ (List.getElem_mem _)
        have hrb : rdBad l s j = ((decide ((l.getD j insZ).code = 96) || decide ((l.getD j insZ).code = 97)) && (match s j with | none => false | some b => !b (l.getD j insZ).k.toNat)) := rfl
        generalize l.getD j insZ = i at *
        obtain ⟨c, jt, jf, k⟩ := i
        obtain ⟨c0, c1, c2, c3⟩ := hi
        obtain ⟨_, _, _, bk, bk1⟩ := hbi
        dsimp only at c0 c1 c2 c3 bk bk1 hrb
        obtain ⟨k, rfl⟩ := Int.eq_ofNat_of_zero_le bk
        have hJA := hJ.below ((Below.refl _ wr).alloc (Nat.le_refl _) (Obj.cells #[.int .i64 c, .int .i64 jt, .int .i64 jf, .int .u32 (k : Int)] 38))
        have HJA := Lib.hid hJA
        have HWA := Lib.hid (hwr.alloc hwr.size (Obj.cells #[.int .i64 c, .int .i64 jt, .int .i64 jf, .int .u32 (k : Int)] 38))
        have hA := heap_alloc_new wr (Obj.cells #[.int .i64 c, .int .i64 jt, .int .i64 jf, .int .u32 (k : Int)] 38)
        have HRB := Lib.hid hrb
        have HFK := Lib.hid hfk
        clear hJA hat2 hwl hrb hbit hfk hwr
        go_upto_region 9 with fail
        clear c0 c1 c2 c3 hrow hJ
        generalize wr.alloc (Obj.cells #[.int .i64 c, .int .i64 jt, .int .i64 jf, .int .u32 (k : Int)] 38) = wA at *
        have i0 := below_cell (v := .int .i64 c) (Below.refl _ wA) hA 0 rfl
        have i3 := below_cell (v := .int .u32 (k : Int)) (Below.refl _ wA) hA 3 rfl
        clear hA
        have hn1 := neNone
        have hn2 := neSome
        by_cases hrd : c = 96 ∨ c = 97
        · have hk16 : (k : Int) < 16 := by
            have h := HFK.out
            unfold fitsK at h
            dsimp only at h
            rw [if_neg (by omega), if_pos (by omega)] at h
            exact of_decide_eq_true h
          have hkn : k < 16 := by omega
          have hbit := HJA.out.bit j k hlt hkn
          have hrd2 : (decide (c = 96) || decide (c = 97)) = true := by rcases hrd with h | h <;> simp [h]
          have hrb := HRB.out
          rw [hrd2, Bool.true_and, Int.toNat_natCast] at hrb
          cases hs : s j with
          | none =>
            rw [hs] at hrb
            have hrc2 : rc = .slice none 0 0 := by rw [← HRC.out, hs]; rfl
            subst hrc2
            have HRB2 : Hid ((!rdBad l s j) = true) := by rw [hrb]; rfl
            clear hrb hs hbit hrd2 HRB HFK HRC
            rcases hrd with rfl | rfl
            all_goals
              go_wp2_with fail
              go_roundw
              case rel => exact ⟨j + 1, by go_num, by omega, HJA.out, HWA.out, fun i hi => by
                by_cases e : i = j
                · rw [e]; exact HRB2.out
                · exact HALL.out i (by omega)⟩
              case measure => simp [intOf]; omega
          | some o =>
            rw [hs] at hrb hbit
            have hrc2 : rc = .slice (some ⟨gA, 16 * j, none⟩) 16 16 := by rw [← HRC.out, hs]; rfl
            subst hrc2
            have hbit2 : wA.cell? ⟨gA, 16 * j + k, none⟩ = some (.bool (o k)) := hbit
            have hrb2 : rdBad l s j = !(o k) := hrb
            have HRB2 := Lib.hid hrb2
            clear hrb2 hrb hs hbit hrd2 HRB HFK HRC
            generalize o k = x at *
            cases x with
            | true =>
              rcases hrd with rfl | rfl
              all_goals
                go_wp2_with fail
                go_roundw
                case rel => exact ⟨j + 1, by go_num, by omega, HJA.out, HWA.out, fun i hi => by
                  by_cases e : i = j
                  · rw [e, HRB2.out]; rfl
                  · exact HALL.out i (by omega)⟩
                case measure => simp [intOf]; omega
            | false =>
              have hE : R = .tuple #[.int .i64 (j : Int), .int .i64 51] := by
                rw [← HR.out, firstBad_some hlt (by rw [HRB2.out]; rfl) HALL.out]; rfl
              subst hE
              clear HR
              rcases hrd with rfl | rfl
              all_goals
                go_wp2_with fail
                go_ret2
                exact ⟨rfl, HWA.out⟩
        · have n1 : (c == 96) = false := by rw [beq_eq_false_iff_ne]; omega
          have n2 : (c == 97) = false := by rw [beq_eq_false_iff_ne]; omega
          have HRB2 : Hid ((!rdBad l s j) = true) := by
            show (!rdBad l s j) = true
            rw [HRB.out, decide_eq_false (by omega), decide_eq_false (by omega)]
            rfl
          clear HRB HFK hrd
          cases hs : s j with
          | none =>
            have hrc2 : rc = .slice none 0 0 := by rw [← HRC.out, hs]; rfl
            subst hrc2
            clear hs HRC
            go_wp2_with fail
            go_roundw
            case rel => exact ⟨j + 1, by go_num, by omega, HJA.out, HWA.out, fun i hi => by
              by_cases e : i = j
              · rw [e]; exact HRB2.out
              · exact HALL.out i (by omega)⟩
            case measure => simp [intOf]; omega
          | some o =>
            have hrc2 : rc = .slice (some ⟨gA, 16 * j, none⟩) 16 16 := by rw [← HRC.out, hs]; rfl
            subst hrc2
            clear hs HRC
            go_wp2_with fail
            go_roundw
            case rel => exact ⟨j + 1, by go_num, by omega, HJA.out, HWA.out, fun i hi => by
              by_cases e : i = j
              · rw [e]; exact HRB2.out
              · exact HALL.out i (by omega)⟩
            case measure => simp [intOf]; omega
      · obtain rfl : j = len := by omega
        have hE : R = .tuple #[.int .i64 0, .int .i64 0] := by
          rw [← HR.out, firstBad_none HALL.out]; rfl
        subst hE
        clear HR hJ
        go_wp2_with fail
        go_ret2
        exact ⟨rfl, hwr⟩
  · have hck : checkV l = wellV l := if_neg haw
    have hE : CK = .tuple #[.int .i64 (x : Int), .int .i64 y] := by rw [← HCK.out, hck, hv]
    subst hE
    rw [hv]
    clear HCK
    have hyb : (y != 0) = true := by rw [bne_iff_ne]; exact hy
    clear hv hck haw
    go_wp2_with fail
    go_ret2
    exact ⟨rfl, HW2.out⟩
end Go.Proofs.Ytpdfahlglalebaa
