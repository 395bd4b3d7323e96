/- doorwardref12.Cells of a filter that is not well, Check, Like. -/
import Derived.Test.YtpdfahlglalebaaCk4
import Derived.BigQuiet
namespace Go.Proofs.Ytpdfahlglalebaa
open Go.RowKit Go.ChangeShapes
set_option linter.unusedVariables false

theorem ck_cellsBad (l : List Ins) (v : Value) (w : World) (hl : IsInsns w v l) (hN : l.length ≤ 5000) (haw : ¬ allWell l) :
    Calls Try.prog 11 #[v] w fun e w' => (∃ (x : Nat) (y : Int), wellV l = .tuple #[.int .i64 (x : Int), .int .i64 y] ∧ e = .returned (.tuple #[.slice none 0 0, .int .i64 y])) ∧ Below w.heap.size w w' := by
  have hl0 := hl
  obtain ⟨a, len, cap, rfl, hlen, hcap, hcm, hbd, hat2⟩ := hl
  have hI : (len : Int) ≤ 5000 := by omega
  by_cases h4 : 4096 < len
  · have h4I : (4096 : Int) < len := by omega
    have hw : wellV l = .tuple #[.int .i64 ((0 : Nat) : Int), .int .i64 2] := by unfold wellV; rw [if_neg (by omega), if_pos (by omega)]; rfl
    clear hl0 hbd hat2
    go_enter Try.func11, Try.ntmps11
    go_wp2_with fail
    go_ret2
    exact ⟨⟨0, 2, hw, rfl⟩, Below.refl _ _⟩
  · have h4I : (len : Int) ≤ 4096 := by omega
    have HFI := Lib.hid (fun u hu => ck_first l (.slice a len cap) u hu hN)
    have HL := Lib.hid hl0
    rcases firstBad_cases (wellB l) l.length with ⟨h1, h2⟩ | ⟨k, h1, h2, h3, h5⟩
    · rw [h1] at HFI
      have h0 : len = 0 := by
        refine Classical.byContradiction fun h => haw ⟨by omega, by omega, h2⟩
      have h0b : ((len : Int) == 0) = true := by rw [beq_iff_eq]; omega
      have hw : wellV l = .tuple #[.int .i64 ((0 : Nat) : Int), .int .i64 51] := by unfold wellV; rw [if_pos (by omega)]; rfl
      clear hl0 hbd hat2 h1 h2 h0 haw
      unfold fstV at HFI
      go_enter Try.func11, Try.ntmps11
      go_wp2_with fail
      refine (HFI.out _ HL.out).mono ?_
      rintro e w1 ⟨rfl, hb1⟩
      go_wp2_with fail
      go_ret2
      exact ⟨⟨0, 51, hw, rfl⟩, hb1⟩
    · rw [h1] at HFI
      have h0b : ((len : Int) == 0) = false := by rw [beq_eq_false_iff_ne]; omega
      have hw : wellV l = .tuple #[.int .i64 (k : Int), .int .i64 51] := by unfold wellV; rw [if_neg (by omega), if_neg (by omega), h1]; rfl
      clear hl0 hbd hat2 h1 h2 h3 h5 haw
      unfold fstV at HFI
      go_enter Try.func11, Try.ntmps11
      go_wp2_with fail
      refine (HFI.out _ HL.out).mono ?_
      rintro e w1 ⟨rfl, hb1⟩
      go_wp2_with fail
      go_ret2
      exact ⟨⟨k, 51, hw, rfl⟩, hb1⟩
theorem wrI16 {l : List Ins} (h : allWell l) (hb : ∀ i ∈ l, i.bounded) : ∀ p, wrI (l.getD p insZ) 16 = false := fun p => by
  by_cases hp : p < l.length
  · have hbp : (l.getD p insZ).bounded := by
      rw [List.getD_eq_getElem?_getD, List.getElem?_eq_getElem hp]
      exact hb _ (List.getElem_mem _)
    exact wrI_16 (allWell_fits h p hp) hbp
  · rw [getD_out l p (by omega)]; rfl
theorem load_k {l : List Ins} (h : allWell l) {j : Nat} (hj : j < l.length) (hc : (l.getD j insZ).code = 96 ∨ (l.getD j insZ).code = 97) : (l.getD j insZ).k < 16 := by
  have := (fits_parts (allWell_fits h j hj)).2.2
  unfold fitsK at this
  rw [if_neg (by omega), if_pos (by omega)] at this
  exact of_decide_eq_true this
theorem IsRows.at {w : World} {A : Option Addr} {n cap : Nat} {rows : List (List Bool)} (h : IsRows w (.slice A n cap) rows) {i : Nat} (hi : i < n) : ∃ b off r, A = some ⟨b, off, none⟩ ∧ b < w.heap.size ∧ w.cell? ⟨b, off + i, none⟩ = some r ∧ IsRow w r (rows.getD i []) := by
  obtain ⟨a, n', cap', h1, h2, h3, h4, h5⟩ := h
  injection h1 with e1 e2 e3
  subst e1 e2 e3
  obtain ⟨b, off, h6, h7, h8⟩ := h5.resolve_left (by omega)
  obtain ⟨r, h9, h10⟩ := h8 i hi
  exact ⟨b, off, r, h6, h7, h9, h10⟩
set_option maxRecDepth 100000 in
set_option maxHeartbeats 4000000 in
theorem ck_check (l : List Ins) (v : Value) (w : World) (hl : IsInsns w v l) (hN : l.length ≤ 5000) :
    Calls Try.prog 9 #[v] w fun e w' => e = .returned (checkV l) ∧ Below w.heap.size w w' := by
  have hl0 := hl
  obtain ⟨a, len, cap, rfl, hlen, hcap, hcm, hbd, hat2⟩ := hl
  have hI : (len : Int) ≤ 5000 := by omega
  by_cases h0 : len = 0
  · have h0b : ((len : Int) == 0) = true := by rw [beq_iff_eq]; omega
    have hw : checkV l = .tuple #[.int .i64 0, .int .i64 51] := by
      unfold checkV
      rw [if_neg (fun h => by have := h.1; omega)]
      unfold wellV; rw [if_pos (by omega)]
    rw [hw]
    clear hl0 hbd hat2 hw h0
    go_enter Try.func9, Try.ntmps9
    go_wp2_with fail
    go_ret2
    exact ⟨rfl, Below.refl _ _⟩
  have h0b : ((len : Int) == 0) = false := by rw [beq_eq_false_iff_ne]; omega
  by_cases h4 : 4096 < len
  · have h4I : (4096 : Int) < len := by omega
    have hw : checkV l = .tuple #[.int .i64 0, .int .i64 2] := by
      unfold checkV
      rw [if_neg (fun h => by have := h.2.1; omega)]
      unfold wellV; rw [if_neg (by omega), if_pos (by omega)]
    rw [hw]
    clear hl0 hbd hat2 hw h0
    go_enter Try.func9, Try.ntmps9
    go_wp2_with fail
    go_ret2
    exact ⟨rfl, Below.refl _ _⟩
  have h4I : (len : Int) ≤ 4096 := by omega
  have HFI := Lib.hid (fun u hu => ck_first l (.slice a len cap) u hu hN)
  have HL := Lib.hid hl0
  rcases firstBad_cases (wellB l) l.length with ⟨h1, h2⟩ | ⟨k, h1, h2, h3, h5⟩
  · have haw : allWell l := ⟨by omega, by omega, h2⟩
    rw [h1] at HFI
    obtain ⟨R, hR⟩ : ∃ R, checkV l = R := ⟨_, rfl⟩
    have hR2 : badV (firstBad (fun i => !rdBad l (joinS l l.length) i) len) = R := by rw [← hR, checkV, if_pos haw, readV, hlen]
    rw [hR]
    have HR := Lib.hid hR2; have HAW := Lib.hid haw; have HAT := Lib.hid hat2; have HBD := Lib.hid hbd; have HLEN := Lib.hid hlen
    have HCE := Lib.hid (fun u hu => ck_cellsOk l (.slice a len cap) u hu haw)
    clear hR hR2 hl0 hbd hat2 h1 h2 haw hlen h0 h4
    unfold fstV at HFI
    go_enter Try.func9, Try.ntmps9
    go_wp2_with fail
    refine (HFI.out _ HL.out).mono ?_
    rintro e w1 ⟨rfl, hb1⟩
    have HB1 := Lib.hid hb1
    clear hb1
    go_wp2_with fail
    refine (HCE.out _ (insns_below HL.out HB1.out)).mono ?_
    rintro e w2 ⟨⟨v2, rfl, hrows⟩, hb2⟩
    have HROWS := Lib.hid hrows
    have HB2 := Lib.hid (HB1.out.trans (hb2.mono HB1.out.size))
    obtain ⟨A2, n2, c2, rfl, hn2, _⟩ := id hrows
    have hn2 : len = n2 := by rw [← hn2, rowsL, List.length_map, List.length_range, HLEN.out]
    subst hn2
    clear hb2 hrows HB1 HFI HCE
    go_wp2_with fail
    go_loopw [30] (fun z wr => ∃ j : Nat, z = .int .i64 j ∧ j ≤ len ∧ Hid (∀ k, k < j → rdBad l (joinS l l.length) k = false) ∧ Hid (Below w2.heap.size w2 wr)) (fun z _ => len - (intOf z).toNat)
    case atStart => exact ⟨0, rfl, by omega, Lib.hid (fun k h => by omega), Lib.hid (Below.refl _ _)⟩
    case round =>
      obtain ⟨j, rfl, hj, HALL, HWR⟩ := hrel
      by_cases hlt : j < len
      · have hjI : (j : Int) < len := by omega
        have hB := HB2.out.trans (HWR.out.mono HB2.out.size)
        obtain ⟨b, off, rfl, hb, hat⟩ := HAT.out.resolve_left (by omega)
        obtain ⟨c0, c1, c2, c3⟩ := (hat j hlt).below hB hb
        have hbi : (l.getD j insZ).bounded := by
          have := HLEN.out
          rw [List.getD_eq_getElem?_getD, List.getElem?_eq_getElem (by omega)]
          exact HBD.out _ (List.getElem_mem _)
        have hjl : j < l.length := by rw [HLEN.out]; exact hlt
        have hrd := rdBad_iff HAW.out HBD.out hjl
        have hlk := load_k HAW.out hjl
        have hmono := rch_mono l (l.getD j insZ).k.toNat (wrI16 HAW.out HBD.out) j
        obtain ⟨rb, ro, r, rfl, hrb, hcr, hrow⟩ := (HROWS.out.below HWR.out).at hlt
        rw [rowsL_at l j hjl] at hrow
        generalize l.getD j insZ = i at *
        obtain ⟨c, jt, jf, k⟩ := i
        obtain ⟨_, _, _, bk, bk1⟩ := hbi
        dsimp only at c0 c1 c2 c3 hrd hlk hmono bk bk1
        obtain ⟨k, rfl⟩ := Int.eq_ofNat_of_zero_le bk
        rw [Int.toNat_natCast] at hrd hmono
        have hW2 := HWR.out.alloc HWR.out.size (.cells #[.int .i64 c, .int .i64 jt, .int .i64 jf, .int .u32 (k : Int)] 38)
        have HW2 := Lib.hid hW2
        have hcr2 := (World.cell?_of_block (Below.heap_alloc wr (.cells #[.int .i64 c, .int .i64 jt, .int .i64 jf, .int .u32 (k : Int)] 38) rb hrb)).trans hcr
        have hrow2 := hrow.keep (KeepB.below ((Below.refl wr.heap.size wr).alloc (Nat.le_refl _) (.cells #[.int .i64 c, .int .i64 jt, .int .i64 jf, .int .u32 (k : Int)] 38)))
        have hn := heap_alloc_new wr (.cells #[.int .i64 c, .int .i64 jt, .int .i64 jf, .int .u32 (k : Int)] 38)
        obtain ⟨RB, hRB⟩ : ∃ RB, rdBad l (joinS l l.length) j = RB := ⟨_, rfl⟩
        rw [hRB] at hrd
        have HRB := Lib.hid hRB; have HN := Lib.hid hn; have HROW := Lib.hid hrow2; have HCR := Lib.hid hcr2; have HRD := Lib.hid hrd
        clear hat hW2 hcr2 hrow2 hn hrow hcr hRB hrd hB
        go_upto_region 12 with fail
        obtain ⟨w5, hW⟩ : ∃ w5, wr.alloc (.cells #[.int .i64 c, .int .i64 jt, .int .i64 jf, .int .u32 (k : Int)] 38) = w5 := ⟨_, rfl⟩
        obtain ⟨V, hV⟩ : ∃ V, wr.heap.size = V := ⟨_, rfl⟩
        rw [hW] at HW2 HN HROW HCR ⊢
        rw [hV] at HN
        (try rw [hV])
        clear hW hV c0 c1 c2 c3 HWR hrb hb
        have d0 := below_cell (Below.refl _ w5) HN.out 0 rfl
        have d3 := below_cell (Below.refl _ w5) HN.out 3 rfl
        have hnext : RB = false → Hid (∀ k, k < j + 1 → rdBad l (joinS l l.length) k = false) := fun hf => Lib.hid fun k hk => by
          by_cases e : k = j
          · rw [e, HRB.out, hf]
          · exact HALL.out k (by omega)
        have hstop : RB = true → R = .tuple #[.int .i64 (j : Int), .int .i64 51] := fun hf => by
          rw [← HR.out, firstBad_some hlt (by rw [HRB.out, hf]; rfl) (fun i hi => by rw [HALL.out i hi]; rfl)]; rfl
        by_cases hc : c = 96 ∨ c = 97
        · have hk16 : k < 16 := by have := hlk hc; omega
          have hkI : (k : Int) < 16 := by omega
          have hcw : (c == 96) = true ∨ ((c == 96) = false ∧ (c == 97) = true) := by
            rcases hc with rfl | rfl
            · exact .inl rfl
            · exact .inr ⟨rfl, rfl⟩
          have hrowv : (rch l 16 j = false ∧ RB = false ∧ ∃ A cc, r = .slice A 0 cc) ∨ (rch l 16 j = true ∧ ∃ rb2 ro2 cc, r = .slice (some ⟨rb2, ro2, none⟩) 16 cc ∧ w5.cell? ⟨rb2, ro2 + k, none⟩ = some (.bool (!RB))) := by
            have hrow := HROW.out
            cases h16 : rch l 16 j with
            | false =>
              left
              refine ⟨rfl, ?_, ?_⟩
              · refine Bool.eq_false_iff.2 fun h => ?_
                have := hmono (HRD.out.1 h).2
                rw [h16] at this
                cases this
              · unfold rowA at hrow
                rw [h16] at hrow
                obtain ⟨A, n, cc, h1, h2, _⟩ := hrow
                have : n = 0 := by simpa using h2.symm
                subst this
                exact ⟨A, cc, h1⟩
            | true =>
              right
              refine ⟨rfl, ?_⟩
              unfold rowA at hrow
              rw [h16, if_pos rfl] at hrow
              obtain ⟨A, n, cc, h1, h2, _⟩ := id hrow
              have : 16 = n := by rw [← h2, rowK_len]
              subst this
              subst h1
              obtain ⟨b2, o2, rfl, h3⟩ := hrow.cell hk16
              refine ⟨b2, o2, cc, rfl, ?_⟩
              rw [h3]
              have h4 : (rowK l j 16).getD k false = !rch l k j := by simp [rowK, List.getD, hk16]
              rw [h4]
              have : rch l k j = RB := by
                rw [Bool.eq_iff_iff]
                exact ⟨fun h => HRD.out.2 ⟨hc, h⟩, fun h => (HRD.out.1 h).2⟩
              rw [this]
          clear hc hlk hmono HRD HROW
          have q0 := HCR.out
          rcases hcw with h96 | ⟨h96, h97⟩
          all_goals
            rcases hrowv with ⟨_, rfl, A, cc, rfl⟩ | ⟨_, rb2, ro2, cc, rfl, hbit⟩
            · have HNX := hnext rfl
              clear hnext hstop
              go_wp2_with fail
              go_quiet (fail)
              go_wp2_with fail
              go_roundw
              case rel => exact ⟨j + 1, by go_num, by omega, HNX, Lib.hid (by first | exact HW2.out | exact belowN HW2.out _)⟩
              case measure => simp [intOf]; omega
            · cases RB with
              | false =>
                have HNX := hnext rfl
                clear hnext hstop
                go_wp2_with fail
                go_quiet (fail)
                go_wp2_with fail
                go_roundw
                case rel => exact ⟨j + 1, by go_num, by omega, HNX, Lib.hid (by first | exact HW2.out | exact belowN HW2.out _)⟩
                case measure => simp [intOf]; omega
              | true =>
                have HST := Lib.hid (hstop rfl)
                clear hnext hstop
                go_wp2_with fail
                go_quiet (fail)
                go_wp2_with fail
                go_ret2
                exact ⟨by rw [HST.out]; rfl, HB2.out.trans ((by first | exact HW2.out | exact belowN HW2.out _ : Below w2.heap.size w2 _).mono HB2.out.size)⟩
        · have h96 : (c == 96) = false := by rw [beq_eq_false_iff_ne]; omega
          have h97 : (c == 97) = false := by rw [beq_eq_false_iff_ne]; omega
          have HNX := hnext (by
            refine Bool.eq_false_iff.2 fun h => ?_
            exact hc (HRD.out.1 h).1)
          clear hnext hstop hc hlk hmono HRD HROW HCR
          go_wp2_with fail
          go_roundw
          case rel => exact ⟨j + 1, by go_num, by omega, HNX, HW2⟩
          case measure => simp [intOf]; omega
      · obtain rfl : j = len := by omega
        have hnl : ¬ (j : Int) < j := by omega
        have hres : R = .tuple #[.int .i64 0, .int .i64 0] := by
          rw [← HR.out, firstBad_none (fun i hi => by rw [HALL.out i hi]; rfl)]; rfl
        have HRES := Lib.hid hres
        clear hres
        go_wp2_with fail
        go_ret2
        exact ⟨by rw [HRES.out]; rfl, HB2.out.trans (HWR.out.mono HB2.out.size)⟩
  · rw [h1] at HFI
    have hw : checkV l = .tuple #[.int .i64 (k : Int), .int .i64 51] := by
      unfold checkV
      rw [if_neg (fun h => by rw [h.2.2 k h2] at h3; cases h3)]
      unfold wellV; rw [if_neg (by omega), if_neg (by omega), h1]; rfl
    rw [hw]
    clear hl0 hbd hat2 h1 h2 h3 h5 hw h0
    unfold fstV at HFI
    go_enter Try.func9, Try.ntmps9
    go_wp2_with fail
    refine (HFI.out _ HL.out).mono ?_
    rintro e w1 ⟨rfl, hb1⟩
    go_wp2_with fail
    go_ret2
    exact ⟨rfl, hb1⟩
end Go.Proofs.Ytpdfahlglalebaa
