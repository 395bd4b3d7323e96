/- The reference's Lay. -/
import Derived.Test.YtgglejicbojiaaaDoorBl3
import Derived.Test.YtgglejicbojiaaaDoorRef06T
import Derived.Test.YtgglejicbojiaaaDoorQTail
namespace Go.Proofs.YtgglejicbojiaaaDoor
open Go.RowKit
set_option linter.unusedVariables false

theorem own_formN {w : World} {base : Nat} {e : TypeId} {size : Nat} {v : Value} {n : Nat} {xs : List Value} (h : w.ownsRow base e size v n xs) : ∃ A c, v = .slice A n c ∧ n ≤ c ∧ c ≤ 9223372036854775807 := by
  rcases h.2 with ⟨rfl, h0⟩ | ⟨g, cap, cur, rfl, hg, hh, hn, hc, _⟩
  · subst h0; exact ⟨_, _, rfl, by omega, by omega⟩
  · exact ⟨_, _, rfl, hn, by unfold maxLen at hc; exact hc⟩
theorem partsL_get (d : ByteArray) (k : Nat) (h : k < needN d.size) : (partsL d)[k]? = some (partS d k) := by
  unfold partsL; simp [h]
set_option maxRecDepth 100000 in
set_option maxHeartbeats 2000000 in
theorem refLay_any (v : Value) (l : List Bool) (d : ByteArray) (w : World) (h : IsBools w v l) (hd : d.size ≤ 30000) :
    Calls Tryd.prog 6 #[v, .string d] w (LayPost (layE l d) (layT l d) d w) := by
  obtain ⟨i1, hi1, hy0, hy1, hy2⟩ := info_parts infoWrt
  have HP := Lib.hid (fun u => refParts_any d u hd)
  have HH := Lib.hid h
  obtain ⟨a, len, cap, rfl, hlen, hc1, hc2, hat⟩ := h
  have hlb : needN d.size ≤ 61 := by unfold needN; omega
  have hPL := partsL_len d
  have hPG := partsL_get d
  have HPG := Lib.hid hPG
  clear hat hPG
  by_cases hm : 40 < needN d.size
  · have e1 : layE l d = 30 := by unfold layE; rw [if_pos hm]
    have e2 : layT l d = ([], []) := by unfold layT; rw [if_pos hm]
    rw [e1, e2]
    clear e1 e2
    generalize needN d.size = N at *
    have hmI : 40 < (N : Int) := by omega
    go_enter Tryd.func6, Tryd.ntmps6
    go_wp2_with (first | (go_at_call 11; refine (HP.out _).mono ?_; rintro e w1 ⟨pv, rfl, ⟨a5, n5, c5, rfl, hl5, k1, k2, k3⟩, hb1⟩; rw [hPL] at hl5; subst hl5))
    refine bodyPost_ret (results_tmp4 rfl _ _ _) rfl ?_
    exact ⟨_, _, rfl, bools_nil _, nilWrts _, hb1⟩
  · have HT := Lib.hid (fun v u hu => refTake_any v l (needN d.size : Nat) u hu)
    have e1 : layE l d = takeE l (needN d.size : Nat) := by unfold layE; rw [if_neg hm]
    have e2 : layT l d = takeR l (needN d.size : Nat) := by unfold layT; rw [if_neg hm]
    rw [← e1, ← e2] at HT
    have hbad := layT_bad l d
    have hok := layT_ok l d
    have hlt := layT_lt l d
    clear e1 e2
    have HBAD := Lib.hid hbad; have HOK := Lib.hid hok; have HLT := Lib.hid hlt
    clear hbad hok hlt
    have hN1 : 1 ≤ needN d.size := by unfold needN; omega
    generalize needN d.size = N at *
    have hmI : (N : Int) ≤ 40 := by omega
    clear hm
    generalize layE l d = E at *
    generalize layT l d = R at *
    by_cases hE : E = 0
    · obtain ⟨hR, hRl, h40, hr, hf⟩ := HOK.out hE
      subst hE
      have hlt := HLT.out
      clear hR HBAD HOK HLT hr hf
      go_enter Tryd.func6, Tryd.ntmps6
      go_upto_region 7 with (first | (go_at_call 11; refine (HP.out _).mono ?_; rintro e w1 ⟨pv, rfl, ⟨a5, n5, c5, rfl, hl5, k1, k2, k3⟩, hb1⟩; rw [hPL] at hl5; subst hl5; have hh2 := HH.out.below hb1) | (go_at_call 18; refine (HT.out _ _ hh2).mono ?_; rintro e w2 ⟨v1, v2, rfl, hv1, ⟨a2, n2, c2, rfl, hl2, hcc1, hcc2, hat2⟩, hb2, hnk⟩))
      obtain rfl : n2 = N := by omega
      obtain ⟨b2, o2, rfl, hbl2, hat2⟩ := hat2.resolve_left (by omega)
      obtain ⟨b5, o5, rfl, hbl5, hat5⟩ := k3.resolve_left (by omega)
      have hcell : ∀ j, j < n2 → w2.cell? ⟨b2, o2 + j, none⟩ = some (.int .i64 (R.2.getD j 0 : Nat)) := fun j hj => by
        have hj2 : j < R.2.length := by omega
        rw [hat2 j hj2]; simp [natV, List.getD, hj2]
      have hbl5' : b5 < w2.heap.size := Nat.lt_of_lt_of_le hbl5 hb2.size
      have hpart : ∀ j, j < n2 → w2.cell? ⟨b5, o5 + j, none⟩ = some (.string (partS d j)) := fun j hj => by
        have hj2 : j < (partsL d).length := by omega
        have e := HPG.out j hj
        rw [List.getElem?_eq_getElem hj2] at e
        rw [← Option.some.inj e]
        exact (hb2.cell (p := ⟨b5, o5 + j, none⟩) hbl5).trans (hat5 j hj2)
      have hsec : ∀ j, j < n2 → ∀ u : World, Calls Tryd.prog 19 #[.int .i64 (R.2.getD (j + 1) 0 : Nat), .string (partS d j)] u fun e w' => e = .returned (.string (secS (R.2.getD (j + 1) 0) (partS d j))) ∧ Below u.heap.size u w' := fun j _ u => refSector_ok _ _ u (by
        by_cases h : j + 1 < R.2.length
        · have := hlt (R.2.getD (j + 1) 0) (by simp [List.getD, h])
          omega
        · rw [show R.2.getD (j + 1) 0 = 0 from by simp [List.getD, h]]; omega) (partS_size d j)
      have hw0 := hb1.trans (hb2.mono hb1.size)
      have HC := Lib.hid hcell; have HPT := Lib.hid hpart; have HS := Lib.hid hsec; have HW0 := Lib.hid hw0; have HV1 := Lib.hid hv1; have HRL := Lib.hid hRl
      have hN1I : (1 : Int) ≤ n2 := by omega
      have hc2I : (n2 : Int) ≤ c2 := by omega
      have hc5I : (n2 : Int) ≤ c5 := by omega
      have c10 := hcell 0 (by omega)
      clear hat2 hat5 hcell hpart hsec hw0 hv1 hb1 hb2 HP HT HH hh2 hnk hPL HPG hlb hRl hl2
      have ho : (w2.alloc (.cells #[] 36)).ownsRow w2.heap.size 36 2 (.slice (some ⟨w2.heap.size, 0, none⟩) 0 0) 0 [] := World.ownsRow_made w2 #[] 0 (Nat.le_refl _) (by unfold maxLen; omega) rfl
      have hb0 := (Below.refl w2.heap.size w2).alloc (Nat.le_refl _) (.cells #[] 36)
      have HO := Lib.hid ho
      clear ho
      go_wp2_with fail
      go_loopw [12, 35] (fun b c wr => ∃ k : Nat, k ≤ n2 ∧ c = .int .i64 k ∧ wr.ownsRow w2.heap.size 36 2 b k (wcells ((List.range k).map (layW R.2 d))) ∧ Below w2.heap.size w2 wr) (fun _ c _ => n2 - (intOf c).toNat)
      case atStart => exact ⟨0, by omega, rfl, HO.out, hb0⟩
      case round =>
        clear HO hb0
        obtain ⟨k, hk, rfl, hown, hbel⟩ := hrel
        obtain ⟨A8, c8, rfl, hA1, hA2⟩ := own_formN hown
        by_cases hlt2 : k < n2
        · have hkI : (k : Int) < n2 := by omega
          have d1 : wr.cell? ⟨b5, o5 + k, none⟩ = some (.string (partS d k)) := (hbel.cell (p := ⟨b5, o5 + k, none⟩) hbl5').trans (HPT.out k hlt2)
          have d2 : wr.cell? ⟨b2, o2 + k, none⟩ = some (.int .i64 (R.2.getD k 0 : Nat)) := (hbel.cell (p := ⟨b2, o2 + k, none⟩) hbl2).trans (HC.out k hlt2)
          have hsn : wcells ((List.range (k + 1)).map (layW R.2 d)) = wcells ((List.range k).map (layW R.2 d)) ++ [.int .i64 (R.2.getD k 0 : Nat), .string (secS (R.2.getD (k + 1) 0) (partS d k))] := by
            rw [List.range_succ, List.map_append, wcells_append]; rfl
          have HSN := Lib.hid hsn
          have hsk := HS.out k hlt2
          have HSK := Lib.hid hsk
          clear hsn hsk
          go_upto_if 44 with fail
          go_cut [15] from 45 to 49 (fun v wx => v = .int .i64 (R.2.getD (k + 1) 0 : Nat) ∧ wx = wr)
          case first =>
            by_cases hlast : k + 1 < n2
            · have hlI : (k : Int) + 1 < n2 := by omega
              have hdI : decide ((k : Int) + 1 < (n2 : Int)) = true := decide_eq_true hlI
              have hdN : decide (k + 1 < n2) = true := decide_eq_true hlast
              have d3 : wr.cell? ⟨b2, o2 + (k + 1), none⟩ = some (.int .i64 (R.2.getD (k + 1) 0 : Nat)) := (hbel.cell (p := ⟨b2, o2 + (k + 1), none⟩) hbl2).trans (HC.out (k + 1) hlast)
              clear HSN HSK
              go_wp2_with fail
              go_meet
              exact ⟨rfl, rfl⟩
            · have hlI : (n2 : Int) ≤ (k : Int) + 1 := by omega
              have hdI : decide ((k : Int) + 1 < (n2 : Int)) = false := decide_eq_false (by omega)
              have hdN : decide (k + 1 < n2) = false := decide_eq_false hlast
              have h0 : R.2.getD (k + 1) 0 = 0 := by have := HRL.out; simp [List.getD, show R.2[k + 1]? = none from List.getElem?_eq_none (by omega)]
              have H0 := Lib.hid h0
              clear HSN HSK h0
              go_wp2_with fail
              go_meet
              exact ⟨by rw [H0.out]; rfl, rfl⟩
          case rest =>
            obtain ⟨rfl, rfl⟩ := hcut
            generalize secS (R.2.getD (k + 1) 0) (partS d k) = SS at *
            generalize R.2.getD (k + 1) 0 = NX at *
            generalize R.2.getD k 0 = SX at *
            generalize partS d k = PS at *
            have r1 : ∀ x : KeepT wc, x.val.cell? ⟨b2, o2 + k, none⟩ = some (.int .i64 (SX : Nat)) := fun x => (x.below.cell (p := ⟨b2, o2 + k, none⟩) (Nat.lt_of_lt_of_le hbl2 hbel.size)).trans d2
            have HOWN := Lib.hid hown; have HBEL := Lib.hid hbel
            clear d1 d2 hown hbel
            go_upto_region 14 with fail
            refine wp_region_keep_tail1 (w0 := wc) (v0 := .slice A8 k c8) 9 (by kernel_rfl) (by kernel_rfl) (Below.refl _ _) (fun _ _ _ h => h) (Or.inl ⟨by rfl, fun _ => by rfl⟩) ?_
            simp only [List.take_succ_cons, List.take_zero, List.drop_succ_cons, List.drop_zero, Nat.reduceSub]
            go_simp
            repeat (go_big_quiet_step ((go_at_call 19; exact keepCall (HSK.out _))))
            refine wpQuiet_nil ?_
            intro x
            have hO2 := own_stays HOWN.out x.below
            have hb2 := HBEL.out.trans (x.below.mono HBEL.out.size)
            clear r1
            generalize x.val = wz at *
            have HO2 := Lib.hid hO2
            clear hO2
            go_wp2_with (first | (at_builtin; go_must (refine wpList_push (news := [.int .i64 (SX : Nat), .string SS]) _ _ 23 36 HO2.out hb2 (Nat.le_refl _) Tryd.underlying23 hi1 hy0 hy1 hy2 rfl (by decide) rfl rfl rfl rfl rfl ?c1 ?c2 ?_)))
            case c1 => intro u hu; simp at hu; rcases hu with rfl | rfl <;> rfl
            case c2 => omega
            intro v7 w7 hown7 hb7
            rw [← HSN.out] at hown7
            have HO7 := Lib.hid hown7
            clear hown7
            go_wp2_with fail
            go_roundw
            case rel => exact ⟨k + 1, by omega, by go_num, HO7.out, hb7⟩
            case measure => simp [intOf]; omega
        · obtain rfl : k = n2 := by omega
          have hmap : (List.range k).map (layW R.2 d) = wrtsL R.2 d := by
            unfold wrtsL
            rw [HRL.out]
          rw [hmap] at hown
          have hIW := own_wrts hown (by
            intro s hs
            obtain ⟨i, hi, rfl⟩ := List.mem_map.1 hs
            have hi' := List.mem_range.1 hi
            have hp := secS_size (R.2.getD (i + 1) 0) (partS d i) (partS_size d i)
            have h1 := hlt (R.2.getD i 0) (by simp [List.getD, hi'])
            exact ⟨⟨by show (-9223372036854775808 : Int) ≤ (R.2.getD i 0 : Nat); omega, by show ((R.2.getD i 0 : Nat) : Int) ≤ 9223372036854775807; omega⟩, Nat.le_trans hp (by decide)⟩)
          have d2 : wr.cell? ⟨b2, o2, none⟩ = some (.int .i64 (R.2.getD 0 0 : Nat)) := (hbel.cell (p := ⟨b2, o2, none⟩) hbl2).trans (HC.out 0 (by omega))
          have hB9 := HW0.out.trans (hbel.mono HW0.out.size)
          have hV9 := HV1.out.below hbel
          have HIW := Lib.hid hIW; have HB9 := Lib.hid hB9; have HV9 := Lib.hid hV9
          clear hIW hB9 hV9 hown hbel hmap
          go_wp2_with fail
          go_quiet (fail)
          go_wp2_with fail
          refine bodyPost_ret (results_tmp4 rfl _ _ _) rfl ?_
          exact ⟨_, _, rfl, HV9.out, HIW.out, below_drewN HB9.out nq⟩
    · have hR := HBAD.out hE
      rw [hR] at HT ⊢
      clear hR HBAD HOK HLT
      have hEd : decide (E = 0) = false := decide_eq_false hE
      have hEn : (E != 0) = true := by simp [hE]
      go_enter Tryd.func6, Tryd.ntmps6
      go_wp2_with (first | (go_at_call 11; refine (HP.out _).mono ?_; rintro e w1 ⟨pv, rfl, ⟨a5, n5, c5, rfl, hl5, k1, k2, k3⟩, hb1⟩; rw [hPL] at hl5; subst hl5; have hh2 := HH.out.below hb1) | (go_at_call 18; refine (HT.out _ _ hh2).mono ?_; rintro e w2 ⟨v1, v2, rfl, hv1, ⟨a2, n2, c2, rfl, hl2, hcc1, hcc2, hat2⟩, hb2, hnk⟩))
      refine bodyPost_ret (results_tmp4 rfl _ _ _) rfl ?_
      exact ⟨_, _, rfl, bools_nil _, nilWrts _, hb1.trans (hb2.mono hb1.size)⟩
end Go.Proofs.YtgglejicbojiaaaDoor
