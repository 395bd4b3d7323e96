/- The reference of layer 4: heads. -/
import Derived.Test.YtmhondkomcmmoaaDoorRef04A
import Derived.BigQuiet
namespace Go.Proofs.YtmhondkomcmmoaaDoor
open Go.RowKit
set_option linter.unusedVariables false

theorem infoBl4 : (Tryd.prog.info? 4).map (fun i => (i.zero, i.size, i.bytes)) = some (some (.bool false), 1, 1) := by kernel_rfl
theorem make_256 : ∀ u : World, (Instr.makeSlice 53 (.int .i64 256) (.int .i64 256)).run Tryd.prog u =
    .ok (.slice (some ⟨u.heap.size, 0, none⟩) 256 256) (u.alloc (.cells (seenC []) 4)) := by
  intro u
  obtain ⟨i0, hi, hz0, hz1, hz2⟩ := info_parts infoBl4
  have h := run_make (P := Tryd.prog) u 53 4 i0 (.bool false) Tryd.underlying53 hi hz0 .i64 .i64 256 256 (by omega) (Int.le_refl _) (by rw [hz2]; omega) (by omega)
  have hm : madeCells #[Value.bool false] 256 = seenC [] := by
    rw [seenC_nil, fill_zero (.bool false) 256, fill]
    apply Array.toList_inj.1
    simp only [List.nil_append, List.length_nil, Nat.sub_zero, Array.toList_replicate]
  rw [hz1] at h
  simp only [Value.cells] at h
  have e : (256 : Int).toNat = 256 := rfl
  rw [e, hm] at h
  exact h
set_option maxRecDepth 100000 in
set_option maxHeartbeats 1000000 in
theorem ref4IsHead_any (E S : Int) (tv : Value) (l : List Int) (w : World) (hv : Reads1 encI w tv l) :
    Calls Tryd.prog 15 #[.agg #[.int .i64 E, .int .i64 S, tv]] w fun e w' => e = .returned (.bool (headOk E S l)) ∧ Below w.heap.size w w' := by
  obtain ⟨a, len, cap, rfl, hlen, hc1, hc2, hat⟩ := hv
  subst hlen
  have hlI : (l.length : Int) ≤ 9223372036854775807 := by omega
  have HE := Lib.hid (fun u => ref4Epoch_any E u)
  have HP := Lib.hid (fun u => ref4Place_any S u)
  have hA := heap_alloc_new w (.cells #[.int .i64 E, .int .i64 S, .slice a l.length cap] 24)
  have hw := (Below.refl w.heap.size w).alloc (Nat.le_refl _) (.cells #[.int .i64 E, .int .i64 S, .slice a l.length cap] 24)
  have hres : headOk E S l = (decide (1 ≤ E ∧ E ≤ 1099511627776) && (decide (0 ≤ S ∧ S < 6) && okT l)) := rfl
  generalize decide (1 ≤ E ∧ E ≤ 1099511627776) = b1 at *
  generalize decide (0 ≤ S ∧ S < 6) = b2 at *
  generalize headOk E S l = res at *
  have HRES := Lib.hid hres
  clear hres
  cases b1 with
  | false =>
    clear hat
    go_enter Tryd.func15, Tryd.ntmps15
    go_wp2_with fail
    refine (HE.out _).mono ?_
    rintro e w2 ⟨rfl, rfl⟩
    go_wp2_with fail
    go_ret
    exact ⟨by rw [HRES.out]; rfl, hw⟩
  | true =>
    cases b2 with
    | false =>
      clear hat
      go_enter Tryd.func15, Tryd.ntmps15
      go_wp2_with fail
      refine (HE.out _).mono ?_
      rintro e w2 ⟨rfl, rfl⟩
      go_wp2_with fail
      refine (HP.out _).mono ?_
      rintro e w2 ⟨rfl, rfl⟩
      go_wp2_with fail
      go_ret
      exact ⟨by rw [HRES.out]; rfl, hw⟩
    | true =>
      by_cases h1 : l.length < 1
      · have h1I : (l.length : Int) < 1 := by omega
        have he : okT l = false := by unfold okT; exact decide_eq_false (by omega)
        have HOK := Lib.hid he
        clear hat he
        generalize l.length = n at *
        go_enter Tryd.func15, Tryd.ntmps15
        go_wp2_with fail
        refine (HE.out _).mono ?_
        rintro e w2 ⟨rfl, rfl⟩
        go_wp2_with fail
        refine (HP.out _).mono ?_
        rintro e w2 ⟨rfl, rfl⟩
        go_wp2_with fail
        go_ret
        exact ⟨by rw [HRES.out, HOK.out]; rfl, hw⟩
      · have h1I : ¬ (l.length : Int) < 1 := by omega
        by_cases h2 : 40 < l.length
        · have h2I : (40 : Int) < l.length := by omega
          have he : okT l = false := by unfold okT; exact decide_eq_false (by omega)
          have HOK := Lib.hid he
          clear hat he
          generalize l.length = n at *
          go_enter Tryd.func15, Tryd.ntmps15
          go_wp2_with fail
          refine (HE.out _).mono ?_
          rintro e w2 ⟨rfl, rfl⟩
          go_wp2_with fail
          refine (HP.out _).mono ?_
          rintro e w2 ⟨rfl, rfl⟩
          go_wp2_with fail
          go_ret
          exact ⟨by rw [HRES.out, HOK.out]; rfl, hw⟩
        · have h2I : ¬ (40 : Int) < l.length := by omega
          have HAT := Lib.hid hat
          have hmk := make_256
          clear hat
          go_enter Tryd.func15, Tryd.ntmps15
          go_wp2_with fail
          refine (HE.out _).mono ?_
          rintro e w2 ⟨rfl, rfl⟩
          go_wp2_with fail
          refine (HP.out _).mono ?_
          rintro e w2 ⟨rfl, rfl⟩
          go_upto_region 4 with fail
          have hB0 := heap_alloc_new (w.alloc (.cells #[.int .i64 E, .int .i64 S, .slice a l.length cap] 24)) (.cells (seenC []) 4)
          have hA1 := (heap_alloc_old (w.alloc (.cells #[.int .i64 E, .int .i64 S, .slice a l.length cap] 24)) (.cells (seenC []) 4) (Array.getElem?_eq_some_iff.1 hA).1).trans hA
          have hw1 := hw.alloc hw.size (.cells (seenC []) 4)
          obtain ⟨B, hB⟩ : ∃ B, w.heap.size + 1 = B := ⟨_, rfl⟩
          rw [World.size_alloc, hB] at hB0
          obtain ⟨w1, hW1⟩ : ∃ w1, (w.alloc (.cells #[.int .i64 E, .int .i64 S, .slice a l.length cap] 24)).alloc (.cells (seenC []) 4) = w1 := ⟨_, rfl⟩
          rw [hW1] at hB0 hA1 hw1 ⊢
          rw [hB]
          have hsz : w.heap.size ≤ B := by omega
          have hb0 := Below.refl B w1
          have x2 := below_cell (Below.refl _ w1) hA1 2 rfl
          clear hW1 hmk hA hw HE HP
          go_wp2_with fail
          clear x2 hA1
          go_loopw [32] (fun c wr => ∃ j : Nat, j ≤ l.length ∧ c = .int .i64 j ∧ (∀ t ∈ l.take j, 53 ≤ t ∧ t ≤ 255) ∧ (l.take j).Nodup ∧ wr.heap[B]? = some (.cells (seenC (l.take j)) 4 (0, 0)) ∧ Below B w1 wr) (fun c _ => l.length - (intOf c).toNat)
          case atStart => exact ⟨0, by omega, rfl, by simp, by simp, hB0, hb0⟩
          case round =>
            clear hB0 hb0
            obtain ⟨j, hj, rfl, hin, hnd, hbk, hwr⟩ := hrel
            have HIN := Lib.hid hin; have HND := Lib.hid hnd; have HBK := Lib.hid hbk
            clear hin hnd hbk
            by_cases hlt : j < l.length
            · have hltI : (j : Int) < l.length := by omega
              obtain ⟨b, off, rfl, hb, hat⟩ := HAT.out.resolve_left (by omega)
              have hcell : wr.cell? ⟨b, off + j, none⟩ = some (.int .i64 l[j]) := (hwr.cell (p := ⟨b, off + j, none⟩) (Nat.lt_of_lt_of_le hb hsz)).trans ((hw1.cell (p := ⟨b, off + j, none⟩) hb).trans (hat j hlt))
              have hbad := okT_bad l j hlt
              have hseen := okT_seen l j hlt
              have hnod := take_nodup l j hlt HND.out
              have htk : l.take (j + 1) = l.take j ++ [l[j]] := (List.take_append_getElem hlt).symm
              clear hat
              generalize l[j] = t at *
              by_cases hr : 53 ≤ t ∧ t ≤ 255
              · obtain ⟨hr1, hr2⟩ := hr
                obtain ⟨c, rfl⟩ := Int.eq_ofNat_of_zero_le (show 0 ≤ t by omega)
                have hcz : wr.cell? ⟨B, c, none⟩ = some (.bool (decide ((c : Int) ∈ l.take j))) := by rw [cell_of_row _ _ c _ _ _ HBK.out, seenC_get _ _ (by omega)]
                have hfz := block_frozen HBK.out c
                by_cases hs : (c : Int) ∈ l.take j
                · have HE := Lib.hid (hseen hs)
                  rw [decide_eq_true hs] at hcz
                  clear hseen hbad hnod htk hs
                  go_wp2_with fail
                  go_ret
                  exact ⟨by rw [HRES.out, HE.out]; rfl, by first | exact hw1.trans (hwr.mono hsz) | (rw [hB]; exact hw1.trans (hwr.mono hsz))⟩
                · rw [decide_eq_false hs] at hcz
                  have hset := block_set HBK.out c (.bool true)
                  rw [seenC_set _ _ (by omega), ← htk] at hset
                  have HSET := Lib.hid hset
                  have HNO := Lib.hid (hnod hs)
                  have HIN2 := Lib.hid (show ∀ t ∈ l.take (j + 1), 53 ≤ t ∧ t ≤ 255 by
                    intro t ht
                    rw [htk, List.mem_append, List.mem_singleton] at ht
                    rcases ht with ht | rfl
                    · exact HIN.out t ht
                    · exact ⟨hr1, hr2⟩)
                  have hw2 : Below B w1 (wr.setCell ⟨B, c, none⟩ (.bool true)) := hwr.setCell (p := ⟨B, c, none⟩) (Nat.le_refl _) _
                  clear hseen hbad hnod htk hs hset
                  go_wp2_with fail
                  go_roundw
                  case rel => exact ⟨j + 1, by omega, by go_num, HIN2.out, HNO.out, HSET.out, hw2⟩
                  case measure => simp [intOf]; omega
              · have HE := Lib.hid (hbad hr)
                clear hbad hseen hnod htk
                by_cases h3 : t < 53
                · go_wp2_with fail
                  go_ret
                  exact ⟨by rw [HRES.out, HE.out]; rfl, by first | exact hw1.trans (hwr.mono hsz) | (rw [hB]; exact hw1.trans (hwr.mono hsz))⟩
                · have h4 : 255 < t := by omega
                  go_wp2_with fail
                  go_ret
                  exact ⟨by rw [HRES.out, HE.out]; rfl, by first | exact hw1.trans (hwr.mono hsz) | (rw [hB]; exact hw1.trans (hwr.mono hsz))⟩
            · obtain rfl : j = l.length := by omega
              have hok : okT l = true := by
                have e1 := HIN.out; have e2 := HND.out
                rw [List.take_length] at e1 e2
                unfold okT
                exact decide_eq_true ⟨by omega, by omega, e1, e2⟩
              have HOK := Lib.hid hok
              clear hok
              go_wp2_with fail
              go_ret
              exact ⟨by rw [HRES.out, HOK.out]; rfl, by first | exact hw1.trans (hwr.mono hsz) | (rw [hB]; exact hw1.trans (hwr.mono hsz))⟩
end Go.Proofs.YtmhondkomcmmoaaDoor
