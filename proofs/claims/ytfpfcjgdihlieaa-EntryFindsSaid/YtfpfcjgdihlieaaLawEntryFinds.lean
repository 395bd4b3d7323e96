/- The walk of EntryFinds. -/
import Derived.Test.YtfpfcjgdihlieaaEnX
import Derived.Test.YtfpfcjgdihlieaaEnG
import Derived.Test.YtfpfcjgdihlieaaEnA
namespace Go.Proofs.Ytfpfcjgdihlieaa.lawEntryFinds
open Go.RowKit
set_option linter.unusedVariables false

set_option maxRecDepth 100000 in
set_option maxHeartbeats 2000000 in
theorem walk (v0 : Value) (l0 : List En) (name : ByteArray) (v2 : Value) (e0 : En) (no : Int) (w : World) (w0 : IsEns w v0 l0) (w1 : name.size ≤ maxLen) (w2 : IsEn w v2 e0) (w3 : (Lit.int .i64 no).wf = true) :
    Calls Try.prog 4 #[v0, .string name, v2, .int .i64 no] w fun e w' => e = .returned (.bool true) ∧ Below w.heap.size w w' := by
  have g1 := wf_i64 w3
  obtain ⟨hbd, k, rfl, hk⟩ := w2
  obtain ⟨nm, cur, nxt, vers⟩ := e0
  obtain ⟨va, vc, rfl⟩ := hk.form
  simp only at hk hbd ⊢
  have hw1 := (Below.refl w.heap.size w).alloc (Nat.le_refl _) (.cells #[.string nm, .int .i64 cur, .int .i64 nxt, .slice va vers.length vc] 36)
  have hB := heap_alloc_new w (.cells #[.string nm, .int .i64 cur, .int .i64 nxt, .slice va vers.length vc] 36)
  have HEN0 := Lib.hid w0
  have HAL := Lib.hid (fun u => enAlive u)
  have hl20 := fewE_len l0
  obtain ⟨m, hm⟩ : ∃ m, vers.length = m := ⟨_, rfl⟩
  rw [hm] at hk hw1 hB ⊢
  obtain ⟨q, hq, hq1, hq2, hq3⟩ := min_if m 20 (by omega)
  have hqq : min (m : Int) 20 = q := by omega
  have hqm : (q : Int) ≤ m := by omega
  have hqI : (q : Int) ≤ 20 := by omega
  have hk2 := hk.take q hq1
  obtain ⟨_, _, _, hvv, _, hmc, hcm, _⟩ := id hk
  injection hvv with e1 e2 e3
  subst e1 e2 e3
  have hmcI : (m : Int) ≤ vc := by omega
  have hcmI : (vc : Int) ≤ 9223372036854775807 := by omega
  have htl : (vers.take q).length ≤ 100000 := by rw [List.length_take]; omega
  have HVE := Lib.hid (fun u (hu : IsVrs u (.slice va q vc) (vers.take q)) => enVersion ⟨nm, cur, nxt, vers.take q⟩ (.agg #[.string nm, .int .i64 cur, .int .i64 nxt, .slice va q vc]) no u ⟨hbd, _, rfl, hu⟩ htl)
  have HVR := Lib.hid (fun u (hu : IsVrs u (.slice va q vc) (vers.take q)) => refVersion ⟨nm, cur, nxt, vers.take q⟩ (.agg #[.string nm, .int .i64 cur, .int .i64 nxt, .slice va q vc]) no u ⟨hbd, _, rfl, hu⟩ htl)
  generalize verIs ⟨nm, cur, nxt, vers.take q⟩ no = R at *
  generalize vers.take q = vers' at *
  have HK := Lib.hid hk2; have HB := Lib.hid hB; have HW1 := Lib.hid hw1
  clear hk hk2 hB hw1 w0 w1 w3 hm hbd htl hq3
  go_enter Try.func4, Try.ntmps4
  go_upto_region 1 with fail
  obtain ⟨w2, hW⟩ : ∃ w2, w.alloc (.cells #[.string nm, .int .i64 cur, .int .i64 nxt, .slice va m vc] 36) = w2 := ⟨_, rfl⟩
  rw [hW] at HB HW1 ⊢
  clear hW
  have HFW := Lib.hid (enFewR l0 v0 w w2 HEN0.out HW1.out)
  have hl20 := fewE_len l0
  generalize fewE l0 = L at *
  go_wp2_with fail
  refine HFW.out.mono ?_
  rintro e w3 ⟨v3, xs, rfl, hrow, hown, hb3⟩
  have HROW := Lib.hid hrow; have HOWN := Lib.hid hown
  have HB3 := Lib.hid ((hb3.block _ (lt_of_block HB.out)).trans HB.out)
  have HW3 := Lib.hid (HW1.out.trans (hb3.mono HW1.out.size))
  have hE2 : w.heap.size < w2.heap.size := lt_of_block HB.out
  have HSZ := Lib.hid hb3.size
  obtain ⟨A, cap, rfl, hc1, hc2, _⟩ := own_formS hown
  clear hb3 HFW hc1 hc2 HB HW1 HEN0 hrow hown
  have c3 := below_cell (Below.refl _ w3) HB3.out 3 rfl
  have f3 := block_frozen HB3.out 3
  have HB4 := Lib.hid (block_set HB3.out 3 (.slice va q vc))
  have HW4 := Lib.hid (HW3.out.setCell (p := ⟨w.heap.size, 3, none⟩) (Nat.le_refl _) (.slice va q vc))
  have HO4 := Lib.hid (ownsRow_setCell_below (a := ⟨w.heap.size, 3, none⟩) HOWN.out hE2 (.slice va q vc))
  clear HOWN HB3 HW3
  go_upto_region 3 with fail
  obtain ⟨w4, hW⟩ : ∃ w4, w3.setCell ⟨w.heap.size, 3, none⟩ (.slice va q vc) = w4 := ⟨_, rfl⟩
  have hz4 : w4.heap.size = w3.heap.size := by rw [← hW, World.size_setCell]
  rw [hW] at HB4 HW4 HO4 ⊢
  clear hW c3 f3
  have HEN := Lib.hid (HROW.out.reads HO4.out rfl HW4.out)
  have HK4 := Lib.hid (HK.out.below HW4.out)
  clear HROW HO4 HK hz4 HSZ
  have q0 := below_cell (Below.refl _ w4) HB4.out 0 rfl
  have q1 := below_cell (Below.refl _ w4) HB4.out 1 rfl
  have q2 := below_cell (Below.refl _ w4) HB4.out 2 rfl
  have q3 := below_cell (Below.refl _ w4) HB4.out 3 rfl
  go_wp2_with fail
  refine (HVE.out _ HK4.out).mono ?_
  rintro e w5 ⟨rfl, hb5⟩
  have HB5 := Lib.hid ((hb5.block _ (lt_of_block HB4.out)).trans HB4.out)
  have HW5 := Lib.hid (HW4.out.trans (hb5.mono HW4.out.size))
  have HEN5 := Lib.hid (HEN.out.below hb5)
  have HK5 := Lib.hid (HK4.out.below hb5)
  clear q0 q1 q2 q3 hb5 HB4 HW4 HEN HK4 HVE
  have q0 := below_cell (Below.refl _ w5) HB5.out 0 rfl
  have q1 := below_cell (Below.refl _ w5) HB5.out 1 rfl
  have q2 := below_cell (Below.refl _ w5) HB5.out 2 rfl
  have q3 := below_cell (Below.refl _ w5) HB5.out 3 rfl
  have hend : ∀ (x : Nat × Bool), x = x → True := fun _ _ => trivial
  clear hend
  have HRS := Lib.hid (fun u hu => refRise L (.slice A L.length cap) u hu (by omega))
  have HFI := Lib.hid (fun u hu hr => enFind L (.slice A L.length cap) name u hu (by omega) hr)
  have HFR := Lib.hid (fun u hu => refFind L (.slice A L.length cap) name u hu (by omega))
  obtain ⟨n, hn⟩ : ∃ n, L.length = n := ⟨_, rfl⟩
  rw [hn] at HEN5 HRS HFI HFR ⊢
  obtain ⟨b, hb⟩ : ∃ b, risesN none L = b := ⟨_, rfl⟩
  have HBB := Lib.hid hb
  rw [hb] at HRS
  clear hb hn hl20
  obtain ⟨⟨x, y⟩, hxy⟩ : ∃ x, findE name L 0 = x := ⟨_, rfl⟩
  rw [hxy] at HFI HFR
  simp only at HFI HFR
  clear hxy
  rcases R with _ | k
  all_goals
    simp only [verVal] at HVR ⊢
    go_wp2_with fail
    refine (HVR.out _ HK5.out).mono ?_
    rintro e w6 ⟨rfl, hb6⟩
    have HW6 := Lib.hid (HW5.out.trans (hb6.mono HW5.out.size))
    have HEN6 := Lib.hid (HEN5.out.below hb6)
    clear q0 q1 q2 q3 hb6 HB5 HW5 HEN5 HK5 HVR
    go_wp2_with fail
    refine (HAL.out _).mono ?_
    rintro e w7 ⟨rfl, hb7⟩
    have HW7 := Lib.hid (HW6.out.trans (hb7.mono HW6.out.size))
    have HEN7 := Lib.hid (HEN6.out.below hb7)
    clear hb7 HW6 HEN6
    go_wp2_with fail
    refine (HRS.out _ HEN7.out).mono ?_
    rintro e w8 ⟨rfl, hb8⟩
    have HW8 := Lib.hid (HW7.out.trans (hb8.mono HW7.out.size))
    have HEN8 := Lib.hid (HEN7.out.below hb8)
    clear hb8 HW7 HEN7 HRS
    cases b with
    | false =>
      go_wp2_with fail
      go_ret
      exact ⟨rfl, HW8.out⟩
    | true =>
      go_wp2_with fail
      refine (HFI.out _ HEN8.out HBB.out).mono ?_
      rintro e w9 ⟨rfl, hb9⟩
      have HW9 := Lib.hid (HW8.out.trans (hb9.mono HW8.out.size))
      have HEN9 := Lib.hid (HEN8.out.below hb9)
      clear hb9 HW8 HEN8 HFI
      go_wp2_with fail
      refine (HFR.out _ HEN9.out).mono ?_
      rintro e w10 ⟨rfl, hb10⟩
      have HW10 := Lib.hid (HW9.out.trans (hb10.mono HW9.out.size))
      clear hb10 HW9 HEN9 HFR
      cases y <;>
        (go_wp2_with fail
         go_ret
         exact ⟨rfl, HW10.out⟩)
end Go.Proofs.Ytfpfcjgdihlieaa.lawEntryFinds
