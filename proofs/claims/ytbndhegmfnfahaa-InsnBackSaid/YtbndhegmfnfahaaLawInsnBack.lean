/- The walk of InsnBack. -/
import Derived.Test.YtbndhegmfnfahaaInsnMath
import Derived.Outline
namespace Go.Proofs.Ytbndhegmfnfahaa.lawInsnBack
open Go.RowKit
set_option linter.unusedVariables false

set_option maxRecDepth 100000 in
set_option maxHeartbeats 1000000 in
theorem walk (v0 : Value) (l0 : List Ins) (s : ByteArray) (w : World) (w0 : IsInsns w v0 l0) (w1 : s.size ≤ maxLen) :
    Calls Try.prog 14 #[v0, .string s] w fun e w' => e = .returned (.bool true) ∧ Below w.heap.size w w' := by
  obtain ⟨a, len, cap, rfl, hlen, hc1, hc2, htk⟩ := w0.take
  have hl := htk (fewN len) (fewN_le len)
  have HF := Lib.hid (fun u => insnFew_at a len cap u hc1 hc2)
  have hn1 := fewN_le len
  have hn2 : fewN len ≤ 4100 := by unfold fewN; split <;> omega
  obtain ⟨m, hm, hms, hm3, hmm⟩ := min_if s.size 3000 (by omega)
  have hmi : min (s.size : Int) 3000 = m := by omega
  unfold maxLen at w1
  have hmI : (m : Int) ≤ s.size := by omega
  generalize fewN len = n at *
  generalize l0.take n = l at *
  have HL := Lib.hid hl
  have hll : l.length = n := by obtain ⟨_, _, _, h, h2, _⟩ := hl; injection h with _ h3 _; omega
  have HLL := Lib.hid hll
  have hlb : ∀ i ∈ l, i.bounded := by obtain ⟨_, _, _, _, _, _, _, h, _⟩ := hl; exact h
  have HLB := Lib.hid hlb
  have HM := Lib.hid hm
  clear hl htk w0 hlen hll hlb hm hmm
  go_enter Try.func14, Try.ntmps14
  go_wp2_with fail
  refine wp_region_keep (w0 := w) (by kernel_rfl) (by kernel_rfl) (Below.refl _ _) ?_
  repeat (go_big_quiet_step ((first | (go_at_call 49; exact keepSame (HF.out _)))))
  refine wpQuiet_nil ?_
  intro _ hw'
  obtain ⟨x, rfl⟩ := hw'
  have hz := x.below
  generalize x.val = wz at *
  clear x
  have hl2 := HL.out.below hz
  have HL2 := Lib.hid hl2
  have HL1 := HL
  clear hl2 HL
  go_wp2_with fail
  go_loopw [5, 25] (fun b c wr => ∃ k : Nat, k ≤ n ∧ c = .int .i64 k ∧ b = .bool (allKn (l.take k)) ∧ Below w.heap.size w wr) (fun _ c _ => n - (intOf c).toNat)
  case atStart => exact ⟨0, by omega, rfl, rfl, hz⟩
  case round =>
    clear HL2 hz
    obtain ⟨k, hk, rfl, rfl, hwr⟩ := hrel
    by_cases hlt : k < n
    · have hl2 := HL1.out.below hwr
      obtain ⟨_, _, _, hv, _, _, _, _, hat⟩ := hl2
      injection hv with hv1 hv2 hv3
      subst hv1 hv2 hv3
      obtain ⟨b, off, rfl, hb, hat⟩ := hat.resolve_left (by omega)
      obtain ⟨c0, c1, c2, c3⟩ := hat k hlt
      have hsn : allKn (l.take (k + 1)) = (allKn (l.take k) && insKnown (l.getD k insZ).code) := by
        have hkl : k < l.length := by have := HLL.out; omega
        rw [← List.take_append_getElem hkl, allKn, List.all_append]
        simp [allKn, List.getD, hkl]
      clear hat
      generalize allKn (l.take k) = B at *
      obtain ⟨x, ex⟩ : ∃ x, x = l.getD k insZ := ⟨_, rfl⟩
      rw [← ex] at c0 c1 c2 c3 hsn
      clear ex
      obtain ⟨xc, xt, xf, xk⟩ := x
      dsimp only at c0 c1 c2 c3 hsn
      cases B
      · have HSN := Lib.hid hsn
        clear hsn
        go_wp2_with fail
        go_roundw
        case rel => exact ⟨k + 1, by omega, by go_num, by rw [HSN.out]; rfl, hwr.alloc hwr.size _⟩
        case measure => simp [intOf]; omega
      · have HSN := Lib.hid hsn
        clear hsn
        go_wp2_with fail
        refine (insnKnown_any xc _).mono ?_
        rintro e w2 ⟨rfl, hb2⟩
        generalize insKnown xc = C at *
        have hw2 := (hwr.alloc hwr.size (.cells #[.int .i64 xc, .int .i64 xt, .int .i64 xf, .int .u32 xk] 55)).trans (hb2.mono (by have := hwr.size; simp; omega))
        clear hb2 c0 c1 c2 c3
        go_wp2_with fail
        go_roundw
        case rel => exact ⟨k + 1, by omega, by go_num, by rw [HSN.out]; rfl, hw2⟩
        case measure => simp [intOf]; omega
    · obtain rfl : k = n := by omega
      have hkn : l.take k = l := List.take_of_length_le (by have := HLL.out; omega)
      rw [hkn]
      clear hkn
      have hall := insnAll_any l _ wr (HL1.out.below hwr)
      have HRA := Lib.hid (fun h => read_all l h HLB.out)
      generalize allKn l = B at *
      obtain ⟨SA, eS⟩ : ∃ S, S = insAllS l := ⟨_, rfl⟩
      obtain ⟨EA, eE⟩ : ∃ E, E = insAllE l := ⟨_, rfl⟩
      rw [← eS, ← eE] at hall
      rw [← eS, ← eE] at HRA
      clear eS eE
      have HALL := Lib.hid hall
      clear hall
      go_wp2_with fail
      refine (keep hwr HALL.out).mono ?_
      rintro e w2 ⟨rfl, hw2⟩
      have hIs := HL1.out.below hw2
      have HIS := Lib.hid hIs
      clear hIs hwr HALL
      have HT : Hid (insReadE (s.extract 0 m) = 0 → insAllE (insReadL (s.extract 0 m)) = 0 ∧ insAllS (insReadL (s.extract 0 m)) = s.extract 0 m) := Lib.hid (all_read (s.extract 0 m))
      have HTE : Hid (insReadE (s.extract 0 m) = 0 ∨ (insReadE (s.extract 0 m) = 2 ∧ insReadL (s.extract 0 m) = []) ∨ (insReadE (s.extract 0 m) = 50 ∧ insReadL (s.extract 0 m) = [])) := Lib.hid (readE_cases _)
      have HTB := Lib.hid (insReadL_bounded (s.extract 0 m))
      have HRD := Lib.hid (fun u => insnRead_any (s.extract 0 m) u (by rw [ByteArray.size_extract]; omega))
      unfold ReadPost at HRD
      generalize insReadE (s.extract 0 m) = E3 at *
      generalize insReadL (s.extract 0 m) = L3 at *
      have HLI := HL1
      clear HL1
      by_cases hEA : EA = 0
      · subst hEA
        obtain ⟨hS, hR, hRL⟩ := HRA.out rfl
        have hSz : SA.size = 8 * k := by rw [hS, allB_size, HLL.out]
        have HRS := Lib.hid (fun u => insnRead_any SA u (by omega))
        unfold ReadPost at HRS
        rw [← hS] at hR hRL
        generalize insReadE SA = E2 at *
        generalize insReadL SA = L2 at *
        have hz8 : ((SA.size : Int) != 8 * (k : Int)) = false := by rw [bne_eq_false_iff_eq]; omega
        clear hS hSz HRA
        cases B
        · obtain rfl : E2 = 50 := hR
          clear hRL
          go_wp2_with fail
          refine (HRS.out _).mono ?_
          rintro e w3 ⟨v2, rfl, hown, hb3⟩
          have hw3 := hw2.trans (hb3.mono hw2.size)
          clear hown hb3 hw2 HIS HRS
          go_wp2_with fail
          have hwc := hw3
          have HWX := Lib.hid hwc
          clear hwc
          refine (HRD.out _).mono ?_
          rintro e w5 ⟨v3, rfl, hown3, hb5⟩
          have hw5 := HWX.out.trans (hb5.mono HWX.out.size)
          have hIs3 := hown3.reads HTB.out
          clear hown3 hb5 hw3 HRD HWX
          rcases HTE.out with rfl | ⟨rfl, rfl⟩ | ⟨rfl, rfl⟩
          · obtain ⟨hE3, hS3⟩ := HT.out rfl
            have hall3 := insnAll_any L3 _ w5 hIs3
            rw [hE3, hS3] at hall3
            have HALL3 := Lib.hid hall3
            clear hall3 hE3 hS3 hIs3 HT HTE
            go_wp2_with fail
            refine (keep hw5 HALL3.out).mono ?_
            rintro e w6 ⟨rfl, hw6⟩
            go_wp2_with fail
            refine (keep hw6 (insnAlive _)).mono ?_
            rintro e w7 ⟨rfl, hw7⟩
            go_wp2_with fail
            go_ret
            exact ⟨rfl, hw7⟩
          all_goals
            obtain ⟨a3, len3, cap3, rfl, hlen3, _, _, _, _⟩ := hIs3
            obtain rfl : len3 = 0 := hlen3.symm
            go_wp2_with fail
            refine (keep hw5 (insnAlive _)).mono ?_
            rintro e w7 ⟨rfl, hw7⟩
            go_wp2_with fail
            go_ret
            exact ⟨rfl, hw7⟩
        · obtain rfl : E2 = 0 := hR
          obtain rfl := hRL rfl
          go_wp2_with fail
          refine (HRS.out _).mono ?_
          rintro e w3 ⟨v2, rfl, hown, hb3⟩
          have hw3 := hw2.trans (hb3.mono hw2.size)
          have hlk := refLike_any _ _ _ _ w3 (HIS.out.below hb3) (hown.reads HLB.out)
          rw [decide_eq_true rfl] at hlk
          have HLK := Lib.hid hlk
          clear hown hb3 hw2 HIS HRS hlk
          go_wp2_with fail
          refine (keep hw3 HLK.out).mono ?_
          rintro e w4 ⟨rfl, hw4⟩
          clear hw3 HLK
          go_wp2_with fail
          have hwc := hw4
          have HWX := Lib.hid hwc
          clear hwc
          refine (HRD.out _).mono ?_
          rintro e w5 ⟨v3, rfl, hown3, hb5⟩
          have hw5 := HWX.out.trans (hb5.mono HWX.out.size)
          have hIs3 := hown3.reads HTB.out
          clear hown3 hb5 hw4 HRD HWX
          rcases HTE.out with rfl | ⟨rfl, rfl⟩ | ⟨rfl, rfl⟩
          · obtain ⟨hE3, hS3⟩ := HT.out rfl
            have hall3 := insnAll_any L3 _ w5 hIs3
            rw [hE3, hS3] at hall3
            have HALL3 := Lib.hid hall3
            clear hall3 hE3 hS3 hIs3 HT HTE
            go_wp2_with fail
            refine (keep hw5 HALL3.out).mono ?_
            rintro e w6 ⟨rfl, hw6⟩
            go_wp2_with fail
            refine (keep hw6 (insnAlive _)).mono ?_
            rintro e w7 ⟨rfl, hw7⟩
            go_wp2_with fail
            go_ret
            exact ⟨rfl, hw7⟩
          all_goals
            obtain ⟨a3, len3, cap3, rfl, hlen3, _, _, _, _⟩ := hIs3
            obtain rfl : len3 = 0 := hlen3.symm
            go_wp2_with fail
            refine (keep hw5 (insnAlive _)).mono ?_
            rintro e w7 ⟨rfl, hw7⟩
            go_wp2_with fail
            go_ret
            exact ⟨rfl, hw7⟩
      · have hEB : (EA == 0) = false := by rw [beq_eq_false_iff_ne]; exact hEA
        clear hEA HRA HIS
        go_wp2_with fail
        have hwc := hw2
        have HWX := Lib.hid hwc
        clear hwc
        refine (HRD.out _).mono ?_
        rintro e w5 ⟨v3, rfl, hown3, hb5⟩
        have hw5 := HWX.out.trans (hb5.mono HWX.out.size)
        have hIs3 := hown3.reads HTB.out
        clear hown3 hb5 hw2 HRD HWX
        rcases HTE.out with rfl | ⟨rfl, rfl⟩ | ⟨rfl, rfl⟩
        · obtain ⟨hE3, hS3⟩ := HT.out rfl
          have hall3 := insnAll_any L3 _ w5 hIs3
          rw [hE3, hS3] at hall3
          have HALL3 := Lib.hid hall3
          clear hall3 hE3 hS3 hIs3 HT HTE
          go_wp2_with fail
          refine (keep hw5 HALL3.out).mono ?_
          rintro e w6 ⟨rfl, hw6⟩
          go_wp2_with fail
          refine (keep hw6 (insnAlive _)).mono ?_
          rintro e w7 ⟨rfl, hw7⟩
          go_wp2_with fail
          go_ret
          exact ⟨rfl, hw7⟩
        all_goals
          obtain ⟨a3, len3, cap3, rfl, hlen3, _, _, _, _⟩ := hIs3
          obtain rfl : len3 = 0 := hlen3.symm
          go_wp2_with fail
          refine (keep hw5 (insnAlive _)).mono ?_
          rintro e w7 ⟨rfl, hw7⟩
          go_wp2_with fail
          go_ret
          exact ⟨rfl, hw7⟩
end Go.Proofs.Ytbndhegmfnfahaa.lawInsnBack
