/- The walk of BlobLays. -/
import Derived.Test.YtgglejicbojiaaaDoorBl4
import Derived.Test.YtgglejicbojiaaaDoorBl5
import Derived.Test.YtgglejicbojiaaaDoorRef03W
import Derived.Test.YtgglejicbojiaaaDoorRoomR
import Derived.Outline
namespace Go.Proofs.YtgglejicbojiaaaDoor.lawBlobLays
open Go.RowKit
set_option linter.unusedVariables false

set_option maxRecDepth 100000 in
set_option maxHeartbeats 2000000 in
theorem walk (v0 : Value) (l0 : List Bool) (d0 : ByteArray) (n0 : Int) (w : World) (w0 : IsBools w v0 l0) (w1 : d0.size ≤ maxLen) (w2 : (Lit.int .i64 n0).wf = true) :
    Calls Tryd.prog 3 #[v0, .string d0, .int .i64 n0] w fun e w' => e = .returned (.bool true) ∧ Below w.heap.size w w' := by
  have hwn := wf_i64 w2
  have hs0 : d0.size ≤ 9223372036854775807 := w1
  clear w1 w2
  obtain ⟨p, len, cap, rfl, hlen, hc1, hc2, htk⟩ := w0.take
  obtain ⟨m, hm, hm1, hm2, hm3⟩ := min_if len 300 (by omega)
  have hmi : min (len : Int) 300 = m := by omega
  obtain ⟨q, hq, hq1, hq2, hq3⟩ := min_if d0.size 21000 (by omega)
  have hqi : min (d0.size : Int) 21000 = q := by omega
  have hl := htk m hm1
  have hdz := extract0_size d0 q hq1
  obtain ⟨z, hz⟩ : ∃ z : Int, z = min n0 1099511627776 := ⟨_, rfl⟩
  have hz1 : (if (1099511627776 : Int) < n0 then (1099511627776 : Int) else n0) = z := by split <;> omega
  have hz2 : min n0 (1099511627776 : Int) = z := hz.symm
  have hz3 : z ≤ 1099511627776 := by omega
  have hz4 : -9223372036854775808 ≤ z := by omega
  have hmI : (m : Int) ≤ len := by omega
  have hlc : (len : Int) ≤ cap := by omega
  have hcI : (cap : Int) ≤ 9223372036854775807 := by omega
  have hqI : (q : Int) ≤ d0.size := by omega
  generalize l0.take m = l at *
  have HL0 := Lib.hid hl; have HDZ := Lib.hid hdz
  clear hl hdz hz htk w0 hlen hwn hm3 hq3
  go_enter Tryd.func3, Tryd.ntmps3
  go_wp2_with fail
  go_quiet (fail)
  go_upto_region 3 with fail
  have hl1 : IsBools (w.drewN nq) (.slice p m cap) l := HL0.out
  have hbw : Below w.heap.size w (w.drewN nq) := below_drewN (Below.refl _ w) nq
  have hd3 : (d0.extract 0 q).size ≤ 30000 := by rw [HDZ.out]; omega
  have hdI3 : ((d0.extract 0 q).size : Int) ≤ 30000 := by omega
  generalize d0.extract 0 q = d at *
  generalize w.drewN nq = wa at *
  have hsz : wa.heap.size = wa.heap.size := rfl
  have HLA := Lib.hid (fun u hu => blobLay_any (.slice p m cap) l d u hu hd3)
  have HRE := Lib.hid (fun u hu => refLay_any (.slice p m cap) l d u hu hd3)
  have HLE := Lib.hid hl1; have HBW := Lib.hid hbw
  have HN1 := Lib.hid (fun u => blobNeed_any z u (by omega))
  have HN2 := Lib.hid (fun u => blobNeed_any d.size u (by omega))
  rw [needZ_nat] at HN2
  have HPA := Lib.hid (fun u => refParts_any d u hd3)
  have hpl := partsL_len d
  have HPL := Lib.hid hpl
  generalize layE l d = E at *
  generalize layT l d = R at *
  clear hl1 hbw hsz HL0 HDZ hpl
  go_upto_region 5 with (first | (go_at_call 5; refine (HLA.out _ HLE.out).mono ?_; rintro e w3 ⟨va, vb, rfl, hva, hvb, hb3⟩; have hl4 := HLE.out.below hb3) | (go_at_call 6; refine (HRE.out _ hl4).mono ?_; rintro e w4 ⟨vc, vd, rfl, hvc, hvd, hb4⟩))
  have hva4 := hva.below hb4
  have hvb4 := hvb.below hb4
  have hb5 := (HBW.out.trans (hb3.mono HBW.out.size)).trans (hb4.mono (Nat.le_trans HBW.out.size hb3.size))
  clear hva hvb hb3 hb4 hl4 HLA HRE HLE HBW
  generalize R.2.getD 0 0 = H at *
  have HS := Lib.hid (fun u (hb : Below w4.heap.size w4 u) => refSame_any va vc R.1 R.1 u (hva4.below hb) (hvc.below hb))
  have HLW := Lib.hid (fun u (hb : Below w4.heap.size w4 u) => refLikeWrites_any vb vd (wrtsL R.2 d) (wrtsL R.2 d) u (hvb4.below hb) (hvd.below hb))
  rw [decide_eq_true (rfl : R.1 = R.1)] at HS
  rw [decide_eq_true (rfl : wrtsL R.2 d = wrtsL R.2 d)] at HLW
  obtain ⟨x1, x2, x3, rfl, _⟩ := hva4
  obtain ⟨y1, y2, y3, rfl, _⟩ := hvb4
  obtain ⟨z1, z2, z3, rfl, _⟩ := hvc
  obtain ⟨u1, u2, u3, rfl, _⟩ := hvd
  have HB5 := Lib.hid hb5
  clear hb5
  go_upto_region 6 with fail
  have hnz : (if z > 500 then (z - 1) / 500 + 1 else 1) = needZ z := by unfold needZ; split <;> split <;> omega
  have HNZ := Lib.hid hnz
  clear hnz
  go_upto_if 45 with fail
  go_cut [15] from 46 to 49 (fun v wx => v = .int .i64 (needZ z) ∧ wx = w4)
  case first =>
    by_cases hz5 : 500 < z
    · have hnz := HNZ.out
      rw [if_pos hz5] at hnz
      have HNZ2 := Lib.hid hnz
      clear hnz HNZ HS HLW HN1 HN2 HPA
      go_wp2_with fail
      go_meet
      exact ⟨by rw [← HNZ2.out], rfl⟩
    · have hnz := HNZ.out
      rw [if_neg hz5] at hnz
      have hz6 : z ≤ 500 := by omega
      have HNZ2 := Lib.hid hnz
      clear hnz HNZ HS HLW HN1 HN2 HPA
      go_wp2_with fail
      go_meet
      exact ⟨by rw [← HNZ2.out], rfl⟩
  case rest =>
  obtain ⟨rfl, rfl⟩ := hcut
  clear HNZ
  generalize needZ z = NZ at *
  generalize needN d.size = ND at *
  have b0 := Below.refl wc.heap.size wc
  go_wp2_with (first
    | (go_at_call 7; refine (blobAlive _).mono ?_; rintro e w5 ⟨rfl, hb5⟩; have b5 := b0.trans (hb5.mono b0.size))
    | (go_at_call 8; refine (HS.out _ b5).mono ?_; rintro e w6 ⟨rfl, hb6⟩; have b6 := b5.trans (hb6.mono b5.size))
    | (go_at_call 9; refine (HLW.out _ b6).mono ?_; rintro e w7 ⟨rfl, hb7⟩; have b7 := b6.trans (hb7.mono b6.size))
    | (go_at_call_of 10 z; refine (HN1.out _).mono ?_; rintro e w8 ⟨rfl, rfl⟩)
    | (go_at_call_of 10 d; refine (HN2.out _).mono ?_; rintro e w8 ⟨rfl, rfl⟩)
    | (go_at_call 11; refine (HPA.out _).mono ?_; rintro e w9 ⟨vp, rfl, ⟨a9, n9, c9, rfl, hl9, _⟩, hb9⟩; have b9 := b7.trans (hb9.mono b7.size); rw [HPL.out] at hl9; subst hl9))
  go_ret
  exact ⟨rfl, HB5.out.trans (b9.mono HB5.out.size)⟩
end Go.Proofs.YtgglejicbojiaaaDoor.lawBlobLays
