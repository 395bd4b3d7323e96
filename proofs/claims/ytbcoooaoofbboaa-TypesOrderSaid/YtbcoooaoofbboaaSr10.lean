/- slices.pdqsortOrdered, slices.Sort at numbers of 32 bits. -/
import Derived.Test.YtbcoooaoofbboaaSr5
import Derived.Test.YtbcoooaoofbboaaSr6
import Derived.Test.YtbcoooaoofbboaaSr8
import Derived.Test.YtbcoooaoofbboaaSr9
import Derived.Sort.Walk13a
import Derived.WalkMore
namespace Go.Proofs.Ytbcoooaoofbboaa
open Go.RowKit Go.Sort
set_option linter.unusedVariables false
set_option linter.unusedSimpArgs false

def PdqAt (g : Nat) (w0 : World) (n cap N : Nat) : Prop := ∀ (a b limit : Nat) (d : Array Int) (wr : World), b - a ≤ N → Srt w0 g d wr → d.size = n → a ≤ b → b ≤ n → Go.Sort.Below ltInt a b d → limit ≤ 100 →
  Calls Try.prog 49 #[.slice (some ⟨g, 0, none⟩) n cap, .int .i64 a, .int .i64 b, .int .i64 limit] wr fun e w' => e = .returned (.tuple #[]) ∧ Srt w0 g (pdq ltInt d a b limit true true) w'
set_option maxRecDepth 100000 in
set_option maxHeartbeats 8000000 in
theorem srPdq_step (g : Nat) (w0 : World) (n cap N : Nat) (hsz : n ≤ 1000000) (ih : ∀ M, M < N → PdqAt g w0 n cap M) : PdqAt g w0 n cap N := by
  intro a0 b0 limit d wr hN hS hn hab0 hb0 hB0 hlim
  obtain ⟨Q, hQ⟩ : ∃ Q, pdq ltInt d a0 b0 limit true true = Q := ⟨_, rfl⟩
  rw [hQ]
  have HQ := Lib.hid hQ; have HS := Lib.hid hS; have HN := Lib.hid hn; have HB := Lib.hid hB0; have IH := Lib.hid ih
  have hnI : (n : Int) ≤ 1000000 := by omega
  clear hS hn hQ hB0 ih
  go_enter Try.func49, Try.ntmps49
  go_wp2_with fail
  go_loopw [1, 2, 3, 8, 9] (fun z1 z2 z3 z8 z9 wr => ∃ (a b lim : Nat) (wb wp : Bool) (dk : Array Int), z1 = .int .i64 (a : Int) ∧ z2 = .int .i64 (b : Int) ∧ z3 = .int .i64 (lim : Int) ∧ z8 = .bool wb ∧ z9 = .bool wp ∧ b - a ≤ N ∧ a ≤ b ∧ b ≤ n ∧ lim ≤ 100 ∧ Hid (dk.size = n) ∧ Hid (Srt w0 g dk wr) ∧ Hid (Go.Sort.Below ltInt a b dk) ∧ Hid (pdq ltInt dk a b lim wb wp = Q)) (fun z1 z2 _ _ _ _ => (intOf z2).toNat - (intOf z1).toNat)
  case atStart => exact ⟨a0, b0, limit, true, true, d, rfl, rfl, rfl, rfl, rfl, hN, hab0, hb0, hlim, HN, HS, HB, HQ⟩
  case round =>
    clear HN HS HB HQ hN hab0 hb0 hlim
    obtain ⟨a, b, lim, wb, wp, dk, rfl, rfl, rfl, rfl, rfl, hN, hab, hb, hlim, HN, HS, HB, HQ⟩ := hrel
    obtain ⟨l, hl⟩ : ∃ l, b - a = l := ⟨_, rfl⟩
    have hlI : (b : Int) - (a : Int) = (l : Int) := by omega
    by_cases h12 : l ≤ 12
    · have h12I : (l : Int) ≤ 12 := by omega
      have hc := srIns g w0 dk n cap a b _ HS.out HN.out hb (by omega) hsz
      have hq : insertionSort ltInt dk a b = Q := by rw [← HQ.out, pdq_small (by omega)]
      rw [hq] at hc
      have HC := Lib.hid hc
      clear hc hq
      go_wp2_with (first | (go_at_call 56; refine HC.out.mono ?_; rintro e w9 ⟨rfl, hs9⟩))
      (try simp only [Exit.inBlock, Exit.then])
      refine bodyPost_ret (results_none rfl _ _ _) rfl ?_
      exact ⟨rfl, hs9⟩
    · have h12I : ¬ (l : Int) ≤ 12 := by omega
      by_cases hl0 : lim = 0
      · have hl0I : (lim : Int) = 0 := by omega
        have hl0B : ((lim : Int) == 0) = true := by rw [hl0I]; rfl
        have hc := srHeap g w0 dk n cap a b _ HS.out HN.out (by omega) hb hsz
        have hq : heapSort ltInt dk a b = Q := by rw [← HQ.out, pdq_heap (by omega) hl0]
        rw [hq] at hc
        have HC := Lib.hid hc
        subst hl0
        clear hc hq
        go_wp2_with (first | (go_at_call 57; refine HC.out.mono ?_; rintro e w9 ⟨rfl, hs9⟩))
        (try simp only [Exit.inBlock, Exit.then])
        refine bodyPost_ret (results_none rfl _ _ _) rfl ?_
        exact ⟨rfl, hs9⟩
      · have hl0I : ¬ (lim : Int) = 0 := by omega
        have hl0B : ((lim : Int) == 0) = false := by rw [beq_eq_false_iff_ne]; omega
        have hlimI : (lim : Int) ≤ 100 := by omega
        obtain ⟨R, hR⟩ : ∃ R, rd ltInt dk a b lim wb wp = R := ⟨_, rfl⟩
        have hf := rd_facts (limit := lim) (wb := wb) (wp := wp) swo_ltInt partialInsertionSort_holds reverseRange_holds (show a < b by omega) (by rw [HN.out]; exact hb) HB.out
        have hdone := pdq_done (lt := ltInt) (d := dk) (a := a) (b := b) (limit := lim) (wb := wb) (wp := wp) (by omega) hl0
        have heq := pdq_eq (lt := ltInt) (d := dk) (a := a) (b := b) (limit := lim) (wb := wb) (wp := wp) (by omega) hl0
        have hleft := pdq_left (lt := ltInt) (d := dk) (a := a) (b := b) (limit := lim) (wb := wb) (wp := wp) (by omega) hl0
        have hright := pdq_right (lt := ltInt) (d := dk) (a := a) (b := b) (limit := lim) (wb := wb) (wp := wp) (by omega) hl0
        have hlle := rd_lim_le (lt := ltInt) (d := dk) (a := a) (b := b) (limit := lim) (wb := wb) (wp := wp)
        have hdec := rd_dec (lt := ltInt) (d := dk) (a := a) (b := b) (limit := lim) (wb := wb) (wp := wp)
        have hnot := rd_not (lt := ltInt) (d := dk) (a := a) (b := b) (limit := lim) (wb := wb) (wp := wp)
        have hpy := rd_pi_yes (lt := ltInt) (d := dk) (a := a) (b := b) (limit := lim) (wb := wb) (wp := wp)
        have hpn := rd_pi_no (lt := ltInt) (d := dk) (a := a) (b := b) (limit := lim) (wb := wb) (wp := wp)
        have hcc := rd_c (lt := ltInt) (d := dk) (a := a) (b := b) (limit := lim) (wb := wb) (wp := wp)
        rw [hR] at hf hdone heq hleft hright hlle hdec hnot hpy hpn hcc
        rw [HQ.out] at hdone heq hleft hright
        rw [HN.out] at hf
        obtain ⟨s1, B1, c1, s2, B2, pv, s3, B3⟩ := hf
        have HDONE := Lib.hid hdone; have HEQ := Lib.hid heq; have HLEFT := Lib.hid hleft; have HRIGHT := Lib.hid hright
        have HDEC := Lib.hid hdec; have HNOT := Lib.hid hnot; have HPY := Lib.hid hpy; have HPN := Lib.hid hpn; have HCC := Lib.hid hcc
        have HS1 := Lib.hid s1; have HS2 := Lib.hid s2; have HS3 := Lib.hid s3; have HB3 := Lib.hid B3; have HRR := Lib.hid hR
        clear hdone heq hleft hright hdec hnot hpy hpn hcc s1 s2 s3 B1 B2 B3 hR HQ
        go_upto_if 35 with fail
        go_cut [3] (fun s3 wx => s3 = .int .i64 (R.lim : Int) ∧ Srt w0 g R.d1 wx)
        case first =>
          cases wb with
          | true =>
            have hh := rd_true (lt := ltInt) (d := dk) (a := a) (b := b) (limit := lim) (wp := wp)
            rw [HRR.out] at hh
            have HH := Lib.hid hh
            clear hh
            go_wp2_with fail
            go_meet
            exact ⟨by rw [HH.out.2], by rw [HH.out.1]; exact HS.out⟩
          | false =>
            have hh := rd_false (lt := ltInt) (d := dk) (a := a) (b := b) (limit := lim) (wp := wp)
            rw [HRR.out] at hh
            have HH := Lib.hid hh
            have hc := srBrk g w0 dk n cap a b _ HS.out HN.out (by omega) hb hsz
            have HC := Lib.hid hc
            clear hh hc
            have hl1 : (1 : Int) ≤ lim := by omega
            go_wp2_with (first | (go_at_call 58; refine HC.out.mono ?_; rintro e w9 ⟨rfl, hs9⟩))
            go_meet
            exact ⟨by rw [HH.out.2]; congr 1; omega, by rw [HH.out.1]; exact hs9⟩
        case rest =>
          obtain ⟨rfl, hs1⟩ := hcut
          clear HS HB
          have hcp := srPiv g w0 R.d1 n cap a b wc hs1 HS1.out (by omega) hb hsz
          rw [← HCC.out] at hcp
          have HCP := Lib.hid hcp
          clear hcp hs1
          go_upto_if 50 with (first | (go_at_call 59; refine HCP.out.mono ?_; rintro e w3 ⟨rfl, hs3⟩; have HSC := Lib.hid hs3; clear hs3))
          go_cut [11, 12] (fun s11 s12 wx => s11 = .int .i64 (R.pivot : Int) ∧ s12 = .int .i64 (hintZ R.hint) ∧ Srt w0 g R.d2 wx)
          case first =>
            by_cases hd : R.c.2 = .decreasing
            · have hdd := HDEC.out hd
              have hz : hintZ R.c.2 = 2 := by rw [hd]; rfl
              have hc := srRev g w0 R.d1 n cap a b _ HSC.out HS1.out (by omega) hb hsz
              have HC := Lib.hid hc; have HDD := Lib.hid hdd
              obtain ⟨cp, hcp⟩ : ∃ cp, R.c.1 = cp := ⟨_, rfl⟩
              rw [hcp] at c1
              have HCPE := Lib.hid hcp
              have hpz : ((b : Int) - 1) - ((cp : Int) - a) = (((b - 1) - (cp - a) : Nat) : Int) := by omega
              have hbb : (b : Int) ≤ n := by omega
              have hcb : (cp : Int) < b := by omega
              have hca : (a : Int) ≤ cp := by omega
              clear hc hdd hd
              go_wp2_with (first | (go_at_call 60; refine HC.out.mono ?_; rintro e w9 ⟨rfl, hs9⟩))
              go_meet
              exact ⟨by rw [HDD.out.2.1, HCPE.out], by rw [HDD.out.2.2]; rfl, by rw [HDD.out.1]; exact hs9⟩
            · have hdd := HNOT.out hd
              have hz : (hintZ R.c.2 == 2) = false := by
                rw [beq_eq_false_iff_ne]
                intro h
                apply hd
                cases hx : R.c.2 with
                | unknown => rw [hx] at h; exact absurd h (by decide)
                | increasing => rw [hx] at h; exact absurd h (by decide)
                | decreasing => rfl
              have HDD := Lib.hid hdd
              clear hdd hd
              go_wp2_with fail
              go_meet
              exact ⟨by rw [HDD.out.2.1], by rw [HDD.out.2.2], by rw [HDD.out.1]; exact HSC.out⟩
          case rest =>
            obtain ⟨rfl, rfl, hs2⟩ := hcut
            have HSD := Lib.hid hs2
            clear hs2 HSC HCP HDEC HNOT HCC
            obtain ⟨G, hG⟩ : ∃ G, (wb && wp && decide (R.hint = .increasing)) = G := ⟨_, rfl⟩
            have HG := Lib.hid hG
            have hpy := HPY.out
            have hpn := HPN.out
            rw [hG] at hpy hpn
            have HPY2 := Lib.hid hpy; have HPN2 := Lib.hid hpn
            clear hG hpy hpn HPY HPN
            go_upto_region 15 with fail
            go_cut [68] (fun s68 wx => s68 = .bool G ∧ Srt w0 g R.d2 wx)
            case first =>
              by_cases hi : R.hint = .increasing
              · have hz : hintZ R.hint = 1 := by rw [hi]; rfl
                have HG2 := Lib.hid (show (wb && wp) = G by rw [← HG.out, decide_eq_true hi, Bool.and_true])
                clear hi HG
                cases wb with
                | false =>
                  go_wp2_with fail
                  go_meet
                  exact ⟨by rw [← HG2.out]; rfl, HSD.out⟩
                | true =>
                  cases wp with
                  | false =>
                    go_wp2_with fail
                    go_meet
                    exact ⟨by rw [← HG2.out]; rfl, HSD.out⟩
                  | true =>
                    go_wp2_with fail
                    go_meet
                    exact ⟨by rw [← HG2.out]; rfl, HSD.out⟩
              · have hz : (hintZ R.hint == 1) = false := by
                  rw [beq_eq_false_iff_ne]
                  intro h
                  apply hi
                  cases hx : R.hint with
                  | unknown => rw [hx] at h; exact absurd h (by decide)
                  | decreasing => rw [hx] at h; exact absurd h (by decide)
                  | increasing => rfl
                have HG2 := Lib.hid (show false = G by rw [← HG.out, decide_eq_false hi, Bool.and_false])
                clear hi HG
                cases wb with
                | false =>
                  go_wp2_with fail
                  go_meet
                  exact ⟨by rw [← HG2.out], HSD.out⟩
                | true =>
                  cases wp with
                  | false =>
                    go_wp2_with fail
                    go_meet
                    exact ⟨by rw [← HG2.out], HSD.out⟩
                  | true =>
                    go_wp2_with fail
                    go_meet
                    exact ⟨by rw [← HG2.out], HSD.out⟩
            case rest =>
              obtain ⟨rfl, hs2⟩ := hcut
              have HSE := Lib.hid hs2
              clear hs2 HSD HG
              go_upto_if 68 with fail
              go_cut [] (fun wx => R.pi.2 = false ∧ Srt w0 g R.pi.1 wx)
              case first =>
                cases G with
                | false =>
                  have hp := HPN2.out rfl
                  have HP := Lib.hid hp
                  clear hp
                  go_wp2_with fail
                  go_meet
                  exact ⟨by rw [HP.out], by rw [HP.out]; exact HSE.out⟩
                | true =>
                  have hp := HPY2.out rfl
                  have hc := srPins g w0 R.d2 n cap a b _ HSE.out HS2.out (by omega) hb hsz
                  rw [← hp] at hc
                  have HC := Lib.hid hc
                  clear hp hc
                  cases h2 : R.pi.2 with
                  | true =>
                    have hq := HDONE.out h2
                    have HQ := Lib.hid hq
                    rw [h2] at HC
                    clear hq h2
                    go_wp2_with (first | (go_at_call 61; refine HC.out.mono ?_; rintro e w9 ⟨rfl, hs9⟩))
                    (try simp only [Exit.inBlock, Exit.then])
                    refine bodyPost_ret (results_none rfl _ _ _) rfl ?_
                    exact ⟨rfl, by rw [HQ.out]; exact hs9⟩
                  | false =>
                    rw [h2] at HC
                    have H2 := Lib.hid h2
                    clear h2
                    go_wp2_with (first | (go_at_call 61; refine HC.out.mono ?_; rintro e w9 ⟨rfl, hs9⟩))
                    go_meet
                    exact ⟨H2.out, hs9⟩
              case rest =>
                obtain ⟨hpi, hs2⟩ := hcut
                have HSF := Lib.hid hs2; have HPI := Lib.hid hpi
                clear hs2 hpi HSE HPY2 HPN2 HDONE
                obtain ⟨T, hT⟩ : ∃ T, (decide (a > 0) && !ltInt R.pi.1[a - 1]! R.pi.1[R.pivot]!) = T := ⟨_, rfl⟩
                have hle := HLEFT.out
                have hri := HRIGHT.out
                have heq := HEQ.out
                rw [hT] at hle hri heq
                have HLEFT := Lib.hid hle; have HRIGHT := Lib.hid hri; have HEQ := Lib.hid heq; have HT0 := Lib.hid hT
                clear hle hri heq hT
                go_upto_region 17 with fail
                go_cut [87] (fun s wx => s = .bool T ∧ Srt w0 g R.pi.1 wx)
                case first =>
                  by_cases ha0 : a = 0
                  · have haI : ¬ (0 : Int) < (a : Int) := by omega
                    have haD : decide ((0 : Int) < (a : Int)) = false := decide_eq_false haI
                    have haN : ¬ 0 < a := by omega
                    have haDn : decide (0 < a) = false := decide_eq_false haN
                    have hT2 : false = T := by rw [← HT0.out, decide_eq_false (by omega), Bool.false_and]
                    have HT2 := Lib.hid hT2
                    clear hT2 ha0
                    go_big_quiet (first | fail)
                    have hs9 := HSF.out.drewN nq
                    go_wp2_with fail
                    go_meet
                    exact ⟨by rw [← HT2.out], hs9⟩
                  · have haI : (0 : Int) < (a : Int) := by omega
                    have haN : 0 < a := by omega
                    obtain ⟨a1, ha1⟩ : ∃ a1, a - 1 = a1 := ⟨_, rfl⟩
                    have ha1I : (a : Int) - 1 = (a1 : Int) := by omega
                    rw [ha1, decide_eq_true (by omega), Bool.true_and] at HT0
                    have HA1 := Lib.hid ha1
                    have q0 := HSF.out.cell (t := a1) (by rw [HS3.out]; omega)
                    have q1 := HSF.out.cell (t := R.pivot) (by rw [HS3.out]; omega)
                    have k0 : (a1 : Int) < n := by omega
                    have k1 : (R.pivot : Int) < n := by omega
                    clear ha1 ha0
                    cases hL : ltInt R.pi.1[a1]! R.pi.1[R.pivot]! with
                    | false =>
                      have HT2 := Lib.hid (show true = T by rw [← HT0.out, hL]; rfl)
                      go_big_quiet (first | (go_at_call 62; refine Calls.quiet_of_same (srLess _ _ _)))
                      have hs9 := HSF.out.drewN nq
                      go_wp2_with fail
                      go_meet
                      exact ⟨by rw [← HT2.out], hs9⟩
                    | true =>
                      have HT2 := Lib.hid (show false = T by rw [← HT0.out, hL]; rfl)
                      go_big_quiet (first | (go_at_call 62; refine Calls.quiet_of_same (srLess _ _ _)))
                      have hs9 := HSF.out.drewN nq
                      go_wp2_with fail
                      go_meet
                      exact ⟨by rw [← HT2.out], hs9⟩
                case rest =>
                  obtain ⟨rfl, hs2⟩ := hcut
                  have HSG := Lib.hid hs2
                  clear hs2 HSF
                  cases T with
                  | true =>
                    have ha0 : 0 < a := by
                      have := HT0.out
                      rw [Bool.and_eq_true, decide_eq_true_eq] at this
                      exact this.1
                    have hnl : ltInt R.pi.1[a - 1]! R.pi.1[R.pivot]! = false := by
                      have := HT0.out
                      rw [Bool.and_eq_true, Bool.not_eq_true'] at this
                      exact this.2
                    obtain ⟨⟨mid, d4⟩, hx⟩ : ∃ r, partitionEqual ltInt R.pi.1 a b R.pivot = r := ⟨_, rfl⟩
                    obtain ⟨r1, r2, r3, r4, _⟩ := round_eq swo_ltInt (partitionEqual_holds ltInt) ha0 pv.1 pv.2 (by rw [HS3.out]; exact hb) HB3.out hnl hx
                    rw [HS3.out] at r3
                    have hc := srPartE g w0 R.pi.1 n cap a b R.pivot _ HSG.out HS3.out pv.1 pv.2 hb hsz
                    have hq := HEQ.out HPI.out rfl
                    rw [hx] at hc hq
                    have hq2 := (hq ⟨r1, r2⟩).symm
                    have HC := Lib.hid hc; have HQ2 := Lib.hid hq2; have HN4 := Lib.hid r3; have HB4 := Lib.hid r4
                    clear hc hq hq2 hx hnl r3 r4 HEQ HLEFT HRIGHT HT0
                    go_wp2_with (first | (go_at_call 63; refine HC.out.mono ?_; rintro e w8 ⟨rfl, hs8⟩; have HS8 := Lib.hid hs8; clear hs8))
                    exact ⟨⟨mid, b, R.lim, wb, wp, d4, rfl, rfl, rfl, rfl, rfl, by omega, by omega, hb, by omega, HN4, HS8, HB4, HQ2⟩, by simp [intOf]; omega⟩
                  | false =>
                    have HT : Hid (false = false) := Lib.hid rfl
                    clear HEQ HT0
                    obtain ⟨⟨mid, ap, d4⟩, hx⟩ : ∃ r, partition ltInt R.pi.1 a b R.pivot = r := ⟨_, rfl⟩
                    obtain ⟨r1, r2, r3, r4, r5, r6, r7⟩ := round_part swo_ltInt (partition_holds ltInt) pv.1 pv.2 (by rw [HS3.out]; exact hb) HB3.out hx
                    rw [HS3.out] at r3
                    have hc := srPart g w0 R.pi.1 n cap a b R.pivot _ HSG.out HS3.out pv.1 pv.2 hb hsz
                    have hle := HLEFT.out
                    have hri := HRIGHT.out
                    rw [hx] at hc hle hri
                    have HLEFT := Lib.hid hle; have HRIGHT := Lib.hid hri; have HC := Lib.hid hc
                    clear hc hle hri hx
                    have hmI : (a : Int) ≤ mid := by omega
                    have hmI2 : (mid : Int) < b := by omega
                    have hbI : (b : Int) ≤ n := by omega
                    have hl8 : (l : Int).tdiv 8 = (l : Int) / 8 := Int.tdiv_eq_ediv_of_nonneg (by omega)
                    by_cases h4 : mid - a < b - mid
                    · have h4I : (mid : Int) - a < (b : Int) - mid := by omega
                      have hq := HLEFT.out HPI.out HT.out ⟨r1, r2⟩ h4
                      have hps := (pdq_sorts ltInt) swo_ltInt d4 a mid R.lim true true (by omega) (by omega) r4
                      have hbn := (r6 _ hps.1 hps.2).1
                      have hsz4 : (pdq ltInt d4 a mid R.lim true true).size = n := hps.1.1.trans r3
                      obtain ⟨D, hD⟩ : ∃ D, pdq ltInt d4 a mid R.lim true true = D := ⟨_, rfl⟩
                      have hih : ∀ u, Srt w0 g d4 u → Calls Try.prog 49 #[.slice (some ⟨g, 0, none⟩) n cap, .int .i64 (a : Nat), .int .i64 (mid : Nat), .int .i64 (R.lim : Nat)] u fun e w' => e = .returned (.tuple #[]) ∧ Srt w0 g D w' := fun u hu => by
                        have := IH.out (mid - (a)) (by omega) a mid R.lim d4 u (Nat.le_refl _) hu r3 (by omega) (by omega) r4 (by omega)
                        rw [hD] at this
                        exact this
                      rw [hD] at hq hbn hsz4
                      have hwb : decide (mid - a ≥ (b - a) / 8) = decide ((l : Int) / 8 ≤ (mid : Int) - a) := by rw [decide_eq_decide]; omega
                      have HIH := Lib.hid hih; have HQ := Lib.hid hq.symm; have HBN := Lib.hid hbn; have HN4 := Lib.hid hsz4; have HWB := Lib.hid hwb
                      clear hq hps hbn hsz4 hD hih hwb r4 r5 r6 r7 HLEFT HRIGHT
                      go_wp2_with (first
                        | (go_at_call 64; refine HC.out.mono ?_; rintro e w8 ⟨rfl, hs8⟩; have HS8 := Lib.hid hs8; clear hs8)
                        | (go_at_call 49; refine (HIH.out _ HS8.out).mono ?_; rintro e w9 ⟨rfl, hs9⟩; have HS9 := Lib.hid hs9; clear hs9))
                      exact ⟨⟨mid + 1, b, R.lim, decide (mid - a ≥ (b - a) / 8), ap, D, by push_cast; rfl, rfl, rfl, by rw [HWB.out], rfl, by omega, by omega, hb, by omega, HN4, HS9, HBN, HQ⟩, by simp [intOf]; omega⟩
                    · have h4I : ¬ (mid : Int) - a < (b : Int) - mid := by omega
                      have hq := HRIGHT.out HPI.out HT.out ⟨r1, r2⟩ h4
                      have hps := (pdq_sorts ltInt) swo_ltInt d4 (mid + 1) b R.lim true true (by omega) (by omega) r5
                      have hbn := (r7 _ hps.1 hps.2).1
                      have hsz4 : (pdq ltInt d4 (mid + 1) b R.lim true true).size = n := hps.1.1.trans r3
                      obtain ⟨D, hD⟩ : ∃ D, pdq ltInt d4 (mid + 1) b R.lim true true = D := ⟨_, rfl⟩
                      have hih : ∀ u, Srt w0 g d4 u → Calls Try.prog 49 #[.slice (some ⟨g, 0, none⟩) n cap, .int .i64 ((mid : Int) + 1), .int .i64 (b : Int), .int .i64 (R.lim : Nat)] u fun e w' => e = .returned (.tuple #[]) ∧ Srt w0 g D w' := fun u hu => by
                        have := IH.out (b - ((mid + 1))) (by omega) (mid + 1) b R.lim d4 u (Nat.le_refl _) hu r3 (by omega) (by omega) r5 (by omega)
                        rw [hD] at this
                        exact this
                      rw [hD] at hq hbn hsz4
                      have hwb : decide (b - mid ≥ (b - a) / 8) = decide ((l : Int) / 8 ≤ (b : Int) - mid) := by rw [decide_eq_decide]; omega
                      have HIH := Lib.hid hih; have HQ := Lib.hid hq.symm; have HBN := Lib.hid hbn; have HN4 := Lib.hid hsz4; have HWB := Lib.hid hwb
                      clear hq hps hbn hsz4 hD hih hwb r4 r5 r6 r7 HLEFT HRIGHT
                      go_wp2_with (first
                        | (go_at_call 64; refine HC.out.mono ?_; rintro e w8 ⟨rfl, hs8⟩; have HS8 := Lib.hid hs8; clear hs8)
                        | (go_at_call 49; refine (HIH.out _ HS8.out).mono ?_; rintro e w9 ⟨rfl, hs9⟩; have HS9 := Lib.hid hs9; clear hs9))
                      exact ⟨⟨a, mid, R.lim, decide (b - mid ≥ (b - a) / 8), ap, D, rfl, rfl, rfl, by rw [HWB.out], rfl, by omega, by omega, by omega, by omega, HN4, HS9, HBN, HQ⟩, by simp [intOf]; omega⟩
theorem srPdq (g : Nat) (w0 : World) (n cap : Nat) (hsz : n ≤ 1000000) (N : Nat) : PdqAt g w0 n cap N := by
  induction N using Nat.strongRecOn with
  | _ N ih => exact srPdq_step g w0 n cap N hsz ih
set_option maxRecDepth 100000 in
/-- slices.Sort of a row: it rises. -/
theorem srSort (g : Nat) (w0 : World) (zs : List Int) (n cap : Nat) (wr : World) (hS : Srt w0 g zs.toArray wr) (hn : zs.length = n) (hsz : n ≤ 1000000) :
    Calls Try.prog 39 #[.slice (some ⟨g, 0, none⟩) n cap] wr fun e w' => e = .returned (.tuple #[]) ∧ Srt w0 g (zs.mergeSort fun x y => decide (x ≤ y)).toArray w' := by
  have hl : bitsLen n ≤ 20 := (bitsLen_le_iff n 20).2 (by omega)
  have hp := srPdq g w0 n cap hsz n 0 n (bitsLen n) zs.toArray wr (Nat.le_refl _) hS (by simpa using hn) (Nat.zero_le _) (Nat.le_refl _) (.inl rfl) (by omega)
  have hq : pdq ltInt zs.toArray 0 n (bitsLen n) true true = (zs.mergeSort fun x y => decide (x ≤ y)).toArray := by
    have h1 : pdq ltInt zs.toArray 0 n (bitsLen n) true true = Go.Sort.sort ltInt zs.toArray := by
      unfold Go.Sort.sort
      rw [show zs.toArray.size = n by simpa using hn]
    rw [h1, ← sortInt zs]
  rw [hq] at hp
  have HP := Lib.hid hp
  have hLen : ∀ w, Calls Try.prog 50 #[.int .u64 (n : Int)] w fun e w' => e = .returned (.int .i64 (bitsLen n : Nat)) ∧ w' = w := fun w => by
    have h := Try.bits_Len (n : Int) w (by omega) (by omega)
    rwa [Int.toNat_natCast, bitLen_eq _ (by omega)] at h
  have hnI : (n : Int) ≤ 1000000 := by omega
  clear hp hq hl hS
  go_enter Try.func39, Try.ntmps39
  go_wp2_with (first
    | (go_at_call 50; refine (hLen _).mono ?_; rintro e w' ⟨rfl, rfl⟩)
    | (go_at_call 49; refine Calls.mono (by exact HP.out) ?_; rintro e w9 ⟨rfl, hs9⟩))
  go_end0
  exact ⟨rfl, hs9⟩
end Go.Proofs.Ytbcoooaoofbboaa
