/- The reference's Token. -/
import Derived.Test.YtpkpbohkdkmoiaaDoorRf17
import Derived.Test.YtpkpbohkdkmoiaaDoorLx8
namespace Go.Proofs.YtpkpbohkdkmoiaaDoor
open Go.RowKit
set_option linter.unusedVariables false

def tokR (s : ByteArray) (p : Nat) : Int × Nat := if (fstL (s.extract p s.size)).2 = 0 then (-2, p) else ((fstL (s.extract p s.size)).1, p + (fstL (s.extract p s.size)).2)
theorem fstL_at (s : ByteArray) (p : Nat) (h : p < s.size) : fstL (s.extract p s.size) = fst0 s[p].toNat (s.extract p s.size) := by
  unfold fstL; rw [headD_at s p h]
theorem tok_some {s : ByteArray} {p : Nat} {k : Int} {z : Nat} (h : fstL (s.extract p s.size) = (k, z)) (hz : z ≠ 0) : tokR s p = (k, p + z) := by
  unfold tokR; rw [h, if_neg hz]
theorem tok_none {s : ByteArray} {p : Nat} {k : Int} (h : fstL (s.extract p s.size) = (k, 0)) : tokR s p = (-2, p) := by
  unfold tokR; rw [h, if_pos rfl]
set_option maxRecDepth 100000 in
set_option maxHeartbeats 4000000 in
theorem rfToken (s : ByteArray) (p : Nat) (w : World) (hs : s.size ≤ 1000000) (hp : p < s.size) :
    Calls Tryd.prog 17 #[.string s, .int .i64 p] w fun e w' => e = .returned (.tuple #[.int .i64 (tokR s p).1, .int .i64 ((tokR s p).2 : Nat)]) ∧ w = w' := by
  have hsI : (s.size : Int) ≤ 1000000 := by omega
  have hpI : (p : Int) < s.size := by omega
  have hidx : ∀ u : World, Sem.run Tryd.prog (Instr.index 9 (.string s) (.int .i64 (p : Int))) u = .ok (.int .u8 (s[p].toNat : Int)) u := fun u => lxIdxS s p hp u
  have h255 : s[p].toNat ≤ 255 := by have := UInt8.toNat_lt s[p]; omega
  obtain ⟨R, hR⟩ : ∃ R, tokR s p = R := ⟨_, rfl⟩
  rw [hR]
  have hF := fstL_at s p hp
  have hU := rest_size s p (by omega)
  have hrun := runN_le (s.extract p s.size) wrdB
  have hrun0 : ∀ f : Nat → Bool, f s[p].toNat = true → 0 < runN (s.extract p s.size) f := fun f hf => runN_pos _ _ (by omega) (by rw [headD_at s p hp]; exact hf)
  have HRL := Lib.hid (fun (k : Nat) (h1 : p ≤ k) (h2 : k ≤ s.size) (h3 : ∀ j (h : j < s.size), p ≤ j → j < k → notLine s[j].toNat = true) (h4 : ∀ h : k < s.size, notLine s[k].toNat = false) => run_rest (s := s) (f := notLine) h1 h2 h3 h4)
  have HSG := Lib.hid (fun u => rfSign s p u hs hp)
  have HEN := Lib.hid (fun u => rfEnd s p u hs (by omega))
  have HNU := Lib.hid (fun (n : Nat) u => rfNumber (s.extract p n) u (by rw [ByteArray.size_extract]; omega))
  have HDG := Lib.hid (fun u => rfDigit s[p].toNat u h255)
  have HLE := Lib.hid (fun u => rfLetter s[p].toNat u h255)
  have HC0 : Hid (s[p].toNat = 35 → notLine s[p].toNat = true) := Lib.hid fun e => by rw [e]; rfl
  have hcut : ∀ n, (s.extract p s.size).extract 0 n = s.extract p (min (p + n) s.size) := fun n => by rw [ByteArray.extract_extract]; simp
  generalize hc : s[p].toNat = c at *
  have hcI : (c : Int) ≤ 255 := by omega
  unfold fst0 at hF
  by_cases e32 : c = 32
  · rw [if_pos (Or.inl e32)] at hF
    rw [tok_some hF (by decide)] at hR
    subst e32 hR
    clear HRL HSG HEN HNU HDG HLE HC0 hcut hF hc hrun hrun0
    go_enter Tryd.func17, Tryd.ntmps17
    go_wp2_with fail
    go_ret2
    exact ⟨rfl, rfl⟩
  have n32 : ((c : Int) == 32) = false := by rw [beq_eq_false_iff_ne]; omega
  by_cases e9 : c = 9
  · rw [if_pos (Or.inr (Or.inl e9))] at hF
    rw [tok_some hF (by decide)] at hR
    subst e9 hR
    clear HRL HSG HEN HNU HDG HLE HC0 hcut hF hc hrun hrun0
    go_enter Tryd.func17, Tryd.ntmps17
    go_wp2_with fail
    go_ret2
    exact ⟨rfl, rfl⟩
  have n9 : ((c : Int) == 9) = false := by rw [beq_eq_false_iff_ne]; omega
  by_cases e13 : c = 13
  · rw [if_pos (Or.inr (Or.inr e13))] at hF
    rw [tok_some hF (by decide)] at hR
    subst e13 hR
    clear HRL HSG HEN HNU HDG HLE HC0 hcut hF hc hrun hrun0
    go_enter Tryd.func17, Tryd.ntmps17
    go_wp2_with fail
    go_ret2
    exact ⟨rfl, rfl⟩
  have n13 : ((c : Int) == 13) = false := by rw [beq_eq_false_iff_ne]; omega
  rw [if_neg (by omega)] at hF
  by_cases e35 : c = 35
  · rw [if_pos e35] at hF
    have h0 := hrun0 notLine (HC0.out e35)
    rw [tok_some hF (by omega)] at hR
    subst hR
    have HRN : Hid (∀ k, p ≤ k → k ≤ s.size → (∀ j (h : j < s.size), p ≤ j → j < k → notLine s[j].toNat = true) → (∀ h : k < s.size, notLine s[k].toNat = false) → p + runN (s.extract p s.size) notLine = k) := Lib.hid fun k h1 h2 h3 h4 => by
      rw [HRL.out k h1 h2 h3 h4]; omega
    clear HRL HSG HEN HNU HDG HLE HC0 hcut hF hrun hrun0 h0 n32 n9 n13 e32 e9 e13
    generalize p + runN (s.extract p s.size) notLine = N at *
    have HC := Lib.hid hc
    have hi35 := hidx
    rw [e35] at hi35
    clear hc hidx h255
    subst e35
    go_enter Tryd.func17, Tryd.ntmps17
    go_wp2_with fail
    go_loop [1] (fun z => ∃ k : Nat, z = .int .i64 k ∧ p ≤ k ∧ k ≤ s.size ∧ Hid (∀ j (h : j < s.size), p ≤ j → j < k → notLine s[j].toNat = true)) (fun z => s.size - (intOf z).toNat)
    case atStart => exact ⟨p, rfl, by omega, by omega, Lib.hid (fun j h h1 h2 => by omega)⟩
    case round =>
      obtain ⟨k, rfl, hpk, hk, HA⟩ := hrel
      by_cases hlt : k < s.size
      · have hltI : (k : Int) < s.size := by omega
        have hidk : ∀ u : World, Sem.run Tryd.prog (Instr.index 9 (.string s) (.int .i64 (k : Int))) u = .ok (.int .u8 (s[k].toNat : Int)) u := fun u => lxIdxS s k hlt u
        by_cases e10 : s[k].toNat = 10
        · obtain rfl : N = k := HRN.out k hpk hk HA.out (fun _ => by rw [e10]; rfl)
          rw [e10] at hidk
          go_wp2_with fail
          go_ret2
          exact ⟨rfl, rfl⟩
        · have n10 : ((s[k].toNat : Int) != 10) = true := by rw [bne_iff_ne]; omega
          have HA2 := Lib.hid (show ∀ j (h : j < s.size), p ≤ j → j < k + 1 → notLine s[j].toNat = true from fun j h h1 h2 => by
            by_cases e : j = k
            · subst e; unfold notLine; rw [decide_eq_true_eq]; exact e10
            · exact HA.out j h h1 (by omega))
          generalize (s[k].toNat : Int) = ck at *
          go_wp2_with fail
          go_round
          case rel => exact ⟨k + 1, by go_num, by omega, by omega, HA2⟩
          case measure => simp [intOf]; omega
      · obtain rfl : k = s.size := by omega
        obtain rfl : N = s.size := HRN.out _ hpk hk HA.out (fun h => absurd h (by omega))
        have hnl : ¬ (s.size : Int) < s.size := by omega
        go_wp2_with fail
        go_ret2
        exact ⟨rfl, rfl⟩
  have n35 : ((c : Int) == 35) = false := by rw [beq_eq_false_iff_ne]; omega
  rw [if_neg e35] at hF
  by_cases e10 : c = 10
  · rw [if_pos e10] at hF
    rw [tok_some hF (by decide)] at hR
    subst e10 hR
    clear HRL HSG HEN HNU HDG HLE HC0 hcut hF hc hrun hrun0
    go_enter Tryd.func17, Tryd.ntmps17
    go_wp2_with fail
    go_ret2
    exact ⟨rfl, rfl⟩
  have n10 : ((c : Int) == 10) = false := by rw [beq_eq_false_iff_ne]; omega
  rw [if_neg e10] at hF
  have hwl : letB c = true → 0 < runN (s.extract p s.size) wrdB := fun h => hrun0 wrdB (by unfold wrdB; rw [h]; rfl)
  have hwd : digB c = true → 0 < runN (s.extract p s.size) wrdB := fun h => hrun0 wrdB (by unfold wrdB; rw [h]; simp)
  clear e32 e9 e13 e35 e10 HRL HC0 hc hrun0 h255
  generalize letB c = LB at *
  generalize digB c = DB at *
  cases LB with
  | true =>
    rw [if_pos rfl] at hF
    have h0 := hwl rfl
    rw [tok_some hF (by omega)] at hR
    subst hR
    clear HSG HNU HDG hcut hF hrun hwl hwd h0
    generalize p + runN (s.extract p s.size) wrdB = n at *
    go_enter Tryd.func17, Tryd.ntmps17
    go_wp2_with fail
    refine (HLE.out _).mono ?_
    rintro e w2 ⟨rfl, rfl⟩
    go_wp2_with fail
    refine (HEN.out _).mono ?_
    rintro e w2 ⟨rfl, rfl⟩
    go_wp2_with fail
    go_ret2
    exact ⟨rfl, rfl⟩
  | false =>
    rw [if_neg (by decide)] at hF
    cases DB with
    | false =>
      rw [if_neg (by decide)] at hF
      clear HEN HNU hcut hrun hwl hwd
      generalize signN (s.extract p s.size) = n at *
      by_cases hn : n = 0
      · subst hn
        rw [tok_none hF] at hR
        subst hR
        clear hF
        go_enter Tryd.func17, Tryd.ntmps17
        go_wp2_with fail
        refine (HLE.out _).mono ?_
        rintro e w2 ⟨rfl, rfl⟩
        go_wp2_with fail
        refine (HDG.out _).mono ?_
        rintro e w2 ⟨rfl, rfl⟩
        go_wp2_with fail
        refine (HSG.out _).mono ?_
        rintro e w2 ⟨rfl, rfl⟩
        go_wp2_with fail
        go_ret2
        exact ⟨rfl, rfl⟩
      · have hz : n ≤ s.size - p := by
          have := fstL_le (s.extract p s.size) (by omega)
          rw [hF, hU] at this
          exact this
        rw [tok_some hF hn] at hR
        subst hR
        have hnI : (0 : Int) < n := by omega
        have hnJ : (n : Int) ≤ 1000000 := by omega
        clear hF hn hz
        go_enter Tryd.func17, Tryd.ntmps17
        go_wp2_with fail
        refine (HLE.out _).mono ?_
        rintro e w2 ⟨rfl, rfl⟩
        go_wp2_with fail
        refine (HDG.out _).mono ?_
        rintro e w2 ⟨rfl, rfl⟩
        go_wp2_with fail
        refine (HSG.out _).mono ?_
        rintro e w2 ⟨rfl, rfl⟩
        go_wp2_with fail
        go_ret2
        exact ⟨rfl, rfl⟩
    | true =>
      rw [if_pos rfl] at hF
      have h0 := hwd rfl
      rw [hcut] at hF
      rw [show min (p + runN (s.extract p s.size) wrdB) s.size = p + runN (s.extract p s.size) wrdB by omega] at hF
      obtain ⟨n, hn⟩ : ∃ n, p + runN (s.extract p s.size) wrdB = n := ⟨_, rfl⟩
      rw [hn] at hF HEN
      have hns : n ≤ s.size := by omega
      have hnI : (n : Int) ≤ s.size := by omega
      have hpn : (p : Int) ≤ n := by omega
      have HN := Lib.hid (fun u => HNU.out n u)
      cases hX : numS' (s.extract p n) with
      | some x =>
        rw [hX] at hF HN
        rw [if_pos (show (some x).isSome = true from rfl)] at hF
        rw [tok_some hF (by omega), hn] at hR
        subst hR
        clear HSG HNU hcut hrun hwl hwd hF h0 hn hX
        go_enter Tryd.func17, Tryd.ntmps17
        go_wp2_with fail
        refine (HLE.out _).mono ?_
        rintro e w2 ⟨rfl, rfl⟩
        go_wp2_with fail
        refine (HDG.out _).mono ?_
        rintro e w2 ⟨rfl, rfl⟩
        go_wp2_with fail
        refine (HEN.out _).mono ?_
        rintro e w2 ⟨rfl, rfl⟩
        go_wp2_with fail
        refine (HN.out _).mono ?_
        rintro e w2 ⟨rfl, rfl⟩
        go_wp2_with fail
        go_ret2
        exact ⟨rfl, rfl⟩
      | none =>
        rw [hX] at hF HN
        rw [if_neg (show ¬ (none : Option Nat).isSome = true by decide)] at hF
        rw [tok_none hF] at hR
        subst hR
        clear HSG HNU hcut hrun hwl hwd hF h0 hn hX
        go_enter Tryd.func17, Tryd.ntmps17
        go_wp2_with fail
        refine (HLE.out _).mono ?_
        rintro e w2 ⟨rfl, rfl⟩
        go_wp2_with fail
        refine (HDG.out _).mono ?_
        rintro e w2 ⟨rfl, rfl⟩
        go_wp2_with fail
        refine (HEN.out _).mono ?_
        rintro e w2 ⟨rfl, rfl⟩
        go_wp2_with fail
        refine (HN.out _).mono ?_
        rintro e w2 ⟨rfl, rfl⟩
        go_wp2_with fail
        go_ret2
        exact ⟨rfl, rfl⟩
end Go.Proofs.YtpkpbohkdkmoiaaDoor
