/- le.Cut: what it answers. -/
import Derived.Test.YtimiooiaohfelaaDoorLeText
namespace Go.Proofs.YtimiooiaohfelaaDoor
open Go.RowKit
set_option linter.unusedVariables false

/-- the error, the text, the place behind it -/
def cutE (s : ByteArray) (p : Int) : Int :=
  if getE s p 2 ≠ 0 then getE s p 2 else if p + 2 + getN s p 2 ≤ s.size then 0 else 3
def cutS (s : ByteArray) (p : Int) : ByteArray := if cutE s p = 0 then ⟨(cutL s (p.toNat + 2) (getL (cutL s p.toNat 2))).toArray⟩ else ⟨#[]⟩
def cutT (s : ByteArray) (p : Int) : Int := if cutE s p = 0 then p + 2 + getN s p 2 else 0

theorem getN_2 (s : ByteArray) (p : Int) : 0 ≤ getN s p 2 ∧ getN s p 2 ≤ 65535 := by
  unfold getN
  split
  · rename_i h
    refine ⟨by omega, ?_⟩
    have h1 := getL_lt (cutL s p.toNat 2)
    have h2 : (cutL s p.toNat 2).length ≤ 2 := List.length_take_le _ _
    have h3 : 256 ^ (cutL s p.toNat 2).length ≤ 256 ^ 2 := Nat.pow_le_pow_right (by omega) h2
    have : (256:Nat) ^ 2 = 65536 := by decide
    have e : ((2:Int).toNat) = 2 := rfl
    rw [e]
    omega
  · omega
theorem getE_cases (s : ByteArray) (p k : Int) : getE s p k = 0 ∨ getE s p k = 1 ∨ getE s p k = 3 := by
  unfold getE; split <;> (try split) <;> simp
theorem getE_ok {s : ByteArray} {p k : Int} (h : getE s p k = 0) : 1 ≤ k ∧ k ≤ 8 ∧ 0 ≤ p ∧ p + k ≤ s.size := by
  unfold getE at h
  split at h
  · split at h
    · omega
    · cases h
  · cases h

set_option maxRecDepth 100000 in
theorem leCut_any (s : ByteArray) (p : Int) (w : World) (hs : s.size ≤ 140737488355328) (hp2 : p ≤ 9223372036854775807) :
    Calls Tryd.prog 24 #[.string s, .int .i64 p] w fun e w' => e = .returned (.tuple #[.string (cutS s p), .int .i64 (cutT s p), .int .i64 (cutE s p)]) ∧ w = w' := by
  by_cases h0 : getE s p 2 = 0
  · obtain ⟨_, _, hp0, hpk⟩ := getE_ok h0
    obtain ⟨q, rfl⟩ := Int.eq_ofNat_of_zero_le hp0
    have hN : getN s q 2 = (getL (cutL s q 2) : Nat) := by simp only [getN, if_pos h0, Int.toNat_natCast]; rfl
    have hNb := getN_2 s q
    rw [hN] at hNb
    obtain ⟨hNb0, hNb1⟩ := hNb
    have hT : getT s q 2 = q + 2 := by simp only [getT, if_pos h0]
    by_cases hfit : q + 2 + getL (cutL s q 2) ≤ s.size
    · have hE : cutE s q = 0 := by
        unfold cutE; rw [if_neg (by omega), hN, if_pos (by omega)]
      have hS : cutS s q = s.extract (q + 2) (q + 2 + getL (cutL s q 2)) := by
        rw [ba_extract]; unfold cutS; rw [if_pos hE]; simp only [Int.toNat_natCast, cutL]; congr 4; omega
      have hTT : cutT s q = q + 2 + (getL (cutL s q 2) : Nat) := by unfold cutT; rw [if_pos hE, hN]
      have H0 := Lib.hid h0; have HN := Lib.hid hN; have HT := Lib.hid hT; have HE := Lib.hid hE; have HS := Lib.hid hS; have HTT := Lib.hid hTT
      clear h0 hN hT hE hS hTT
      go_enter Tryd.func24, Tryd.ntmps24
      go_wp2_with fail
      refine (leGet_any _ _ _ _ (by omega) hp2).mono ?_
      rintro e w' ⟨rfl, rfl⟩
      rw [H0.out, HN.out, HT.out]
      have hfit' : (q : Int) + 2 + (getL (cutL s q 2) : Nat) ≤ s.size := by omega
      go_wp2
      go_ret3
      refine ⟨?_, rfl⟩
      rw [HS.out, HTT.out, HE.out]
      simp
    · have hE : cutE s q = 3 := by
        unfold cutE; rw [if_neg (by omega), hN, if_neg (by omega)]
      have hS : cutS s q = ⟨#[]⟩ := by unfold cutS; rw [if_neg (by omega)]
      have hTT : cutT s q = 0 := by unfold cutT; rw [if_neg (by omega)]
      have H0 := Lib.hid h0; have HN := Lib.hid hN; have HT := Lib.hid hT; have HE := Lib.hid hE; have HS := Lib.hid hS; have HTT := Lib.hid hTT
      clear h0 hN hT hE hS hTT
      go_enter Tryd.func24, Tryd.ntmps24
      go_wp2_with fail
      refine (leGet_any _ _ _ _ (by omega) hp2).mono ?_
      rintro e w' ⟨rfl, rfl⟩
      rw [H0.out, HN.out, HT.out]
      generalize hn : getL (cutL s q 2) = n at *
      clear hn
      go_wp2
      go_ret3
      exact ⟨by rw [HS.out, HTT.out, HE.out]; rfl, rfl⟩
  · have hE : cutE s p = getE s p 2 := by unfold cutE; rw [if_pos h0]
    have hS : cutS s p = ⟨#[]⟩ := by unfold cutS; rw [if_neg (by omega)]
    have hTT : cutT s p = 0 := by unfold cutT; rw [if_neg (by omega)]
    have hne : (getE s p 2 != 0) = true := by simpa using h0
    have hnq : (getE s p 2 == 0) = false := by simpa using h0
    have HE := Lib.hid hE; have HS := Lib.hid hS; have HTT := Lib.hid hTT
    clear h0 hE hS hTT
    go_enter Tryd.func24, Tryd.ntmps24
    go_wp2_with fail
    refine (leGet_any _ _ _ _ (by omega) hp2).mono ?_
    rintro e w' ⟨rfl, rfl⟩
    go_wp2
    go_ret3
    exact ⟨by rw [HS.out, HTT.out, HE.out]; rfl, rfl⟩
end Go.Proofs.YtimiooiaohfelaaDoor
