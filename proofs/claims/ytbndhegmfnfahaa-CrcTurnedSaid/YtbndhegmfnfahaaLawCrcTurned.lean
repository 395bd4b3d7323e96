/- The walk of CrcTurned. -/
import Derived.Test.YtbndhegmfnfahaaCrcLaw
import Derived.Test.YtbndhegmfnfahaaRef02Turn
namespace Go.Proofs.Ytbndhegmfnfahaa.lawCrcTurned
open Go.RowKit
set_option linter.unusedVariables false

theorem openS_seal (s : ByteArray) : openS (sealL s) = s ∧ openE (sealL s) = 0 := by
  have h := seal_sealed s
  have hE : openE (sealL s) = 0 := by
    unfold openE; rw [if_neg (by rw [sealL_size]; omega), if_pos (by rw [h])]
  exact ⟨by unfold openS; rw [if_pos hE, h], hE⟩

theorem mod_from (a n : Int) (h0 : 0 < n) (h1 : n ≤ 40000) : ∃ f : Nat, (wrap64 (a.tmod n + n)).tmod n = (f : Int) ∧ (f : Int) < n := by
  have l1 := Int.tmod_lt_of_pos a h0
  have l2 := Int.lt_tmod_of_pos a h0
  rw [IntWalk.wrap64_in _ ⟨by omega, by omega⟩]
  have h3 : 0 ≤ (a.tmod n + n).tmod n := Int.tmod_nonneg _ (by omega)
  have h4 := Int.tmod_lt_of_pos (a.tmod n + n) h0
  obtain ⟨f, hf⟩ := Int.eq_ofNat_of_zero_le h3
  exact ⟨f, hf, by omega⟩

theorem walk (a0 : ByteArray) (a1 a2 : Int) (w : World) (w0 : a0.size ≤ maxLen) (w1 : (Lit.int .i64 a1).wf = true) (w2 : (Lit.int .u32 a2).wf = true) :
    Calls Try.prog 4 #[.string a0, .int .i64 a1, .int .u32 a2] w fun e w' => e = .returned (.bool true) ∧ Below w.heap.size w w' := by
  have hs0 : a0.size ≤ 9223372036854775807 := w0
  have h1 : -9223372036854775808 ≤ a1 ∧ a1 ≤ 9223372036854775807 := by simpa [Lit.wf, IntKind.min, IntKind.max, IntKind.signed, IntKind.bits] using w1
  have h2 : 0 ≤ a2 ∧ a2 ≤ 4294967295 := by simpa [Lit.wf, IntKind.min, IntKind.max, IntKind.signed, IntKind.bits] using w2
  obtain ⟨h10, h11⟩ := h1
  obtain ⟨h20, h21⟩ := h2
  obtain ⟨p, rfl⟩ := Int.eq_ofNat_of_zero_le h20
  have z0 := shortC_size a0
  clear w0 w1 w2
  go_enter Try.func4, Try.ntmps4
  go_wp2_with fail
  refine (crcShort a0 _ hs0).mono ?_
  rintro e w1 ⟨rfl, rfl⟩
  generalize shortC a0 = s at *
  have hz := sealL_size s
  have HE := Lib.hid (openS_seal s)
  have hb0 := Below.refl w.heap.size w
  go_wp2_with fail
  refine (keep hb0 (crcSeal_any s _ (by omega))).mono ?_
  rintro e w1 ⟨rfl, hb1⟩
  clear hb0
  have hzl : (sealL s).size ≤ 4004 := by omega
  have HZ := Lib.hid hz
  clear hz
  go_wp2_with fail
  refine (keep hb1 (crcOpen_any _ _ (by omega))).mono ?_
  rintro e w2 ⟨rfl, hb2⟩
  clear hb1
  rw [HE.out.1, HE.out.2]
  have hzI : ((sealL s).size : Int) = (s.size : Int) + 4 := by have := HZ.out; omega
  have hsI : (s.size : Int) ≤ 4000 := by omega
  go_wp2_with fail
  obtain ⟨f, hf, hfl⟩ := mod_from a1 (8 * ((s.size : Int) + 4)) (by omega) (by omega)
  rw [hf]
  clear hf
  refine (keep hb2 (turned_any (sealL s) f p _ (by omega) (by omega) (by omega))).mono ?_
  rintro e w3 ⟨⟨t, ht, hg, rfl⟩, hb3⟩
  clear hb2
  have hP : patK p (8 * (sealL s).size - f) 32 < 4294967296 :=
    Nat.lt_of_lt_of_le (patK_lt p _ 32) (by rw [show (4294967296 : Nat) = 2 ^ 32 from rfl]; exact Nat.pow_le_pow_right (by omega) (Nat.min_le_left _ _))
  have hiff := turned_iff s t ht f _ hP (by omega) hg
  have htl : t.size ≤ 4004 := by omega
  have hop : openE t = if t = sealL s then 0 else 4 := by
    unfold openE
    rw [if_neg (by omega)]
    by_cases h : t = sealL s
    · rw [if_pos h, if_pos (hiff.2 h)]
    · rw [if_neg h, if_neg (mt hiff.1 h)]
  have HO := Lib.hid hop
  clear hop hiff hP hg ht
  go_wp2_with fail
  refine (keep hb3 (crcOpen_any _ _ (by omega))).mono ?_
  rintro e w4 ⟨rfl, hb4⟩
  rw [HO.out]
  clear hb3 hzI
  by_cases h : t = sealL s
  · rw [if_pos h]
    subst h
    go_wp2_with fail
    refine (keep hb4 (crcAlive _)).mono ?_
    rintro e w5 ⟨rfl, hb5⟩
    go_wp2_with fail
    go_ret
    exact ⟨rfl, hb5⟩
  · rw [if_neg h]
    have hne := ba_tne h
    clear h
    go_wp2_with fail
    refine (keep hb4 (crcAlive _)).mono ?_
    rintro e w5 ⟨rfl, hb5⟩
    go_wp2_with fail
    go_ret
    exact ⟨rfl, hb5⟩
end Go.Proofs.Ytbndhegmfnfahaa.lawCrcTurned
