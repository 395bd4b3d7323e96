/- The walk of CrcTwice. -/
import Derived.Test.YtbndhegmfnfahaaCrcLaw
import Derived.Test.YtbndhegmfnfahaaCrcMore
namespace Go.Proofs.Ytbndhegmfnfahaa.lawCrcTwice
open Go.RowKit
set_option linter.unusedVariables false

theorem openS_seal (s : ByteArray) : openS (sealL s) = s ∧ openE (sealL s) = 0 := by
  have h := seal_sealed s
  have hE : openE (sealL s) = 0 := by
    unfold openE; rw [if_neg (by rw [sealL_size]; omega), if_pos (by rw [h])]
  exact ⟨by unfold openS; rw [if_pos hE, h], hE⟩
theorem ends_iff (s a b : ByteArray) (n : Nat) (ha : n ≤ a.size) (hb : n ≤ b.size) (h4 : n ≤ 4) :
    sumL (s ++ a.extract 0 n).data.toList = sumL (s ++ b.extract 0 n).data.toList ↔ a.extract 0 n = b.extract 0 n := by
  have la : (a.extract 0 n).data.toList.length = n := by rw [ba_len, ByteArray.size_extract]; omega
  have lb : (b.extract 0 n).data.toList.length = n := by rw [ba_len, ByteArray.size_extract]; omega
  rw [ba_append_list, ba_append_list, sum_ends _ _ _ (by rw [la, lb]) (by rw [la]; exact h4)]
  exact ⟨ba_ext, fun h => by rw [h]⟩

theorem walk (a0 a1 a2 : ByteArray) (w : World) (w0 : a0.size ≤ maxLen) (w1 : a1.size ≤ maxLen) (w2 : a2.size ≤ maxLen) :
    Calls Try.prog 6 #[.string a0, .string a1, .string a2] w fun e w' => e = .returned (.bool true) ∧ Below w.heap.size w w' := by
  have hs0 : a0.size ≤ 9223372036854775807 := w0
  have hs1 : a1.size ≤ 9223372036854775807 := w1
  have hs2 : a2.size ≤ 9223372036854775807 := w2
  have z0 := shortC_size a0
  clear w0 w1 w2
  go_enter Try.func6, Try.ntmps6
  go_wp2_with fail
  refine (crcShort a0 _ hs0).mono ?_
  rintro e w1 ⟨rfl, rfl⟩
  generalize shortC a0 = s at *
  go_upto_region 2 with fail
  go_cut [7] (fun v wx => ∃ n : Nat, v = .int .i64 n ∧ n ≤ a1.size ∧ n ≤ a2.size ∧ n ≤ 4 ∧ w = wx)
  case first =>
    go_wp2_with fail
    all_goals go_meet
    all_goals first
      | exact ⟨a1.size, rfl, by omega, by omega, by omega, rfl⟩
      | exact ⟨a2.size, rfl, by omega, by omega, by omega, rfl⟩
      | exact ⟨4, rfl, by omega, by omega, by omega, rfl⟩
  case rest =>
  obtain ⟨n, rfl, n1, n2, n3, rfl⟩ := hcut
  have n1I : (n : Int) ≤ a1.size := by omega
  have n2I : (n : Int) ≤ a2.size := by omega
  have hX := extract0_size a1 n n1
  have hY := extract0_size a2 n n2
  have hI := ends_iff s a1 a2 n n1 n2 n3
  obtain ⟨X, eX⟩ : ∃ X, a1.extract 0 n = X := ⟨_, rfl⟩
  obtain ⟨Y, eY⟩ : ∃ Y, a2.extract 0 n = Y := ⟨_, rfl⟩
  rw [eX] at hX hI
  rw [eY] at hY hI
  have zX : (X.size : Int) ≤ 4 := by omega
  have zY : (Y.size : Int) ≤ 4 := by omega
  have hI2 : sumB (s ++ X) = sumB (s ++ Y) ↔ X = Y := hI
  have HI := Lib.hid hI2
  clear hX hY hI hI2
  have zs : (s.size : Int) ≤ 4000 := by omega
  have HE := Lib.hid (openS_seal s)
  have HEE := Lib.hid (openS_seal (sealL s))
  have k1 := sealL_size s
  have k2 := sealL_size (sealL s)
  have k1l : (sealL s).size ≤ 10000 := by omega
  have k2l : (sealL (sealL s)).size ≤ 10000 := by omega
  clear k1 k2
  have hb0 := Below.refl w.heap.size w
  go_wp2_with fail
  refine (keep hb0 (crcSeal_any s _ (by omega))).mono ?_
  rintro e w1 ⟨rfl, hb1⟩
  clear hb0
  go_wp2_with fail
  refine (keep hb1 (crcSeal_any _ _ (by omega))).mono ?_
  rintro e w2 ⟨rfl, hb2⟩
  clear hb1
  go_wp2_with fail
  refine (keep hb2 (crcOpen_any _ _ (by omega))).mono ?_
  rintro e w3 ⟨rfl, hb3⟩
  clear hb2
  rw [HEE.out.1, HEE.out.2]
  go_wp2_with fail
  refine (keep hb3 (crcOpen_any _ _ (by omega))).mono ?_
  rintro e w4 ⟨rfl, hb4⟩
  clear hb3
  rw [HE.out.1, HE.out.2]
  clear HE HEE k1l k2l
  go_wp2_with fail
  refine wp_region_keep (w0 := w) (by kernel_rfl) (by kernel_rfl) hb4 ?_
  repeat (go_big_quiet_step ((first | (go_at_call 18; exact keepCall (crcAlive _)) | (go_at_call 19; exact keepCall (crcOf_b _ _ (by rw [ByteArray.size_append]; omega))))))
  refine wpQuiet_nil ?_
  intro _ hw'
  obtain ⟨x, rfl⟩ := hw'
  have hz := x.below
  generalize x.val = wz at *
  go_wp2
  go_ret
  refine ⟨?_, hz⟩
  have e : ((((sumB (s ++ X) : Nat) : Int) == ((sumB (s ++ Y) : Nat) : Int)) == (X.toList == Y.toList)) = true := by
    by_cases h : X = Y
    · subst h; simp
    · have h1 := ba_tne h
      have h2 : ((sumB (s ++ X) : Nat) : Int) ≠ ((sumB (s ++ Y) : Nat) : Int) := by
        have := mt HI.out.1 h
        omega
      rw [h1, beq_eq_false_iff_ne.2 h2]; rfl
  exact congrArg (fun b => Ending.returned (Value.bool b)) e
end Go.Proofs.Ytbndhegmfnfahaa.lawCrcTwice
