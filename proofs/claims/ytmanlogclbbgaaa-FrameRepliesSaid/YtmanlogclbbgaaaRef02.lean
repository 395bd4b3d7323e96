/- ref.Of, ref.Seal, ref.Open of layer 2. -/
import Derived.Test.YtmanlogclbbgaaaCrcSeal
import Derived.Test.YtmanlogclbbgaaaRef01Bytes
namespace Go.Proofs.Ytmanlogclbbgaaa
open Go.RowKit
set_option linter.unusedVariables false

/-- the register behind the k lowest bits of a byte -/
def bitsR (r b : Nat) : Nat → Nat
  | 0 => r
  | k + 1 => let q := bitsR r b k; if q % 2 ≠ b / 2 ^ k % 2 then q / 2 ^^^ 3988292384 else q / 2
theorem bit_step (r t : Nat) (ht : t < 2) : (if r % 2 ≠ t then r / 2 ^^^ 3988292384 else r / 2) = stepB (r ^^^ t) := by
  unfold stepB
  rw [xor_mod2, xor_div2]
  have hr : r % 2 = 0 ∨ r % 2 = 1 := by omega
  have ht' : t = 0 ∨ t = 1 := by omega
  rcases hr with hr | hr <;> rcases ht' with rfl | rfl <;> simp [hr]
theorem bitsR_step (r b k : Nat) : bitsR r b k = stepN k (r ^^^ b % 2 ^ k) := by
  induction k with
  | zero => simp [bitsR, stepN, Nat.mod_one]
  | succ k ih =>
    have e : b % 2 ^ (k + 1) = (b % 2 ^ k) ^^^ (2 ^ k * (b / 2 ^ k % 2)) := by
      have := split_xor k (b % 2 ^ (k + 1))
      rw [Nat.pow_succ] at this ⊢
      rw [Nat.mod_mul_right_mod, Nat.mod_mul_right_div_self] at this
      exact this
    simp only [bitsR, ih]
    rw [bit_step _ _ (Nat.mod_lt _ (by omega)), stepN_succ, e]
    congr 1
    conv => rhs; rw [← Nat.xor_assoc, stepN_xor, stepN_pow]
theorem bitsR_byte (r b : Nat) (hb : b < 256) : bitsR r b 8 = byteB r b := by
  rw [bitsR_step, Nat.mod_eq_of_lt (show b < 2 ^ 8 from hb)]; rfl
theorem bitsR_lt {r : Nat} (hr : r < 4294967296) (b : Nat) (hb : b < 256) (k : Nat) : bitsR r b k < 4294967296 := by
  rw [bitsR_step]
  exact stepN_lt k (Nat.xor_lt_two_pow (n := 32) hr (by have := Nat.mod_le b (2 ^ k); omega))

set_option maxHeartbeats 1000000 in
theorem ref02Of_any (s : ByteArray) (w : World) (hs : s.size ≤ 9223372036854775807) :
    Calls Try.prog 57 #[.string s] w fun e w' => e = .returned (.int .u32 (sumL s.data.toList : Nat)) ∧ w = w' := by
  go_enter Try.func57, Try.ntmps57
  go_wp2_with fail
  go_loop [3, 4] (fun x c => ∃ i : Nat, i ≤ s.size ∧ c = .int .i64 i ∧ x = .int .u32 (regL ones (s.data.toList.take i) : Nat)) (fun _ c => s.size - (intOf c).toNat)
  case atStart => exact ⟨0, by omega, rfl, rfl⟩
  case round =>
    obtain ⟨i, hi, rfl, rfl⟩ := hrel
    by_cases hlt : i < s.size
    · have hr := regL_lt ones_lt (s.data.toList.take i)
      have hsn : regL ones (s.data.toList.take (i + 1)) = byteB (regL ones (s.data.toList.take i)) s[i].toNat := by
        rw [List.take_succ_eq_append_getElem (by rw [ba_len]; exact hlt), regL_append]; rfl
      have HS := Lib.hid hsn
      have hb : s[i].toNat < 256 := UInt8.toNat_lt _
      have HR := Lib.hid hr
      have HB := Lib.hid hb
      clear hsn hr hb
      go_wp2_with fail
      go_loop [3, 5, 6] (fun x c _ => ∃ k : Nat, k ≤ 8 ∧ c = .int .i64 k ∧ x = .int .u32 (bitsR (regL ones (s.data.toList.take i)) s[i].toNat k : Nat)) (fun _ c _ => 8 - (intOf c).toNat)
      case atStart => exact ⟨0, by omega, rfl, rfl⟩
      case round =>
        obtain ⟨k, hk, rfl, rfl⟩ := hrel
        by_cases hkl : k < 8
        · have hbi : (s[i].toNat : Int) ≤ 255 := by have := HB.out; omega
          have hq := bitsR_lt HR.out s[i].toNat HB.out k
          obtain ⟨y, ey⟩ : ∃ y, y = bitsR (regL ones (s.data.toList.take i)) s[i].toNat (k + 1) := ⟨_, rfl⟩
          obtain ⟨q, eq⟩ : ∃ q, q = bitsR (regL ones (s.data.toList.take i)) s[i].toNat k := ⟨_, rfl⟩
          have hstep : y = if q % 2 ≠ s[i].toNat / 2 ^ k % 2 then q / 2 ^^^ 3988292384 else q / 2 := by rw [ey, eq]; rfl
          rw [← eq] at hq ⊢
          have hqI : (q : Int) ≤ 4294967295 := by omega
          have hX := xorPoly q hq
          have EY := Lib.hid ey
          have HST := Lib.hid hstep
          clear ey eq hstep hq
          have hdc : ((s[i].toNat : Int) / 2 ^ k) = ((s[i].toNat / 2 ^ k : Nat) : Int) := by simp
          have hnn : (0 : Int) ≤ (s[i].toNat : Int) / 2 ^ k := by rw [hdc]; exact Int.natCast_nonneg _
          have HDC := Lib.hid hdc
          clear hdc
          by_cases hd : q % 2 = s[i].toNat / 2 ^ k % 2
          · have hdI : ((q : Int) % 2 != (s[i].toNat : Int) / 2 ^ k % 2) = false := by
              rw [HDC.out, bne_eq_false_iff_eq]; omega
            have HD := Lib.hid hd
            clear hd
            go_wp2_with fail
            go_round
            case rel => exact ⟨k + 1, by omega, by go_num, by rw [← EY.out, HST.out, if_neg (by simpa using HD.out)]; simp⟩
            case measure => simp [intOf]; omega
          · have hdI : ((q : Int) % 2 != (s[i].toNat : Int) / 2 ^ k % 2) = true := by
              rw [HDC.out, bne_iff_ne]; omega
            have HD := Lib.hid hd
            clear hd
            go_wp2_with fail
            go_round
            case rel => exact ⟨k + 1, by omega, by go_num, by rw [← EY.out, HST.out, if_pos (by simpa using HD.out)]⟩
            case measure => simp [intOf]; omega
        · obtain rfl : k = 8 := by omega
          have hby := bitsR_byte (regL ones (s.data.toList.take i)) s[i].toNat HB.out
          rw [hby, ← HS.out]
          clear hby
          go_wp2_with fail
          go_round
          case rel => exact ⟨i + 1, by omega, by go_num, rfl⟩
          case measure => simp [intOf]; omega
    · obtain rfl : i = s.size := by omega
      have hall : s.data.toList.take s.size = s.data.toList := List.take_of_length_le (by rw [ba_len]; omega)
      have hr := regL_lt ones_lt s.data.toList
      have hsu : sumL s.data.toList = 4294967295 - regL ones s.data.toList := ones_sub hr
      rw [hall]
      have hrI : ((regL ones s.data.toList : Nat) : Int) ≤ 4294967295 := by omega
      have hsuI : ((sumL s.data.toList : Nat) : Int) = 4294967295 - (regL ones s.data.toList : Nat) := by omega
      have HS := Lib.hid hsuI
      clear hall hr hsu hsuI
      go_wp2_with fail
      go_ret
      exact ⟨congrArg (fun n => Ending.returned (Value.int .u32 n)) HS.out.symm, rfl⟩

theorem ref02Seal_any (s : ByteArray) (w : World) (hs : s.size ≤ 140737488355328) :
    Calls Try.prog 35 #[.string s] w fun e w' => e = .returned (.string (sealL s)) ∧ Below w.heap.size w w' := by
  have hl := sumL_lt s.data.toList
  have hadd : ∀ u : World, (Op.stringOp .add s ⟨(putL (sumL s.data.toList) 4).toArray⟩).run Try.prog u = .ok (.string (sealL s)) u := fun u => by
    have e : sealL s = s ++ ⟨(putL (sumL s.data.toList) 4).toArray⟩ := by apply ba_ext; simp [sealL]
    rw [e]
    exact run_string_add_sum _ _ _ (by have e1 := ba_size (putL (sumL s.data.toList) 4); rw [putL_length] at e1; omega)
  have hlI : ((sumL s.data.toList : Nat) : Int) ≤ 4294967295 := by omega
  go_enter Try.func35, Try.ntmps35
  go_wp2_with fail
  refine (ref02Of_any s _ (by omega)).mono ?_
  rintro e w1 ⟨rfl, rfl⟩
  go_wp2_with fail
  refine (refBytes_any (sumL s.data.toList) 4 _ (by omega) (by omega)).mono ?_
  rintro e w2 ⟨rfl, hb2⟩
  go_wp2_with fail
  go_ret
  exact ⟨rfl, hb2⟩
end Go.Proofs.Ytmanlogclbbgaaa
