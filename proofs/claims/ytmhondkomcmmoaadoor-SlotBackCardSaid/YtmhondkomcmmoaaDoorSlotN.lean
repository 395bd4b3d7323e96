/- Numbers of a sector, one behind the other. -/
import Derived.Test.YtmhondkomcmmoaaDoorSlotW
import Derived.Test.YtmhondkomcmmoaaDoorLeGet
import Derived.Test.YtmhondkomcmmoaaDoorTrimMath
import Derived.IntWalk
namespace Go.Proofs.YtmhondkomcmmoaaDoor
open Go.RowKit
set_option linter.unusedVariables false

set_option maxRecDepth 100000 in
theorem slotNumbers_any (s : ByteArray) (w : World) : Calls Tryd.prog 32 #[.string s] w fun e w' =>
    e = .returned (.func (.func 42) #[.pointer (some ⟨w.heap.size, 0, none⟩)] #[]) ∧ w' = w.alloc (.cells #[.string s, .int .i64 1] 73) := by
  go_enter Tryd.func32, Tryd.ntmps32
  go_wp2_with fail
  go_ret
  exact ⟨rfl, rfl⟩
/-- the number that k bytes at p make, as if zero bytes went on behind the text -/
def partN (s : ByteArray) (p k : Nat) : Nat := getL (cutL s p k)
theorem getL_zeros (n : Nat) : getL (List.replicate n 0) = 0 := by
  induction n with
  | zero => rfl
  | succ n ih => rw [List.replicate_succ, getL, ih]; rfl
theorem partN_lt (s : ByteArray) (p k : Nat) : partN s p k < 256 ^ k := by
  have h := getL_lt (cutL s p k)
  have h2 : (cutL s p k).length ≤ k := by unfold cutL; exact List.length_take_le _ _
  exact Nat.lt_of_lt_of_le h (Nat.pow_le_pow_right (by omega) h2)
theorem part_fill (s : ByteArray) (p k m e : Nat) (hm : m = min p e) (he : e = min (p + k) s.size) : getL (cutL (s.extract m e ++ zerosB (k - (s.extract m e).size)) 0 k) = partN s p k := by
  have h1 : (s.extract m e).data.toList = cutL s p k := by
    rw [ba_extract_list]
    unfold cutL
    have hl := ba_len s
    by_cases hp : p ≤ s.size
    · by_cases hpk : p + k ≤ s.size
      · have e1 : m = p := by omega
        have e2 : e = p + k := by omega
        rw [e1, e2, show p + k - p = k by omega]
      · have e1 : m = p := by omega
        have e2 : e = s.size := by omega
        rw [e1, e2, List.take_of_length_le (by rw [List.length_drop]; omega), List.take_of_length_le (by rw [List.length_drop]; omega)]
    · have e1 : m = e := by omega
      have : e - m = 0 := by omega
      rw [this, List.take_zero, List.drop_eq_nil_of_le (by omega)]
      simp
  have h2 : (s.extract m e).size ≤ k := by
    rw [← ba_len, h1]; unfold cutL; exact List.length_take_le _ _
  have h3 : (s.extract m e ++ zerosB (k - (s.extract m e).size)).data.toList = cutL s p k ++ List.replicate (k - (s.extract m e).size) 0 := by
    rw [ba_append_list, h1, zerosB_list]
  have h4 : cutL (s.extract m e ++ zerosB (k - (s.extract m e).size)) 0 k = cutL s p k ++ List.replicate (k - (s.extract m e).size) 0 := by
    unfold cutL at h3 ⊢
    rw [List.drop_zero, h3, List.take_of_length_le]
    rw [List.length_append, List.length_replicate]
    have := h1
    unfold cutL at this
    rw [← this, ba_len]; omega
  rw [h4, getL_append, getL_zeros]
  simp [partN]
set_option maxRecDepth 100000 in
set_option maxHeartbeats 1000000 in
theorem slotNumber_any (R p k : Nat) (s : ByteArray) (w : World) (hR : w.heap[R]? = some (.cells #[.string s, .int .i64 (p : Nat)] 73 (0, 0))) (hk1 : 1 ≤ k) (hk2 : k ≤ 6) (hp : p ≤ 2000) (hs : s.size ≤ 2000) :
    Calls Tryd.prog 42 #[.pointer (some ⟨R, 0, none⟩), .int .i64 (k : Nat)] w fun e w' =>
      e = .returned (.int .i64 (partN s p k : Nat)) ∧ Below w.heap.size (w.setCell ⟨R, 1, none⟩ (.int .i64 ((p : Int) + k))) w' := by
  have c0 := below_cell (Below.refl _ w) hR 0 rfl
  have c1 := below_cell (Below.refl _ w) hR 1 rfl
  have f1 := block_frozen hR 1
  obtain ⟨e, he⟩ : ∃ e, min (p + k) s.size = e := ⟨_, rfl⟩
  obtain ⟨m, hm⟩ : ∃ m, min p e = m := ⟨_, rfl⟩
  have hpf := part_fill s p k m e hm.symm he.symm
  have hpl : partN s p k < 256 ^ 6 := Nat.lt_of_lt_of_le (partN_lt s p k) (Nat.pow_le_pow_right (by omega) hk2)
  have h6 : (256 : Nat) ^ 6 = 281474976710656 := by decide
  rw [h6] at hpl
  have hsz : (s.extract m e).size ≤ k := by rw [ByteArray.size_extract]; omega
  have hsI : (s.size : Int) ≤ 2000 := by omega
  have hpI : (p : Int) ≤ 2000 := by omega
  have hkI : (k : Int) ≤ 6 := by omega
  have hkI1 : (1 : Int) ≤ k := by omega
  have heI : min ((p : Int) + k) s.size = e := by omega
  have heI2 : (if (s.size : Int) < (p : Int) + k then (s.size : Int) else (p : Int) + k) = e := by split <;> omega
  have hmI : min (p : Int) e = m := by omega
  have hmI2 : (if (e : Int) < (p : Int) then (e : Int) else (p : Int)) = m := by split <;> omega
  have hem : (m : Int) ≤ e := by omega
  have hes : (e : Int) ≤ s.size := by omega
  have hw1 : IntKind.i64.wrap ((p : Int) + k) = (p : Int) + k := IntWalk.i64_in _ (by omega)
  have hFi := Lib.hid (fun u => leFill_any (s.extract m e) (k : Int) u (by omega) (by omega) (by omega))
  obtain ⟨q1, q2⟩ := fillS_ok (s.extract m e) k hsz
  rw [q1, q2] at hFi
  have hF2 : (s.extract m e ++ zerosB (k - (s.extract m e).size)).size = k := by rw [ByteArray.size_append, zerosB_size]; omega
  have hG := Lib.hid (fun u => leGet_ok (s.extract m e ++ zerosB (k - (s.extract m e).size)) 0 k u (by omega) hk1 (by omega) (by omega))
  rw [hpf] at hG
  generalize s.extract m e ++ zerosB (k - (s.extract m e).size) = F at *
  generalize partN s p k = N at *
  have hN : (N : Int) ≤ 281474976710655 := by omega
  have hwN : IntKind.i64.wrap (N : Int) = N := IntWalk.i64_in _ (by omega)
  clear he hm hpf hpl h6 hsz hR hp hs hk1 hk2 q1 q2
  go_enter Tryd.func42, Tryd.ntmps42
  go_upto_region 1 with fail
  go_region
  go_upto_region 2 with fail
  go_region
  go_wp2_with fail
  refine (hFi.out _).mono ?_
  rintro e1 w1 ⟨rfl, hb1⟩
  go_wp2_with fail
  refine (hG.out _).mono ?_
  rintro e2 w2 ⟨rfl, rfl⟩
  go_wp2_with fail
  go_ret
  exact ⟨rfl, ((Below.refl w.heap.size (w.setCell ⟨R, 1, none⟩ (.int .i64 ((p : Int) + k)))).drew.drew).trans (hb1.mono (by simp [World.drew]))⟩
end Go.Proofs.YtmhondkomcmmoaaDoor
