/- le.Fill: zero bytes behind a text. -/
import Derived.Test.YtimiooiaohfelaaDoorTrim
import Derived.Test.YtimiooiaohfelaaDoorShelf
namespace Go.Proofs.YtimiooiaohfelaaDoor
open Go.RowKit
set_option linter.unusedVariables false

def zerosB (k : Nat) : ByteArray := ⟨(List.replicate k (0 : UInt8)).toArray⟩
theorem repeat_zero (k : Nat) : Lib.repeatL [0] k = List.replicate k 0 := by
  induction k with
  | zero => rfl
  | succ k ih => rw [Lib.repeatL, ih]; rfl
theorem zerosB_list (k : Nat) : (zerosB k).data.toList = List.replicate k 0 := by simp [zerosB]
theorem zerosB_size (k : Nat) : (zerosB k).size = k := by rw [← ba_len, zerosB_list, List.length_replicate]
def fillS (s : ByteArray) (n : Int) : ByteArray := if (s.size : Int) ≤ n then s ++ zerosB (n.toNat - s.size) else ⟨#[]⟩
def fillE (s : ByteArray) (n : Int) : Int := if (s.size : Int) ≤ n then 0 else 2
theorem fillS_ok (s : ByteArray) (n : Nat) (h : s.size ≤ n) : fillS s n = s ++ zerosB (n - s.size) ∧ fillE s n = 0 := by
  unfold fillS fillE
  rw [if_pos (by omega), if_pos (by omega), Int.toNat_natCast]
  exact ⟨rfl, rfl⟩
theorem fillS_bad (s : ByteArray) (n : Int) (h : n < s.size) : fillS s n = ⟨#[]⟩ ∧ fillE s n = 2 := by
  unfold fillS fillE
  rw [if_neg (by omega), if_neg (by omega)]
  exact ⟨rfl, rfl⟩

set_option maxRecDepth 100000 in
theorem leFill_any (s : ByteArray) (n : Int) (w : World) (hs : s.size ≤ 100000) (hn0 : -9223372036854775808 ≤ n) (hn : n ≤ 100000) :
    Calls Tryd.prog 22 #[.string s, .int .i64 n] w fun e w' => e = .returned (.tuple #[.string (fillS s n), .int .i64 (fillE s n)]) ∧ Below w.heap.size w w' := by
  have hsI : (s.size : Int) ≤ 100000 := by omega
  by_cases h : (s.size : Int) ≤ n
  · obtain ⟨m, rfl⟩ := Int.eq_ofNat_of_zero_le (show 0 ≤ n by omega)
    obtain ⟨e1, e2⟩ := fillS_ok s m (by omega)
    rw [e1, e2]
    have hR := fun u => Tryd.strings_Repeat ⟨#[0]⟩ (m - s.size) u (by omega) (by show 1 * (m - s.size) ≤ _; omega)
    have hz : (⟨(Lib.repeatL (⟨#[0]⟩ : ByteArray).data.toList (m - s.size)).toArray⟩ : ByteArray) = zerosB (m - s.size) := by
      show (⟨(Lib.repeatL [0] (m - s.size)).toArray⟩ : ByteArray) = _
      rw [repeat_zero]; rfl
    simp only [hz] at hR
    rw [show ((m - s.size : Nat) : Int) = (m : Int) - s.size from by omega] at hR
    have HR := Lib.hid hR
    have hzs := zerosB_size (m - s.size)
    have hmI : (m : Int) ≤ 100000 := by omega
    generalize zerosB (m - s.size) = Z at *
    have hzI : (Z.size : Int) ≤ 100000 := by omega
    obtain ⟨C, hC⟩ : ∃ C, C = s ++ Z := ⟨_, rfl⟩
    rw [← hC] at e1
    rw [← hC]
    have har := fun u => add_run (P := Tryd.prog) s Z C hC (by omega) u
    clear e1 e2 hR hz hzs hC
    go_enter Tryd.func22, Tryd.ntmps22
    go_wp2_with (first | (go_at_call 44; refine (HR.out _).mono ?_; rintro e w' ⟨rfl, hb⟩))
    go_ret2
    exact ⟨rfl, hb⟩
  · obtain ⟨e1, e2⟩ := fillS_bad s n (by omega)
    rw [e1, e2]
    have h2 : n < s.size := by omega
    clear h e1 e2
    go_enter Tryd.func22, Tryd.ntmps22
    go_wp2_with fail
    go_ret2
    exact ⟨rfl, Below.refl _ _⟩
end Go.Proofs.YtimiooiaohfelaaDoor
