/- le.Fill: zero bytes behind a text. -/
import Derived.Test.YthnmnnlbglpjaaaDoorTrim
import Derived.Test.YthnmnnlbglpjaaaDoorShelf
namespace Go.Proofs.YthnmnnlbglpjaaaDoor
open Go.RowKit
set_option linter.unusedVariables false

def zerosB (k : Nat) : ByteArray := ⟨(List.replicate k (0 : UInt8)).toArray⟩
theorem zerosB_list (k : Nat) : (zerosB k).data.toList = List.replicate k 0 := by simp [zerosB]
theorem zerosB_size (k : Nat) : (zerosB k).size = k := by rw [← ba_len, zerosB_list, List.length_replicate]
def fillS (s : ByteArray) (n : Int) : ByteArray := if (s.size : Int) ≤ n then s ++ zerosB (n.toNat - s.size) else ⟨#[]⟩
def fillE (s : ByteArray) (n : Int) : Int := if (s.size : Int) ≤ n then 0 else 2
theorem fillS_ok (s : ByteArray) (n : Nat) (h : s.size ≤ n) : fillS s n = s ++ zerosB (n - s.size) ∧ fillE s n = 0 := by
  unfold fillS fillE
  rw [if_pos (by omega), if_pos (by omega), Int.toNat_natCast]
  exact ⟨rfl, rfl⟩
theorem fillS_bad (s : ByteArray) (n : Int) (h : n < s.size) : fillS s n = ⟨#[]⟩ ∧ fillE s n = 2 := by
  unfold fillS fillE
  rw [if_neg (by omega), if_neg (by omega)]
  exact ⟨rfl, rfl⟩

end Go.Proofs.YthnmnnlbglpjaaaDoor
