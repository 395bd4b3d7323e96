/- le.Get: what it answers; plain. -/
import Derived.Test.YthnmnnlbglpjaaaDoorLePut
namespace Go.Proofs.YthnmnnlbglpjaaaDoor
open Go.RowKit
set_option linter.unusedVariables false

/-- the bytes from a place on, so many -/
def cutL (s : ByteArray) (p k : Nat) : List UInt8 := (s.data.toList.drop p).take k
theorem cutL_length (s : ByteArray) (p k : Nat) (h : p + k ≤ s.size) : (cutL s p k).length = k := by
  have := ba_len s
  simp only [cutL, List.length_take, List.length_drop]; omega

/-- the number, the place behind it, the error -/
def getE (s : ByteArray) (p k : Int) : Int := if 1 ≤ k ∧ k ≤ 8 ∧ 0 ≤ p then (if p + k ≤ s.size then 0 else 3) else 1
def getN (s : ByteArray) (p k : Int) : Int := if getE s p k = 0 then (getL (cutL s p.toNat k.toNat) : Int) else 0
def getT (s : ByteArray) (p k : Int) : Int := if getE s p k = 0 then p + k else 0

end Go.Proofs.YthnmnnlbglpjaaaDoor
