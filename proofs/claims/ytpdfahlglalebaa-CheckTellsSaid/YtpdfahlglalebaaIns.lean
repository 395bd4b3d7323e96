/- An instruction's four numbers. -/
import Derived.Test.YtpdfahlglalebaaSized
import Derived.Deep.RegionWith
namespace Go.Proofs.Ytpdfahlglalebaa
open Go.RowKit
set_option linter.unusedVariables false

theorem insnFits_any (n : Int) (w : World) : Calls Try.prog 29 #[.int .i64 n] w fun e w' => e = .returned (.bool (decide (0 ≤ n ∧ n ≤ 255))) ∧ w = w' := by
  by_cases h1 : 0 ≤ n <;> by_cases h8 : n ≤ 255
  all_goals
    go_enter Try.func29, Try.ntmps29
    go_wp2
    go_ret
    refine ⟨?_, rfl⟩
    simp [*]
/-- an instruction, its four numbers -/
structure Ins where
  code : Int
  jt : Int
  jf : Int
  k : Int
  deriving DecidableEq
def Ins.value (i : Ins) : Value := .agg #[.int .i64 i.code, .int .i64 i.jt, .int .i64 i.jf, .int .u32 i.k]
def Ins.bounded (i : Ins) : Prop := (-9223372036854775808 ≤ i.code ∧ i.code ≤ 9223372036854775807) ∧ (-9223372036854775808 ≤ i.jt ∧ i.jt ≤ 9223372036854775807) ∧ (-9223372036854775808 ≤ i.jf ∧ i.jf ≤ 9223372036854775807) ∧ 0 ≤ i.k ∧ i.k ≤ 4294967295
/-- it may be written -/
def Ins.fits (i : Ins) : Prop := 0 ≤ i.code ∧ i.code ≤ 65535 ∧ 0 ≤ i.jt ∧ i.jt ≤ 255 ∧ 0 ≤ i.jf ∧ i.jf ≤ 255
instance (i : Ins) : Decidable i.fits := by unfold Ins.fits; exact inferInstance
def Ins.bytes (i : Ins) : ByteArray := ⟨(putL i.code.toNat 2 ++ (putL i.jt.toNat 1 ++ (putL i.jf.toNat 1 ++ putL i.k.toNat 4))).toArray⟩
theorem Ins.bytes_list (i : Ins) : i.bytes.data.toList = putL i.code.toNat 2 ++ (putL i.jt.toNat 1 ++ (putL i.jf.toNat 1 ++ putL i.k.toNat 4)) := by simp [Ins.bytes]
theorem Ins.bytes_size (i : Ins) : i.bytes.size = 8 := by rw [← ba_len, Ins.bytes_list]; simp [putL_length]
def insPutS (i : Ins) : ByteArray := if i.fits then i.bytes else ⟨#[]⟩
def insPutE (i : Ins) : Int := if i.fits then 0 else 1
end Go.Proofs.Ytpdfahlglalebaa
