/- le.Text, le.Cut: what they answer. -/
import Derived.Test.YtimiooiaohfelaaDoorSized
import Derived.Test.YtimiooiaohfelaaDoorLeGet
import Derived.Test.YtimiooiaohfelaaDoorLePut
namespace Go.Proofs.YtimiooiaohfelaaDoor
open Go.RowKit
set_option linter.unusedVariables false

/-- a text with its length ahead -/
def textL (s : ByteArray) : ByteArray := ⟨(putL s.size 2 ++ s.data.toList).toArray⟩
theorem textL_size (s : ByteArray) : (textL s).size = 2 + s.size := by
  have := ba_len s
  rw [textL, ba_size, List.length_append, putL_length]; omega

/-- Put at a literal size -/
theorem lePut_2 (n : Nat) (w : World) (h : n < 65536) :
    Calls Tryd.prog 46 #[.int .u64 n, .int .i64 2] w fun e w' => e = .returned (.tuple #[.string ⟨(putL n 2).toArray⟩, .int .i64 0]) ∧ Below w.heap.size w w' :=
  lePut_ok n 2 w h (by omega) (by omega)

theorem leText_ok (s : ByteArray) (w : World) (hs : s.size ≤ 65535) :
    Calls Tryd.prog 47 #[.string s] w fun e w' => e = .returned (.tuple #[.string (textL s), .int .i64 0]) ∧ Below w.heap.size w w' := by
  have hi : (s.size : Int) ≤ 65535 := by omega
  have hadd : ∀ u : World, (Op.stringOp .add ⟨(putL s.size 2).toArray⟩ s).run Tryd.prog u = .ok (.string (textL s)) u := fun u => by
    have e : textL s = ⟨(putL s.size 2).toArray⟩ ++ s := by apply ba_ext; simp [textL]
    rw [e]
    exact run_string_add_sum _ _ _ (by rw [ba_size, putL_length]; omega)
  go_enter Tryd.func47, Tryd.ntmps47
  go_wp2_with (first | (go_at_call 46; refine (lePut_2 _ _ (by omega)).mono ?_; rintro e w1 ⟨rfl, hb⟩))
  go_ret2
  exact ⟨rfl, hb⟩

theorem leText_long (s : ByteArray) (w : World) (hs : ¬ s.size ≤ 65535) (hm : s.size ≤ 9223372036854775807) :
    Calls Tryd.prog 47 #[.string s] w fun e w' => e = .returned (.tuple #[.string ⟨#[]⟩, .int .i64 2]) ∧ w = w' := by
  have hi : 65535 < (s.size : Int) := by omega
  go_enter Tryd.func47, Tryd.ntmps47
  go_wp2_with fail
  go_ret2
  exact ⟨rfl, rfl⟩

def textS (s : ByteArray) : ByteArray := if s.size ≤ 65535 then textL s else ⟨#[]⟩
def textE (s : ByteArray) : Int := if s.size ≤ 65535 then 0 else 2
theorem leText_any (s : ByteArray) (w : World) (hm : s.size ≤ 9223372036854775807) :
    Calls Tryd.prog 47 #[.string s] w fun e w' => e = .returned (.tuple #[.string (textS s), .int .i64 (textE s)]) ∧ Below w.heap.size w w' := by
  by_cases hs : s.size ≤ 65535
  · refine (leText_ok s w hs).mono ?_
    rintro e w' ⟨rfl, hb⟩
    exact ⟨by simp [textS, textE, hs], hb⟩
  · refine (leText_long s w hs hm).mono ?_
    rintro e w' ⟨rfl, rfl⟩
    exact ⟨by simp [textS, textE, hs], Below.refl _ _⟩
end Go.Proofs.YtimiooiaohfelaaDoor
