/- crc.Seal. -/
import Derived.Test.YthnmnnlbglpjaaaDoorCrcOf
import Derived.Test.YthnmnnlbglpjaaaDoorLeGetP
import Derived.Test.YthnmnnlbglpjaaaDoorLePut
namespace Go.Proofs.YthnmnnlbglpjaaaDoor
open Go.RowKit
set_option linter.unusedVariables false

/-- a text with its sum behind it -/
def sealL (s : ByteArray) : ByteArray := ⟨(s.data.toList ++ putL (sumL s.data.toList) 4).toArray⟩
theorem sealL_size (s : ByteArray) : (sealL s).size = s.size + 4 := by
  rw [sealL, ba_size, List.length_append, putL_length, ba_len]
theorem sealL_list (s : ByteArray) : (sealL s).data.toList = s.data.toList ++ putL (sumL s.data.toList) 4 := by simp [sealL]

theorem crcSeal_any (s : ByteArray) (w : World) (hs : s.size ≤ 140737488355328) :
    Calls Tryd.prog 54 #[.string s] w fun e w' => e = .returned (.string (sealL s)) ∧ Below w.heap.size w w' := by
  have hl := sumL_lt s.data.toList
  have hadd : ∀ u : World, (Op.stringOp .add s ⟨(putL (sumL s.data.toList) 4).toArray⟩).run Tryd.prog u = .ok (.string (sealL s)) u := fun u => by
    have e : sealL s = s ++ ⟨(putL (sumL s.data.toList) 4).toArray⟩ := by apply ba_ext; simp [sealL]
    rw [e]
    exact run_string_add_sum _ _ _ (by have e1 := ba_size (putL (sumL s.data.toList) 4); rw [putL_length] at e1; omega)
  have hlI : ((sumL s.data.toList : Nat) : Int) ≤ 4294967295 := by omega
  go_enter Tryd.func54, Tryd.ntmps54
  go_wp2_with fail
  refine (crcOf_any s _ (by omega)).mono ?_
  rintro e w1 ⟨rfl, hb1⟩
  go_wp2_with fail
  refine (lePut_ok (sumL s.data.toList) 4 _ hl (by omega) (by omega)).mono ?_
  rintro e w2 ⟨rfl, hb2⟩
  go_wp2_with fail
  go_ret
  exact ⟨rfl, hb1.trans (hb2.mono hb1.size)⟩

/-- the error, the text -/
def openE (t : ByteArray) : Int := if t.size < 4 then 3 else if sealL (t.extract 0 (t.size - 4)) = t then 0 else 4
def openS (t : ByteArray) : ByteArray := if openE t = 0 then t.extract 0 (t.size - 4) else ⟨#[]⟩

theorem open_tail (t : ByteArray) (h : 4 ≤ t.size) : t.data.toList = (t.extract 0 (t.size - 4)).data.toList ++ cutL t (t.size - 4) 4 := by
  rw [ba_extract_list, cutL]
  have hlen := ba_len t
  have h4 : ((t.data.toList.drop (t.size - 4))).take 4 = t.data.toList.drop (t.size - 4) := List.take_of_length_le (by rw [List.length_drop]; omega)
  rw [h4]; simp
theorem open_iff (t : ByteArray) (h : 4 ≤ t.size) : getL (cutL t (t.size - 4) 4) = sumL (t.extract 0 (t.size - 4)).data.toList ↔ sealL (t.extract 0 (t.size - 4)) = t := by
  have ht := open_tail t h
  have hl : (cutL t (t.size - 4) 4).length = 4 := cutL_length _ _ _ (by omega)
  constructor
  · intro he
    apply ba_ext
    rw [sealL_list, ← he]
    have := putL_getL (cutL t (t.size - 4) 4)
    rw [hl] at this
    rw [this, ← ht]
  · intro he
    have h1 := congrArg (fun s : ByteArray => s.data.toList) he
    simp only [sealL_list] at h1
    conv at h1 => rhs; rw [ht]
    have h2 := List.append_cancel_left h1
    rw [← h2, getL_putL, Nat.mod_eq_of_lt (sumL_lt _)]
end Go.Proofs.YthnmnnlbglpjaaaDoor
