/- crc.Seal, crc.Open. -/
import Derived.Test.YtbndhegmfnfahaaCrcOf
import Derived.Test.YtbndhegmfnfahaaLeGet
namespace Go.Proofs.Ytbndhegmfnfahaa
open Go.RowKit
set_option linter.unusedVariables false

/-- a text with its sum behind it -/
def sealL (s : ByteArray) : ByteArray := ⟨(s.data.toList ++ putL (sumL s.data.toList) 4).toArray⟩
theorem sealL_size (s : ByteArray) : (sealL s).size = s.size + 4 := by
  rw [sealL, ba_size, List.length_append, putL_length, ba_len]
theorem sealL_list (s : ByteArray) : (sealL s).data.toList = s.data.toList ++ putL (sumL s.data.toList) 4 := by simp [sealL]

theorem crcSeal_any (s : ByteArray) (w : World) (hs : s.size ≤ 140737488355328) :
    Calls Try.prog 21 #[.string s] w fun e w' => e = .returned (.string (sealL s)) ∧ Below w.heap.size w w' := by
  have hl := sumL_lt s.data.toList
  have hadd : ∀ u : World, (Op.stringOp .add s ⟨(putL (sumL s.data.toList) 4).toArray⟩).run Try.prog u = .ok (.string (sealL s)) u := fun u => by
    have e : sealL s = s ++ ⟨(putL (sumL s.data.toList) 4).toArray⟩ := by apply ba_ext; simp [sealL]
    rw [e]
    exact run_string_add_sum _ _ _ (by have e1 := ba_size (putL (sumL s.data.toList) 4); rw [putL_length] at e1; omega)
  have hlI : ((sumL s.data.toList : Nat) : Int) ≤ 4294967295 := by omega
  go_enter Try.func21, Try.ntmps21
  go_wp2_with fail
  refine (crcOf_any s _ (by omega)).mono ?_
  rintro e w1 ⟨rfl, hb1⟩
  go_wp2_with fail
  refine (lePut_ok (sumL s.data.toList) 4 _ hl (by omega) (by omega)).mono ?_
  rintro e w2 ⟨rfl, hb2⟩
  go_wp2_with fail
  go_ret
  exact ⟨rfl, hb1.trans (hb2.mono hb1.size)⟩

/-- the error, the text -/
def openE (t : ByteArray) : Int := if t.size < 4 then 3 else if sealL (t.extract 0 (t.size - 4)) = t then 0 else 4
def openS (t : ByteArray) : ByteArray := if openE t = 0 then t.extract 0 (t.size - 4) else ⟨#[]⟩

theorem open_tail (t : ByteArray) (h : 4 ≤ t.size) : t.data.toList = (t.extract 0 (t.size - 4)).data.toList ++ cutL t (t.size - 4) 4 := by
  rw [ba_extract_list, cutL]
  have hlen := ba_len t
  have h4 : ((t.data.toList.drop (t.size - 4))).take 4 = t.data.toList.drop (t.size - 4) := List.take_of_length_le (by rw [List.length_drop]; omega)
  rw [h4]; simp
theorem open_iff (t : ByteArray) (h : 4 ≤ t.size) : getL (cutL t (t.size - 4) 4) = sumL (t.extract 0 (t.size - 4)).data.toList ↔ sealL (t.extract 0 (t.size - 4)) = t := by
  have ht := open_tail t h
  have hl : (cutL t (t.size - 4) 4).length = 4 := cutL_length _ _ _ (by omega)
  constructor
  · intro he
    apply ba_ext
    rw [sealL_list, ← he]
    have := putL_getL (cutL t (t.size - 4) 4)
    rw [hl] at this
    rw [this, ← ht]
  · intro he
    have h1 := congrArg (fun s : ByteArray => s.data.toList) he
    simp only [sealL_list] at h1
    conv at h1 => rhs; rw [ht]
    have h2 := List.append_cancel_left h1
    rw [← h2, getL_putL, Nat.mod_eq_of_lt (sumL_lt _)]

theorem crcOpen_any (t : ByteArray) (w : World) (hs : t.size ≤ 140737488355328) :
    Calls Try.prog 16 #[.string t] w fun e w' => e = .returned (.tuple #[.string (openS t), .int .i64 (openE t)]) ∧ Below w.heap.size w w' := by
  by_cases h : t.size < 4
  · have hE : openE t = 3 := by unfold openE; rw [if_pos h]
    have hS : openS t = ⟨#[]⟩ := by unfold openS; rw [hE, if_neg (by omega)]
    have HE := Lib.hid hE; have HS := Lib.hid hS; clear hE hS
    have hI : (t.size : Int) - 4 < 0 := by omega
    go_enter Try.func16, Try.ntmps16
    go_wp2_with fail
    go_ret2
    exact ⟨by rw [HE.out, HS.out]; rfl, Below.refl _ _⟩
  · obtain ⟨n, hn⟩ : ∃ n : Nat, n = t.size - 4 := ⟨_, rfl⟩
    have hI : (t.size : Int) - 4 = (n : Int) := by omega
    have hle := open_iff t (by omega)
    have hget := leGet_ok t n 4 w (by omega) (by omega) (by omega) (by omega)
    have hgl := getL_lt (cutL t n 4)
    rw [cutL_length t n 4 (by omega)] at hgl
    have hgI : ((getL (cutL t n 4) : Nat) : Int) ≤ 4294967295 := by omega
    have hE0 : openE t = if sealL (t.extract 0 n) = t then 0 else 4 := by unfold openE; rw [if_neg h, ← hn]
    have hS0 : openS t = if openE t = 0 then t.extract 0 n else ⟨#[]⟩ := by unfold openS; rw [← hn]
    rw [← hn] at hle
    have hnI : (n : Int) ≤ t.size := by omega
    have hex : (t.extract 0 n).size ≤ 9223372036854775807 := by rw [ByteArray.size_extract]; omega
    have HN := Lib.hid hn; have HG := Lib.hid hget; have HE0 := Lib.hid hE0; have HS0 := Lib.hid hS0; have HX := Lib.hid hex
    clear hn hget hE0 hS0 hgl hex
    by_cases heq : sealL (t.extract 0 n) = t
    · have hq := hle.2 heq
      have HEQ := Lib.hid heq
      clear heq hle
      generalize getL (cutL t n 4) = g at *
      generalize hsl : sumL (t.extract 0 n).data.toList = sl at *
      have HSL := Lib.hid hsl
      clear hsl
      subst hq
      go_enter Try.func16, Try.ntmps16
      go_wp2_with fail
      refine HG.out.mono ?_
      rintro e w1 ⟨rfl, rfl⟩
      go_wp2_with fail
      refine (crcOf_any _ _ HX.out).mono ?_
      rintro e w1 ⟨rfl, hb⟩
      rw [HSL.out]
      go_wp2_with fail
      go_ret2
      exact ⟨by rw [HS0.out, HE0.out, if_pos HEQ.out, if_pos rfl]; rfl, hb⟩
    · have hq : ¬ _ := fun hh => heq (hle.1 hh)
      have hsum := sumL_lt (t.extract 0 n).data.toList
      have hne : ((getL (cutL t n 4) : Nat) : Int) ≠ (sumL (t.extract 0 n).data.toList : Nat) := by omega
      have HEQ := Lib.hid heq
      clear hq heq hle
      generalize getL (cutL t n 4) = g at *
      generalize hsl : sumL (t.extract 0 n).data.toList = sl at *
      have HSL := Lib.hid hsl
      have hneb : ((g : Int) != (sl : Int)) = true := bne_iff_ne.2 hne
      clear hsl hne
      go_enter Try.func16, Try.ntmps16
      go_wp2_with fail
      refine HG.out.mono ?_
      rintro e w1 ⟨rfl, rfl⟩
      go_wp2_with fail
      refine (crcOf_any _ _ HX.out).mono ?_
      rintro e w1 ⟨rfl, hb⟩
      rw [HSL.out]
      go_wp2_with fail
      go_ret2
      exact ⟨by rw [HS0.out, HE0.out, if_neg HEQ.out, if_neg (by omega)]; rfl, hb⟩
end Go.Proofs.Ytbndhegmfnfahaa
