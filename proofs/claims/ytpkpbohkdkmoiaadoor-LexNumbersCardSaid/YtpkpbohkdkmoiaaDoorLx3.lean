/- strconv.ParseUint of few hexadecimal digits; lex.sign. -/
import Derived.Test.YtpkpbohkdkmoiaaDoorLx2
namespace Go.Proofs.YtpkpbohkdkmoiaaDoor
open Go.RowKit
set_option linter.unusedVariables false

theorem lxParseHex (s : ByteArray) (w : World) (h0 : 0 < s.size) (h16 : s.size ≤ 16) (hd : ∀ j (h : j < s.size), hexB s[j].toNat = true) :
    Calls Tryd.prog 20 #[.string s, .int .i64 16, .int .i64 64] w fun e w' => e = .returned (.tuple #[.int .u64 (hexN s.data.toList : Nat), .nilIface]) ∧ Below w.heap.size w w' := by
  have HH := Lib.hid (fun u => lxHex s u h0 h16 hd)
  clear h0 h16 hd
  generalize hexN s.data.toList = n at *
  go_enter Tryd.func20, Tryd.ntmps20
  go_wp2_with fail
  refine (HH.out _).mono ?_
  rintro e w2 ⟨rfl, hb2⟩
  go_wp2_with fail
  go_ret2
  exact ⟨rfl, hb2⟩
/-- the signs, the longer ones first -/
def signsL : List (List Nat) := [[61, 61], [33, 61], [60, 61], [62, 61], [60], [62], [38], [40], [41]]
/-- does a text stand at the beginning? -/
def atHead (s : ByteArray) (t : List Nat) : Bool := t.isPrefixOf (s.data.toList.map UInt8.toNat)
def signN (s : ByteArray) : Nat := match signsL.find? (atHead s) with
  | none => 0
  | some t => t.length
theorem head1 (s : ByteArray) (a : Nat) (h : 0 < s.size) : atHead s [a] = (a == s[0].toNat) := by
  unfold atHead
  have hl := ba_len s
  cases hx : s.data.toList with
  | nil => rw [hx] at hl; simp at hl; omega
  | cons x t =>
    have : s[0] = x := by
      have h1 : s.data.toList[0]'(by omega) = x := by simp only [hx]; rfl
      rw [← h1]; simp [ByteArray.getElem_eq_getElem_data]
    rw [this]
    simp [List.isPrefixOf]
theorem head2 (s : ByteArray) (a b : Nat) (h : 1 < s.size) : atHead s [a, b] = ((a == s[0].toNat) && (b == s[1].toNat)) := by
  unfold atHead
  have hl := ba_len s
  cases hx : s.data.toList with
  | nil => rw [hx] at hl; simp at hl; omega
  | cons x t =>
    cases t with
    | nil => rw [hx] at hl; simp at hl; omega
    | cons y t =>
      have h0 : s[0] = x := by
        have h1 : s.data.toList[0]'(by omega) = x := by simp only [hx]; rfl
        rw [← h1]; simp [ByteArray.getElem_eq_getElem_data]
      have h1 : s[1] = y := by
        have h1 : s.data.toList[1]'(by omega) = y := by simp only [hx]; rfl
        rw [← h1]; simp [ByteArray.getElem_eq_getElem_data]
      rw [h0, h1]
      simp [List.isPrefixOf]
theorem head2_short (s : ByteArray) (a b : Nat) (h : s.size = 1) : atHead s [a, b] = false := by
  unfold atHead
  have hl := ba_len s
  cases hx : s.data.toList with
  | nil => rfl
  | cons x t =>
    cases t with
    | nil => simp [List.isPrefixOf]
    | cons y t => rw [hx] at hl; simp at hl; omega
end Go.Proofs.YtpkpbohkdkmoiaaDoor
