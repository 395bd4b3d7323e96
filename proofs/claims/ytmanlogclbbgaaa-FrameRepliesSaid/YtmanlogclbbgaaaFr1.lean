/- frame.number, frame.text. -/
import Derived.Test.YtmanlogclbbgaaaRow1
import Derived.Test.YtmanlogclbbgaaaLeText
namespace Go.Proofs.Ytmanlogclbbgaaa
open Go.RowKit
set_option linter.unusedVariables false

def encI (n : Int) : Value := .int .i64 n
/-- numbers one behind the other, each in k bytes -/
def fieldsL (k : Nat) (l : List Int) : List UInt8 := l.flatMap fun n => putL n.toNat k
theorem fieldsL_snoc (k : Nat) (l : List Int) (j : Nat) (h : j < l.length) : fieldsL k (l.take (j + 1)) = fieldsL k (l.take j) ++ putL (l[j]).toNat k := by
  rw [← List.take_append_getElem h, fieldsL, List.flatMap_append]
  simp [fieldsL]
theorem fieldsL_len (k : Nat) (l : List Int) : (fieldsL k l).length = l.length * k := by
  induction l with
  | nil => simp [fieldsL]
  | cons a l ih => rw [fieldsL, List.flatMap_cons, List.length_append, ← fieldsL, ih, putL_length, List.length_cons, Nat.add_mul]; omega
theorem ba_app (a b : List UInt8) : (ByteArray.mk (a ++ b).toArray) = ⟨a.toArray⟩ ++ ⟨b.toArray⟩ := ba_ext (by simp)
set_option maxRecDepth 100000 in
set_option maxHeartbeats 1000000 in
theorem frNumber (k : Int) (v : Value) (l : List Int) (w : World) (hv : Reads1 encI w v l) (hk1 : 1 ≤ k) (hk8 : k ≤ 8) (hl : l.length ≤ 1000) (hf : ∀ n ∈ l, 0 ≤ n ∧ n.toNat < 256 ^ k.toNat) :
    Calls Try.prog 25 #[.int .i64 k, v] w fun e w' => e = .returned (.string ⟨(fieldsL k.toNat l).toArray⟩) ∧ Below w.heap.size w w' := by
  obtain ⟨a, len, cap, rfl, hlen, hc1, hc2, hat⟩ := hv
  subst hlen
  have hlI : (l.length : Int) ≤ 1000 := by omega
  have HAT := Lib.hid hat
  have HF := Lib.hid hf
  have hp8 := pow256_le (k := k.toNat) (by omega)
  have HP8 := Lib.hid hp8
  clear hat hf hp8
  go_enter Try.func25, Try.ntmps25
  go_wp2_with fail
  go_loopw [5, 12] (fun s c wr => ∃ j : Nat, j ≤ l.length ∧ c = .int .i64 j ∧ s = .string ⟨(fieldsL k.toNat (l.take j)).toArray⟩ ∧ Hid (Below w.heap.size w wr)) (fun _ c _ => l.length - (intOf c).toNat)
  case atStart => exact ⟨0, by omega, rfl, rfl, Lib.hid (Below.refl _ _)⟩
  case round =>
    obtain ⟨j, hj, rfl, rfl, HW⟩ := hrel
    by_cases hlt : j < l.length
    · have hltI : (j : Int) < l.length := by omega
      obtain ⟨b, off, rfl, hb, hat⟩ := HAT.out.resolve_left (by omega)
      have hcell : wr.cell? ⟨b, off + j, none⟩ = some (.int .i64 l[j]) := (HW.out.cell (p := ⟨b, off + j, none⟩) hb).trans (hat j hlt)
      obtain ⟨hn0, hn1⟩ := HF.out l[j] (List.getElem_mem hlt)
      have hsn := fieldsL_snoc k.toNat l j hlt
      have hlen : (fieldsL k.toNat (l.take j)).length ≤ 8000 := by
        rw [fieldsL_len, List.length_take]
        exact Nat.le_trans (Nat.mul_le_mul (Nat.le_trans (Nat.min_le_right _ _) hl) (show k.toNat ≤ 8 by omega)) (by decide)
      generalize l[j] = n at *
      have hn2 : n ≤ 18446744073709551615 := by have := HP8.out; omega
      have hwn : IntKind.u64.wrap n = n := by simp [IntKind.wrap, IntKind.signed, IntKind.bits]; omega
      obtain ⟨m, rfl⟩ := Int.eq_ofNat_of_zero_le hn0
      obtain ⟨kn, rfl⟩ := Int.eq_ofNat_of_zero_le (show 0 ≤ k by omega)
      simp only [Int.toNat_natCast] at hn1 hsn hlen
      have HP := Lib.hid (fun u => lePut_ok m kn u hn1 (by omega) (by omega))
      have HSN := Lib.hid hsn
      have hadd := fun u => add_run (P := Try.prog) ⟨(fieldsL kn (l.take j)).toArray⟩ ⟨(putL m kn).toArray⟩ ⟨(fieldsL kn (l.take (j + 1))).toArray⟩ (by rw [hsn]; exact ba_app _ _) (by rw [ba_size, ba_size, putL_length]; omega) u
      simp only [Int.toNat_natCast]
      generalize (ByteArray.mk (fieldsL kn (l.take j)).toArray) = S1 at *
      generalize hS2 : (ByteArray.mk (fieldsL kn (l.take (j + 1))).toArray) = S2 at *
      have HS2 := Lib.hid hS2
      clear hat hsn hS2 hn1
      go_wp2_with fail
      refine (HP.out _).mono ?_
      rintro e w1 ⟨rfl, hb1⟩
      go_wp2_with fail
      go_roundw
      case rel => exact ⟨j + 1, by omega, by go_num, by rw [← HS2.out], Lib.hid (HW.out.trans (hb1.mono HW.out.size))⟩
      case measure => simp [intOf]; omega
    · obtain rfl : j = l.length := by omega
      rw [List.take_length]
      clear HAT HF
      go_wp2_with fail
      go_ret
      exact ⟨rfl, HW.out⟩
/-- one number -/
theorem frNumber_one (k : Nat) (n : Nat) (w : World) (hk1 : 1 ≤ k) (hk8 : k ≤ 8) (hf : n < 256 ^ k) :
    Calls Try.prog 25 #[.int .i64 k, .slice (some ⟨w.heap.size, 0, none⟩) 1 1] (w.alloc (.cells #[.int .i64 n] 3)) fun e w' => e = .returned (.string (numS n k)) ∧ Below w.heap.size w w' := by
  have hr : Reads1 encI (w.alloc (.cells #[.int .i64 (n : Int)] 3)) (.slice (some ⟨w.heap.size, 0, none⟩) 1 1) [(n : Int)] :=
    block_reads1 (enc := encI) (l := [(n : Int)]) (heap_alloc_new w (.cells #[.int .i64 (n : Int)] 3)) (by simp)
  refine (frNumber k _ [(n : Int)] _ hr (by omega) (by omega) (by simp) (by
    intro m hm
    rw [List.mem_singleton.1 hm]
    exact ⟨by omega, by simpa using hf⟩)).mono ?_
  rintro e w' ⟨rfl, hb⟩
  refine ⟨by simp [numS, fieldsL], ((Below.refl _ w).alloc (Nat.le_refl _) _).trans (hb.mono (by simp))⟩
set_option maxRecDepth 100000 in
theorem frText (s : ByteArray) (w : World) (hm : s.size ≤ 65535) :
    Calls Try.prog 26 #[.string s] w fun e w' => e = .returned (.string (textL s)) ∧ Below w.heap.size w w' := by
  have HT := Lib.hid (fun u => leText_ok s u hm)
  go_enter Try.func26, Try.ntmps26
  go_wp2_with (first | (go_at_call 47; refine (HT.out _).mono ?_; rintro e w1 ⟨rfl, hb⟩))
  go_ret
  exact ⟨rfl, hb⟩
end Go.Proofs.Ytmanlogclbbgaaa
