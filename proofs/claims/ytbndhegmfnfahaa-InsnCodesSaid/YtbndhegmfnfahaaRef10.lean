/- The reference's Put and Get of instructions. -/
import Derived.Test.YtbndhegmfnfahaaRef10Kn
import Derived.Test.YtbndhegmfnfahaaRef01Bytes
import Derived.Test.YtbndhegmfnfahaaRef01Num
import Derived.Outline
namespace Go.Proofs.Ytbndhegmfnfahaa
open Go.RowKit
set_option linter.unusedVariables false

theorem refBytes_k (n k : Nat) (w : World) (hk : k ≤ 8) (h : n ≤ 4294967295) : Calls Try.prog 58 #[.int .u64 n, .int .i64 k] w fun e w' => e = .returned (.tuple #[.string (numS n k), .int .u64 (n / 256 ^ k : Nat)]) ∧ Below w.heap.size w w' :=
  refBytes_any n k w (by omega) (by omega)
theorem putL_1 (n : Nat) : putL n 1 = [UInt8.ofNat (n % 256)] := rfl

set_option maxRecDepth 100000 in
set_option maxHeartbeats 1000000 in
theorem refPut_ok (i : Ins) (w : World) (hi : i.bounded) (hf : i.fits) :
    Calls Try.prog 45 #[i.value] w fun e w' => e = .returned (.tuple #[.string i.bytes, .int .i64 0]) ∧ Below w.heap.size w w' := by
  obtain ⟨c0, c1, t0, t1, f0, f1⟩ := hf
  obtain ⟨_, _, _, k0, k1⟩ := hi
  obtain ⟨code, jt, jf, k⟩ := i
  dsimp only at c0 c1 t0 t1 f0 f1 k0 k1
  obtain ⟨code, rfl⟩ := Int.eq_ofNat_of_zero_le c0
  obtain ⟨jt, rfl⟩ := Int.eq_ofNat_of_zero_le t0
  obtain ⟨jf, rfl⟩ := Int.eq_ofNat_of_zero_le f0
  obtain ⟨k, rfl⟩ := Int.eq_ofNat_of_zero_le k0
  obtain ⟨S2, e2⟩ : ∃ S2 : ByteArray, S2 = ⟨[UInt8.ofNat (jt % 256), UInt8.ofNat (jf % 256)].toArray⟩ := ⟨_, rfl⟩
  obtain ⟨S3, e3⟩ : ∃ S3, S3 = numS code 2 ++ S2 := ⟨_, rfl⟩
  obtain ⟨S4, e4⟩ : ∃ S4, S4 = S3 ++ numS k 4 := ⟨_, rfl⟩
  have z2 : S2.size = 2 := by rw [e2]; rfl
  have z3 : S3.size = 4 := by rw [e3, ByteArray.size_append, z2, numS_size]
  have ha3 := fun u => add_run (P := Try.prog) (numS code 2) S2 S3 e3 (by rw [z2, numS_size]; omega) u
  have ha4 := fun u => add_run (P := Try.prog) S3 (numS k 4) S4 e4 (by rw [z3, numS_size]; omega) u
  have hcv : ∀ u : World, (convert 32 9 (.slice (some ⟨u.heap.size, 0, none⟩) 2 2)).run Try.prog (u.alloc (.cells #[.int .u8 jt, .int .u8 jf] 5)) = .ok (.string S2) (u.alloc (.cells #[.int .u8 jt, .int .u8 jf] 5)) := by
    intro u
    have hl : ([UInt8.ofNat (jt % 256), UInt8.ofNat (jf % 256)].map fun x => Value.int .u8 x.toNat).toArray = #[.int .u8 jt, .int .u8 jf] := by
      simp only [List.map_cons, List.map_nil, u8_mod]
      rw [show jt % 256 = jt from by omega, show jf % 256 = jf from by omega]
    rw [e2]
    exact block_string (P := Try.prog) [UInt8.ofNat (jt % 256), UInt8.ofNat (jf % 256)] 2 rfl (by rw [hl]; exact heap_alloc_new u _) Try.underlying32 Try.underlying5 Try.underlying9
  have hfin : S4 = Ins.bytes ⟨code, jt, jf, k⟩ := by
    apply ba_ext
    rw [e4, e3, e2, Ins.bytes_list]
    simp [numS_list, putL_1]
  have HF := Lib.hid hfin
  clear e2 e3 e4 z2 z3 hfin
  have HP1 := Lib.hid (fun u => refBytes_k code 2 u (by omega) (by omega))
  have HP2 := Lib.hid (fun u => refBytes_k k 4 u (by omega) (by omega))
  show Calls _ _ #[.agg #[.int .i64 code, .int .i64 jt, .int .i64 jf, .int .u32 k]] _ _
  go_enter Try.func45, Try.ntmps45
  go_wp2_with fail
  generalize hW : w.alloc (.cells #[.int .i64 code, .int .i64 jt, .int .i64 jf, .int .u32 k] 55) = W
  have hblk : W.heap[w.heap.size]? = some (.cells #[.int .i64 code, .int .i64 jt, .int .i64 jf, .int .u32 k] 55 (0, 0)) := by rw [← hW]; exact heap_alloc_new w _
  have hbel : Below w.heap.size w W := by rw [← hW]; exact (Below.refl _ _).alloc (Nat.le_refl _) _
  clear hW
  refine (HP1.out _).mono ?_
  rintro e w1 ⟨rfl, hb1⟩
  have q3 := below_cell (v := .int .u32 (k : Nat)) hb1 hblk 3 rfl
  go_wp2_with fail
  refine (keep hb1 (HP2.out _)).mono ?_
  rintro e w2 ⟨rfl, hb2⟩
  have r1 := below_cell (v := .int .i64 (jt : Nat)) hb2 hblk 1 rfl
  have r2 := below_cell (v := .int .i64 (jf : Nat)) hb2 hblk 2 rfl
  go_wp2_with fail
  go_ret2
  exact ⟨by rw [← HF.out]; rfl, hbel.trans ((hb2.alloc hb2.size _).mono hbel.size)⟩

theorem refPut_bad (i : Ins) (w : World) (hf : ¬ i.fits) :
    Calls Try.prog 45 #[i.value] w fun e w' => e = .returned (.tuple #[.string ⟨#[]⟩, .int .i64 1]) ∧ Below w.heap.size w w' := by
  obtain ⟨code, jt, jf, k⟩ := i
  simp only [Ins.fits] at hf
  show Calls _ _ #[.agg #[.int .i64 code, .int .i64 jt, .int .i64 jf, .int .u32 k]] _ _
  have hcs : code < 0 ∨ (0 ≤ code ∧ 65535 < code) ∨ (0 ≤ code ∧ code ≤ 65535 ∧ jt < 0) ∨ (0 ≤ code ∧ code ≤ 65535 ∧ 0 ≤ jt ∧ 255 < jt) ∨ (0 ≤ code ∧ code ≤ 65535 ∧ 0 ≤ jt ∧ jt ≤ 255 ∧ jf < 0) ∨ (0 ≤ code ∧ code ≤ 65535 ∧ 0 ≤ jt ∧ jt ≤ 255 ∧ 0 ≤ jf ∧ 255 < jf) := by omega
  clear hf
  rcases hcs with h | ⟨h1, h⟩ | ⟨h1, h2, h⟩ | ⟨h1, h2, h3, h⟩ | ⟨h1, h2, h3, h4, h⟩ | ⟨h1, h2, h3, h4, h5, h⟩
  all_goals
    go_enter Try.func45, Try.ntmps45
    go_wp2_with fail
    go_ret2
    exact ⟨rfl, (Below.refl _ _).alloc (Nat.le_refl _) _⟩

theorem refPut_any (i : Ins) (w : World) (hi : i.bounded) :
    Calls Try.prog 45 #[i.value] w fun e w' => e = .returned (.tuple #[.string (insPutS i), .int .i64 (insPutE i)]) ∧ Below w.heap.size w w' := by
  unfold insPutS insPutE
  by_cases h : i.fits
  · rw [if_pos h, if_pos h]
    exact refPut_ok i w hi h
  · rw [if_neg h, if_neg h]
    exact refPut_bad i w h
end Go.Proofs.Ytbndhegmfnfahaa
