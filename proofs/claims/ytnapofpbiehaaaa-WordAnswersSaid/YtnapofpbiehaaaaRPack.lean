/- The reference's Pack and Unpack. -/
import Derived.Test.YtnapofpbiehaaaaRef01Bytes
import Derived.Test.YtnapofpbiehaaaaRecB
namespace Go.Proofs.Ytnapofpbiehaaaa
open Go.RowKit
set_option linter.unusedVariables false

theorem refBytes_4 (n : Nat) (w : World) (h : n ≤ 4294967295) : Calls Try.prog 26 #[.int .u64 n, .int .i64 4] w fun e w' => e = .returned (.tuple #[.string (numS n 4), .int .u64 (n / 256 ^ 4 : Nat)]) ∧ Below w.heap.size w w' :=
  refBytes_any n 4 w (by omega) (by omega)
theorem refBytes_8 (n : Nat) (w : World) (h : n ≤ 18446744073709551615) : Calls Try.prog 26 #[.int .u64 n, .int .i64 8] w fun e w' => e = .returned (.tuple #[.string (numS n 8), .int .u64 (n / 256 ^ 8 : Nat)]) ∧ Below w.heap.size w w' :=
  refBytes_any n 8 w (by omega) (by omega)

set_option maxRecDepth 100000 in
set_option maxHeartbeats 1000000 in
theorem refPack_any (c : Cal) (w : World) (hc : c.ok) :
    Calls Try.prog 14 #[c.value] w fun e w' => e = .returned (.string (c.recB 6)) ∧ Below w.heap.size w w' := by
  obtain ⟨h1, h2, h3, h4, h5⟩ := hc
  obtain ⟨nr, arch, ip, args⟩ := c
  dsimp only at h1 h2 h3 h4 h5
  obtain ⟨a0, a1, a2, a3, a4, a5, rfl⟩ : ∃ a0 a1 a2 a3 a4 a5, args = [a0, a1, a2, a3, a4, a5] := by
    match args, h4 with
    | [a0, a1, a2, a3, a4, a5], _ => exact ⟨a0, a1, a2, a3, a4, a5, rfl⟩
  have H5 := Lib.hid h5
  clear h4 h5
  have hrec := Cal.recB_snoc ⟨nr, arch, ip, [a0, a1, a2, a3, a4, a5]⟩
  have hrsz := Cal.recB_size ⟨nr, arch, ip, [a0, a1, a2, a3, a4, a5]⟩
  have HR := Lib.hid hrec; have HZ := Lib.hid hrsz
  clear hrec hrsz
  obtain ⟨S2, e2⟩ : ∃ S2, S2 = numS nr 4 ++ numS arch 4 := ⟨_, rfl⟩
  have z2 : S2.size = 8 := by rw [e2, ByteArray.size_append, numS_size, numS_size]
  have ha2 := fun u => add_run (P := Try.prog) (numS nr 4) (numS arch 4) S2 e2 (by rw [numS_size, numS_size]; omega) u
  have hS3 : Cal.recB ⟨nr, arch, ip, [a0, a1, a2, a3, a4, a5]⟩ 0 = S2 ++ numS ip 8 := by
    apply ba_ext
    rw [ba_append_list, e2, ba_append_list, Cal.recB_list, numS_list, numS_list, numS_list]
    simp [argsL]
  have ha3 := fun u => add_run (P := Try.prog) S2 (numS ip 8) _ hS3 (by rw [z2, numS_size]; omega) u
  clear e2 z2 hS3
  show Calls _ _ #[.agg #[.int .u32 nr, .int .u32 arch, .int .u64 ip, .int .u64 a0, .int .u64 a1, .int .u64 a2, .int .u64 a3, .int .u64 a4, .int .u64 a5]] _ _
  generalize hQ : Cal.mk nr arch ip [a0, a1, a2, a3, a4, a5] = c at *
  have HQ := Lib.hid hQ
  clear hQ
  have nI : (nr : Int) ≤ 4294967295 := by omega
  have aI : (arch : Int) ≤ 4294967295 := by omega
  have iI : (ip : Int) ≤ 18446744073709551615 := by omega
  have HN := Lib.hid (fun u => refBytes_4 nr u h1)
  have HA := Lib.hid (fun u => refBytes_4 arch u h2)
  have HI := Lib.hid (fun u => refBytes_8 ip u h3)
  clear h1 h2 h3
  go_enter Try.func14, Try.ntmps14
  go_wp2_with fail
  generalize hW : w.alloc (.cells #[.int .u32 nr, .int .u32 arch, .int .u64 ip, .int .u64 a0, .int .u64 a1, .int .u64 a2, .int .u64 a3, .int .u64 a4, .int .u64 a5] 39) = W
  have hblk : W.heap[w.heap.size]? = some (.cells #[.int .u32 nr, .int .u32 arch, .int .u64 ip, .int .u64 a0, .int .u64 a1, .int .u64 a2, .int .u64 a3, .int .u64 a4, .int .u64 a5] 39 (0, 0)) := by rw [← hW]; exact heap_alloc_new w _
  have hbel : Below w.heap.size w W := by rw [← hW]; exact (Below.refl _ _).alloc (Nat.le_refl _) _
  clear hW
  have HB := Lib.hid hblk
  clear hblk
  refine (HN.out _).mono ?_
  rintro e w1 ⟨rfl, hz1⟩
  have p1 := below_cell (v := .int .u32 (arch : Nat)) hz1 HB.out 1 rfl
  go_wp2_with fail
  refine (keep hz1 (HA.out _)).mono ?_
  rintro e w2 ⟨rfl, hz2⟩
  clear p1 hz1
  have p2 := below_cell (v := .int .u64 (ip : Nat)) hz2 HB.out 2 rfl
  go_wp2_with fail
  refine (keep hz2 (HI.out _)).mono ?_
  rintro e w3 ⟨rfl, hz3⟩
  clear p2 hz2
  go_wp2_with fail
  clear ha2 ha3 HN HA HI nI aI iI
  go_loopw [9, 10] (fun s k wr => ∃ i : Nat, i ≤ 6 ∧ k = .int .i64 i ∧ s = .string (c.recB i) ∧ Below W.heap.size W wr) (fun _ k _ => 6 - (intOf k).toNat)
  case atStart => exact ⟨0, by omega, rfl, rfl, hz3⟩
  case round =>
    clear hz3
    obtain ⟨i, hi, rfl, rfl, hwr⟩ := hrel
    by_cases hlt : i < 6
    · obtain ⟨x, ex⟩ : ∃ x, x = [a0, a1, a2, a3, a4, a5].getD i 0 := ⟨_, rfl⟩
      have hcell : wr.cell? ⟨w.heap.size, 3 + i, none⟩ = some (.int .u64 (x : Nat)) := by
        refine below_cell hwr HB.out (3 + i) ?_
        rw [ex]
        have hcs : i = 0 ∨ i = 1 ∨ i = 2 ∨ i = 3 ∨ i = 4 ∨ i = 5 := by omega
        rcases hcs with rfl | rfl | rfl | rfl | rfl | rfl <;> rfl
      have hxb : x ≤ 18446744073709551615 := by
        have hg : [a0, a1, a2, a3, a4, a5].getD i 0 = [a0, a1, a2, a3, a4, a5][i]'(by simpa using hlt) := by simp [List.getD, hlt]
        rw [ex, hg]
        exact H5.out _ (List.getElem_mem _)
      have hsn : c.recB (i + 1) = c.recB i ++ numS x 8 := by
        rw [HR.out i (by rw [← HQ.out]; exact hlt), ← HQ.out, ex]
      have hz1 : (c.recB i).size = 16 + 8 * i := HZ.out i (by rw [← HQ.out]; exact hi)
      have hadd := fun u => add_run (P := Try.prog) (c.recB i) (numS x 8) _ hsn (by rw [numS_size, hz1]; omega) u
      have HE := Lib.hid ex
      have HXB := Lib.hid hxb
      clear ex hsn hz1 hxb
      go_wp2_with fail
      refine (keep hwr (refBytes_8 x wr HXB.out)).mono ?_
      rintro e w4 ⟨rfl, hb1⟩
      go_wp2_with fail
      go_roundw
      case rel => exact ⟨i + 1, by omega, by go_num, rfl, hb1⟩
      case measure => simp [intOf]; omega
    · have h6 : i = 6 := by omega
      subst h6
      go_wp2_with fail
      go_ret
      exact ⟨rfl, hbel.trans (hwr.mono hbel.size)⟩
end Go.Proofs.Ytnapofpbiehaaaa
