/- insn.Put. -/
import Derived.Test.YtnlmdajoifjddaaIns
import Derived.Test.YtnlmdajoifjddaaLePut
import Derived.Deep.RegionWith
namespace Go.Proofs.Ytnlmdajoifjddaa
open Go.RowKit
set_option linter.unusedVariables false

theorem insnNumber_ok (n k : Nat) (w : World) (h1 : n < 256 ^ k) (hs1 : 1 ≤ k) (hs2 : k ≤ 8) (hn : n ≤ 9223372036854775807) :
    Calls Try.prog 29 #[.int .i64 n, .int .i64 k] w fun e w' => e = .returned (.string (numS n k)) ∧ Below w.heap.size w w' := by
  have hnI : (n : Int) ≤ 9223372036854775807 := by omega
  have hput := fun u => lePut_ok n k u h1 hs1 hs2
  have HP := Lib.hid hput
  clear hput h1 hn
  go_enter Try.func29, Try.ntmps29
  go_wp2_with fail
  refine (HP.out _).mono ?_
  rintro e w1 ⟨rfl, hb⟩
  go_wp2_with fail
  go_ret
  exact ⟨rfl, hb⟩

theorem insnNumber_2 (n : Nat) (w : World) (h1 : n ≤ 65535) :
    Calls Try.prog 29 #[.int .i64 n, .int .i64 2] w fun e w' => e = .returned (.string (numS n 2)) ∧ Below w.heap.size w w' := insnNumber_ok n 2 w (by omega) (by omega) (by omega) (by omega)
theorem insnNumber_1 (n : Nat) (w : World) (h1 : n ≤ 255) :
    Calls Try.prog 29 #[.int .i64 n, .int .i64 1] w fun e w' => e = .returned (.string (numS n 1)) ∧ Below w.heap.size w w' := insnNumber_ok n 1 w (by omega) (by omega) (by omega) (by omega)
theorem insnNumber_4 (n : Nat) (w : World) (h1 : n ≤ 4294967295) :
    Calls Try.prog 29 #[.int .i64 n, .int .i64 4] w fun e w' => e = .returned (.string (numS n 4)) ∧ Below w.heap.size w w' := insnNumber_ok n 4 w (by omega) (by omega) (by omega) (by omega)

theorem insnPut_ok (i : Ins) (w : World) (hi : i.bounded) (hf : i.fits) :
    Calls Try.prog 17 #[i.value] w fun e w' => e = .returned (.tuple #[.string i.bytes, .int .i64 0]) ∧ Below w.heap.size w w' := by
  obtain ⟨c0, c1, t0, t1, f0, f1⟩ := hf
  obtain ⟨_, _, _, k0, k1⟩ := hi
  obtain ⟨code, jt, jf, k⟩ := i
  dsimp only at c0 c1 t0 t1 f0 f1 k0 k1
  obtain ⟨code, rfl⟩ := Int.eq_ofNat_of_zero_le c0
  obtain ⟨jt, rfl⟩ := Int.eq_ofNat_of_zero_le t0
  obtain ⟨jf, rfl⟩ := Int.eq_ofNat_of_zero_le f0
  obtain ⟨k, rfl⟩ := Int.eq_ofNat_of_zero_le k0
  have b1 : decide (0 ≤ (jt : Int) ∧ (jt : Int) ≤ 255) = true := decide_eq_true ⟨t0, t1⟩
  have b2 : decide (0 ≤ (jf : Int) ∧ (jf : Int) ≤ 255) = true := decide_eq_true ⟨f0, f1⟩
  obtain ⟨S2, e2⟩ : ∃ S2, S2 = numS code 2 ++ numS jt 1 := ⟨_, rfl⟩
  obtain ⟨S3, e3⟩ : ∃ S3, S3 = S2 ++ numS jf 1 := ⟨_, rfl⟩
  obtain ⟨S4, e4⟩ : ∃ S4, S4 = S3 ++ numS k 4 := ⟨_, rfl⟩
  have z2 : S2.size = 3 := by rw [e2, ByteArray.size_append, numS_size, numS_size]
  have z3 : S3.size = 4 := by rw [e3, ByteArray.size_append, z2, numS_size]
  have ha2 := fun u => add_run (P := Try.prog) (numS code 2) (numS jt 1) S2 e2 (by rw [numS_size, numS_size]; omega) u
  have ha3 := fun u => add_run (P := Try.prog) S2 (numS jf 1) S3 e3 (by rw [z2, numS_size]; omega) u
  have ha4 := fun u => add_run (P := Try.prog) S3 (numS k 4) S4 e4 (by rw [z3, numS_size]; omega) u
  have hfin : S4 = Ins.bytes ⟨code, jt, jf, k⟩ := by
    apply ba_ext
    rw [e4, e3, e2, Ins.bytes_list]
    simp [numS_list]
  have HF := Lib.hid hfin
  clear e2 e3 e4 z2 z3 hfin
  show Calls _ _ #[.agg #[.int .i64 code, .int .i64 jt, .int .i64 jf, .int .u32 k]] _ _
  go_enter Try.func17, Try.ntmps17
  go_wp2_with (first | (go_at_call 28; refine (insnFits_any _ _).mono ?_; rintro e w' ⟨rfl, rfl⟩))
  generalize hW : w.alloc (.cells #[.int .i64 code, .int .i64 jt, .int .i64 jf, .int .u32 k] 44) = W
  have hblk : W.heap[w.heap.size]? = some (.cells #[.int .i64 code, .int .i64 jt, .int .i64 jf, .int .u32 k] 44 (0, 0)) := by rw [← hW]; exact heap_alloc_new w _
  have hbel : Below w.heap.size w W := by rw [← hW]; exact (Below.refl _ _).alloc (Nat.le_refl _) _
  clear hW
  have q0 : ∀ x : KeepT W, x.val.cell? ⟨w.heap.size, 0, none⟩ = some (.int .i64 code) := fun x => by rw [keep_cell hblk x, cell_of_row _ _ _ _ _ _ hblk]; rfl
  have q1 : ∀ x : KeepT W, x.val.cell? ⟨w.heap.size, 1, none⟩ = some (.int .i64 jt) := fun x => by rw [keep_cell hblk x, cell_of_row _ _ _ _ _ _ hblk]; rfl
  have q2 : ∀ x : KeepT W, x.val.cell? ⟨w.heap.size, 2, none⟩ = some (.int .i64 jf) := fun x => by rw [keep_cell hblk x, cell_of_row _ _ _ _ _ _ hblk]; rfl
  have q3 : ∀ x : KeepT W, x.val.cell? ⟨w.heap.size, 3, none⟩ = some (.int .u32 k) := fun x => by rw [keep_cell hblk x, cell_of_row _ _ _ _ _ _ hblk]; rfl
  clear hblk
  refine wp_region_keep (w0 := W) (by kernel_rfl) (by kernel_rfl) (Below.refl _ _) ?_
  repeat (go_big_quiet_step ((first | (go_at_call_of 29 (Value.int .i64 (code : Int)); exact keepCall (insnNumber_2 _ _ (by omega))) | (go_at_call_of 29 (Value.int .i64 (jt : Int)); exact keepCall (insnNumber_1 _ _ (by omega))) | (go_at_call_of 29 (Value.int .i64 (jf : Int)); exact keepCall (insnNumber_1 _ _ (by omega))) | (go_at_call_of 29 (Value.int .i64 (k : Int)); exact keepCall (insnNumber_4 _ _ (by omega))))))
  refine wpQuiet_nil ?_
  intro _ hw'
  obtain ⟨x, rfl⟩ := hw'
  have hz := hbel.trans (x.below.mono hbel.size)
  clear q0 q1 q2 q3
  generalize x.val = wz at *
  go_wp2_with fail
  go_ret2
  exact ⟨by rw [← HF.out]; rfl, hz⟩

theorem insnPut_bad (i : Ins) (w : World) (hf : ¬ i.fits) :
    Calls Try.prog 17 #[i.value] w fun e w' => e = .returned (.tuple #[.string ⟨#[]⟩, .int .i64 1]) ∧ Below w.heap.size w w' := by
  obtain ⟨code, jt, jf, k⟩ := i
  simp only [Ins.fits] at hf
  show Calls _ _ #[.agg #[.int .i64 code, .int .i64 jt, .int .i64 jf, .int .u32 k]] _ _
  by_cases h1 : code < 0
  · clear hf
    go_enter Try.func17, Try.ntmps17
    go_wp2_with fail
    go_ret2
    exact ⟨rfl, (Below.refl _ _).alloc (Nat.le_refl _) _⟩
  · by_cases h2 : 65535 < code
    · clear hf
      go_enter Try.func17, Try.ntmps17
      go_wp2_with fail
      go_ret2
      exact ⟨rfl, (Below.refl _ _).alloc (Nat.le_refl _) _⟩
    · by_cases h3 : 0 ≤ jt ∧ jt ≤ 255
      · have b1 : decide (0 ≤ jt ∧ jt ≤ 255) = true := decide_eq_true h3
        have b2 : decide (0 ≤ jf ∧ jf ≤ 255) = false := decide_eq_false (fun h => hf ⟨by omega, by omega, h3.1, h3.2, h.1, h.2⟩)
        clear hf h3
        go_enter Try.func17, Try.ntmps17
        go_wp2_with (first | (go_at_call 28; refine (insnFits_any _ _).mono ?_; rintro e w' ⟨rfl, rfl⟩))
        go_ret2
        exact ⟨rfl, (Below.refl _ _).alloc (Nat.le_refl _) _⟩
      · have b1 : decide (0 ≤ jt ∧ jt ≤ 255) = false := decide_eq_false h3
        clear hf h3
        go_enter Try.func17, Try.ntmps17
        go_wp2_with (first | (go_at_call 28; refine (insnFits_any _ _).mono ?_; rintro e w' ⟨rfl, rfl⟩))
        go_ret2
        exact ⟨rfl, (Below.refl _ _).alloc (Nat.le_refl _) _⟩

theorem insnPut_any (i : Ins) (w : World) (hi : i.bounded) :
    Calls Try.prog 17 #[i.value] w fun e w' => e = .returned (.tuple #[.string (insPutS i), .int .i64 (insPutE i)]) ∧ Below w.heap.size w w' := by
  by_cases h : i.fits
  · have e1 : insPutS i = i.bytes := by unfold insPutS; rw [if_pos h]
    have e2 : insPutE i = 0 := by unfold insPutE; rw [if_pos h]
    rw [e1, e2]
    exact insnPut_ok i w hi h
  · have e1 : insPutS i = ⟨#[]⟩ := by unfold insPutS; rw [if_neg h]
    have e2 : insPutE i = 1 := by unfold insPutE; rw [if_neg h]
    rw [e1, e2]
    exact insnPut_bad i w h

theorem Ins.ext_of {i j : Ins} (h1 : i.code = j.code) (h2 : i.jt = j.jt) (h3 : i.jf = j.jf) (h4 : i.k = j.k) : i = j := by
  cases i; cases j; simp_all
/-- unlike instructions have unlike bytes -/
theorem Ins.bytes_inj {i j : Ins} (hi : i.fits) (hj : j.fits) (bi : i.bounded) (bj : j.bounded) (h : i.bytes = j.bytes) : i = j := by
  have h1 := congrArg (fun s : ByteArray => s.data.toList) h
  simp only [Ins.bytes_list] at h1
  obtain ⟨a1, a2, a3, a4, a5, a6⟩ := hi
  obtain ⟨b1, b2, b3, b4, b5, b6⟩ := hj
  obtain ⟨_, _, _, c1, c2⟩ := bi
  obtain ⟨_, _, _, d1, d2⟩ := bj
  obtain ⟨e1, h2⟩ := List.append_inj h1 (by simp [putL_length])
  obtain ⟨e2, h3⟩ := List.append_inj h2 (by simp [putL_length])
  obtain ⟨e3, e4⟩ := List.append_inj h3 (by simp [putL_length])
  have p2 : (256 : Nat) ^ 2 = 65536 := by decide
  have p4 : (256 : Nat) ^ 4 = 4294967296 := by decide
  have f1 := putL_inj (by omega) (by omega) e1
  have f2 := putL_inj (by omega) (by omega) e2
  have f3 := putL_inj (by omega) (by omega) e3
  have f4 := putL_inj (by omega) (by omega) e4
  exact Ins.ext_of (by omega) (by omega) (by omega) (by omega)
end Go.Proofs.Ytnlmdajoifjddaa
