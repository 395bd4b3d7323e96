/- call.Pack. -/
import Derived.Test.YtbndhegmfnfahabLePut
import Derived.Deep.RegionWith
namespace Go.Proofs.Ytbndhegmfnfahab
open Go.RowKit
set_option linter.unusedVariables false

theorem pow256_4 : (256:Nat) ^ 4 = 4294967296 := by decide
theorem callNumber_4 (n : Nat) (w : World) (h : n ≤ 4294967295) :
    Calls Try.prog 38 #[.int .u64 n, .int .i64 4] w fun e w' => e = .returned (.string (numS n 4)) ∧ Below w.heap.size w w' := by
  have hput := fun u => lePut_ok n 4 u (show n < 256 ^ 4 from by rw [pow256_4]; omega) (by omega) (by omega)
  have HP := Lib.hid hput
  clear hput h
  go_enter Try.func38, Try.ntmps38
  go_wp2_with fail
  refine (HP.out _).mono ?_
  rintro e w1 ⟨rfl, hb⟩
  go_wp2_with fail
  go_ret
  exact ⟨rfl, hb⟩
theorem callNumber_8 (n : Nat) (w : World) (h : n ≤ 18446744073709551615) :
    Calls Try.prog 38 #[.int .u64 n, .int .i64 8] w fun e w' => e = .returned (.string (numS n 8)) ∧ Below w.heap.size w w' := by
  have hput := fun u => lePut_ok n 8 u (show n < 256 ^ 8 from by rw [pow256_8]; omega) (by omega) (by omega)
  have HP := Lib.hid hput
  clear hput h
  go_enter Try.func38, Try.ntmps38
  go_wp2_with fail
  refine (HP.out _).mono ?_
  rintro e w1 ⟨rfl, hb⟩
  go_wp2_with fail
  go_ret
  exact ⟨rfl, hb⟩

/-- a system call -/
structure Cal where
  nr : Nat
  arch : Nat
  ip : Nat
  args : List Nat
def Cal.ok (c : Cal) : Prop := c.nr ≤ 4294967295 ∧ c.arch ≤ 4294967295 ∧ c.ip ≤ 18446744073709551615 ∧ c.args.length = 6 ∧ ∀ a ∈ c.args, a ≤ 18446744073709551615
def Cal.cells (c : Cal) : List Value := .int .u32 (c.nr : Nat) :: .int .u32 (c.arch : Nat) :: .int .u64 (c.ip : Nat) :: c.args.map fun a => .int .u64 (a : Nat)
def Cal.value (c : Cal) : Value := .agg c.cells.toArray
def argsL (l : List Nat) : List UInt8 := l.flatMap fun a => putL a 8
def Cal.recB (c : Cal) (i : Nat) : ByteArray := ⟨(putL c.nr 4 ++ (putL c.arch 4 ++ (putL c.ip 8 ++ argsL (c.args.take i)))).toArray⟩
theorem Cal.recB_list (c : Cal) (i : Nat) : (c.recB i).data.toList = putL c.nr 4 ++ (putL c.arch 4 ++ (putL c.ip 8 ++ argsL (c.args.take i))) := rfl
theorem argsL_cons (a : Nat) (l : List Nat) : argsL (a :: l) = putL a 8 ++ argsL l := by simp [argsL]
theorem argsL_length (l : List Nat) : (argsL l).length = 8 * l.length := by
  induction l with
  | nil => rfl
  | cons a l ih => rw [argsL_cons, List.length_append, putL_length, ih, List.length_cons]; omega
theorem Cal.recB_size (c : Cal) (i : Nat) (hi : i ≤ c.args.length) : (c.recB i).size = 16 + 8 * i := by
  rw [← ba_len, Cal.recB_list]
  simp only [List.length_append, putL_length, argsL_length, List.length_take]
  omega
theorem argsL_snoc (l : List Nat) (i : Nat) (hi : i < l.length) : argsL (l.take (i + 1)) = argsL (l.take i) ++ putL (l.getD i 0) 8 := by
  rw [← List.take_append_getElem hi]
  have hg : l.getD i 0 = l[i] := by simp [List.getD, hi]
  simp only [argsL, List.flatMap_append, List.flatMap_cons, List.flatMap_nil, List.append_nil, hg]
theorem Cal.recB_snoc (c : Cal) (i : Nat) (hi : i < c.args.length) : c.recB (i + 1) = c.recB i ++ numS (c.args.getD i 0) 8 := by
  apply ba_ext
  rw [ba_append_list, Cal.recB_list, Cal.recB_list, argsL_snoc _ _ hi, numS_list]
  simp only [List.append_assoc]

theorem idx6 (a0 a1 a2 a3 a4 a5 : Nat) (i : Nat) (hi : i < 6) (u : World) : Sem.run Try.prog (Instr.index 36 (.agg #[.int .u64 a0, .int .u64 a1, .int .u64 a2, .int .u64 a3, .int .u64 a4, .int .u64 a5]) (.int .i64 (i : Nat))) u = .ok (.int .u64 (([a0, a1, a2, a3, a4, a5].getD i 0 : Nat) : Int)) u := by
  have hcs : i = 0 ∨ i = 1 ∨ i = 2 ∨ i = 3 ∨ i = 4 ∨ i = 5 := by omega
  rcases hcs with rfl | rfl | rfl | rfl | rfl | rfl <;> rfl
set_option maxRecDepth 100000 in
set_option maxHeartbeats 1000000 in
theorem callPack_any (c : Cal) (w : World) (hc : c.ok) :
    Calls Try.prog 19 #[c.value] w fun e w' => e = .returned (.string (c.recB 6)) ∧ Below w.heap.size w w' := by
  obtain ⟨h1, h2, h3, h4, h5⟩ := hc
  obtain ⟨nr, arch, ip, args⟩ := c
  dsimp only at h1 h2 h3 h4 h5
  obtain ⟨a0, a1, a2, a3, a4, a5, rfl⟩ : ∃ a0 a1 a2 a3 a4 a5, args = [a0, a1, a2, a3, a4, a5] := by
    match args, h4 with
    | [a0, a1, a2, a3, a4, a5], _ => exact ⟨a0, a1, a2, a3, a4, a5, rfl⟩
  have H5 := Lib.hid h5
  clear h4 h5
  have hrec := Cal.recB_snoc ⟨nr, arch, ip, [a0, a1, a2, a3, a4, a5]⟩
  have hrsz := Cal.recB_size ⟨nr, arch, ip, [a0, a1, a2, a3, a4, a5]⟩
  have HR := Lib.hid hrec; have HZ := Lib.hid hrsz
  clear hrec hrsz
  obtain ⟨S2, e2⟩ : ∃ S2, S2 = numS nr 4 ++ numS arch 4 := ⟨_, rfl⟩
  have z2 : S2.size = 8 := by rw [e2, ByteArray.size_append, numS_size, numS_size]
  have ha2 := fun u => add_run (P := Try.prog) (numS nr 4) (numS arch 4) S2 e2 (by rw [numS_size, numS_size]; omega) u
  have hS3 : Cal.recB ⟨nr, arch, ip, [a0, a1, a2, a3, a4, a5]⟩ 0 = S2 ++ numS ip 8 := by
    apply ba_ext
    rw [ba_append_list, e2, ba_append_list, Cal.recB_list, numS_list, numS_list, numS_list]
    simp [argsL]
  have ha3 := fun u => add_run (P := Try.prog) S2 (numS ip 8) _ hS3 (by rw [z2, numS_size]; omega) u
  clear e2 z2 hS3
  show Calls _ _ #[.agg #[.int .u32 nr, .int .u32 arch, .int .u64 ip, .int .u64 a0, .int .u64 a1, .int .u64 a2, .int .u64 a3, .int .u64 a4, .int .u64 a5]] _ _
  generalize hQ : Cal.mk nr arch ip [a0, a1, a2, a3, a4, a5] = c at *
  have HQ := Lib.hid hQ
  clear hQ
  have nI : (nr : Int) ≤ 4294967295 := by omega
  have aI : (arch : Int) ≤ 4294967295 := by omega
  have iI : (ip : Int) ≤ 18446744073709551615 := by omega
  go_enter Try.func19, Try.ntmps19
  go_wp2_with fail
  generalize hW : w.alloc (.cells #[.int .u32 nr, .int .u32 arch, .int .u64 ip, .int .u64 a0, .int .u64 a1, .int .u64 a2, .int .u64 a3, .int .u64 a4, .int .u64 a5] 38) = W
  have hblk : W.heap[w.heap.size]? = some (.cells #[.int .u32 nr, .int .u32 arch, .int .u64 ip, .int .u64 a0, .int .u64 a1, .int .u64 a2, .int .u64 a3, .int .u64 a4, .int .u64 a5] 38 (0, 0)) := by rw [← hW]; exact heap_alloc_new w _
  have hbel : Below w.heap.size w W := by rw [← hW]; exact (Below.refl _ _).alloc (Nat.le_refl _) _
  clear hW
  have q0 := keep_at hblk 0 rfl
  have q1 := keep_at hblk 1 rfl
  have q2 := keep_at hblk 2 rfl
  have HB := Lib.hid hblk
  clear hblk
  refine wp_region_keep (w0 := W) (by kernel_rfl) (by kernel_rfl) (Below.refl _ _) ?_
  repeat (go_big_quiet_step ((first | (go_at_call_of 38 (Value.int .u64 (nr : Int)); exact keepCall (callNumber_4 _ _ (by omega))) | (go_at_call_of 38 (Value.int .u64 (arch : Int)); exact keepCall (callNumber_4 _ _ (by omega))) | (go_at_call_of 38 (Value.int .u64 (ip : Int)); exact keepCall (callNumber_8 _ _ (by omega))))))
  refine wpQuiet_nil ?_
  intro _ hw'
  obtain ⟨x, rfl⟩ := hw'
  have hz := x.below
  clear q0 q1 q2
  generalize x.val = wz at *
  have p3 := below_cell hz HB.out 3 rfl
  have p4 := below_cell hz HB.out 4 rfl
  have p5 := below_cell hz HB.out 5 rfl
  have p6 := below_cell hz HB.out 6 rfl
  have p7 := below_cell hz HB.out 7 rfl
  have p8 := below_cell hz HB.out 8 rfl
  go_wp2_with fail
  have hwz : Below w.heap.size w wz := hbel.trans (hz.mono hbel.size)
  clear p3 p4 p5 p6 p7 p8 hz x HB hbel ha2 ha3 h1 h2 h3 nI aI iI
  go_loopw [3, 21] (fun s k wr => ∃ i : Nat, i ≤ 6 ∧ k = .int .i64 i ∧ s = .string (c.recB i) ∧ Below w.heap.size w wr) (fun _ k _ => 6 - (intOf k).toNat)
  case atStart => exact ⟨0, by omega, rfl, rfl, hwz⟩
  case round =>
    obtain ⟨i, hi, rfl, rfl, hwr⟩ := hrel
    by_cases hlt : i < 6
    · have hx := fun u => idx6 a0 a1 a2 a3 a4 a5 i hlt u
      obtain ⟨x, ex⟩ : ∃ x, x = [a0, a1, a2, a3, a4, a5].getD i 0 := ⟨_, rfl⟩
      have hxb : x ≤ 18446744073709551615 := by
        have hg : [a0, a1, a2, a3, a4, a5].getD i 0 = [a0, a1, a2, a3, a4, a5][i]'(by simpa using hlt) := by simp [List.getD, hlt]
        rw [ex, hg]
        exact H5.out _ (List.getElem_mem _)
      have hsn : c.recB (i + 1) = c.recB i ++ numS x 8 := by
        rw [HR.out i (by rw [← HQ.out]; exact hlt), ← HQ.out, ex]
      have hz1 : (c.recB i).size = 16 + 8 * i := HZ.out i (by rw [← HQ.out]; exact hi)
      have hadd := fun u => add_run (P := Try.prog) (c.recB i) (numS x 8) _ hsn (by rw [numS_size, hz1]; omega) u
      rw [← ex] at hx
      have HE := Lib.hid ex
      have HXB := Lib.hid hxb
      clear ex hsn hz1 hxb
      go_wp2_with fail
      refine (keep hwr (callNumber_8 x wr HXB.out)).mono ?_
      rintro e w1 ⟨rfl, hb1⟩
      go_wp2_with fail
      go_roundw
      case rel => exact ⟨i + 1, by omega, rfl, rfl, hb1⟩
      case measure => simp [intOf]; omega
    · have h6 : i = 6 := by omega
      subst h6
      go_wp2_with fail
      go_ret
      exact ⟨rfl, hwr⟩
end Go.Proofs.Ytbndhegmfnfahab
