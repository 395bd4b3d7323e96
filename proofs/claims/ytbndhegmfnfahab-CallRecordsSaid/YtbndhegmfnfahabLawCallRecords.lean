/- The walk of CallRecords. -/
import Derived.Test.YtbndhegmfnfahabRef13U
import Derived.Test.YtbndhegmfnfahabCallBackM
import Derived.Outline
namespace Go.Proofs.Ytbndhegmfnfahab.lawCallRecords
open Go.RowKit
set_option linter.unusedVariables false

theorem list6 {α : Type} (l : List α) (h : l.length = 6) : ∃ a b c d e f, l = [a, b, c, d, e, f] := by
  match l, h with
  | [a, b, c, d, e, f], _ => exact ⟨a, b, c, d, e, f, rfl⟩

set_option maxHeartbeats 400000 in
set_option maxRecDepth 100000 in
theorem walk (v0 : Value) (c : Cal) (s : ByteArray) (w : World) (w0 : IsCal w v0 c) (w1 : s.size ≤ maxLen) :
    Calls Try.prog 5 #[v0, .string s] w fun e w' => e = .returned (.bool true) ∧ Below w.heap.size w w' := by
  obtain ⟨rfl, hc⟩ := w0
  have HP := Lib.hid (fun u => callPack_any c u hc)
  have HRP := Lib.hid (fun u => refPack_any c u hc)
  obtain ⟨m, hm, hms, hm80, hmm⟩ := min_if s.size 80 (by omega)
  have hmI : (m : Int) ≤ s.size := by omega
  obtain ⟨S, eS⟩ : ∃ S, S = s.extract 0 m := ⟨_, rfl⟩
  have HU := Lib.hid (fun u => callUnpack_any S u)
  have HRU := Lib.hid (fun u => refUnpack_any S u)
  have HE := Lib.hid eS
  clear eS
  generalize c.recB 6 = R at *
  obtain ⟨h1, h2, h3, h4, h5⟩ := hc
  obtain ⟨nr, arch, ip, args⟩ := c
  dsimp only at h1 h2 h3 h4 h5
  obtain ⟨a0, a1, a2, a3, a4, a5, rfl⟩ : ∃ a0 a1 a2 a3 a4 a5, args = [a0, a1, a2, a3, a4, a5] := list6 args h4
  clear h4 h5 h1 h2 h3 hmm w1
  show Calls _ _ #[.agg #[.int .u32 nr, .int .u32 arch, .int .u64 ip, .int .u64 a0, .int .u64 a1, .int .u64 a2, .int .u64 a3, .int .u64 a4, .int .u64 a5], _] _ _
  replace HP : Hid (∀ u, Calls Try.prog 19 #[.agg #[.int .u32 nr, .int .u32 arch, .int .u64 ip, .int .u64 a0, .int .u64 a1, .int .u64 a2, .int .u64 a3, .int .u64 a4, .int .u64 a5]] u fun e w' => e = .returned (.string R) ∧ Below u.heap.size u w') := HP
  replace HRP : Hid (∀ u, Calls Try.prog 20 #[.agg #[.int .u32 nr, .int .u32 arch, .int .u64 ip, .int .u64 a0, .int .u64 a1, .int .u64 a2, .int .u64 a3, .int .u64 a4, .int .u64 a5]] u fun e w' => e = .returned (.string R) ∧ Below u.heap.size u w') := HRP
  generalize unpE S = E at *
  have hY := unpC_ok S
  generalize unpC S = y at *
  obtain ⟨y0, y1, y2, yargs⟩ := y
  obtain ⟨k1, k2, k3, k4, k5⟩ := hY
  dsimp only at k1 k2 k3 k4 k5
  obtain ⟨b0, b1, b2, b3, b4, b5, rfl⟩ : ∃ a0 a1 a2 a3 a4 a5, yargs = [a0, a1, a2, a3, a4, a5] := list6 yargs k4
  clear k1 k2 k3 k4 k5
  replace HU : Hid (∀ u, Calls Try.prog 16 #[.string S] u fun e w' => e = .returned (.tuple #[.agg #[.int .u32 y0, .int .u32 y1, .int .u64 y2, .int .u64 b0, .int .u64 b1, .int .u64 b2, .int .u64 b3, .int .u64 b4, .int .u64 b5], .int .i64 E]) ∧ Below u.heap.size u w') := HU
  replace HRU : Hid (∀ u, Calls Try.prog 17 #[.string S] u fun e w' => e = .returned (.tuple #[.agg #[.int .u32 y0, .int .u32 y1, .int .u64 y2, .int .u64 b0, .int .u64 b1, .int .u64 b2, .int .u64 b3, .int .u64 b4, .int .u64 b5], .int .i64 E]) ∧ Below u.heap.size u w') := HRU
  rw [HE.out] at HU HRU
  clear HE
  have hEq := fun u => eqArr6 (b0 : Nat) (b1 : Nat) (b2 : Nat) (b3 : Nat) (b4 : Nat) (b5 : Nat) u
  go_enter Try.func5, Try.ntmps5
  go_wp2_with fail
  generalize hW : w.alloc (.cells #[.int .u32 nr, .int .u32 arch, .int .u64 ip, .int .u64 a0, .int .u64 a1, .int .u64 a2, .int .u64 a3, .int .u64 a4, .int .u64 a5] 38) = W
  have hblk : W.heap[w.heap.size]? = some (.cells #[.int .u32 nr, .int .u32 arch, .int .u64 ip, .int .u64 a0, .int .u64 a1, .int .u64 a2, .int .u64 a3, .int .u64 a4, .int .u64 a5] 38 (0, 0)) := by rw [← hW]; exact heap_alloc_new w _
  have hbel : Below w.heap.size w W := by rw [← hW]; exact (Below.refl _ _).alloc (Nat.le_refl _) _
  clear hW
  have HB := Lib.hid hblk
  clear hblk
  refine (HU.out _).mono ?_
  rintro e w1 ⟨rfl, hz1⟩
  go_wp2_with fail
  refine (HRU.out _).mono ?_
  rintro e w2 ⟨rfl, hb2s⟩
  have hz2 : Below W.heap.size W w2 := (hz1.alloc hz1.size _).trans (hb2s.mono (by have := hz1.size; simp; omega))
  go_wp2_with fail
  generalize hW2 : w2.alloc (.cells #[.int .u32 y0, .int .u32 y1, .int .u64 y2, .int .u64 b0, .int .u64 b1, .int .u64 b2, .int .u64 b3, .int .u64 b4, .int .u64 b5] 38) = W2
  have hA : W2.heap[w1.heap.size]? = some (.cells #[.int .u32 y0, .int .u32 y1, .int .u64 y2, .int .u64 b0, .int .u64 b1, .int .u64 b2, .int .u64 b3, .int .u64 b4, .int .u64 b5] 38 (0, 0)) := by
    rw [← hW2, heap_alloc_old _ _ (by have := hb2s.size; simp at this; omega), hb2s.block _ (by simp)]; exact heap_alloc_new w1 _
  have hB : W2.heap[w2.heap.size]? = some (.cells #[.int .u32 y0, .int .u32 y1, .int .u64 y2, .int .u64 b0, .int .u64 b1, .int .u64 b2, .int .u64 b3, .int .u64 b4, .int .u64 b5] 38 (0, 0)) := by rw [← hW2]; exact heap_alloc_new w2 _
  have hbW : Below W.heap.size W W2 := by rw [← hW2]; exact hz2.alloc hz2.size _
  have hC := (hbW.block _ (lt_of_block HB.out)).trans HB.out
  clear hW2 hb2s hz2 hz1 HB
  have HA := Lib.hid hA; have HB := Lib.hid hB; have HC := Lib.hid hC
  clear hA hB hC
  have p0 := keep_at (v := .int .u32 (nr : Nat)) HC.out 0 rfl
  have p1 := keep_at (v := .int .u32 (arch : Nat)) HC.out 1 rfl
  have p2 := keep_at (v := .int .u64 (ip : Nat)) HC.out 2 rfl
  have p3 := keep_at (v := .int .u64 (a0 : Nat)) HC.out 3 rfl
  have p4 := keep_at (v := .int .u64 (a1 : Nat)) HC.out 4 rfl
  have p5 := keep_at (v := .int .u64 (a2 : Nat)) HC.out 5 rfl
  have p6 := keep_at (v := .int .u64 (a3 : Nat)) HC.out 6 rfl
  have p7 := keep_at (v := .int .u64 (a4 : Nat)) HC.out 7 rfl
  have p8 := keep_at (v := .int .u64 (a5 : Nat)) HC.out 8 rfl
  have q0 := keep_at (v := .int .u32 (y0 : Nat)) HA.out 0 rfl
  have q1 := keep_at (v := .int .u32 (y1 : Nat)) HA.out 1 rfl
  have q2 := keep_at (v := .int .u64 (y2 : Nat)) HA.out 2 rfl
  have q3 := keep_at (v := .int .u64 (b0 : Nat)) HA.out 3 rfl
  have q4 := keep_at (v := .int .u64 (b1 : Nat)) HA.out 4 rfl
  have q5 := keep_at (v := .int .u64 (b2 : Nat)) HA.out 5 rfl
  have q6 := keep_at (v := .int .u64 (b3 : Nat)) HA.out 6 rfl
  have q7 := keep_at (v := .int .u64 (b4 : Nat)) HA.out 7 rfl
  have q8 := keep_at (v := .int .u64 (b5 : Nat)) HA.out 8 rfl
  have r0 := keep_at (v := .int .u32 (y0 : Nat)) HB.out 0 rfl
  have r1 := keep_at (v := .int .u32 (y1 : Nat)) HB.out 1 rfl
  have r2 := keep_at (v := .int .u64 (y2 : Nat)) HB.out 2 rfl
  have r3 := keep_at (v := .int .u64 (b0 : Nat)) HB.out 3 rfl
  have r4 := keep_at (v := .int .u64 (b1 : Nat)) HB.out 4 rfl
  have r5 := keep_at (v := .int .u64 (b2 : Nat)) HB.out 5 rfl
  have r6 := keep_at (v := .int .u64 (b3 : Nat)) HB.out 6 rfl
  have r7 := keep_at (v := .int .u64 (b4 : Nat)) HB.out 7 rfl
  have r8 := keep_at (v := .int .u64 (b5 : Nat)) HB.out 8 rfl
  refine wp_region_keep (w0 := W2) (by kernel_rfl) (by kernel_rfl) (Below.refl _ _) ?_
  repeat (go_big_quiet_step ((first | (go_at_call 18; exact keepCall (callAlive _)) | (go_at_call 19; exact keepCall (HP.out _)) | (go_at_call 20; exact keepCall (HRP.out _)))))
  refine wpQuiet_nil ?_
  intro _ hw'
  obtain ⟨x, rfl⟩ := hw'
  have hz := hbW.trans (x.below.mono hbW.size)
  go_wp2_with fail
  go_ret
  exact ⟨rfl, hbel.trans (hz.mono hbel.size)⟩
end Go.Proofs.Ytbndhegmfnfahab.lawCallRecords
