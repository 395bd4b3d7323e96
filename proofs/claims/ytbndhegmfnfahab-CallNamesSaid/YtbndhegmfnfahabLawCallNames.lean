/- The walk of CallNames. -/
import Derived.Test.YtbndhegmfnfahabRef13M
import Derived.Test.YtbndhegmfnfahabRef13A
import Derived.Test.YtbndhegmfnfahabCallLaw
import Derived.Outline
namespace Go.Proofs.Ytbndhegmfnfahab.lawCallNames
open Go.RowKit
set_option linter.unusedVariables false

set_option maxHeartbeats 1000000 in
set_option maxRecDepth 100000 in
theorem walk (a0 a1 : Int) (s : ByteArray) (a3 : Int) (w : World) (w0 : (Lit.int .u32 a0).wf = true) (w1 : (Lit.int .u32 a1).wf = true) (w2 : s.size ≤ maxLen) (w3 : (Lit.int .u64 a3).wf = true) :
    Calls Try.prog 6 #[.int .u32 a0, .int .u32 a1, .string s, .int .u64 a3] w fun e w' => e = .returned (.bool true) ∧ Below w.heap.size w w' := by
  have h0 : 0 ≤ a0 ∧ a0 ≤ 4294967295 := by simpa [Lit.wf, IntKind.min, IntKind.max, IntKind.signed, IntKind.bits] using w0
  have h1 : 0 ≤ a1 ∧ a1 ≤ 4294967295 := by simpa [Lit.wf, IntKind.min, IntKind.max, IntKind.signed, IntKind.bits] using w1
  have h3 : 0 ≤ a3 ∧ a3 ≤ 18446744073709551615 := by simpa [Lit.wf, IntKind.min, IntKind.max, IntKind.signed, IntKind.bits] using w3
  obtain ⟨p0, p1⟩ := h0
  obtain ⟨q0, q1⟩ := h1
  obtain ⟨r0, r1⟩ := h3
  clear w0 w1 w3
  have hA1 := fun u => callArch_any s u
  have hA2 := fun u => refArch_any s u
  unfold archV at hA1 hA2
  generalize (((archOf s).getD 0 : Nat) : Int) = xA at hA1 hA2
  generalize (archOf s).isSome = bA at hA1 hA2
  have hC1 := fun u => callAction_any s a3 u r0 r1
  have hC2 := fun u => refAction_any s a3 u r0 r1
  generalize (((actRes s a3).getD 0 : Nat) : Int) = xC at hC1 hC2
  generalize (actRes s a3).isSome = bC at hC1 hC2
  have HA1 := Lib.hid hA1; have HA2 := Lib.hid hA2; have HC1 := Lib.hid hC1; have HC2 := Lib.hid hC2
  clear hA1 hA2 hC1 hC2
  go_enter Try.func6, Try.ntmps6
  go_wp2_with fail
  refine (HA1.out _).mono ?_
  rintro e w1 ⟨rfl, hb1⟩
  go_wp2_with fail
  refine (HA2.out _).mono ?_
  rintro e w1' ⟨rfl, rfl⟩
  go_wp2_with fail
  refine (callAlive _).mono ?_
  rintro e w2 ⟨rfl, hb2⟩
  have hw2 := hb1.trans (hb2.mono hb1.size)
  go_wp2_with fail
  have hw3 := hw2.alloc hw2.size (.cells #[.int .u32 a0, .int .u32 3221225534, .int .u32 3221225655] 30)
  have hblk := heap_alloc_new w2 (.cells #[.int .u32 a0, .int .u32 3221225534, .int .u32 3221225655] 30)
  generalize w2.alloc (.cells #[.int .u32 a0, .int .u32 3221225534, .int .u32 3221225655] 30) = W at *
  have hgl : w2.heap.size < W.heap.size := lt_of_block hblk
  have HB := Lib.hid hblk
  clear hblk hb1 hb2 hw2
  go_loopw [48] (fun c wr => ∃ i : Nat, i ≤ 3 ∧ c = .int .i64 i ∧ Below W.heap.size W wr) (fun c _ => 3 - (intOf c).toNat)
  case atStart => exact ⟨0, by omega, rfl, Below.refl _ _⟩
  case round =>
    obtain ⟨i, hi, rfl, hwr⟩ := hrel
    by_cases hlt : i < 3
    · obtain ⟨k, k0, k1, hc⟩ : ∃ k : Int, 0 ≤ k ∧ k ≤ 4294967295 ∧ wr.cell? ⟨w2.heap.size, i, none⟩ = some (.int .u32 k) := by
        have hb := (hwr.block _ hgl).trans HB.out
        have hi3 : i = 0 ∨ i = 1 ∨ i = 2 := by omega
        rcases hi3 with rfl | rfl | rfl
        · exact ⟨a0, p0, p1, by rw [cell_of_row _ _ _ _ _ _ hb]; rfl⟩
        · exact ⟨3221225534, by omega, by omega, by rw [cell_of_row _ _ _ _ _ _ hb]; rfl⟩
        · exact ⟨3221225655, by omega, by omega, by rw [cell_of_row _ _ _ _ _ _ hb]; rfl⟩
      have hn1 := fun u => callNr_any k s u k0 k1
      have hn2 := fun u => refNr_any k s u k0 k1
      have hm1 := fun u => callName_any k a1 u k0 k1 q0 q1
      have hm2 := fun u => refName_any k a1 u k0 k1 q0 q1
      generalize (((nrOf (tabOf k) s).getD 0 : Nat) : Int) = xN at hn1 hn2
      generalize (nrOf (tabOf k) s).isSome = bN at hn1 hn2
      generalize (nameOf (tabOf k) a1).getD ⟨#[]⟩ = xM at hm1 hm2
      generalize (nameOf (tabOf k) a1).isSome = bM at hm1 hm2
      have HN1 := Lib.hid hn1; have HN2 := Lib.hid hn2; have HM1 := Lib.hid hm1; have HM2 := Lib.hid hm2
      have hiI : (i : Int) < 3 := by omega
      clear hn1 hn2 hm1 hm2
      go_wp2_with fail
      refine (HN1.out _).mono ?_
      rintro e u1 ⟨rfl, hu1⟩
      have hv1 := hwr.trans (hu1.mono hwr.size)
      clear hc
      go_wp2_with fail
      refine (HN2.out _).mono ?_
      rintro e u2 ⟨rfl, hu2⟩
      have hv2 := hv1.trans (hu2.mono hv1.size)
      go_wp2_with fail
      refine (HM1.out _).mono ?_
      rintro e u3 ⟨rfl, hu3⟩
      have hv3 := hv2.trans (hu3.mono hv2.size)
      go_wp2_with fail
      refine (HM2.out _).mono ?_
      rintro e u4 ⟨rfl, hu4⟩
      have hv4 := hv3.trans (hu4.mono hv3.size)
      clear hu1 hu2 hu3 hu4 hv1 hv2 hv3
      go_wp2_with fail
      go_roundw
      case rel => exact ⟨i + 1, by omega, by go_num, hv4⟩
      case measure => simp [intOf]; omega
    · obtain rfl : i = 3 := by omega
      go_wp2_with fail
      refine (HC1.out _).mono ?_
      rintro e u1 ⟨rfl, hu1⟩
      have hv1 := hwr.trans (hu1.mono hwr.size)
      go_wp2_with fail
      refine (HC2.out _).mono ?_
      rintro e u2 ⟨rfl, rfl⟩
      go_wp2_with fail
      go_ret
      exact ⟨rfl, hw3.trans (hv1.mono hw3.size)⟩
end Go.Proofs.Ytbndhegmfnfahab.lawCallNames
