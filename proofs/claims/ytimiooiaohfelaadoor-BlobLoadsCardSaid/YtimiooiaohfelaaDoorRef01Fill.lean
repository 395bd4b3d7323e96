/- The reference's Fill. -/
import Derived.Test.YtimiooiaohfelaaDoorTrimMath
import Derived.Test.YtimiooiaohfelaaDoorSpare
import Derived.Test.YtimiooiaohfelaaDoorLePut
namespace Go.Proofs.YtimiooiaohfelaaDoor
open Go.RowKit
set_option linter.unusedVariables false

set_option maxRecDepth 100000 in
set_option maxHeartbeats 1000000 in
theorem refFill_any (s : ByteArray) (n : Int) (w : World) (hs : s.size ≤ 100000) (hn0 : -9223372036854775808 ≤ n) (hn : n ≤ 100000) :
    Calls Tryd.prog 31 #[.string s, .int .i64 n] w fun e w' => e = .returned (.tuple #[.string (fillS s n), .int .i64 (fillE s n)]) ∧ Below w.heap.size w w' := by
  have hsI : (s.size : Int) ≤ 100000 := by omega
  by_cases h : (s.size : Int) ≤ n
  · obtain ⟨m, rfl⟩ := Int.eq_ofNat_of_zero_le (show 0 ≤ n by omega)
    obtain ⟨e1, e2⟩ := fillS_ok s m (by omega)
    rw [e1, e2]
    obtain ⟨i0, hi, hz0, hz1, hz2⟩ := info_parts infoU8
    have hmI : (m : Int) ≤ 100000 := by omega
    have hsm : (s.size : Int) ≤ m := by omega
    have hcv := Lib.run_convert_string_bytes (P := Tryd.prog) w 9 81 5 s Tryd.underlying9 Tryd.underlying81 Tryd.underlying5
    have hsp := Spare.of_bytes w 5 s
    have hbl := bytesWorld_bel w 5 s
    generalize Lib.bytesWorld w 5 s = w1 at *
    generalize grownCap w s.size 0 5 = cap at *
    have hd : decide (m < s.size) = false := decide_eq_false (by omega)
    clear e1 e2
    have HS := Lib.hid hsp; have HB := Lib.hid hbl
    clear hsp hbl
    go_enter Tryd.func31, Tryd.ntmps31
    go_wp2_with fail
    clear hcv
    go_loopw [6] (fun v wr => ∃ k : Nat, s.size ≤ k ∧ k ≤ m ∧ Spare wr w.heap.size v k (s.data.toList ++ List.replicate (k - s.size) 0) ∧ Below w.heap.size w wr) (fun v _ => m - sliceLen v)
    case atStart => exact ⟨s.size, Nat.le_refl _, by omega, by rw [Nat.sub_self]; simpa using HS.out, HB.out⟩
    case round =>
      obtain ⟨k, hk1, hk2, hown, hbel⟩ := hrel
      by_cases hlt : k < m
      · have hkI : (k : Int) < m := by omega
        have hsn : s.data.toList ++ List.replicate (k + 1 - s.size) (0 : UInt8) = (s.data.toList ++ List.replicate (k - s.size) 0) ++ [0] := by
          rw [show k + 1 - s.size = (k - s.size) + 1 from by omega, List.replicate_succ', List.append_assoc]
        have HSN := Lib.hid hsn
        clear hsn
        have hown0 := hown
        obtain ⟨_, g, c, rfl, _⟩ := hown0
        have HO := Lib.hid hown
        clear hown
        go_wp2_with (first | (at_builtin; go_must (refine wpList_push_spare _ _ 81 5 0 HO.out hbel (Nat.le_refl _) Tryd.underlying81 hi hz0 hz1 hz2 rfl rfl rfl rfl ?c2 ?_)))
        case c2 => omega
        intro v' w2 hown2 hbel2
        clear HO hbel
        go_wp2_with fail
        have hlen : sliceLen v' = k + 1 := by obtain ⟨_, g', c', rfl, _⟩ := hown2; rfl
        go_roundw
        case rel => exact ⟨k + 1, by omega, by omega, by rw [HSN.out, List.append_assoc]; exact hown2, hbel2⟩
        case measure => rw [hlen]; simp only [sliceLen]; omega
      · obtain rfl : k = m := by omega
        have hcv := hown.string (P := Tryd.prog) (src := 81) (dst := 9) Tryd.underlying81 Tryd.underlying5 Tryd.underlying9
        have hb : (⟨(s.data.toList ++ List.replicate (k - s.size) (0 : UInt8)).toArray⟩ : ByteArray) = s ++ zerosB (k - s.size) := by
          apply ba_ext
          rw [ba_append_list, zerosB_list]
        rw [hb] at hcv
        obtain ⟨_, g, c, rfl, _⟩ := hown
        obtain ⟨Z, hZ⟩ : ∃ Z, s ++ zerosB (k - s.size) = Z := ⟨_, rfl⟩
        rw [hZ] at hcv
        have HZ := Lib.hid hZ
        clear hb hlt hZ
        go_wp2_with fail
        go_ret2
        exact ⟨by rw [HZ.out]; rfl, hbel⟩
  · obtain ⟨e1, e2⟩ := fillS_bad s n (by omega)
    rw [e1, e2]
    have h2 : n < s.size := by omega
    clear h e1 e2
    go_enter Tryd.func31, Tryd.ntmps31
    go_wp2_with fail
    go_ret2
    exact ⟨rfl, Below.refl _ _⟩
end Go.Proofs.YtimiooiaohfelaaDoor
