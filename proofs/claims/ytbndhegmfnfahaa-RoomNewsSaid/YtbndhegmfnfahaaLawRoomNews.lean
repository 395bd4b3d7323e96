/- The walk of RoomNews. -/
import Derived.Test.YtbndhegmfnfahaaRoomT
namespace Go.Proofs.Ytbndhegmfnfahaa.lawRoomNews
open Go.RowKit
set_option linter.unusedVariables false

set_option maxRecDepth 100000 in
set_option maxHeartbeats 1000000 in
theorem walk (n : Int) (v1 : Value) (l0 : List Bool) (w : World) (w0 : (Lit.int .i64 n).wf = true) (w1 : IsBools w v1 l0) :
    Calls Try.prog 7 #[.int .i64 n, v1] w fun e w' => e = .returned (.bool true) ∧ Below w.heap.size w w' := by
  have hwf := wf_i64 w0
  obtain ⟨a, len, cap, rfl, hlen, hc1, hc2, htk⟩ := w1.take
  have hl := htk (min len 300) (Nat.min_le_left _ _)
  have HF := Lib.hid (fun u => roomFew_at a len cap u hc1 hc2)
  have hm1 : min len 300 ≤ 300 := Nat.min_le_right _ _
  generalize min len 300 = m at *
  have hll : (l0.take m).length ≤ 300 := by rw [List.length_take]; omega
  generalize l0.take m = l at *
  have hfr : freeN l ≤ 300 := Nat.le_trans List.count_le_length hll
  have HL := Lib.hid hl
  have hfrI : (freeN l : Int) ≤ 300 := by omega
  clear hl htk w1 hlen w0 hll hfr
  by_cases hs : 64 ≤ n ∧ n ≤ 256
  · obtain ⟨k, rfl⟩ := Int.eq_ofNat_of_zero_le (show 0 ≤ n by omega)
    have HN := Lib.hid (fun u => roomNew_ok k u (by omega) (by omega))
    have HR := Lib.hid (fun u => refNew_any k u (by omega))
    have g1 : (64 : Int) ≤ k := by omega
    have g2 : (k : Int) ≤ 256 := by omega
    clear hs hwf
    go_enter Try.func7, Try.ntmps7
    go_wp2_with fail
    refine (HF.out _).mono ?_
    rintro e w' ⟨rfl, rfl⟩
    go_wp2_with fail
    refine (HN.out _).mono ?_
    rintro e w2 ⟨vx, rfl, hx, hw2⟩
    go_wp2_with fail
    refine (HR.out _).mono ?_
    rintro e w3 ⟨vy, rfl, hy, hb3⟩
    have hw3 := hw2.trans (hb3.mono hw2.size)
    have hsm := refSame_any _ _ _ _ w3 (hx.below hb3) hy
    rw [decide_eq_true rfl] at hsm
    have HS := Lib.hid hsm
    clear hsm hx hy hb3 hw2
    go_wp2_with fail
    refine (keep hw3 HS.out).mono ?_
    rintro e w4 ⟨rfl, hw4⟩
    clear hw3 HS
    go_wp2_with fail
    refine (keep hw4 (roomAlive _)).mono ?_
    rintro e w5 ⟨rfl, hw5⟩
    have hl5 := HL.out.below hw5
    have HL5 := Lib.hid hl5
    clear hl5 hw4
    go_wp2_with fail
    refine (roomRight_any _ l _ HL5.out).mono ?_
    rintro e w6 ⟨rfl, rfl⟩
    go_wp2_with fail
    refine (refRight_any _ l _ HL5.out).mono ?_
    rintro e w6 ⟨rfl, rfl⟩
    generalize rightB l = B at *
    go_wp2_with fail
    refine (roomFree_any _ l _ HL5.out).mono ?_
    rintro e w6 ⟨rfl, rfl⟩
    go_wp2_with fail
    refine (refFree_any _ l _ HL5.out).mono ?_
    rintro e w6 ⟨rfl, rfl⟩
    go_wp2_with fail
    go_ret
    exact ⟨rfl, hw5⟩
  · have HN := Lib.hid (fun u => roomNew_bad n u hs)
    have hor : n < 64 ∨ (64 ≤ n ∧ 256 < n) := by omega
    clear hs
    rcases hor with hs | ⟨hs, hs2⟩
    · go_enter Try.func7, Try.ntmps7
      go_wp2_with fail
      refine (HF.out _).mono ?_
      rintro e w' ⟨rfl, rfl⟩
      go_wp2_with fail
      refine (HN.out _).mono ?_
      rintro e w4 ⟨vx, rfl, hx, hw4⟩
      obtain ⟨ax, lx, cx, rfl, hlx, _, _, _⟩ := hx
      obtain rfl : lx = 0 := hlx.symm
      go_wp2_with fail
      refine (keep hw4 (roomAlive _)).mono ?_
      rintro e w5 ⟨rfl, hw5⟩
      have hl5 := HL.out.below hw5
      have HL5 := Lib.hid hl5
      clear hl5 hw4
      go_wp2_with fail
      refine (roomRight_any _ l _ HL5.out).mono ?_
      rintro e w6 ⟨rfl, rfl⟩
      go_wp2_with fail
      refine (refRight_any _ l _ HL5.out).mono ?_
      rintro e w6 ⟨rfl, rfl⟩
      generalize rightB l = B at *
      go_wp2_with fail
      refine (roomFree_any _ l _ HL5.out).mono ?_
      rintro e w6 ⟨rfl, rfl⟩
      go_wp2_with fail
      refine (refFree_any _ l _ HL5.out).mono ?_
      rintro e w6 ⟨rfl, rfl⟩
      go_wp2_with fail
      go_ret
      exact ⟨rfl, hw5⟩
    · go_enter Try.func7, Try.ntmps7
      go_wp2_with fail
      refine (HF.out _).mono ?_
      rintro e w' ⟨rfl, rfl⟩
      go_wp2_with fail
      refine (HN.out _).mono ?_
      rintro e w4 ⟨vx, rfl, hx, hw4⟩
      obtain ⟨ax, lx, cx, rfl, hlx, _, _, _⟩ := hx
      obtain rfl : lx = 0 := hlx.symm
      go_wp2_with fail
      refine (keep hw4 (roomAlive _)).mono ?_
      rintro e w5 ⟨rfl, hw5⟩
      have hl5 := HL.out.below hw5
      have HL5 := Lib.hid hl5
      clear hl5 hw4
      go_wp2_with fail
      refine (roomRight_any _ l _ HL5.out).mono ?_
      rintro e w6 ⟨rfl, rfl⟩
      go_wp2_with fail
      refine (refRight_any _ l _ HL5.out).mono ?_
      rintro e w6 ⟨rfl, rfl⟩
      generalize rightB l = B at *
      go_wp2_with fail
      refine (roomFree_any _ l _ HL5.out).mono ?_
      rintro e w6 ⟨rfl, rfl⟩
      go_wp2_with fail
      refine (refFree_any _ l _ HL5.out).mono ?_
      rintro e w6 ⟨rfl, rfl⟩
      go_wp2_with fail
      go_ret
      exact ⟨rfl, hw5⟩
end Go.Proofs.Ytbndhegmfnfahaa.lawRoomNews
