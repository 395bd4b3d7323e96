/- The walk of LeTrims. -/
import Derived.Test.YtblbjmjoiaiimaaDoorRef01Fill
import Derived.Test.YtblbjmjoiaiimaaDoorLeAlive
import Derived.Test.YtblbjmjoiaiimaaDoorLeShort
import Derived.Test.YtblbjmjoiaiimaaDoorRowOpen
import Derived.Deep.DeepCutAuto
namespace Go.Proofs.YtblbjmjoiaiimaaDoor.lawLeTrims
open Go.RowKit
set_option linter.unusedVariables false

set_option maxRecDepth 100000 in
set_option maxHeartbeats 1000000 in
theorem walk (s0 : ByteArray) (size : Int) (w : World) (w0 : s0.size ≤ maxLen) (w1 : (Lit.int .i64 size).wf = true) :
    Calls Tryd.prog 3 #[.string s0, .int .i64 size] w fun e w' => e = .returned (.bool true) ∧ Below w.heap.size w w' := by
  have hwf := wf_i64 w1
  have hsI : (s0.size : Int) ≤ 9223372036854775807 := by unfold maxLen at w0; omega
  have HSH := Lib.hid (fun u => leShort s0 u (by omega))
  have hsz := shortS_size s0
  generalize shortS s0 = S at *
  clear w0 w1
  go_enter Tryd.func3, Tryd.ntmps3
  go_wp2_with fail
  refine (HSH.out _).mono ?_
  rintro e w' ⟨rfl, rfl⟩
  go_upto_region 2 with fail
  go_cut [1] (fun v wx => ∃ n : Int, v = .int .i64 n ∧ -9223372036854775808 ≤ n ∧ n ≤ 70000 ∧ w = wx)
  case first =>
    go_wp2_with fail
    all_goals go_meet
    all_goals exact ⟨_, rfl, by omega, by omega, rfl⟩
  case rest =>
  obtain ⟨n, rfl, hn3, hn4, rfl⟩ := hcut
  have H1 := Lib.hid (fun u => leFill_any S n u (by omega) hn3 (by omega))
  have H2 := Lib.hid (fun u => refFill_any S n u (by omega) hn3 (by omega))
  have H3 := Lib.hid (fun u => leTrim_any S u (by omega))
  have H4 := Lib.hid (fun u => refTrim_any S u (by omega))
  generalize fillS S n = X at *
  generalize fillE S n = E at *
  generalize trimS S = T at *
  go_wp2_with fail
  refine (H1.out _).mono ?_
  rintro e w2 ⟨rfl, hw2⟩
  go_wp2_with fail
  refine (keep hw2 (H2.out _)).mono ?_
  rintro e w3 ⟨rfl, hw3⟩
  clear hw2
  go_wp2_with fail
  refine (keep hw3 (leAlive _)).mono ?_
  rintro e w4 ⟨rfl, hw4⟩
  clear hw3
  go_wp2_with fail
  refine (H3.out _).mono ?_
  rintro e w5 ⟨rfl, rfl⟩
  go_wp2_with fail
  refine (H4.out _).mono ?_
  rintro e w5 ⟨rfl, rfl⟩
  go_wp2_with fail
  go_ret
  exact ⟨rfl, hw4⟩
end Go.Proofs.YtblbjmjoiaiimaaDoor.lawLeTrims
