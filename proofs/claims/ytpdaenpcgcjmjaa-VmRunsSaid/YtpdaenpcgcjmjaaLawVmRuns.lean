/- The walk of VmRuns. -/
import Derived.Test.YtpdaenpcgcjmjaaRef11R
namespace Go.Proofs.Ytpdaenpcgcjmjaa.lawVmRuns
open Go.ChangeShapes Go.WideShapes Go.ChangeAt Go.RowKit Go.Joins Go.Deep
set_option linter.unusedVariables false

theorem openInsns {H : Type} {enc : TypeId × Value → H} {W : World} {base : Nat} {v : Value} {d : DataW H} {p : List MemPlace}
    (hok : Value.okWide Try.prog W .any base 22 v) (h : DataW.Trod enc Try.prog W 0 (fun _ => true) true 22 v d p) : ∃ l, IsIns W v l := openIns hok h
set_option maxRecDepth 100000 in
theorem refWord_all (s : ByteArray) (at' : Int) (w : World) : Calls Try.prog 12 #[.string s, .int .i64 at'] w fun e w' => e = .returned (wordV s at') ∧ w = w' := by
  by_cases hs : s.size = 64
  · exact refWord_any s at' w hs
  · unfold wordV
    rw [if_neg hs]
    have hsI : (s.size : Int) ≠ 64 := by omega
    go_enter Try.func12, Try.ntmps12
    go_wp2_with fail
    go_ret2
    exact ⟨rfl, rfl⟩
theorem wordV_form (s : ByteArray) (at' : Int) : ∃ x e : Int, wordV s at' = .tuple #[.int .u32 x, .int .i64 e] := by
  unfold wordV wordV4
  repeat' split
  all_goals exact ⟨_, _, rfl⟩
set_option maxRecDepth 100000 in
set_option maxHeartbeats 1000000 in
theorem walk (v0 : Value) (l0 : List Ins) (s : ByteArray) (k : Int) (w : World) (w0 : IsIns w v0 l0) (w1 : s.size ≤ maxLen) (w2 : (Lit.int .i64 k).wf = true) :
    Calls Try.prog 3 #[v0, .string s, .int .i64 k] w fun e w' => e = .returned (.bool true) ∧ Below w.heap.size w w' := by
  obtain ⟨a, len, cap, rfl, hlen, hc1, hc2, htk⟩ := w0.1.take
  obtain ⟨n, hn⟩ : ∃ n, min len 200 = n := ⟨_, rfl⟩
  have hn1 : n ≤ len := by omega
  have hl := htk n hn1
  have hll : (l0.take n).length ≤ 1000000 := by rw [List.length_take]; omega
  have hF := fun u => vmFew_at a len cap u hc1 hc2
  rw [hn] at hF
  generalize l0.take n = l at *
  unfold maxLen at w1
  obtain ⟨m, hm, hm1, hm2, hm3⟩ := min_if s.size 70 (by omega)
  have hmi : min (s.size : Int) 70 = m := by omega
  have hsI : (s.size : Int) ≤ 9223372036854775807 := by omega
  have hmI : (m : Int) ≤ s.size := by omega
  have hR1 := fun u hu => vmRun_any l (.slice a n cap) (s.extract 0 m) u hu hll
  have hR2 := fun u hu => refRun_any l (.slice a n cap) (s.extract 0 m) u hu hll
  have hV1 := fun u => vmWord_all (s.extract 0 m) k u
  have hV2 := fun u => refWord_all (s.extract 0 m) k u
  obtain ⟨x, e, hxe⟩ := wordV_form (s.extract 0 m) k
  rw [hxe] at hV1 hV2
  generalize runR l (s.extract 0 m) = R at *
  unfold resV at hR1 hR2
  obtain ⟨A, N, E⟩ := R
  simp only at hR1 hR2
  have HL := Lib.hid hl; have HF := Lib.hid hF; have HR1 := Lib.hid hR1; have HR2 := Lib.hid hR2; have HV1 := Lib.hid hV1; have HV2 := Lib.hid hV2
  clear hm3 hl hF htk w0 hlen hn hR1 hR2 hV1 hV2 hxe hll hn1 w2
  go_enter Try.func3, Try.ntmps3
  go_wp2_with fail
  refine wp_region_keep (w0 := w) (by kernel_rfl) (by kernel_rfl) (Below.refl _ _) ?_
  repeat (go_big_quiet_step ((go_at_call 8; exact keepSame (HF.out _))))
  refine wpQuiet_nil ?_
  intro _ hw'
  obtain ⟨x, rfl⟩ := hw'
  have hz := x.below
  generalize x.val = wz at *
  clear x
  go_wp2_with fail
  refine (HR1.out _ (HL.out.below hz)).mono ?_
  rintro e w3 ⟨rfl, hb3⟩
  have hw3 := hz.trans (hb3.mono hz.size)
  clear hb3
  go_wp2_with fail
  refine (HR2.out _ (HL.out.below hw3)).mono ?_
  rintro e w4 ⟨rfl, hb4⟩
  have hw4 := hw3.trans (hb4.mono hw3.size)
  clear hb4
  go_wp2_with fail
  refine (HV1.out _).mono ?_
  rintro e w5 ⟨rfl, rfl⟩
  go_wp2_with fail
  refine (HV2.out _).mono ?_
  rintro e w5 ⟨rfl, rfl⟩
  go_wp2_with fail
  refine (vmAlive _).mono ?_
  rintro e w5 ⟨rfl, hb5⟩
  have hw5 := hw4.trans (hb5.mono hw4.size)
  go_wp2_with fail
  go_ret
  exact ⟨rfl, hw5⟩
end Go.Proofs.Ytpdaenpcgcjmjaa.lawVmRuns
