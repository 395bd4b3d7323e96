/- The walk of WordWalks. -/
import Derived.Test.YtcpnofmofkcnlaaWordLaw
import Derived.Test.YtcpnofmofkcnlaaRef19
import Derived.Outline
namespace Go.Proofs.Ytcpnofmofkcnlaa.lawWordWalks
open Go.RowKit
set_option linter.unusedVariables false

set_option maxRecDepth 100000 in
set_option maxHeartbeats 1000000 in
theorem walk (v0 : Value) (l0 : List Stp) (s : ByteArray) (w : World) (w0 : IsOps w v0 l0) (w2 : s.size ≤ maxLen) :
    Calls Try.prog 3 #[v0, .string s] w fun e w' => e = .returned (.bool true) ∧ Below w.heap.size w w' := by
  obtain ⟨a, len, cap, rfl, hlen, hc1, hc2, htk⟩ := w0.take
  have hl := htk (min len 200) (by omega)
  generalize l0.take (min len 200) = l at *
  have hF := fun u => wordFew_at a len cap u hc1 hc2
  obtain ⟨n, hn⟩ : ∃ n, min len 200 = n := ⟨_, rfl⟩
  rw [hn] at hl hF
  have HL := Lib.hid hl; have HF := Lib.hid hF
  unfold maxLen at w2
  have hlI : (len : Int) ≤ cap := by omega
  have hcI : (cap : Int) ≤ 9223372036854775807 := by omega
  obtain ⟨m, hm, hm1, hm2, hm3⟩ := min_if s.size 80 (by omega)
  have hmi : min (s.size : Int) 80 = m := by omega
  have hsI : (s.size : Int) ≤ 9223372036854775807 := by omega
  have hmI : (m : Int) ≤ s.size := by omega
  have hW1 := fun u hu => wordWalk_any (.slice a n cap) l (s.extract 0 m) u hu
  have hW2 := fun u hu => refWalk_any (.slice a n cap) l (s.extract 0 m) u hu
  obtain ⟨E, hE⟩ : ∃ E, walkR l (s.extract 0 m) = E := ⟨_, rfl⟩
  rw [hE] at hW1 hW2
  clear hE
  have heq := fun u => eqFin E E u
  rw [decide_eq_true rfl] at heq
  obtain ⟨eL, eA, eT, eW⟩ := E
  simp only [Fin4.value] at heq hW1 hW2
  have HW1 := Lib.hid hW1; have HW2 := Lib.hid hW2
  clear hm3 hl hF hW1 hW2 htk w0 hlen hn
  go_enter Try.func3, Try.ntmps3
  go_wp2_with fail
  refine wp_region_keep (w0 := w) (by kernel_rfl) (by kernel_rfl) (Below.refl _ _) ?_
  repeat (go_big_quiet_step ((go_at_call 13; exact keepSame (HF.out _))))
  refine wpQuiet_nil ?_
  intro _ hw'
  obtain ⟨x, rfl⟩ := hw'
  have hz := x.below
  generalize x.val = wz at *
  clear x
  go_wp2_with fail
  refine (wordAlive _).mono ?_
  rintro e w3 ⟨rfl, hb3⟩
  have hw3 := hz.trans (hb3.mono hz.size)
  go_wp2_with fail
  refine (HW1.out _ (HL.out.below hw3)).mono ?_
  rintro e w4 ⟨rfl, hb4⟩
  have hw4 := hw3.trans (hb4.mono hw3.size)
  go_wp2_with fail
  refine (HW2.out _ (HL.out.below hw4)).mono ?_
  rintro e w5 ⟨rfl, hb5⟩
  have hw5 := hw4.trans (hb5.mono hw4.size)
  go_wp2_with fail
  go_ret
  exact ⟨rfl, hw5⟩
end Go.Proofs.Ytcpnofmofkcnlaa.lawWordWalks
