/- What a sign asks: the closure of MeanSigns. -/
import Derived.Test.YtgcngmlndijppaaMnAlive
namespace Go.Proofs.Ytgcngmlndijppaa
open Go.RowKit Go.ChangeShapes
set_option linter.unusedVariables false

theorem does_sign (j m v : Nat) (s : ByteArray) (args : List Nat) (hj : j ≤ 5) (hs : signOk s = true) : (Cnd.mk 4 [] (j : Nat) m s v).does args = signV s (args.getD j 0 &&& m) v := by
  have h1 : (Cnd.mk 4 [] (j : Nat) m s v).zero = false := rfl
  have h2 : (Cnd.mk 4 [] (j : Nat) m s v).right = true := by
    unfold Cnd.right
    rw [Cnd.size_eq, Cnd.fine_eq]
    have ha : (Cnd.mk 4 [] (j : Nat) m s v).alone = true := by
      unfold Cnd.alone
      rw [if_pos (show (Cnd.mk 4 [] (j : Nat) m s v).kind = 4 from rfl)]
      exact Bool.and_eq_true_iff.2 ⟨Bool.and_eq_true_iff.2 ⟨Bool.and_eq_true_iff.2 ⟨decide_eq_true (show (0 : Int) ≤ j by omega), decide_eq_true (show (j : Int) ≤ 5 by omega)⟩, hs⟩, rfl⟩
    rw [ha]; rfl
  unfold Cnd.does
  rw [h1, h2, Cnd.holds_eq]
  simp [Cnd.kind, Cnd.arg, Cnd.mask, Cnd.sign, Cnd.value]
set_option maxRecDepth 100000 in
set_option maxHeartbeats 1000000 in
theorem signAsk (u : World) (b4 b6 b7 j m v nr arch ip a0 a1 a2 a3 a4 a5 : Nat) (s : ByteArray) (hj : j ≤ 5) (hs : signOk s = true) (hm : m ≤ 18446744073709551615) (hv : v ≤ 18446744073709551615)
    (hx : (Cal.mk nr arch ip [a0, a1, a2, a3, a4, a5]).ok)
    (h4 : u.heap[b4]? = some (.cells #[.int .i64 (j : Nat)] 3)) (h6 : u.heap[b6]? = some (.cells #[.int .u64 (v : Nat)] 23)) (h7 : u.heap[b7]? = some (callO nr arch ip a0 a1 a2 a3 a4 a5)) :
    Calls Try.prog 20 #[.string s, .int .u64 (m : Nat), .pointer (some ⟨b4, 0, none⟩), .pointer (some ⟨b6, 0, none⟩), .pointer (some ⟨b7, 0, none⟩)] u fun e w' => e = .returned (.bool (signV s ([a0, a1, a2, a3, a4, a5].getD j 0 &&& m) v)) ∧ Below u.heap.size u w' := by
  have hI : IsCnd u (cndV (.mk 4 [] (j : Nat) m s v) (.slice none 0 0)) (.mk 4 [] (j : Nat) m s v) := by
    refine ⟨?_, .slice none 0 0, rfl, none, 0, 0, rfl, rfl, Nat.le_refl _, by omega, fun _ => rfl, .inl rfl⟩
    unfold Cnd.bounded
    simp only [Cnd.kind, Cnd.arg, Cnd.mask, Cnd.sign, Cnd.value]
    have hss : s.size ≤ 9223372036854775807 := by
      rcases signs6 s hs with ⟨rfl, _⟩ | ⟨rfl, _⟩ | ⟨rfl, _⟩ | ⟨rfl, _⟩ | ⟨rfl, _⟩ | ⟨rfl, _⟩ <;> decide
    exact ⟨by omega, by omega, hm, hss, hv⟩
  have hD := mnDoes _ _ u _ hx hI
  rw [does_sign j m v s _ hj hs] at hD
  change Calls _ _ #[.agg #[.int .i64 4, .slice none 0 0, .int .i64 (j : Nat), .int .u64 (m : Nat), .string s, .int .u64 (v : Nat)], callV nr arch ip a0 a1 a2 a3 a4 a5] _ _ at hD
  unfold callV at hD
  unfold callO at h7
  have q0 := below_cell (Below.refl _ u) h4 0 rfl
  have q1 := below_cell (Below.refl _ u) h6 0 rfl
  have p0 := below_cell (Below.refl _ u) h7 0 rfl
  have p1 := below_cell (Below.refl _ u) h7 1 rfl
  have p2 := below_cell (Below.refl _ u) h7 2 rfl
  have p3 := below_cell (Below.refl _ u) h7 3 rfl
  have p4 := below_cell (Below.refl _ u) h7 4 rfl
  have p5 := below_cell (Below.refl _ u) h7 5 rfl
  have p6 := below_cell (Below.refl _ u) h7 6 rfl
  have p7 := below_cell (Below.refl _ u) h7 7 rfl
  have p8 := below_cell (Below.refl _ u) h7 8 rfl
  have HD := Lib.hid hD
  clear hD hI h4 h6 h7 hx hj hs hm hv
  go_enter Try.func20, Try.ntmps20
  go_wp2_with fail
  refine HD.out.mono ?_
  rintro e w2 ⟨rfl, hb2⟩
  have H2 := Lib.hid hb2
  clear hb2 q0 q1 p0 p1 p2 p3 p4 p5 p6 p7 p8
  go_wp2_with fail
  go_ret
  exact ⟨rfl, H2.out⟩
end Go.Proofs.Ytgcngmlndijppaa
