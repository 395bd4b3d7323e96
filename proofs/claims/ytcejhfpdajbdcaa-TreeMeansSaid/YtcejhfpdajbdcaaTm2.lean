/- The builder of steps: labels and answers. -/
import Derived.Test.YtcejhfpdajbdcaaTm1
namespace Go.Proofs.Ytcejhfpdajbdcaa
open Go.RowKit Go.ChangeShapes
set_option linter.unusedVariables false

theorem TkPost.keep {b B : Nat} {v v1 : Value} {u u1 u2 : World} {l : List Stp} {n m : Int} {fn : Value} {e : Ending} (k : KeepM b B v u v1 u1) (h : TkPost b B v1 u1 l n m fn e u2) : TkPost b B v u l n m fn e u2 := by
  obtain ⟨he, v2, h2, k2⟩ := h
  exact ⟨he, v2, h2, k.trans k2⟩
set_option maxRecDepth 100000 in
theorem tmLabel (b B : Nat) (u : World) (l : List Stp) (n m : Int) (fn v : Value) (h : Tk b u B l n m fn v) (hn : 0 ≤ n) (hx : n ≤ 100000000) :
    Calls Try.prog 30 #[.pointer (some ⟨B, 0, none⟩)] u fun e u' => e = .returned (.int .i64 n) ∧ Tk b u' B l (n + 1) m fn v ∧ KeepM b B v u v u' := by
  have c1 := below_cell (Below.refl _ _) h.blk 1 rfl
  have f1 := block_frozen h.blk 1
  have hk : Tk b (u.setCell ⟨B, 1, none⟩ (.int .i64 (n + 1))) B l (n + 1) m fn v :=
    ⟨block_set h.blk 1 _, h.own.kept (row := some B) ⟨rfl, rfl, rfl, by simp [World.setCell], fun k _ hk => Below.heap_setCell _ _ _ _ (fun e => hk (by simp [e]))⟩ (.inr h.ne), h.ne, h.base, h.bnd⟩
  have kp : KeepM b B v u v (u.setCell ⟨B, 1, none⟩ (.int .i64 (n + 1))) :=
    ⟨by rw [World.size_setCell]; exact Nat.le_refl _, fun b0 w0 hb0 hw => hw.setCell (p := ⟨B, 1, none⟩) (Nat.le_trans hb0 h.base) _, fun g _ hg _ => Below.heap_setCell _ _ _ _ hg, fun g hg => .inl hg⟩
  have HK := Lib.hid hk; have KP := Lib.hid kp
  have d1 := below_cell (Below.refl _ _) hk.blk 1 rfl
  clear hk kp h
  go_enter Try.func30, Try.ntmps30
  go_upto_region 2 with fail
  generalize u.setCell ⟨B, 1, none⟩ (.int .i64 (n + 1)) = u2 at *
  have hs : IntKind.i64.wrap (n + 1 - 1) = n := by rw [show n + 1 - 1 = n by omega]; exact (by simp [IntKind.wrap, IntKind.signed, IntKind.bits]; omega)
  go_wp2_with fail
  go_ret
  exact ⟨rfl, HK.out, KP.out⟩
set_option maxRecDepth 100000 in
theorem tmHere (b B : Nat) (u : World) (l : List Stp) (n m : Int) (fn v : Value) (L : Int) (h : Tk b u B l n m fn v) (hL : -9223372036854775808 ≤ L ∧ L ≤ 9223372036854775807) (hl : l.length ≤ 100000000) :
    Calls Try.prog 32 #[.pointer (some ⟨B, 0, none⟩), .int .i64 L] u (TkPost b B v u (l ++ [stL L]) n m fn) := by
  have hA := tmAdd b B u l n m fn v (stL L) h (stp_bnd (by decide) (by decide) hL (by decide)) hl
  unfold Stp.value stL at hA
  unfold stL
  have HA := Lib.hid hA
  clear hA h
  go_enter Try.func32, Try.ntmps32
  go_wp2_with fail
  refine HA.out.mono ?_
  rintro e w2 ⟨rfl, hp⟩
  have HP := Lib.hid hp
  clear hp
  go_wp2_with fail
  go_end0
  exact ⟨rfl, HP.out⟩
set_option maxRecDepth 100000 in
theorem tmRet (b B : Nat) (u : World) (l : List Stp) (n m : Int) (fn v : Value) (k : Nat) (h : Tk b u B l n m fn v) (hk : k ≤ 4294967295) (hl : l.length ≤ 100000000) :
    Calls Try.prog 33 #[.pointer (some ⟨B, 0, none⟩), .int .u32 (k : Nat)] u (TkPost b B v u (l ++ [retS k]) n m fn) := by
  have hA := tmAdd b B u l n m fn v (retS k) h (stp_bnd (by decide) hk (by decide) (by decide)) hl
  unfold Stp.value retS at hA
  unfold retS
  have HA := Lib.hid hA
  clear hA h
  go_enter Try.func33, Try.ntmps33
  go_wp2_with fail
  refine HA.out.mono ?_
  rintro e w2 ⟨rfl, hp⟩
  have HP := Lib.hid hp
  clear hp
  go_wp2_with fail
  go_end0
  exact ⟨rfl, HP.out⟩
end Go.Proofs.Ytcejhfpdajbdcaa
