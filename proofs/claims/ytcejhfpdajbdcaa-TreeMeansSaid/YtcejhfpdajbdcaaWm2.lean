/- The maker of steps: labels, jumps, loads. -/
import Derived.Test.YtcejhfpdajbdcaaWm1
import Derived.Test.YtcejhfpdajbdcaaWmQ
namespace Go.Proofs.Ytcejhfpdajbdcaa
open Go.RowKit Go.ChangeShapes
set_option linter.unusedVariables false

theorem stp_bnd {kind : Int} {k : Nat} {t f : Int} (h1 : 0 ≤ kind ∧ kind ≤ 10) (h2 : k ≤ 4294967295) (h3 : -9223372036854775808 ≤ t ∧ t ≤ 9223372036854775807) (h4 : -9223372036854775808 ≤ f ∧ f ≤ 9223372036854775807) : (⟨kind, k, t, f⟩ : Stp).bounded :=
  ⟨⟨Int.le_trans (by decide) h1.1, Int.le_trans h1.2 (by decide)⟩, h2, h3, h4⟩
/-- a block of the caller's -/
structure Bx (B : Nat) (u : World) (v : Value) (g : Nat) (o : Obj) : Prop where
  blk : u.heap[g]? = some o
  neB : g ≠ B
  neO : v.ownBlock ≠ some g
theorem Bx.keep {b B : Nat} {u u' : World} {v v' : Value} {g : Nat} {o : Obj} (h : Bx B u v g o) (k : KeepM b B v u v' u') : Bx B u' v' g o := by
  obtain ⟨h1, h2⟩ := k.block h.blk h.neB h.neO
  exact ⟨h1, h.neB, h2⟩
theorem Mk.box {b B : Nat} {u : World} {l : List Stp} {n : Int} {v : Value} (h : Mk b u B l n v) (o : Obj) : ∃ u1, u1 = u.alloc o ∧ Mk b u1 B l n v ∧ KeepM b B v u v u1 ∧ Bx B u1 v u.heap.size o := by
  have hb := (Below.refl u.heap.size u).alloc (Nat.le_refl _) o
  have hB := lt_of_block h.blk
  refine ⟨_, rfl, h.below hb, KeepM.of_below hb (by have := h.base; omega), heap_alloc_new u o, by omega, fun e => ?_⟩
  have := (h.own.lt _ e).2
  omega
theorem MkPost.keep {b B : Nat} {v v1 : Value} {u u1 u2 : World} {l : List Stp} {n : Int} {e : Ending} (k : KeepM b B v u v1 u1) (h : MkPost b B v1 u1 l n e u2) : MkPost b B v u l n e u2 := by
  obtain ⟨he, v2, h2, k2⟩ := h
  exact ⟨he, v2, h2, k.trans k2⟩
set_option maxRecDepth 100000 in
theorem wmLabel (b B : Nat) (u : World) (l : List Stp) (n : Int) (v : Value) (h : Mk b u B l n v) (hn : 0 ≤ n) (hm : n ≤ 100000000) :
    Calls Try.prog 85 #[.pointer (some ⟨B, 0, none⟩)] u fun e u' => e = .returned (.int .i64 n) ∧ Mk b u' B l (n + 1) v ∧ KeepM b B v u v u' := by
  have c1 := below_cell (Below.refl _ _) h.blk 1 rfl
  have f1 := block_frozen h.blk 1
  have hk : Mk b (u.setCell ⟨B, 1, none⟩ (.int .i64 (n + 1))) B l (n + 1) v :=
    ⟨block_set h.blk 1 _, h.own.kept (row := some B) ⟨rfl, rfl, rfl, by simp [World.setCell], fun k _ hk => Below.heap_setCell _ _ _ _ (fun e => hk (by simp [e]))⟩ (.inr h.ne), h.ne, h.base, h.bnd⟩
  have kp : KeepM b B v u v (u.setCell ⟨B, 1, none⟩ (.int .i64 (n + 1))) :=
    ⟨by rw [World.size_setCell]; exact Nat.le_refl _, fun b0 w0 hb0 hw => hw.setCell (p := ⟨B, 1, none⟩) (Nat.le_trans hb0 h.base) _, fun g _ hg _ => Below.heap_setCell _ _ _ _ hg, fun g hg => .inl hg⟩
  have HK := Lib.hid hk; have KP := Lib.hid kp
  have d1 := below_cell (Below.refl _ _) hk.blk 1 rfl
  clear hk kp h
  go_enter Try.func85, Try.ntmps85
  go_upto_region 2 with fail
  generalize u.setCell ⟨B, 1, none⟩ (.int .i64 (n + 1)) = u2 at *
  have hs : IntKind.i64.wrap (n + 1 - 1) = n := by rw [show n + 1 - 1 = n by omega]; exact (by simp [IntKind.wrap, IntKind.signed, IntKind.bits]; omega)
  go_wp2_with fail
  go_ret
  exact ⟨rfl, HK.out, KP.out⟩
set_option maxRecDepth 100000 in
theorem wmHere (b B : Nat) (u : World) (l : List Stp) (n : Int) (v : Value) (L : Int) (h : Mk b u B l n v) (hL : -9223372036854775808 ≤ L ∧ L ≤ 9223372036854775807) (hl : l.length ≤ 1000000) :
    Calls Try.prog 86 #[.pointer (some ⟨B, 0, none⟩), .int .i64 L] u (MkPost b B v u (l ++ [stL L]) n) := by
  have hA := wmAdd b B u l n v (stL L) h (stp_bnd (by decide) (by decide) hL (by decide)) hl
  unfold Stp.value stL at hA
  unfold stL
  have HA := Lib.hid hA
  clear hA h
  go_enter Try.func86, Try.ntmps86
  go_wp2_with fail
  refine HA.out.mono ?_
  rintro e w2 ⟨rfl, hp⟩
  have HP := Lib.hid hp
  clear hp
  go_wp2_with fail
  go_end0
  exact ⟨rfl, HP.out⟩
set_option maxRecDepth 100000 in
theorem wmJump (b B : Nat) (u : World) (l : List Stp) (n : Int) (v : Value) (kind : Int) (k : Nat) (yes no : Int) (h : Mk b u B l n v) (ho : (⟨kind, k, yes, no⟩ : Stp).bounded) (hl : l.length ≤ 1000000) :
    Calls Try.prog 92 #[.pointer (some ⟨B, 0, none⟩), .int .i64 kind, .int .u32 (k : Nat), .int .i64 yes, .int .i64 no] u (MkPost b B v u (l ++ [⟨kind, k, yes, no⟩]) n) := by
  have hA := wmAdd b B u l n v _ h ho hl
  unfold Stp.value at hA
  have HA := Lib.hid hA
  clear hA h ho
  go_enter Try.func92, Try.ntmps92
  go_wp2_with fail
  refine HA.out.mono ?_
  rintro e w2 ⟨rfl, hp⟩
  have HP := Lib.hid hp
  clear hp
  go_wp2_with fail
  go_end0
  exact ⟨rfl, HP.out⟩
set_option maxRecDepth 100000 in
theorem wmLoad (b B : Nat) (u : World) (l : List Stp) (n : Int) (v : Value) (p m : Nat) (h : Mk b u B l n v) (hp : p ≤ 1000) (hm : m ≤ 4294967295) (hl : l.length ≤ 999990) :
    Calls Try.prog 95 #[.pointer (some ⟨B, 0, none⟩), .int .i64 (p : Nat), .int .u32 (m : Nat)] u (MkPost b B v u (l ++ loadS p m) n) := by
  have hA := wmAdd b B u l n v ⟨1, p, 0, 0⟩ h (stp_bnd (by decide) (by omega) (by decide) (by decide)) (by omega)
  have hA2 := fun u2 v2 (h2 : Mk b u2 B (l ++ [⟨1, p, 0, 0⟩]) n v2) => wmAdd b B u2 _ n v2 ⟨2, m, 0, 0⟩ h2 (stp_bnd (by decide) (by omega) (by decide) (by decide)) (by simp; omega)
  unfold Stp.value at hA hA2
  have HA := Lib.hid hA; have HA2 := Lib.hid hA2
  have hpw : IntKind.u32.wrap (p : Int) = p := by simp [IntKind.wrap, IntKind.signed, IntKind.bits]; omega
  clear hA hA2 h
  go_enter Try.func95, Try.ntmps95
  go_wp2_with fail
  refine HA.out.mono ?_
  rintro e w2 ⟨rfl, v2, M2, K2⟩
  have HM2 := Lib.hid M2; have HK2 := Lib.hid K2
  clear M2 K2
  by_cases he : m = 4294967295
  · have hL : loadS p m = [⟨1, p, 0, 0⟩] := by unfold loadS; rw [if_pos he]
    rw [hL]
    subst he
    go_wp2_with fail
    go_end0
    exact ⟨rfl, v2, HM2.out, HK2.out⟩
  · have hL : l ++ loadS p m = (l ++ [⟨1, p, 0, 0⟩]) ++ [⟨2, m, 0, 0⟩] := by unfold loadS; rw [if_neg he]; simp
    have HL := Lib.hid hL
    have hme : ((m : Int) != 4294967295) = true := by rw [bne_iff_ne]; omega
    have hc := HA2.out _ _ HM2.out
    have HC := Lib.hid hc
    clear he hL hc
    go_wp2_with fail
    refine HC.out.mono ?_
    rintro e w3 hq
    have hq2 := hq.keep HK2.out
    obtain ⟨rfl, hq3⟩ := hq2
    have HQ := Lib.hid hq3
    clear hq hq3
    go_wp2_with fail
    go_end0
    rw [← HL.out] at HQ
    exact ⟨rfl, HQ.out⟩
end Go.Proofs.Ytcejhfpdajbdcaa
