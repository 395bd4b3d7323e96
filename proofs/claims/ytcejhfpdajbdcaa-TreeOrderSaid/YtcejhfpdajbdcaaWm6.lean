/- The steps of a condition. -/
import Derived.Test.YtcejhfpdajbdcaaWm5
namespace Go.Proofs.Ytcejhfpdajbdcaa
open Go.RowKit Go.ChangeShapes
set_option linter.unusedVariables false

set_option maxRecDepth 100000 in
set_option maxHeartbeats 4000000 in
theorem condSays : ∀ N, CondSays N := by
  intro N
  induction N with
  | zero => intro c hc; have := c.size_eq; omega
  | succ N ih =>
    intro c hN hf W u k b B l n v yes no hcn hW hbw h hn0 hnm hyb hnb hl
    obtain ⟨hbd, k', hv, hkk⟩ := id hcn
    obtain ⟨ka, kn, kc, e, hkn, _⟩ := id hkk
    have e1 : k = k' := by
      unfold cndV Cnd.cells at hv
      injection hv with hv
      have := congrArg Array.toList hv
      simp only [List.cons.injEq, and_true, true_and] at this
      exact this
    subst e1
    subst e
    have hal := hf
    rw [Cnd.fine_eq, Bool.and_eq_true] at hal
    have hkinds := alone_kinds c hal.1
    have hfk := hal.2
    have hse := c.size_eq
    obtain ⟨kind, kids, arg, mask, sign, value⟩ := c
    obtain ⟨u0, eW, M0, K0, bx0⟩ := h.box (.cells #[.int .i64 kind, .slice ka kn kc, .int .i64 arg, .int .u64 (mask : Nat), .string sign, .int .u64 (value : Nat)] 31)
    have hbel : Below W.heap.size W u0 := K0.bel hW hbw
    have q0 := below_cell (Below.refl _ _) bx0.blk 0 rfl
    have q1 := below_cell (Below.refl _ _) bx0.blk 1 rfl
    have q2 := below_cell (Below.refl _ _) bx0.blk 2 rfl
    have q3 := below_cell (Below.refl _ _) bx0.blk 3 rfl
    have q4 := below_cell (Below.refl _ _) bx0.blk 4 rfl
    have q5 := below_cell (Below.refl _ _) bx0.blk 5 rfl
    obtain ⟨hb1, hb2, hb3, hb4, hb5⟩ := hbd
    simp only [Cnd.kind, Cnd.kids, Cnd.arg, Cnd.mask, Cnd.sign, Cnd.value] at hkinds hfk hkk hkn hse hb1 hb2 hb3 hb4 hb5
    show Calls _ _ #[_, .agg #[.int .i64 kind, .slice ka kn kc, .int .i64 arg, .int .u64 (mask : Nat), .string sign, .int .u64 (value : Nat)], _, _] _ _
    have HK0 := Lib.hid K0
    rcases hkinds with ⟨rfl, ha0, ha5, hsg, _⟩ | ⟨hk, h2⟩ | ⟨rfl, h1⟩
    · obtain ⟨j, rfl⟩ : ∃ j : Nat, arg = j := ⟨arg.toNat, by omega⟩
      have hc := wmTest b B u0 l n v 4 ka kn kc j mask sign value yes no M0 hsg (by omega) hb3 hb5 hn0 (by omega) hyb hnb (by omega)
      have hcs : condS (.mk 4 kids (j : Nat) mask sign value) yes no n = testS sign j mask value yes no n := by rw [condS, if_neg (by decide), if_neg (by decide)]; rfl
      rw [hcs]
      have HC := Lib.hid hc
      clear hc hcs hf hal M0 bx0 hkk hfk hse hN ih hcn hW hbw h hbel hn0 hnm hyb hnb hl ha0 ha5 hsg hb1 hb2 hb3 hb4 hb5 hv K0 hkn
      generalize testS sign j mask value yes no n = P at *
      go_enter Try.func78, Try.ntmps78
      go_upto_region 1 with fail
      rw [← eW]
      clear eW
      go_wp2_with fail
      refine HC.out.mono ?_
      rintro e w2 hq
      obtain ⟨rfl, hq3⟩ := hq.keep HK0.out
      have HQ := Lib.hid hq3
      clear hq hq3
      go_wp2_with fail
      go_end0
      exact ⟨rfl, HQ.out⟩
    · have hkid : ∀ j, j < kids.length → (kids.getD j cndZ).size ≤ N := fun j hj => by have := size_kid kids j hj; omega
      have hc := wmSeries N ih kind kids arg mask sign value hk hfk h2 hkid W u0 (.slice ka kn kc) b B l n v yes no hkk hW hbel M0 hn0 (by omega) hyb hnb (by omega)
      have hcs : condS (.mk kind kids arg mask sign value) yes no n = serS (decide (kind = 1)) kids yes no n := by rw [condS, if_neg (by omega), if_pos hk]
      rw [hcs]
      have HC := Lib.hid hc
      have HK := Lib.hid hk
      clear hc hcs hf hal M0 bx0 hkk hfk hse hN ih hcn hW hbw h hbel hn0 hnm hyb hnb hl hb1 hb2 hb3 hb4 hb5 hv K0 hkn h2 hkid hk
      generalize serS (decide (kind = 1)) kids yes no n = P at *
      rcases HK.out with rfl | rfl
      all_goals
        go_enter Try.func78, Try.ntmps78
        go_upto_region 1 with fail
        rw [← eW]
        clear eW
        go_wp2_with fail
        refine HC.out.mono ?_
        rintro e w2 hq
        obtain ⟨rfl, hq3⟩ := hq.keep HK0.out
        have HQ := Lib.hid hq3
        clear hq hq3
        go_wp2_with fail
        go_end0
        exact ⟨rfl, HQ.out⟩
    · obtain ⟨bk, ok, k2, rfl, ⟨a2, n2, c2, rfl⟩, hI2, hcell⟩ := kid_load hkk (Below.refl _ W) rfl 0 (by omega)
      have hbl := World.block_lt_of_cell? _ _ (hcell 0 _ rfl)
      have hcw : ∀ i x, ((kids.getD 0 cndZ).cells (.slice a2 n2 c2))[i]? = some x → u0.cell? ⟨bk, ok + 0 * 6 + i, none⟩ = some x := fun i x hx => (hbel.cell (p := ⟨bk, ok + 0 * 6 + i, none⟩) hbl).trans (hcell i x hx)
      have e0 := hcw 0 _ rfl
      have e1 := hcw 1 _ rfl
      have e2 := hcw 2 _ rfl
      have e3 := hcw 3 _ rfl
      have e4 := hcw 4 _ rfl
      have e5 := hcw 5 _ rfl
      rw [Nat.zero_mul, Nat.add_zero] at e0 e1 e2 e3 e4 e5
      have hkn1 : kn = 1 := by omega
      subst hkn1
      have hkid := size_kid kids 0 (by omega)
      have hc := ih (kids.getD 0 cndZ) (by omega) (fines_at kids 0 hfk (by omega)) W u0 (.slice a2 n2 c2) b B l n v no yes hI2 hW hbel M0 hn0 (by omega) hnb hyb (by omega)
      have hcs : condS (.mk 3 kids arg mask sign value) yes no n = condS (kids.getD 0 cndZ) no yes n := by
        rw [condS, if_pos rfl]
        match kids, h1 with
        | [q], _ => rw [notS]; rfl
      rw [hcs]
      have hkcI : (1 : Int) ≤ kc := by obtain ⟨_, _, _, hv, _, h1, _⟩ := hkk; injection hv with _ q2 q3; subst q3; omega
      have HC := Lib.hid hc
      clear hc hcs hf hal M0 bx0 hkk hfk hse hN ih hcn hW hbw h hbel hn0 hnm hyb hnb hl hb1 hb2 hb3 hb4 hb5 hv K0 hkn hkid hcell hcw hbl hI2 h1
      generalize condS (kids.getD 0 cndZ) no yes n = P at *
      generalize kids.getD 0 cndZ = cc at *
      obtain ⟨kind2, kids2, arg2, mask2, sign2, value2⟩ := cc
      unfold cndV at HC
      simp only [Cnd.kind, Cnd.arg, Cnd.mask, Cnd.sign, Cnd.value] at e0 e1 e2 e3 e4 e5 HC
      go_enter Try.func78, Try.ntmps78
      go_upto_region 1 with fail
      rw [← eW]
      clear eW
      go_wp2_with fail
      refine HC.out.mono ?_
      rintro e w2 hq
      obtain ⟨rfl, hq3⟩ := hq.keep HK0.out
      have HQ := Lib.hid hq3
      clear hq hq3
      go_wp2_with fail
      go_end0
      exact ⟨rfl, HQ.out⟩
end Go.Proofs.Ytcejhfpdajbdcaa
