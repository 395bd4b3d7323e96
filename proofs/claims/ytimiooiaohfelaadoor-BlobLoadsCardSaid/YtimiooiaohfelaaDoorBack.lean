/- slices.Backward of a row of writes: the iterator's contract. -/
import Derived.RangeFuncNested
import Derived.RangeFuncBound
import Derived.RangeFuncBox
import Derived.RangeFuncCalls
import Derived.RangeFuncLeaves
import Derived.Shelf.Abstract
import Derived.Shelf.RegionOpen
import Derived.WalkKit
import Derived.OwnWalkIn
import Derived.TacticsInMore
import Derived.LoopNIn
import Derived.LoopIn
import Derived.Maps.AppendAt
import Derived.Test.YtimiooiaohfelaaDoorDisk
namespace Go.Proofs.YtimiooiaohfelaaDoor
open Go.RowKit Go.Shelf
attribute [local go_sem] Oper.semAt_some
set_option linter.unusedVariables false

/-- the places from the last one down, k of them -/
def down (len k : Nat) : List Nat := (List.range k).map fun j => len - 1 - j
theorem down_succ (len k : Nat) : down len (k + 1) = down len k ++ [len - 1 - k] := by simp [down, List.range_succ]
theorem down_len (len k : Nat) : (down len k).length = k := by simp [down]
def wrtEnc (l : List Wrt) (i : Nat) : Array Value := #[.int .i64 (i : Nat), .agg #[.int .i64 (l.getD i wrtZ).sector, .string (l.getD i wrtZ).bytes]]

set_option maxHeartbeats 1000000 in
theorem back_in (F : Fence) (n : Nat) (h5 : F.fn 60) (hro : F.round = none) (a : Option Addr) (len cap : Nat) (w : World) :
    CallsIn F n Tryd.prog 60 #[.slice a len cap] w fun e w' => e = .returned (.func (.func 72) #[] #[.pointer (some ⟨w.heap.size, 0, none⟩)]) ∧ w' = w.alloc (.cells #[.slice a len cap] 23) := by
  refine callsIn_of_wp Tryd.func60 rfl h5 ?_ hro
  simp only [Tryd.ntmps60, List.size_toArray, List.length_cons, List.length_nil, Nat.reduceAdd, Nat.reduceSub, Array.replicate_succ, Array.replicate_zero, List.push_toArray, List.append_toArray, List.nil_append, List.cons_append]
  gi_wp2
  go_ret
  exact ⟨rfl, rfl⟩

set_option maxRecDepth 100000 in
set_option maxHeartbeats 2000000 in
theorem back1_in (F : Fence) (n : Nat) (h7 : F.fn 72) (hro : F.round = none) (hn : 1 ≤ n) (l Bs n₀ : Nat) (pl : List Wrt) (pv : Value) (W0 : World) (hp : IsWrts W0 pv pl) (hlen : pl.length ≤ 1000000) (J Jx : List Nat → World → Prop)
    (hn0 : W0.heap.size ≤ n₀) (hBs : Bs < n₀)
    (hY : ∀ pre x W, J pre W → pre.length < pl.length → YieldAt F (n - 1) Tryd.prog l (wrtEnc pl x) W fun e W' =>
      (e = .returned (.bool true) ∧ J (pre ++ [x]) W' ∧ Below n₀ W W') ∨ (e = .returned (.bool false) ∧ Jx (pre ++ [x]) W'))
    (W : World) (hW : Below W0.heap.size W0 W) (hBox : Boxed W Bs 23 pv) (h0 : J [] W) :
    CallsIn F n Tryd.prog 72 #[.func (.yield l) #[] #[], .pointer (some ⟨Bs, 0, none⟩)] W fun e W' => (∃ v, e = .returned v) ∧
      ((∃ ys, ys = down pl.length pl.length ∧ J ys W') ∨ (∃ pre, (∃ k, k ≤ pl.length ∧ pre = down pl.length k) ∧ Jx pre W')) := by
  obtain ⟨a, len, cap, rfl, rfl, hc1, hc2, hbd, hat⟩ := hp
  have hlI : (pl.length : Int) ≤ 1000000 := by omega
  have hb0 := hBox.cell
  refine callsIn_of_wp Tryd.func72 rfl h7 ?_ hro
  simp only [Tryd.ntmps72, List.size_toArray, List.length_cons, List.length_nil, Nat.reduceAdd, Nat.reduceSub, Array.replicate_succ, Array.replicate_zero, List.push_toArray, List.append_toArray, List.nil_append, List.cons_append]
  gi_wp2
  gi_loopw [3] (fun i wr => ∃ k : Nat, k ≤ pl.length ∧ i = .int .i64 ((pl.length : Int) - 1 - k) ∧ J (down pl.length k) wr ∧ Below n₀ W wr)
    (fun i _ => (intOf i + 1).toNat)
  case atStart => exact ⟨0, Nat.zero_le _, by simp, h0, Below.refl _ _⟩
  case round =>
    obtain ⟨k, hk, rfl, hJs, hbel⟩ := hrel
    have hb1 := (hbel.cell (p := ⟨Bs, 0, none⟩) hBs).trans hb0
    by_cases hlt : k < pl.length
    · obtain ⟨j, hj⟩ : ∃ j, pl.length = k + j + 1 := ⟨pl.length - k - 1, by omega⟩
      have hz : (pl.length : Int) - 1 - k = (j : Nat) := by omega
      have hjd : pl.length - 1 - k = j := by omega
      rw [hz]
      obtain ⟨b, off, rfl, hb, hat⟩ := hat.resolve_left (by omega)
      obtain ⟨x0, x1⟩ := ((hat j (by omega)).below hW hb).below hbel (Nat.lt_of_lt_of_le hb hn0)
      have hjI : (j : Int) < pl.length := by omega
      obtain ⟨fn, tmps, assign, body, hy, hR⟩ := hY _ j wr hJs (by rw [down_len]; exact hlt)
      unfold wrtEnc at hy
      have hnx : (j : Int) - 1 = (pl.length : Int) - 1 - ((k + 1 : Nat) : Int) := by omega
      have hds : down pl.length (k + 1) = down pl.length k ++ [j] := by rw [down_succ, hjd]
      have HR := Lib.hid hR; have HNX := Lib.hid hnx; have HDS := Lib.hid hds
      generalize pl.getD j wrtZ = X at *
      have hk1 : k + 1 ≤ pl.length := hlt
      clear hY hR hnx hds hat hz hjd hj
      gi_wp2
      refine HR.out.mono ?_
      rintro e W3 (⟨rfl, hJ3, hk3⟩ | ⟨rfl, hJx3⟩)
      · clear HR hy
        gi_wp2
        go_roundw
        case rel => exact ⟨k + 1, hk1, by rw [← HNX.out], by rw [HDS.out]; exact hJ3, hbel.trans hk3⟩
        case measure => first | (simp [intOf]; done) | (simp [intOf]; omega)
      · clear HR hy
        gi_wp2
        refine bodyPost_ret (results_none rfl _ _ _) rfl ?_
        exact ⟨⟨_, rfl⟩, .inr ⟨_, ⟨k + 1, hk1, HDS.out.symm⟩, hJx3⟩⟩
    · obtain rfl : k = pl.length := by omega
      have hz : (pl.length : Int) - 1 - (pl.length : Nat) = -1 := by omega
      rw [hz]
      gi_wp2
      go_end0
      exact ⟨⟨_, rfl⟩, .inl ⟨_, rfl, hJs⟩⟩
theorem back_stops (F : Fence) (n : Nat) (h7 : F.fn 72) (hro : F.round = none) (hn : 1 ≤ n) (Bs : Nat) (pl : List Wrt) (pv : Value) (w : World) (hp : IsWrts w pv pl) (hlen : pl.length ≤ 1000000)
    (hBox : Boxed w Bs 23 pv) :
    SeqStopsK F n Tryd.prog 72 #[.pointer (some ⟨Bs, 0, none⟩)] (wrtEnc pl) (Below w.heap.size) (fun ys => ys = down pl.length pl.length)
      (fun pre => ∃ k, k ≤ pl.length ∧ pre = down pl.length k) pl.length w := fun l J Jx W hW _ _ hY h0 =>
  back1_in F n h7 hro hn l Bs w.heap.size pl pv w hp hlen J Jx (Nat.le_refl _) hBox.lt hY W hW ((hW.block Bs hBox.lt).trans hBox) h0
end Go.Proofs.YtimiooiaohfelaaDoor
