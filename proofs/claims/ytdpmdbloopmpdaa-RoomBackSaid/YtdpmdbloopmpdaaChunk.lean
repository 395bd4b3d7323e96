/- slices.Chunk of a row of bools, by eights: the iterator's contract. -/
import Derived.RangeFuncNested
import Derived.RangeFuncBound
import Derived.RangeFuncBox
import Derived.RangeFuncCalls
import Derived.RangeFuncLeaves
import Derived.Shelf.Abstract
import Derived.Shelf.RegionOpen
import Derived.WalkKit
import Derived.OwnWalkIn
import Derived.TacticsInMore
import Derived.LoopNIn
import Derived.LoopIn
import Derived.Maps.AppendAt
import Derived.Test.YtdpmdbloopmpdaaRef06P
namespace Go.Proofs.Ytdpmdbloopmpdaa
open Go.RowKit Go.Shelf
attribute [local go_sem] Oper.semAt_some
set_option linter.unusedVariables false

/-- the part of so many places that stands c eights behind the first place -/
def chunkV (b off len c : Nat) : Value := .slice (some ⟨b, off + 8 * c, none⟩) (min 8 (len - 8 * c)) (min 8 (len - 8 * c))
/-- the two boxes lie as they lay -/
def KeepsTwo (Bs Bn : Nat) (W W' : World) : Prop := (∀ v, Boxed W Bs 22 v → Boxed W' Bs 22 v) ∧ (∀ v, Boxed W Bn 3 v → Boxed W' Bn 3 v)

set_option maxHeartbeats 1000000 in
theorem chunk_in (F : Fence) (n : Nat) (h5 : F.fn 17) (hro : F.round = none) (a : Option Addr) (len cap : Nat) (w : World) :
    CallsIn F n Try.prog 17 #[.slice a len cap, .int .i64 8] w fun e w' => e = .returned (.func (.func 21) #[] #[.pointer (some ⟨w.heap.size, 0, none⟩), .pointer (some ⟨w.heap.size + 1, 0, none⟩)]) ∧ w' = (w.alloc (.cells #[.slice a len cap] 22)).alloc (.cells #[.int .i64 8] 3) := by
  refine callsIn_of_wp Try.func17 rfl h5 ?_ hro
  simp only [Try.ntmps17, List.size_toArray, List.length_cons, List.length_nil, Nat.reduceAdd, Nat.reduceSub, Array.replicate_succ, Array.replicate_zero, List.push_toArray, List.append_toArray, List.nil_append, List.cons_append]
  gi_wp2
  go_ret
  exact ⟨by simp, rfl⟩

set_option maxRecDepth 100000 in
set_option maxHeartbeats 2000000 in
theorem chunk1_in (F : Fence) (n : Nat) (h7 : F.fn 21) (hro : F.round = none) (hn : 1 ≤ n) (l Bs Bn : Nat) (a : Option Addr) (b off len cap : Nat) (hlen : (len : Int) ≤ 1000000) (ha : len = 0 ∨ a = some ⟨b, off, none⟩) (hcap : (len : Int) ≤ cap) (hcap2 : (cap : Int) ≤ 9223372036854775807) (J Jx : List Nat → World → Prop) (hJ : ∀ s X, J s X → J s X.drew)
    (hY : ∀ pre x W, J pre W → pre.length < (len + 7) / 8 → YieldAt F (n - 1) Try.prog l #[chunkV b off len x] W fun e W' =>
      (e = .returned (.bool true) ∧ J (pre ++ [x]) W' ∧ KeepsTwo Bs Bn W W') ∨ (e = .returned (.bool false) ∧ Jx (pre ++ [x]) W'))
    (W : World) (hBs : Boxed W Bs 22 (.slice a len cap)) (hBn : Boxed W Bn 3 (.int .i64 8)) (h0 : J [] W) :
    CallsIn F n Try.prog 21 #[.func (.yield l) #[] #[], .pointer (some ⟨Bs, 0, none⟩), .pointer (some ⟨Bn, 0, none⟩)] W fun e W' => (∃ v, e = .returned v) ∧
      ((∃ ys, ys = List.range ((len + 7) / 8) ∧ J ys W') ∨ (∃ pre, (∃ k, k ≤ (len + 7) / 8 ∧ pre = List.range k) ∧ Jx pre W')) := by
  refine callsIn_of_wp Try.func21 rfl h7 ?_ hro
  simp only [Try.ntmps21, List.size_toArray, List.length_cons, List.length_nil, Nat.reduceAdd, Nat.reduceSub, Array.replicate_succ, Array.replicate_zero, List.push_toArray, List.append_toArray, List.nil_append, List.cons_append]
  gi_wp2
  gi_loopw [4] (fun i wr => ∃ c : Nat, c ≤ (len + 7) / 8 ∧ i = .int .i64 (8 * (c : Int)) ∧ J (List.range c) wr ∧ Boxed wr Bs 22 (.slice a len cap) ∧ Boxed wr Bn 3 (.int .i64 8))
    (fun i _ => len + 8 - (intOf i).toNat)
  case atStart => exact ⟨0, Nat.zero_le _, rfl, h0, hBs, hBn⟩
  case round =>
    obtain ⟨c, hk, rfl, hJs, hBs2, hBn2⟩ := hrel
    have hb1 := hBs2.cell; have hb2 := hBn2.cell
    have hcI : 8 * (c : Int) ≤ 1000007 := by omega
    by_cases hlt : 8 * c < len
    · obtain rfl : a = some ⟨b, off, none⟩ := ha.resolve_left (by omega)
      have hltI : 8 * (c : Int) < len := by omega
      obtain ⟨fn, tmps, assign, body, hy, hR⟩ := hY _ c wr.drew (hJ _ _ hJs) (by rw [List.length_range]; omega)
      unfold chunkV at hy
      have HR := Lib.hid hR
      have HJ := Lib.hid hJs
      clear hY hR hJs
      have hcne : ¬ cap = 8 * c := by omega
      have hsub : ((len - 8 * c : Nat) : Int) = (len : Int) - 8 * (c : Int) := by omega
      by_cases h8 : 8 ≤ len - 8 * c
      · rw [show min 8 (len - 8 * c) = 8 from by omega] at hy
        have h8I : 8 * (c : Int) + 8 ≤ len := by omega
        have hif : (if ((len - 8 * c : Nat) : Int) < 8 then ((len - 8 * c : Nat) : Int) else 8) = 8 := if_neg (by omega)
        have HIF := Lib.hid hif
        have HSUB := Lib.hid hsub
        clear hsub h8 hif
        gi_wp2
        gi_region
        all_goals rw [HIF.out]
        all_goals clear HIF HSUB
        all_goals gi_wp2
        all_goals
          refine HR.out.mono ?_
          rintro e W3 (⟨rfl, hJ3, hk3⟩ | ⟨rfl, hJx3⟩)
          · have hBs3 : Boxed W3 Bs 22 (.slice (some ⟨b, off, none⟩) len cap) := hk3.1 _ hBs2
            have hBn3 : Boxed W3 Bn 3 (.int .i64 8) := hk3.2 _ hBn2
            have hb3 := hBn3.cell
            clear HR HJ hy
            gi_wp2
            go_roundw
            case rel => exact ⟨c + 1, by omega, by go_num, by rw [List.range_succ]; exact hJ3, hBs3, hBn3⟩
            case measure => simp [intOf]; omega
          · clear HR HJ hy
            gi_wp2
            refine bodyPost_ret (results_none rfl _ _ _) rfl ?_
            exact ⟨⟨_, rfl⟩, .inr ⟨_, ⟨c + 1, by omega, List.range_succ.symm⟩, hJx3⟩⟩
      · rw [show min 8 (len - 8 * c) = len - 8 * c from by omega] at hy
        have h8I : (len : Int) < 8 * (c : Int) + 8 := by omega
        have hif : (if ((len - 8 * c : Nat) : Int) < 8 then ((len - 8 * c : Nat) : Int) else 8) = ((len - 8 * c : Nat) : Int) := if_pos (by omega)
        have HIF := Lib.hid hif
        have HSUB := Lib.hid hsub
        clear hsub h8 hif
        gi_wp2
        gi_region
        all_goals rw [HIF.out]
        all_goals (try rw [HSUB.out])
        all_goals clear HIF HSUB
        all_goals gi_wp2
        all_goals
          refine HR.out.mono ?_
          rintro e W3 (⟨rfl, hJ3, hk3⟩ | ⟨rfl, hJx3⟩)
          · have hBs3 : Boxed W3 Bs 22 (.slice (some ⟨b, off, none⟩) len cap) := hk3.1 _ hBs2
            have hBn3 : Boxed W3 Bn 3 (.int .i64 8) := hk3.2 _ hBn2
            have hb3 := hBn3.cell
            clear HR HJ hy
            gi_wp2
            go_roundw
            case rel => exact ⟨c + 1, by omega, by go_num, by rw [List.range_succ]; exact hJ3, hBs3, hBn3⟩
            case measure => simp [intOf]; omega
          · clear HR HJ hy
            gi_wp2
            refine bodyPost_ret (results_none rfl _ _ _) rfl ?_
            exact ⟨⟨_, rfl⟩, .inr ⟨_, ⟨c + 1, by omega, List.range_succ.symm⟩, hJx3⟩⟩
    · have hce : c = (len + 7) / 8 := by omega
      have hltI : (len : Int) ≤ 8 * (c : Int) := by omega
      have HC := Lib.hid hce
      clear hce hlt
      gi_wp2
      go_end0
      exact ⟨⟨_, rfl⟩, .inl ⟨_, by rw [HC.out], hJs⟩⟩

theorem grownBy_drew (W : World) : W.grownBy W.drew none := ⟨rfl, rfl, rfl, Nat.le_refl _, fun _ _ _ => rfl⟩
theorem boxed_below {w W : World} {B : Nat} {t : TypeId} {v : Value} (h : Boxed w B t v) (hb : Below w.heap.size w W) : Boxed W B t v :=
  (hb.block B h.lt).trans h
/-- **slices.Chunk(row, 8) hands back a value that stops.** -/
theorem chunk_stops (F : Fence) (n : Nat) (h7 : F.fn 21) (hro : F.round = none) (hn : 1 ≤ n) (Bs Bn : Nat) (a : Option Addr) (b off len cap : Nat) (hlen : (len : Int) ≤ 1000000) (ha : len = 0 ∨ a = some ⟨b, off, none⟩) (hcap : (len : Int) ≤ cap) (hcap2 : (cap : Int) ≤ 9223372036854775807)
    (w : World) (hBs : Boxed w Bs 22 (.slice a len cap)) (hBn : Boxed w Bn 3 (.int .i64 8)) :
    SeqStopsK F n Try.prog 21 #[.pointer (some ⟨Bs, 0, none⟩), .pointer (some ⟨Bn, 0, none⟩)] (fun c : Nat => #[chunkV b off len c]) (KeepsTwo Bs Bn) (fun ys => ys = List.range ((len + 7) / 8))
      (fun pre => ∃ k, k ≤ (len + 7) / 8 ∧ pre = List.range k) ((len + 7) / 8) w := fun l J Jx W hW hJ _ hY h0 =>
  chunk1_in F n h7 hro hn l Bs Bn a b off len cap hlen ha hcap hcap2 J Jx (fun s X hs => hJ s X _ none hs (grownBy_drew X) (fun r e => by cases e)) hY W (boxed_below hBs hW) (boxed_below hBn hW) h0
end Go.Proofs.Ytdpmdbloopmpdaa
