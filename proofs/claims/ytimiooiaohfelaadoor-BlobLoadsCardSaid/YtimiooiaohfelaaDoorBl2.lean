/- blob.parts: the iterator's contract. -/
import Derived.RangeFuncNested
import Derived.RangeFuncBound
import Derived.RangeFuncBox
import Derived.RangeFuncCalls
import Derived.RangeFuncLeaves
import Derived.Shelf.Abstract
import Derived.Shelf.RegionOpen
import Derived.OwnWalkIn
import Derived.TacticsInMore
import Derived.LoopNIn
import Derived.LoopIn
import Derived.Maps.AppendAt
import Derived.Test.YtimiooiaohfelaaDoorBl1
namespace Go.Proofs.YtimiooiaohfelaaDoor
open Go.RowKit Go.Shelf
attribute [local go_sem] Oper.semAt_some
set_option linter.unusedVariables false

/-- a part's number, within bounds -/
def cl (N c : Nat) : Nat := min c (N - 1)
theorem cl_of {N c : Nat} (h : c < N) : cl N c = c := by unfold cl; omega
theorem cl_lt {N c : Nat} (h : 1 ≤ N) : cl N c < N := by unfold cl; omega
/-- the box lies as it lay -/
def KeepsOne (Bs : Nat) (W W' : World) : Prop := ∀ v, Boxed W Bs 9 v → Boxed W' Bs 9 v

set_option maxHeartbeats 400000 in
theorem parts_in (n : Nat) (d : ByteArray) (w : World) :
    CallsIn Fence.wide n Tryd.prog 38 #[.string d] w fun e w' => e = .returned (.func (.func 53) #[] #[.pointer (some ⟨w.heap.size, 0, none⟩)]) ∧ w' = w.alloc (.cells #[.string d] 9) := by
  refine callsIn_of_wp Tryd.func38 rfl trivial ?_ rfl
  simp only [Tryd.ntmps38, List.size_toArray, List.length_cons, List.length_nil, Nat.reduceAdd, Nat.reduceSub, Array.replicate_succ, Array.replicate_zero, List.push_toArray, List.append_toArray, List.nil_append, List.cons_append]
  gi_wp2
  go_ret
  exact ⟨by simp, rfl⟩

set_option maxRecDepth 100000 in
set_option maxHeartbeats 1000000 in
theorem parts1_in (n : Nat) (hn : 2 ≤ n) (l Bs : Nat) (d : ByteArray) (hd : d.size ≤ 30000) (J Jx : List Nat → World → Prop) (hJ : ∀ s X, J s X → J s X.drew)
    (hY : ∀ pre x W, J pre W → pre.length < needN d.size → YieldAt Fence.wide (n - 1) Tryd.prog l #[.int .i64 (cl (needN d.size) x : Nat), .string (partS d (cl (needN d.size) x))] W fun e W' =>
      (e = .returned (.bool true) ∧ J (pre ++ [x]) W' ∧ KeepsOne Bs W W') ∨ (e = .returned (.bool false) ∧ Jx (pre ++ [x]) W'))
    (W : World) (hBs : Boxed W Bs 9 (.string d)) (h0 : J [] W) :
    CallsIn Fence.wide n Tryd.prog 53 #[.func (.yield l) #[] #[], .pointer (some ⟨Bs, 0, none⟩)] W fun e W' => (∃ v, e = .returned v) ∧
      ((∃ ys, ys = List.range (needN d.size) ∧ J ys W') ∨ (∃ pre, (∃ k, k ≤ needN d.size ∧ pre = List.range k) ∧ Jx pre W')) := by
  have hdI : (d.size : Int) ≤ 30000 := by omega
  have HN := Lib.hid (fun u => blobNeed_any d.size u (by omega))
  rw [needZ_nat] at HN
  have hc0 := hBs.cell
  have hnd : needN d.size = (d.size - 1) / 500 + 1 := rfl
  refine callsIn_of_wp Tryd.func53 rfl trivial ?_ rfl
  simp only [Tryd.ntmps53, List.size_toArray, List.length_cons, List.length_nil, Nat.reduceAdd, Nat.reduceSub, Array.replicate_succ, Array.replicate_zero, List.push_toArray, List.append_toArray, List.nil_append, List.cons_append]
  gi_wp2_with fail
  refine ⟨trivial, fun _ => by omega, (callsIn_wide.2 (HN.out _)).mono ?_⟩
  rintro e w' ⟨rfl, rfl⟩
  generalize hne : needN d.size = N at *
  have HND := Lib.hid hnd; have HNE := Lib.hid hne
  clear hnd hne
  gi_wp2_with fail
  gi_loopw [8] (fun i wr => ∃ c : Nat, c ≤ N ∧ i = .int .i64 (c : Int) ∧ J (List.range c) wr ∧ Boxed wr Bs 9 (.string d))
    (fun i _ => N - (intOf i).toNat)
  case atStart => exact ⟨0, Nat.zero_le _, rfl, h0, hBs⟩
  case round =>
    obtain ⟨c, hk, rfl, hJs, hBs2⟩ := hrel
    have hb1 := hBs2.cell
    have hcI : (c : Int) ≤ 61 := by have := HND.out; omega
    by_cases hlt : c < N
    · have hltI : (c : Int) < N := by omega
      obtain ⟨fn, tmps, assign, body, hy, hR⟩ := hY _ c wr hJs (by rw [List.length_range]; omega)
      obtain ⟨m, hm⟩ : ∃ m, m = min (c * 500 + 500) d.size := ⟨_, rfl⟩
      have hnd := HND.out
      have hp : partS d c = d.extract (c * 500) m := by rw [hm]; rfl
      rw [cl_of hlt, hp] at hy
      have hle : c * 500 ≤ d.size := by omega
      have hi1 : (if (d.size : Int) < (c : Int) * 500 + 500 then (d.size : Int) else (c : Int) * 500 + 500) = (m : Int) := by split <;> omega
      have hi2 : min ((c : Int) * 500 + 500) (d.size : Int) = (m : Int) := by omega
      have hm1 : (m : Int) ≤ d.size := by omega
      have hm2 : (c : Int) * 500 ≤ m := by omega
      have HR := Lib.hid hR
      have HJ := Lib.hid hJs
      clear hY hR hJs hm hp hnd hc0 HN
      gi_wp2_with fail
      refine ⟨fun _ => by omega, HR.out.mono ?_⟩
      rintro e W3 (⟨rfl, hJ3, hk3⟩ | ⟨rfl, hJx3⟩)
      · have hBs3 : Boxed W3 Bs 9 (.string d) := hk3 _ hBs2
        clear HR HJ hy
        gi_wp2
        go_roundw
        case rel => exact ⟨c + 1, by omega, by go_num, by rw [List.range_succ]; exact hJ3, hBs3⟩
        case measure => simp [intOf]; omega
      · clear HR HJ hy
        gi_wp2
        refine bodyPost_ret (results_none rfl _ _ _) rfl ?_
        exact ⟨⟨_, rfl⟩, .inr ⟨_, ⟨c + 1, by rw [HNE.out]; omega, List.range_succ.symm⟩, hJx3⟩⟩
    · obtain rfl : c = N := by omega
      clear HND HN hY
      gi_wp2
      go_end0
      exact ⟨⟨_, rfl⟩, .inl ⟨_, by rw [HNE.out], hJs⟩⟩
theorem boxed_below1 {w W : World} {B : Nat} {t : TypeId} {v : Value} (h : Boxed w B t v) (hb : Below w.heap.size w W) : Boxed W B t v :=
  (hb.block B h.lt).trans h
theorem grownBy_drew1 (W : World) : W.grownBy W.drew none := ⟨rfl, rfl, rfl, Nat.le_refl _, fun _ _ _ => rfl⟩
/-- **parts hands back a value that stops.** -/
theorem parts_stops (n : Nat) (hn : 2 ≤ n) (Bs : Nat) (d : ByteArray) (hd : d.size ≤ 30000)
    (w : World) (hBs : Boxed w Bs 9 (.string d)) :
    SeqStopsK Fence.wide n Tryd.prog 53 #[.pointer (some ⟨Bs, 0, none⟩)] (fun c : Nat => #[.int .i64 (cl (needN d.size) c : Nat), .string (partS d (cl (needN d.size) c))]) (KeepsOne Bs) (fun ys => ys = List.range (needN d.size))
      (fun pre => ∃ k, k ≤ needN d.size ∧ pre = List.range k) (needN d.size) w := fun l J Jx W hW hJ _ hY h0 =>
  parts1_in n hn l Bs d hd J Jx (fun s X hs => hJ s X _ none hs (grownBy_drew1 X) (fun r e => by cases e)) hY W (boxed_below1 hBs hW) h0
end Go.Proofs.YtimiooiaohfelaaDoor
