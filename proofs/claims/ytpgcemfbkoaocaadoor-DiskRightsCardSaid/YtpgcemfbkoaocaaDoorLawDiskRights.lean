/- The walk of DiskRights. -/
import Derived.Test.YtpgcemfbkoaocaaDoorDiskN
import Derived.Test.YtpgcemfbkoaocaaDoorRef03R
import Derived.Outline
import Derived.Deep.RegionWith
namespace Go.Proofs.YtpgcemfbkoaocaaDoor.lawDiskRights
open Go.RowKit
set_option linter.unusedVariables false

set_option maxRecDepth 100000 in
set_option maxHeartbeats 1000000 in
theorem walk (n : Int) (v1 : Value) (d : Dsk) (w : World) (w0 : (Lit.int .i64 n).wf = true) (w1 : IsDisk w v1 d) :
    Calls Tryd.prog 3 #[.int .i64 n, v1] w fun e w' => e = .returned (.bool true) ∧ Below w.heap.size w w' := by
  have hwf := wf_i64 w0
  obtain ⟨sv, pv, rfl, hs, hp⟩ := w1
  obtain ⟨a, len, cap, rfl, hl, hc1, hc2, hts⟩ := hs.take
  obtain ⟨a', len', cap', rfl, hl', hc1', hc2', htp⟩ := hp.take
  have hD : IsDisk w (.agg #[.slice a (min len 300) cap, .slice a' (min len' 40) cap']) ⟨d.secs.take (min len 300), d.pend.take (min len' 40)⟩ := ⟨_, _, rfl, hts _ (Nat.min_le_left _ _), htp _ (Nat.min_le_left _ _)⟩
  have HFEW := Lib.hid (fun u => diskFew_any a a' len cap len' cap' u hc1 hc2 hc1' hc2')
  generalize (⟨d.secs.take (min len 300), d.pend.take (min len' 40)⟩ : Dsk) = D at *
  generalize min len 300 = m at *
  generalize min len' 40 = k at *
  have HD := Lib.hid hD
  clear hs hp hts htp hD w0 hl hl' hc1 hc2 hc1' hc2'
  have HR := Lib.hid (fun u hu => diskRight_any (.agg #[.slice a m cap, .slice a' k cap']) D u hu)
  have HR' := Lib.hid (fun u hu => refDiskRight_any (.agg #[.slice a m cap, .slice a' k cap']) D u hu)
  generalize rightD D = RD at *
  have hb1 := (Below.refl w.heap.size w).alloc (Nat.le_refl _) (.cells #[.slice a len cap, .slice a' len' cap'] 25)
  have hblk := heap_alloc_new w (.cells #[.slice a len cap, .slice a' len' cap'] 25)
  go_enter Tryd.func3, Tryd.ntmps3
  go_wp2_with fail
  refine (HFEW.out _).mono ?_
  rintro e w2 ⟨rfl, hb2⟩
  have hblk2 : w2.heap[w.heap.size]? = some (.cells #[.slice a len cap, .slice a' len' cap'] 25 (0, 0)) := (hb2.block _ (by simp)).trans hblk
  have hw2 : Below w.heap.size w w2 := hb1.trans (hb2.mono hb1.size)
  have hz0 : w2.cell? ⟨w.heap.size, 0, none⟩ = some (.slice a len cap) := by rw [cell_of_row _ _ 0 _ _ _ hblk2]; rfl
  have hz1 : w2.cell? ⟨w.heap.size, 1, none⟩ = some (.slice a' len' cap') := by rw [cell_of_row _ _ 1 _ _ _ hblk2]; rfl
  have hf0 := block_frozen hblk2 0
  have hf1 := block_frozen hblk2 1
  clear hb1 hb2 hblk
  go_wp2_with fail
  have hblk3 := block_set (block_set hblk2 0 (.slice a m cap)) 1 (.slice a' k cap')
  have hw3 : Below w.heap.size w ((w2.setCell ⟨w.heap.size, 0, none⟩ (.slice a m cap)).setCell ⟨w.heap.size, 1, none⟩ (.slice a' k cap')) :=
    (hw2.setCell (p := ⟨w.heap.size, 0, none⟩) (Nat.le_refl _) _).setCell (p := ⟨w.heap.size, 1, none⟩) (Nat.le_refl _) _
  rw [show (((#[Value.slice a len cap, Value.slice a' len' cap'] : Array Value).setIfInBounds 0 (.slice a m cap)).setIfInBounds 1 (.slice a' k cap')) = #[.slice a m cap, .slice a' k cap'] from rfl] at hblk3
  clear hblk2 hw2 hz0 hz1 hf0 hf1
  generalize (w2.setCell ⟨w.heap.size, 0, none⟩ (.slice a m cap)).setCell ⟨w.heap.size, 1, none⟩ (.slice a' k cap') = w3 at *
  by_cases hn : 1 ≤ n ∧ n ≤ 256
  · obtain ⟨N, rfl⟩ := Int.eq_ofNat_of_zero_le (show 0 ≤ n by omega)
    refine (diskNew_ok N _ (by omega) (by omega)).mono ?_
    rintro e w4 ⟨v, he, hd, hb4⟩
    obtain ⟨b, c, b', c', rfl, _⟩ := hd.form
    rw [show (newD N).secs.length = N from by simp [newD], show (newD N).pend.length = 0 from rfl] at he hd
    subst he
    have hRN := new_right N (by omega) (by omega)
    have hblk4 : w4.heap[w.heap.size]? = some (.cells #[.slice a m cap, .slice a' k cap'] 25 (0, 0)) := (hb4.block _ (Array.getElem?_eq_some_iff.1 hblk3).1).trans hblk3
    have hw4 := hw3.trans (hb4.mono hw3.size)
    have hlt4 := (Array.getElem?_eq_some_iff.1 hblk4).1
    have hblk5 : (w4.alloc (.cells #[.slice b N c, .slice b' 0 c'] 25)).heap[w.heap.size]? = _ := (heap_alloc_old w4 _ hlt4).trans hblk4
    have hxb := heap_alloc_new w4 (.cells #[.slice b N c, .slice b' 0 c'] 25)
    have hw5 : Below w.heap.size w (w4.alloc (.cells #[.slice b N c, .slice b' 0 c'] 25)) := hw4.alloc hw4.size _
    have hd5 : IsDisk (w4.alloc (.cells #[.slice b N c, .slice b' 0 c'] 25)) (.agg #[.slice b N c, .slice b' 0 c']) (newD N) := hd.below ((Below.refl _ _).alloc (Nat.le_refl _) _)
    have hn1 : (1 : Int) ≤ N := by omega
    have hn2 : (N : Int) ≤ 256 := by omega
    have hcells : N = 0 ∨ ∃ g off, b = some ⟨g, off, none⟩ ∧ ∀ i, i < N → (w4.alloc (.cells #[.slice b N c, .slice b' 0 c'] 25)).cell? ⟨g, off + i, none⟩ = some (.string ⟨#[]⟩) := by
      obtain ⟨sv, pv, hv, ⟨x, len, cp, e1, e2, _, _, _, hat⟩, _⟩ := hd5
      injection hv with hv
      have h1 : Value.slice b N c = sv := by have := congrArg (fun z : Array Value => z[0]?) hv; simpa using this
      rw [← h1] at e1
      injection e1 with e3 e4 e5
      subst e3 e4
      rcases hat with h | ⟨g, off, rfl, _, hat⟩
      · exact .inl h
      · refine .inr ⟨g, off, rfl, fun i hi => ?_⟩
        rw [hat i hi]
        simp [newD, List.getD, hi]
    have HC := Lib.hid hcells; have HD5 := Lib.hid hd5
    clear hblk3 hw3 hb4 hd hd5 hcells hblk4 hw4 hlt4 hn
    go_wp2_with fail
    generalize w4.alloc (.cells #[.slice b N c, .slice b' 0 c'] 25) = w5 at *
    go_loop [58] (fun z => ∃ i : Nat, i ≤ N ∧ z = .int .i64 i) (fun z => N - (intOf z).toNat)
    case atStart => exact ⟨0, by omega, rfl⟩
    case round =>
      obtain ⟨i, hi, rfl⟩ := hrel
      by_cases hlt : i < N
      · have hiI : (i : Int) < N := by omega
        obtain ⟨g, off, rfl, hat⟩ := HC.out.resolve_left (by omega)
        have hc := hat i hlt
        clear hat
        go_wp2_with fail
        go_round
        case rel => exact ⟨i + 1, by omega, by go_num⟩
        case measure => simp [intOf]; omega
      · obtain rfl : i = N := by omega
        clear HC hlt hi
        have q0 := keep_at hblk5 0 rfl
        have q1 := keep_at hblk5 1 rfl
        have q2 := keep_at hxb 0 rfl
        have q3 := keep_at hxb 1 rfl
        have hRx := Lib.hid (fun x : KeepT w5 => keepCall (HR.out x.val (HD.out.below (hw5.trans (x.below.mono hw5.size)))))
        have hRy := Lib.hid (fun x : KeepT w5 => keepCall (HR'.out x.val (HD.out.below (hw5.trans (x.below.mono hw5.size)))))
        have hRz := Lib.hid (fun x : KeepT w5 => by
          have h := diskRight_any (.agg #[.slice b i c, .slice b' 0 c']) (newD i) x.val (HD5.out.below x.below)
          rw [hRN] at h
          exact keepCall h)
        clear hRN
        go_upto_region 13 with fail
        refine wp_region_keep (w0 := w5) (by kernel_rfl) (by kernel_rfl) (Below.refl _ _) ?_
        repeat (go_big_quiet_step ((first | (go_at_call 13; exact keepCall (diskAlive _)) | (go_at_call_of 14 (Value.agg #[Value.slice a m cap, Value.slice a' k cap']); exact hRx.out _) | (go_at_call_of 14 (Value.agg #[Value.slice b (i : Nat) c, Value.slice b' 0 c']); exact hRz.out _) | (go_at_call 15; exact hRy.out _))))
        refine wpQuiet_nil ?_
        intro _ hw'
        obtain ⟨x, rfl⟩ := hw'
        have hz := x.below
        generalize x.val = wz at *
        go_wp2_with fail
        go_ret
        exact ⟨by simp, hw5.trans (hz.mono hw5.size)⟩
  · refine (diskNew_bad n _ hn).mono ?_
    rintro e w4 ⟨v, he, hd, hb4⟩
    obtain ⟨b, c, b', c', rfl, _⟩ := hd.form
    rw [show noD.secs.length = 0 from rfl, show noD.pend.length = 0 from rfl] at he
    subst he
    have hblk4 : w4.heap[w.heap.size]? = some (.cells #[.slice a m cap, .slice a' k cap'] 25 (0, 0)) := (hb4.block _ (Array.getElem?_eq_some_iff.1 hblk3).1).trans hblk3
    have hw4 := hw3.trans (hb4.mono hw3.size)
    have hlt4 := (Array.getElem?_eq_some_iff.1 hblk4).1
    have hblk5 : (w4.alloc (.cells #[.slice b 0 c, .slice b' 0 c'] 25)).heap[w.heap.size]? = _ := (heap_alloc_old w4 _ hlt4).trans hblk4
    have hxb := heap_alloc_new w4 (.cells #[.slice b 0 c, .slice b' 0 c'] 25)
    have hw5 : Below w.heap.size w (w4.alloc (.cells #[.slice b 0 c, .slice b' 0 c'] 25)) := hw4.alloc hw4.size _
    have hnc : n < 1 ∨ 256 < n := by omega
    clear hblk3 hw3 hb4 hd hblk4 hw4 hlt4 hn
    have hcont : True := trivial
    rcases hnc with hnc | hnc
    all_goals
      go_wp2_with fail
      generalize w4.alloc (.cells #[.slice b 0 c, .slice b' 0 c'] 25) = w5 at *
      have q0 := keep_at hblk5 0 rfl
      have q1 := keep_at hblk5 1 rfl
      have q2 := keep_at hxb 0 rfl
      have hRx := Lib.hid (fun x : KeepT w5 => keepCall (HR.out x.val (HD.out.below (hw5.trans (x.below.mono hw5.size)))))
      have hRy := Lib.hid (fun x : KeepT w5 => keepCall (HR'.out x.val (HD.out.below (hw5.trans (x.below.mono hw5.size)))))
      refine wp_region_keep (w0 := w5) (by kernel_rfl) (by kernel_rfl) (Below.refl _ _) ?_
      repeat (go_big_quiet_step ((first | (go_at_call 13; exact keepCall (diskAlive _)) | (go_at_call 14; exact hRx.out _) | (go_at_call 15; exact hRy.out _))))
      refine wpQuiet_nil ?_
      intro _ hw'
      obtain ⟨x, rfl⟩ := hw'
      have hz := x.below
      generalize x.val = wz at *
      go_wp2_with fail
      go_ret
      exact ⟨by simp, hw5.trans (hz.mono hw5.size)⟩
end Go.Proofs.YtpgcemfbkoaocaaDoor.lawDiskRights
