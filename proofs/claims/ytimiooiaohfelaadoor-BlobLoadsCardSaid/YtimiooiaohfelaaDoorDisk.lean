/- Disks: what is asked of them. -/
import Derived.Test.YtimiooiaohfelaaDoorTrim
import Derived.Test.YtimiooiaohfelaaDoorStrs
import Derived.Test.YtimiooiaohfelaaDoorRowOpen
import Derived.Test.YtimiooiaohfelaaDoorWrt
import Derived.ChangeSame
namespace Go.Proofs.YtimiooiaohfelaaDoor
open Go.ChangeShapes Go.WideShapes Go.ChangeAt Go.RowKit Go.Joins Go.Deep
set_option linter.unusedVariables false

theorem IsStrs.below {w w' : World} {v : Value} {l : List ByteArray} (h : IsStrs w v l) (hb : Below w.heap.size w w') : IsStrs w' v l := by
  obtain ⟨a, len, cap, rfl, hlen, hc1, hc2, hbd, hat⟩ := h
  refine ⟨a, len, cap, rfl, hlen, hc1, hc2, hbd, hat.imp id ?_⟩
  rintro ⟨b, off, rfl, hlt, hat⟩
  exact ⟨b, off, rfl, Nat.lt_of_lt_of_le hlt hb.size, fun i hi => (hb.cell (p := ⟨b, off + i, none⟩) hlt).trans (hat i hi)⟩
theorem IsStrs.take {w : World} {v : Value} {l : List ByteArray} (h : IsStrs w v l) : ∃ a len cap, v = .slice a len cap ∧ l.length = len ∧ len ≤ cap ∧ cap ≤ 9223372036854775807 ∧
    ∀ m, m ≤ len → IsStrs w (.slice a m cap) (l.take m) := by
  obtain ⟨a, len, cap, rfl, hlen, hc1, hc2, hbd, hat⟩ := h
  refine ⟨a, len, cap, rfl, hlen, hc1, hc2, fun m hm => ⟨a, m, cap, rfl, by rw [List.length_take]; omega, by omega, hc2, fun i hi => hbd i (List.mem_of_mem_take hi), ?_⟩⟩
  rcases hat with h0 | ⟨b, off, rfl, hb, hat⟩
  · exact .inl (by omega)
  · refine .inr ⟨b, off, rfl, hb, fun i hi => ?_⟩
    have := hat i (by omega)
    rwa [show (l.take m).getD i ByteArray.empty = l.getD i ByteArray.empty from by simp [List.getD, hi]]
/-- a disk -/
structure Dsk where
  secs : List ByteArray
  pend : List Wrt
  deriving DecidableEq
def IsDisk (w : World) (v : Value) (d : Dsk) : Prop := ∃ sv pv, v = .agg #[sv, pv] ∧ IsStrs w sv d.secs ∧ IsWrts w pv d.pend
theorem IsDisk.below {w w' : World} {v : Value} {d : Dsk} (h : IsDisk w v d) (hb : Below w.heap.size w w') : IsDisk w' v d := by
  obtain ⟨sv, pv, rfl, h1, h2⟩ := h
  exact ⟨sv, pv, rfl, h1.below hb, h2.below hb⟩
theorem IsDisk.form {w : World} {v : Value} {d : Dsk} (h : IsDisk w v d) : ∃ a cap a' cap', v = .agg #[.slice a d.secs.length cap, .slice a' d.pend.length cap'] ∧ d.secs.length ≤ cap ∧ cap ≤ 9223372036854775807 ∧ d.pend.length ≤ cap' ∧ cap' ≤ 9223372036854775807 := by
  obtain ⟨sv, pv, rfl, ⟨a, len, cap, rfl, rfl, h1, h2, _⟩, ⟨a', len', cap', rfl, rfl, h3, h4, _⟩⟩ := h
  exact ⟨a, cap, a', cap', rfl, h1, h2, h3, h4⟩
set_option maxRecDepth 4000 in
theorem openDisk {H : Type} {enc : TypeId × Value → H} {W : World} {base : Nat} {v : Value} {d : DataW H} {p : List MemPlace}
    (hok : Value.okWide Tryd.prog W .any base 25 v) (h : DataW.Trod enc Tryd.prog W 0 (fun _ => true) true 25 v d p) : ∃ x, IsDisk W v x := by
  obtain ⟨cs, rfl, hsz⟩ := okWide_struct Tryd.underlying25 hok
  have hC : Tryd.prog.cellsOf 25 = 2 := by kernel_rfl
  have h1 : Tryd.prog.cellsOf 22 = 1 := by kernel_rfl
  have h2 : Tryd.prog.cellsOf 23 = 1 := by kernel_rfl
  obtain ⟨c0, c1, hl⟩ : ∃ c0 c1, cs.toList = [c0, c1] := by
    have : cs.toList.length = 2 := by rw [Array.length_toList, hsz, hC]
    match cs.toList, this with
    | [a, b], _ => exact ⟨a, b, rfl⟩
  obtain rfl : cs = #[c0, c1] := Array.toList_inj.1 hl
  clear hl hsz hok
  obtain ⟨fuel, hf⟩ := h
  obtain ⟨y0, y1, n, _, _, k0, k1⟩ := trod_struct2 Tryd.underlying25 hf
  simp [Value.cells, h1, h2] at k0 k1
  obtain ⟨hv0, d0, p0, t0⟩ := slice_of_trod Tryd.underlying22 k0
  obtain ⟨hv1, d1, p1, t1⟩ := slice_of_trod Tryd.underlying23 k1
  obtain ⟨l0, i0⟩ := openStrsS hv0 t0
  obtain ⟨l1, i1⟩ := openWrts hv1 t1
  exact ⟨⟨l0, l1⟩, _, _, rfl, i0, i1⟩

/-- what may be a sector's bytes; which disks may be -/
def fitsB (s : ByteArray) : Bool := decide (s.size ≤ 512 ∧ trimS s = s)
def Wrt.fits (n : Nat) (x : Wrt) : Bool := decide (0 ≤ x.sector ∧ x.sector < n) && fitsB x.bytes
def rightD (d : Dsk) : Bool := decide (1 ≤ d.secs.length ∧ d.secs.length ≤ 256) && d.secs.all fitsB && d.pend.all (Wrt.fits d.secs.length)
set_option maxRecDepth 100000 in
theorem diskFits_any (s : ByteArray) (w : World) (hs : s.size ≤ 9223372036854775807) :
    Calls Tryd.prog 39 #[.string s] w fun e w' => e = .returned (.bool (fitsB s)) ∧ w = w' := by
  have hsI : (s.size : Int) ≤ 9223372036854775807 := by omega
  have H := Lib.hid (fun u => leTrim_any s u hs)
  by_cases h5 : s.size ≤ 512
  · have h5I : (s.size : Int) ≤ 512 := by omega
    by_cases ht : trimS s = s
    · have hF : fitsB s = true := decide_eq_true ⟨h5, ht⟩
      rw [hF]
      rw [ht] at H
      clear hF ht h5
      go_enter Tryd.func39, Tryd.ntmps39
      go_wp2_with (first | (go_at_call 20; refine (H.out _).mono ?_; rintro e w' ⟨rfl, rfl⟩))
      go_ret
      exact ⟨rfl, rfl⟩
    · have hF : fitsB s = false := decide_eq_false (fun h => ht h.2)
      have hne := ba_tne ht
      rw [hF]
      generalize trimS s = T at *
      clear hF ht h5
      go_enter Tryd.func39, Tryd.ntmps39
      go_wp2_with (first | (go_at_call 20; refine (H.out _).mono ?_; rintro e w' ⟨rfl, rfl⟩))
      go_ret
      exact ⟨rfl, rfl⟩
  · have hF : fitsB s = false := decide_eq_false (fun h => h5 h.1)
    have h5I : (512 : Int) < s.size := by omega
    rw [hF]
    clear hF h5
    go_enter Tryd.func39, Tryd.ntmps39
    go_wp2_with fail
    go_ret
    exact ⟨rfl, rfl⟩
set_option maxRecDepth 100000 in
theorem refStands_any (s : ByteArray) (w : World) (hs : s.size ≤ 9223372036854775807) :
    Calls Tryd.prog 30 #[.string s] w fun e w' => e = .returned (.bool (fitsB s)) ∧ w = w' := by
  have hsI : (s.size : Int) ≤ 9223372036854775807 := by omega
  have H := Lib.hid (fun u => refTrim_any s u hs)
  by_cases h5 : s.size ≤ 512
  · have h5I : (s.size : Int) ≤ 512 := by omega
    by_cases ht : trimS s = s
    · have hF : fitsB s = true := decide_eq_true ⟨h5, ht⟩
      rw [hF]
      rw [ht] at H
      clear hF ht h5
      go_enter Tryd.func30, Tryd.ntmps30
      go_wp2_with (first | (go_at_call 48; refine (H.out _).mono ?_; rintro e w' ⟨rfl, rfl⟩))
      go_ret
      exact ⟨rfl, rfl⟩
    · have hF : fitsB s = false := decide_eq_false (fun h => ht h.2)
      have hne := ba_tne ht
      rw [hF]
      generalize trimS s = T at *
      clear hF ht h5
      go_enter Tryd.func30, Tryd.ntmps30
      go_wp2_with (first | (go_at_call 48; refine (H.out _).mono ?_; rintro e w' ⟨rfl, rfl⟩))
      go_ret
      exact ⟨rfl, rfl⟩
  · have hF : fitsB s = false := decide_eq_false (fun h => h5 h.1)
    have h5I : (512 : Int) < s.size := by omega
    rw [hF]
    clear hF h5
    go_enter Tryd.func30, Tryd.ntmps30
    go_wp2_with fail
    go_ret
    exact ⟨rfl, rfl⟩
end Go.Proofs.YtimiooiaohfelaaDoor
