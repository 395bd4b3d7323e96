/- The walk of CallApart. -/
import Derived.Test.YtbndhegmfnfahabCallLaw
import Derived.Test.YtbndhegmfnfahabCallName
namespace Go.Proofs.Ytbndhegmfnfahab.lawCallApart
open Go.RowKit
set_option linter.unusedVariables false

theorem nameOf_mem {l : List (List UInt8 × Nat)} {a : Int} {x : ByteArray} (h : nameOf l a = some x) : ∃ i, i < l.length ∧ keyOfR (l.getD i ([], 0)) = a ∧ keyOfN (l.getD i ([], 0)) = x := by
  unfold nameOf at h
  cases hf : l.find? fun e => decide (keyOfR e = a) with
  | none => rw [hf] at h; cases h
  | some e =>
    rw [hf] at h
    injection h with h
    have h1 := List.find?_some hf
    obtain ⟨j, hj, he⟩ := List.mem_iff_getElem.1 (List.mem_of_find?_eq_some hf)
    have he' : l.getD j ([], 0) = e := by simp [List.getD, hj, he]
    exact ⟨j, hj, by rw [he']; exact of_decide_eq_true h1, by rw [he']; exact h⟩
theorem nameOf_apart (a : Int) {s t : Int} {x y : ByteArray} (hs : nameOf (tabOf a) s = some x) (ht : nameOf (tabOf a) t = some y) : (x.toList == y.toList) = (s == t) := by
  obtain ⟨i, hi, hks, hx⟩ := nameOf_mem hs
  obtain ⟨j, hj, hkt, hy⟩ := nameOf_mem ht
  by_cases h : s = t
  · subst h
    rw [hs] at ht
    injection ht with ht
    subst ht
    simp
  · have hxy : x ≠ y := by
      intro e
      have : i = j := nodup_keys _ (tab_nodup a).1 i j hi hj (by rw [hx, hy, e])
      subst this
      exact h (hks.symm.trans hkt)
    rw [ba_tne hxy]
    simp [h]

set_option maxHeartbeats 1000000 in
set_option maxRecDepth 100000 in
theorem walk (a0 a1 : ByteArray) (a2 a3 : Int) (w : World) (w0 : a0.size ≤ maxLen) (w1 : a1.size ≤ maxLen) (w2 : (Lit.int .u32 a2).wf = true) (w3 : (Lit.int .u32 a3).wf = true) :
    Calls Try.prog 10 #[.string a0, .string a1, .int .u32 a2, .int .u32 a3] w fun e w' => e = .returned (.bool true) ∧ Below w.heap.size w w' := by
  have h2 : 0 ≤ a2 ∧ a2 ≤ 4294967295 := by simpa [Lit.wf, IntKind.min, IntKind.max, IntKind.signed, IntKind.bits] using w2
  have h3 : 0 ≤ a3 ∧ a3 ≤ 4294967295 := by simpa [Lit.wf, IntKind.min, IntKind.max, IntKind.signed, IntKind.bits] using w3
  obtain ⟨h20, h21⟩ := h2
  obtain ⟨h30, h31⟩ := h3
  clear w0 w1 w2 w3
  go_enter Try.func10, Try.ntmps10
  go_wp2_with fail
  go_loopw [21] (fun c wr => ∃ i : Nat, i ≤ 2 ∧ c = .int .i64 i ∧ wr.heap[w.heap.size]? = some (.cells #[.int .u32 3221225534, .int .u32 3221225655] 30 (0, 0)) ∧ Below w.heap.size w wr) (fun c _ => 2 - (intOf c).toNat)
  case atStart => exact ⟨0, by omega, rfl, heap_alloc_new w _, (Below.refl _ _).alloc (Nat.le_refl _) _⟩
  case round =>
    obtain ⟨i, hi, rfl, hblk, hbel⟩ := hrel
    by_cases hlt : i < 2
    · obtain ⟨ar, hc, ar0, ar1⟩ : ∃ ar : Int, wr.cell? ⟨w.heap.size, i, none⟩ = some (.int .u32 ar) ∧ 0 ≤ ar ∧ ar ≤ 4294967295 := by
        rw [cell_of_row _ _ i _ _ _ hblk]
        have : i = 0 ∨ i = 1 := by omega
        rcases this with rfl | rfl
        · exact ⟨3221225534, rfl, by omega, by omega⟩
        · exact ⟨3221225655, rfl, by omega, by omega⟩
      have HB := Lib.hid hblk
      have hb0 := Below.refl wr.heap.size wr
      clear hblk
      go_wp2_with fail
      refine (keep hb0 (callNr_any ar a0 _ ar0 ar1)).mono ?_
      rintro e w1 ⟨rfl, hb1⟩
      go_wp2_with fail
      refine (keep hb1 (callNr_any ar a1 _ ar0 ar1)).mono ?_
      rintro e w2 ⟨rfl, hb2⟩
      clear hb0 hb1
      have hap := fun x y => nrOf_apart ar (s := a0) (t := a1) (x := x) (y := y)
      have HAP := Lib.hid hap
      clear hap
      generalize nrOf (tabOf ar) a0 = p at *
      generalize nrOf (tabOf ar) a1 = q at *
      go_upto_region 6 with fail
      go_cut [49] (fun b wx => b = .bool false ∧ w2 = wx)
      case first =>
        cases p with
        | none =>
          go_wp2_with fail
          go_meet
          exact ⟨rfl, rfl⟩
        | some x =>
          cases q with
          | none =>
            go_wp2_with fail
            go_meet
            exact ⟨rfl, rfl⟩
          | some y =>
            have hxy := HAP.out x y rfl rfl
            simp only [Option.getD_some]
            go_wp2_with fail
            go_meet
            exact ⟨by simp, rfl⟩
      case rest =>
      obtain ⟨rfl, rfl⟩ := hcut
      clear HAP
      go_wp2_with fail
      refine (keep hb2 (callName_any ar a2 _ ar0 ar1 h20 h21)).mono ?_
      rintro e w3 ⟨rfl, hb3⟩
      go_wp2_with fail
      refine (keep hb3 (callName_any ar a3 _ ar0 ar1 h30 h31)).mono ?_
      rintro e w4 ⟨rfl, hb4⟩
      clear hb2 hb3
      have hap := fun x y => nameOf_apart ar (s := a2) (t := a3) (x := x) (y := y)
      have HAP := Lib.hid hap
      clear hap
      generalize nameOf (tabOf ar) a2 = p' at *
      generalize nameOf (tabOf ar) a3 = q' at *
      go_upto_region 10 with fail
      go_cut [74] (fun b wx => b = .bool false ∧ w4 = wx)
      case first =>
        cases p' with
        | none =>
          go_wp2_with fail
          go_meet
          exact ⟨rfl, rfl⟩
        | some x =>
          cases q' with
          | none =>
            go_wp2_with fail
            go_meet
            exact ⟨rfl, rfl⟩
          | some y =>
            have hxy := HAP.out x y rfl rfl
            simp only [Option.getD_some]
            go_wp2_with fail
            go_meet
            exact ⟨by simp, rfl⟩
      case rest =>
      obtain ⟨rfl, rfl⟩ := hcut
      clear HAP
      go_wp2_with fail
      go_roundw
      case rel => exact ⟨i + 1, by omega, by go_num, by rw [hb4.block _ (lt_of_block HB.out)]; exact HB.out, hbel.trans (hb4.mono hbel.size)⟩
      case measure => simp [intOf]; omega
    · obtain rfl : i = 2 := by omega
      go_wp2_with fail
      refine (keep hbel (callAlive _)).mono ?_
      rintro e w1 ⟨rfl, hb1⟩
      go_wp2_with fail
      go_ret
      exact ⟨rfl, hb1⟩
end Go.Proofs.Ytbndhegmfnfahab.lawCallApart
