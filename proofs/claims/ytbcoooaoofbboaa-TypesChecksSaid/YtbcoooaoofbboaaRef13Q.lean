/- The reference's tables of calls, where call.Name is not in the dump (never with Ref13N). -/
import Derived.Test.YtbcoooaoofbboaaCallArch
import Derived.Test.YtbcoooaoofbboaaCallNr
namespace Go.Proofs.Ytbcoooaoofbboaa
open Go.RowKit
set_option linter.unusedVariables false

def refNs : List (List UInt8) := [[114, 101, 97, 100], [119, 114, 105, 116, 101], [111, 112, 101, 110], [99, 108, 111, 115, 101], [115, 116, 97, 116], [102, 115, 116, 97, 116], [108, 115, 101, 101, 107], [109, 109, 97, 112], [109, 112, 114, 111, 116, 101, 99, 116], [109, 117, 110, 109, 97, 112], [98, 114, 107], [105, 111, 99, 116, 108], [97, 99, 99, 101, 115, 115], [112, 105, 112, 101], [100, 117, 112], [103, 101, 116, 112, 105, 100], [115, 111, 99, 107, 101, 116], [99, 111, 110, 110, 101, 99, 116], [97, 99, 99, 101, 112, 116], [98, 105, 110, 100], [108, 105, 115, 116, 101, 110], [99, 108, 111, 110, 101], [102, 111, 114, 107], [101, 120, 101, 99, 118, 101], [101, 120, 105, 116], [107, 105, 108, 108], [117, 110, 97, 109, 101], [102, 99, 110, 116, 108], [112, 116, 114, 97, 99, 101], [103, 101, 116, 117, 105, 100], [109, 111, 117, 110, 116], [102, 117, 116, 101, 120], [101, 120, 105, 116, 95, 103, 114, 111, 117, 112], [111, 112, 101, 110, 97, 116], [115, 101, 99, 99, 111, 109, 112]]
def refX : List Int := [0, 1, 2, 3, 4, 5, 8, 9, 10, 11, 12, 16, 21, 22, 32, 39, 41, 42, 43, 49, 50, 56, 57, 59, 60, 62, 63, 72, 101, 102, 165, 202, 231, 257, 317]
def refR : List Int := [63, 64, -1, 57, -1, 80, 62, 222, 226, 215, 214, 29, -1, -1, 23, 172, 198, 203, 202, 200, 201, 220, -1, 221, 93, 129, 160, 25, 117, 174, 40, 98, 94, 56, 277]
def nsV (l : List (List UInt8)) : List Value := l.map fun n => .string ⟨n.toArray⟩
def nrV (l : List Int) : List Value := l.map fun n => .int .i64 n
set_option maxHeartbeats 4000000 in
set_option maxRecDepth 100000 in
theorem refNames_any (w : World) : Calls Try.prog 43 #[] w fun e w' => e = .returned (.slice (some ⟨w.heap.size, 0, none⟩) 35 35) ∧ w' = w.alloc (.cells (nsV refNs).toArray 9) := by
  go_enter Try.func43, Try.ntmps43
  go_big_wp2_with fail
  go_ret
  exact ⟨rfl, rfl⟩
set_option maxHeartbeats 4000000 in
set_option maxRecDepth 100000 in
theorem refX_any (w : World) : Calls Try.prog 52 #[] w fun e w' => e = .returned (.slice (some ⟨w.heap.size, 0, none⟩) 35 35) ∧ w' = w.alloc (.cells (nrV refX).toArray 3) := by
  go_enter Try.func52, Try.ntmps52
  go_big_wp2_with fail
  go_ret
  exact ⟨rfl, rfl⟩
set_option maxHeartbeats 4000000 in
set_option maxRecDepth 100000 in
theorem refR_any (w : World) : Calls Try.prog 53 #[] w fun e w' => e = .returned (.slice (some ⟨w.heap.size, 0, none⟩) 35 35) ∧ w' = w.alloc (.cells (nrV refR).toArray 3) := by
  go_enter Try.func53, Try.ntmps53
  go_big_wp2_with fail
  go_ret
  exact ⟨rfl, rfl⟩
def refRow (a : Int) : List Int := if a = 3221225534 then refX else if a = 3221225655 then refR else []
/-- v is the row, in a block of its own -/
def IsRow (w : World) (v : Value) (base : Nat) (l : List Int) : Prop :=
  ∃ g, base ≤ g ∧ v = .slice (some ⟨g, 0, none⟩) l.length l.length ∧ w.heap[g]? = some (.cells (nrV l).toArray 3 (0, 0))
theorem refRow_any (a : Int) (w : World) (h0 : 0 ≤ a) (h1 : a ≤ 4294967295) :
    Calls Try.prog 42 #[.int .u32 a] w fun e w' => (∃ v, e = .returned v ∧ IsRow w' v w.heap.size (refRow a)) ∧ Below w.heap.size w w' := by
  by_cases hx : a = 3221225534
  · have ht : refRow a = refX := by unfold refRow; rw [if_pos hx]
    have HT := Lib.hid ht
    have hb : (a == 3221225534) = true := by simp [hx]
    clear hx ht
    go_enter Try.func42, Try.ntmps42
    go_wp2_with fail
    refine (refX_any _).mono ?_
    rintro e w1 ⟨rfl, rfl⟩
    go_wp2_with fail
    go_ret
    refine ⟨⟨_, rfl, ?_⟩, (Below.refl _ _).alloc (Nat.le_refl _) _⟩
    rw [HT.out]
    exact ⟨_, Nat.le_refl _, rfl, heap_alloc_new _ _⟩
  · by_cases hy : a = 3221225655
    · have ht : refRow a = refR := by unfold refRow; rw [if_neg hx, if_pos hy]
      have HT := Lib.hid ht
      have hb : (a == 3221225534) = false := by simp [hx]
      have hb2 : (a == 3221225655) = true := by simp [hy]
      clear hx hy ht
      go_enter Try.func42, Try.ntmps42
      go_wp2_with fail
      refine (refR_any _).mono ?_
      rintro e w1 ⟨rfl, rfl⟩
      go_wp2_with fail
      go_ret
      refine ⟨⟨_, rfl, ?_⟩, (Below.refl _ _).alloc (Nat.le_refl _) _⟩
      rw [HT.out]
      exact ⟨_, Nat.le_refl _, rfl, heap_alloc_new _ _⟩
    · have ht : refRow a = [] := by unfold refRow; rw [if_neg hx, if_neg hy]
      have HT := Lib.hid ht
      have hb : (a == 3221225534) = false := by simp [hx]
      have hb2 : (a == 3221225655) = false := by simp [hy]
      clear hx hy ht
      go_enter Try.func42, Try.ntmps42
      go_wp2_with fail
      go_ret
      refine ⟨⟨_, rfl, ?_⟩, (Below.refl _ _).alloc (Nat.le_refl _) _⟩
      rw [HT.out]
      exact ⟨_, Nat.le_refl _, rfl, heap_alloc_new _ _⟩

theorem refArch_any (s : ByteArray) (w : World) :
    Calls Try.prog 26 #[.string s] w fun e w' => e = .returned (archV s) ∧ w = w' := by
  by_cases hx : s = ⟨#[120, 56, 54, 95, 54, 52]⟩
  · subst hx
    have hv : archV ⟨#[120, 56, 54, 95, 54, 52]⟩ = .tuple #[.int .u32 3221225534, .bool true] := by
      unfold archV
      rw [show archOf ⟨#[120, 56, 54, 95, 54, 52]⟩ = some 3221225534 from by decide +kernel]
      rfl
    rw [hv]
    go_enter Try.func26, Try.ntmps26
    go_wp2_with fail
    go_ret2
    exact ⟨rfl, rfl⟩
  · by_cases hy : s = ⟨#[97, 97, 114, 99, 104, 54, 52]⟩
    · subst hy
      have hv : archV ⟨#[97, 97, 114, 99, 104, 54, 52]⟩ = .tuple #[.int .u32 3221225655, .bool true] := by
        unfold archV
        rw [show archOf ⟨#[97, 97, 114, 99, 104, 54, 52]⟩ = some 3221225655 from by decide +kernel]
        rfl
      rw [hv]
      go_enter Try.func26, Try.ntmps26
      go_wp2_with fail
      go_ret2
      exact ⟨rfl, rfl⟩
    · have hv : archV s = .tuple #[.int .u32 0, .bool false] := by unfold archV archOf; rw [if_neg hy, if_neg hx]; rfl
      have b1 : (s.toList == [120, 56, 54, 95, 54, 52]) = false := by rw [ByteArray.toList_eq, beq_eq_false_iff_ne]; exact fun e => hx (ba_ext e)
      have b2 : (s.toList == [97, 97, 114, 99, 104, 54, 52]) = false := by rw [ByteArray.toList_eq, beq_eq_false_iff_ne]; exact fun e => hy (ba_ext e)
      rw [hv]
      clear hx hy hv
      go_enter Try.func26, Try.ntmps26
      go_wp2_with fail
      go_ret2
      exact ⟨rfl, rfl⟩

abbrev NmZ := List UInt8 × Int
def zOf (a : Int) : List NmZ := refNs.zip (refRow a)
def fromZ (l : List NmZ) (q : NmZ → Bool) (i : Nat) : Option NmZ := (l.drop i).find? q
theorem fromZ_step (l : List NmZ) (q : NmZ → Bool) (i : Nat) (h : i < l.length) : fromZ l q i = if q (l.getD i ([], 0)) then some (l.getD i ([], 0)) else fromZ l q (i + 1) := by
  unfold fromZ
  rw [List.drop_eq_getElem_cons h, List.find?_cons, show l.getD i ([], 0) = l[i] from by simp [List.getD, h]]
  cases q l[i] <;> rfl
theorem fromZ_end (l : List NmZ) (q : NmZ → Bool) : fromZ l q l.length = none := by
  unfold fromZ
  rw [List.drop_length]; rfl
def qN (s : ByteArray) (e : NmZ) : Bool := decide ((⟨e.1.toArray⟩ : ByteArray) = s ∧ 0 ≤ e.2)
def qR (k : Int) (e : NmZ) : Bool := decide (0 ≤ e.2 ∧ e.2 = k)
theorem x86_z : x86T = ((refNs.zip refX).filter fun e => decide (0 ≤ e.2)).map fun e => (e.1, e.2.toNat) := by decide +kernel
theorem arm_z : armT = ((refNs.zip refR).filter fun e => decide (0 ≤ e.2)).map fun e => (e.1, e.2.toNat) := by decide +kernel
theorem tab_z (a : Int) : tabOf a = ((zOf a).filter fun e => decide (0 ≤ e.2)).map fun e => (e.1, e.2.toNat) := by
  unfold tabOf zOf refRow
  split
  · exact x86_z
  · split
    · exact arm_z
    · simp
theorem nrOf_z (a : Int) (s : ByteArray) : nrOf (tabOf a) s = (fromZ (zOf a) (qN s) 0).map fun e => e.2.toNat := by
  rw [tab_z]
  unfold nrOf fromZ
  rw [List.find?_map, List.find?_filter, List.drop_zero, Option.map_map]
  have hq : (fun e : NmZ => decide (decide (0 ≤ e.2) = true ∧ ((fun e : List UInt8 × Nat => decide (keyOfN e = s)) ∘ fun e : NmZ => (e.1, e.2.toNat)) e = true)) = qN s := by
    funext e
    rw [Bool.eq_iff_iff]
    simp [qN, keyOfN, and_comm]
    try (intro _; exact decide_eq_true_iff)
  rw [hq]
  rfl
theorem refRow_len (a : Int) : (refRow a).length ≤ 35 := by
  unfold refRow
  split
  · decide
  · split
    · decide
    · simp
theorem zOf_len (a : Int) : (zOf a).length = (refRow a).length := by
  unfold zOf
  rw [List.length_zip, show refNs.length = 35 from by decide +kernel]
  have := refRow_len a
  omega
theorem refX_small : refX.all (fun e => decide (-1 ≤ e ∧ e ≤ 4294967295)) = true := by decide +kernel
theorem refR_small : refR.all (fun e => decide (-1 ≤ e ∧ e ≤ 4294967295)) = true := by decide +kernel
theorem refRow_small (a : Int) : ∀ e ∈ refRow a, -1 ≤ e ∧ e ≤ 4294967295 := by
  intro e he
  unfold refRow at he
  split at he
  · exact of_decide_eq_true (List.all_eq_true.1 refX_small e he)
  · split at he
    · exact of_decide_eq_true (List.all_eq_true.1 refR_small e he)
    · cases he
theorem zOf_at (a : Int) (i : Nat) (h : i < (refRow a).length) : (nrV (refRow a))[i]? = some (.int .i64 ((zOf a).getD i ([], 0)).2) ∧ (nsV refNs)[i]? = some (.string ⟨((zOf a).getD i ([], 0)).1.toArray⟩) ∧ -1 ≤ ((zOf a).getD i ([], 0)).2 ∧ ((zOf a).getD i ([], 0)).2 ≤ 4294967295 := by
  have h35 : i < refNs.length := by rw [show refNs.length = 35 from by decide +kernel]; have := refRow_len a; omega
  have hz : (zOf a).getD i ([], 0) = (refNs[i], (refRow a)[i]) := by
    have hl : i < (zOf a).length := by rw [zOf_len]; exact h
    rw [show (zOf a).getD i ([], 0) = (zOf a)[i] from by simp [List.getD, hl]]
    simp [zOf]
  rw [hz]
  refine ⟨?_, ?_, refRow_small a _ (List.getElem_mem h)⟩
  · simp [nrV, h]
  · simp [nsV, h35]

set_option maxHeartbeats 1000000 in
set_option maxRecDepth 100000 in
theorem refNr_any (a : Int) (s : ByteArray) (w : World) (h0 : 0 ≤ a) (h1 : a ≤ 4294967295) :
    Calls Try.prog 28 #[.int .u32 a, .string s] w fun e w' => e = .returned (.tuple #[.int .u32 (((nrOf (tabOf a) s).getD 0 : Nat) : Int), .bool (nrOf (tabOf a) s).isSome]) ∧ Below w.heap.size w w' := by
  have hz := nrOf_z a s
  have hat := zOf_at a
  have hzl := zOf_len a
  have hrl := refRow_len a
  generalize nrOf (tabOf a) s = r at *
  have HZ := Lib.hid hz
  clear hz
  go_enter Try.func28, Try.ntmps28
  go_wp2_with fail
  refine (refRow_any a _ h0 h1).mono ?_
  rintro e w1 ⟨⟨v, rfl, g, hg, rfl, hblk⟩, hb1⟩
  go_wp2_with fail
  refine (refNames_any _).mono ?_
  rintro e w2 ⟨rfl, rfl⟩
  have hbel := hb1.alloc hb1.size (.cells (nsV refNs).toArray 9)
  have hB1 := (heap_alloc_old w1 (.cells (nsV refNs).toArray 9) (lt_of_block hblk)).trans hblk
  have hB2 := heap_alloc_new w1 (.cells (nsV refNs).toArray 9)
  generalize w1.alloc (.cells (nsV refNs).toArray 9) = W at *
  obtain ⟨n, hn⟩ : ∃ n, (refRow a).length = n := ⟨_, rfl⟩
  rw [hn] at hat hzl hrl ⊢
  have HB1 := Lib.hid hB1; have HB2 := Lib.hid hB2; have HAT := Lib.hid hat; have HZL := Lib.hid hzl
  have hnI : (n : Int) ≤ 35 := by omega
  clear hB1 hB2 hat hzl hblk hn
  go_wp2_with fail
  go_loop [15] (fun c => ∃ i : Nat, i ≤ n ∧ c = .int .i64 i ∧ fromZ (zOf a) (qN s) 0 = fromZ (zOf a) (qN s) i) (fun c => n - (intOf c).toNat)
  case atStart => exact ⟨0, by omega, rfl, rfl⟩
  case round =>
    obtain ⟨i, hi, rfl, hfr⟩ := hrel
    by_cases hlt : i < n
    · obtain ⟨c1, c2, z0, z1⟩ := HAT.out i hlt
      have k1 : W.cell? ⟨g, i, none⟩ = some (.int .i64 ((zOf a).getD i ([], 0)).2) := by
        rw [cell_of_row _ _ _ _ _ _ HB1.out, List.getElem?_toArray]; exact c1
      have k2 : W.cell? ⟨w1.heap.size, i, none⟩ = some (.string ⟨((zOf a).getD i ([], 0)).1.toArray⟩) := by
        rw [cell_of_row _ _ _ _ _ _ HB2.out, List.getElem?_toArray]; exact c2
      have hst := fromZ_step (zOf a) (qN s) i (by rw [HZL.out]; exact hlt)
      have hq : qN s ((zOf a).getD i ([], 0)) = decide ((⟨((zOf a).getD i ([], 0)).1.toArray⟩ : ByteArray) = s ∧ 0 ≤ ((zOf a).getD i ([], 0)).2) := rfl
      have hiI : (i : Int) < n := by omega
      rw [← hfr, hq] at hst
      clear c1 c2 hfr hq
      generalize hE : (zOf a).getD i ([], 0) = E at *
      clear hE
      obtain ⟨ky, z⟩ := E
      dsimp only at k1 k2 z0 z1 hst
      generalize hky : (⟨ky.toArray⟩ : ByteArray) = key at *
      clear hky
      by_cases hk : key = s
      · subst hk
        by_cases hz : 0 ≤ z
        · rw [decide_eq_true ⟨rfl, hz⟩, if_pos rfl] at hst
          have hr : r = some z.toNat := by rw [HZ.out, hst]; rfl
          have HR := Lib.hid hr
          obtain ⟨z, rfl⟩ := Int.eq_ofNat_of_zero_le hz
          clear hst hr
          go_wp2_with fail
          go_ret2
          exact ⟨by rw [HR.out]; rfl, hbel⟩
        · rw [decide_eq_false (fun h => hz h.2), if_neg (by decide)] at hst
          have HST := Lib.hid hst
          clear hst
          go_wp2_with fail
          go_round
          case rel => exact ⟨i + 1, by omega, by go_num, HST.out⟩
          case measure => simp [intOf]; omega
      · rw [decide_eq_false (fun h => hk h.1), if_neg (by decide)] at hst
        have hb := ba_tne hk
        have HST := Lib.hid hst
        clear hst hk
        go_wp2_with fail
        go_round
        case rel => exact ⟨i + 1, by omega, by go_num, HST.out⟩
        case measure => simp [intOf]; omega
    · obtain rfl : i = n := by omega
      have hr : r = none := by rw [HZ.out, hfr, ← HZL.out, fromZ_end]; rfl
      have HR := Lib.hid hr
      clear hr hfr
      go_wp2_with fail
      go_ret2
      exact ⟨by rw [HR.out]; rfl, hbel⟩

end Go.Proofs.Ytbcoooaoofbboaa
