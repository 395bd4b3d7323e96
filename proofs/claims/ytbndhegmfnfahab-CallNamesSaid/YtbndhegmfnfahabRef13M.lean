/- The reference's numbers and names of calls. -/
import Derived.Test.YtbndhegmfnfahabRef13N
namespace Go.Proofs.Ytbndhegmfnfahab
open Go.RowKit
set_option linter.unusedVariables false

abbrev NmZ := List UInt8 × Int
def zOf (a : Int) : List NmZ := refNs.zip (refRow a)
def fromZ (l : List NmZ) (q : NmZ → Bool) (i : Nat) : Option NmZ := (l.drop i).find? q
theorem fromZ_step (l : List NmZ) (q : NmZ → Bool) (i : Nat) (h : i < l.length) : fromZ l q i = if q (l.getD i ([], 0)) then some (l.getD i ([], 0)) else fromZ l q (i + 1) := by
  unfold fromZ
  rw [List.drop_eq_getElem_cons h, List.find?_cons, show l.getD i ([], 0) = l[i] from by simp [List.getD, h]]
  cases q l[i] <;> rfl
theorem fromZ_end (l : List NmZ) (q : NmZ → Bool) : fromZ l q l.length = none := by
  unfold fromZ
  rw [List.drop_length]; rfl
def qN (s : ByteArray) (e : NmZ) : Bool := decide ((⟨e.1.toArray⟩ : ByteArray) = s ∧ 0 ≤ e.2)
def qR (k : Int) (e : NmZ) : Bool := decide (0 ≤ e.2 ∧ e.2 = k)
theorem x86_z : x86T = ((refNs.zip refX).filter fun e => decide (0 ≤ e.2)).map fun e => (e.1, e.2.toNat) := by decide +kernel
theorem arm_z : armT = ((refNs.zip refR).filter fun e => decide (0 ≤ e.2)).map fun e => (e.1, e.2.toNat) := by decide +kernel
theorem tab_z (a : Int) : tabOf a = ((zOf a).filter fun e => decide (0 ≤ e.2)).map fun e => (e.1, e.2.toNat) := by
  unfold tabOf zOf refRow
  split
  · exact x86_z
  · split
    · exact arm_z
    · simp
theorem nrOf_z (a : Int) (s : ByteArray) : nrOf (tabOf a) s = (fromZ (zOf a) (qN s) 0).map fun e => e.2.toNat := by
  rw [tab_z]
  unfold nrOf fromZ
  rw [List.find?_map, List.find?_filter, List.drop_zero, Option.map_map]
  have hq : (fun e : NmZ => decide (decide (0 ≤ e.2) = true ∧ ((fun e : List UInt8 × Nat => decide (keyOfN e = s)) ∘ fun e : NmZ => (e.1, e.2.toNat)) e = true)) = qN s := by
    funext e
    rw [Bool.eq_iff_iff]
    simp [qN, keyOfN, and_comm]
    try (intro _; exact decide_eq_true_iff)
  rw [hq]
  rfl
theorem nameOf_z (a : Int) (k : Int) : nameOf (tabOf a) k = (fromZ (zOf a) (qR k) 0).map fun e => ⟨e.1.toArray⟩ := by
  rw [tab_z]
  unfold nameOf fromZ
  rw [List.find?_map, List.find?_filter, List.drop_zero, Option.map_map]
  have hq : (fun e : NmZ => decide (decide (0 ≤ e.2) = true ∧ ((fun e : List UInt8 × Nat => decide (keyOfR e = k)) ∘ fun e : NmZ => (e.1, e.2.toNat)) e = true)) = qR k := by
    funext e
    simp only [qR, keyOfR, Function.comp, decide_eq_true_eq, decide_eq_decide]
    constructor
    · rintro ⟨h1, h2⟩; have h3 : ((e.2.toNat : Nat) : Int) = k := of_decide_eq_true h2; exact ⟨h1, by omega⟩
    · rintro ⟨h1, h2⟩; exact ⟨h1, decide_eq_true (by show ((e.2.toNat : Nat) : Int) = k; omega)⟩
  rw [hq]
  rfl
theorem refRow_len (a : Int) : (refRow a).length ≤ 35 := by
  unfold refRow
  split
  · decide
  · split
    · decide
    · simp
theorem zOf_len (a : Int) : (zOf a).length = (refRow a).length := by
  unfold zOf
  rw [List.length_zip, show refNs.length = 35 from by decide +kernel]
  have := refRow_len a
  omega
theorem refX_small : refX.all (fun e => decide (-1 ≤ e ∧ e ≤ 4294967295)) = true := by decide +kernel
theorem refR_small : refR.all (fun e => decide (-1 ≤ e ∧ e ≤ 4294967295)) = true := by decide +kernel
theorem refRow_small (a : Int) : ∀ e ∈ refRow a, -1 ≤ e ∧ e ≤ 4294967295 := by
  intro e he
  unfold refRow at he
  split at he
  · exact of_decide_eq_true (List.all_eq_true.1 refX_small e he)
  · split at he
    · exact of_decide_eq_true (List.all_eq_true.1 refR_small e he)
    · cases he
theorem zOf_at (a : Int) (i : Nat) (h : i < (refRow a).length) : (nrV (refRow a))[i]? = some (.int .i64 ((zOf a).getD i ([], 0)).2) ∧ (nsV refNs)[i]? = some (.string ⟨((zOf a).getD i ([], 0)).1.toArray⟩) ∧ -1 ≤ ((zOf a).getD i ([], 0)).2 ∧ ((zOf a).getD i ([], 0)).2 ≤ 4294967295 := by
  have h35 : i < refNs.length := by rw [show refNs.length = 35 from by decide +kernel]; have := refRow_len a; omega
  have hz : (zOf a).getD i ([], 0) = (refNs[i], (refRow a)[i]) := by
    have hl : i < (zOf a).length := by rw [zOf_len]; exact h
    rw [show (zOf a).getD i ([], 0) = (zOf a)[i] from by simp [List.getD, hl]]
    simp [zOf]
  rw [hz]
  refine ⟨?_, ?_, refRow_small a _ (List.getElem_mem h)⟩
  · simp [nrV, h]
  · simp [nsV, h35]

set_option maxHeartbeats 1000000 in
set_option maxRecDepth 100000 in
theorem refNr_any (a : Int) (s : ByteArray) (w : World) (h0 : 0 ≤ a) (h1 : a ≤ 4294967295) :
    Calls Try.prog 24 #[.int .u32 a, .string s] w fun e w' => e = .returned (.tuple #[.int .u32 (((nrOf (tabOf a) s).getD 0 : Nat) : Int), .bool (nrOf (tabOf a) s).isSome]) ∧ Below w.heap.size w w' := by
  have hz := nrOf_z a s
  have hat := zOf_at a
  have hzl := zOf_len a
  have hrl := refRow_len a
  generalize nrOf (tabOf a) s = r at *
  have HZ := Lib.hid hz
  clear hz
  go_enter Try.func24, Try.ntmps24
  go_wp2_with fail
  refine (refRow_any a _ h0 h1).mono ?_
  rintro e w1 ⟨⟨v, rfl, g, hg, rfl, hblk⟩, hb1⟩
  go_wp2_with fail
  refine (refNames_any _).mono ?_
  rintro e w2 ⟨rfl, rfl⟩
  have hbel := hb1.alloc hb1.size (.cells (nsV refNs).toArray 9)
  have hB1 := (heap_alloc_old w1 (.cells (nsV refNs).toArray 9) (lt_of_block hblk)).trans hblk
  have hB2 := heap_alloc_new w1 (.cells (nsV refNs).toArray 9)
  generalize w1.alloc (.cells (nsV refNs).toArray 9) = W at *
  obtain ⟨n, hn⟩ : ∃ n, (refRow a).length = n := ⟨_, rfl⟩
  rw [hn] at hat hzl hrl ⊢
  have HB1 := Lib.hid hB1; have HB2 := Lib.hid hB2; have HAT := Lib.hid hat; have HZL := Lib.hid hzl
  have hnI : (n : Int) ≤ 35 := by omega
  clear hB1 hB2 hat hzl hblk hn
  go_wp2_with fail
  go_loop [15] (fun c => ∃ i : Nat, i ≤ n ∧ c = .int .i64 i ∧ fromZ (zOf a) (qN s) 0 = fromZ (zOf a) (qN s) i) (fun c => n - (intOf c).toNat)
  case atStart => exact ⟨0, by omega, rfl, rfl⟩
  case round =>
    obtain ⟨i, hi, rfl, hfr⟩ := hrel
    by_cases hlt : i < n
    · obtain ⟨c1, c2, z0, z1⟩ := HAT.out i hlt
      have k1 : W.cell? ⟨g, i, none⟩ = some (.int .i64 ((zOf a).getD i ([], 0)).2) := by
        rw [cell_of_row _ _ _ _ _ _ HB1.out, List.getElem?_toArray]; exact c1
      have k2 : W.cell? ⟨w1.heap.size, i, none⟩ = some (.string ⟨((zOf a).getD i ([], 0)).1.toArray⟩) := by
        rw [cell_of_row _ _ _ _ _ _ HB2.out, List.getElem?_toArray]; exact c2
      have hst := fromZ_step (zOf a) (qN s) i (by rw [HZL.out]; exact hlt)
      have hq : qN s ((zOf a).getD i ([], 0)) = decide ((⟨((zOf a).getD i ([], 0)).1.toArray⟩ : ByteArray) = s ∧ 0 ≤ ((zOf a).getD i ([], 0)).2) := rfl
      have hiI : (i : Int) < n := by omega
      rw [← hfr, hq] at hst
      clear c1 c2 hfr hq
      generalize hE : (zOf a).getD i ([], 0) = E at *
      clear hE
      obtain ⟨ky, z⟩ := E
      dsimp only at k1 k2 z0 z1 hst
      generalize hky : (⟨ky.toArray⟩ : ByteArray) = key at *
      clear hky
      by_cases hk : key = s
      · subst hk
        by_cases hz : 0 ≤ z
        · rw [decide_eq_true ⟨rfl, hz⟩, if_pos rfl] at hst
          have hr : r = some z.toNat := by rw [HZ.out, hst]; rfl
          have HR := Lib.hid hr
          obtain ⟨z, rfl⟩ := Int.eq_ofNat_of_zero_le hz
          clear hst hr
          go_wp2_with fail
          go_ret2
          exact ⟨by rw [HR.out]; rfl, hbel⟩
        · rw [decide_eq_false (fun h => hz h.2), if_neg (by decide)] at hst
          have HST := Lib.hid hst
          clear hst
          go_wp2_with fail
          go_round
          case rel => exact ⟨i + 1, by omega, by go_num, HST.out⟩
          case measure => simp [intOf]; omega
      · rw [decide_eq_false (fun h => hk h.1), if_neg (by decide)] at hst
        have hb := ba_tne hk
        have HST := Lib.hid hst
        clear hst hk
        go_wp2_with fail
        go_round
        case rel => exact ⟨i + 1, by omega, by go_num, HST.out⟩
        case measure => simp [intOf]; omega
    · obtain rfl : i = n := by omega
      have hr : r = none := by rw [HZ.out, hfr, ← HZL.out, fromZ_end]; rfl
      have HR := Lib.hid hr
      clear hr hfr
      go_wp2_with fail
      go_ret2
      exact ⟨by rw [HR.out]; rfl, hbel⟩

set_option maxHeartbeats 1000000 in
set_option maxRecDepth 100000 in
theorem refName_any (a : Int) (k : Int) (w : World) (h0 : 0 ≤ a) (h1 : a ≤ 4294967295) (k0 : 0 ≤ k) (k1 : k ≤ 4294967295) :
    Calls Try.prog 26 #[.int .u32 a, .int .u32 k] w fun e w' => e = .returned (.tuple #[.string ((nameOf (tabOf a) k).getD ⟨#[]⟩), .bool (nameOf (tabOf a) k).isSome]) ∧ Below w.heap.size w w' := by
  have hz := nameOf_z a k
  have hat := zOf_at a
  have hzl := zOf_len a
  have hrl := refRow_len a
  generalize nameOf (tabOf a) k = r at *
  have HZ := Lib.hid hz
  clear hz
  go_enter Try.func26, Try.ntmps26
  go_wp2_with fail
  refine (refNames_any _).mono ?_
  rintro e w1 ⟨rfl, rfl⟩
  have hb0 := (Below.refl w.heap.size w).alloc (Nat.le_refl _) (.cells (nsV refNs).toArray 9)
  have hN0 := heap_alloc_new w (.cells (nsV refNs).toArray 9)
  go_wp2_with fail
  refine (refRow_any a _ h0 h1).mono ?_
  rintro e W ⟨⟨v, rfl, g, hg, rfl, hB1⟩, hb1⟩
  have hbel := hb0.trans (hb1.mono hb0.size)
  have hB2 := (hb1.block w.heap.size (by simp)).trans hN0
  obtain ⟨n, hn⟩ : ∃ n, (refRow a).length = n := ⟨_, rfl⟩
  rw [hn] at hat hzl hrl ⊢
  have HB1 := Lib.hid hB1; have HB2 := Lib.hid hB2; have HAT := Lib.hid hat; have HZL := Lib.hid hzl
  have hnI : (n : Int) ≤ 35 := by omega
  clear hB1 hB2 hat hzl hn hb0 hN0 hb1 hg
  go_wp2_with fail
  go_loop [13] (fun c => ∃ i : Nat, i ≤ n ∧ c = .int .i64 i ∧ fromZ (zOf a) (qR k) 0 = fromZ (zOf a) (qR k) i) (fun c => n - (intOf c).toNat)
  case atStart => exact ⟨0, by omega, rfl, rfl⟩
  case round =>
    obtain ⟨i, hi, rfl, hfr⟩ := hrel
    by_cases hlt : i < n
    · obtain ⟨c1, c2, z0, z1⟩ := HAT.out i hlt
      have q1 : W.cell? ⟨g, i, none⟩ = some (.int .i64 ((zOf a).getD i ([], 0)).2) := by
        rw [cell_of_row _ _ _ _ _ _ HB1.out, List.getElem?_toArray]; exact c1
      have q2 : W.cell? ⟨w.heap.size, i, none⟩ = some (.string ⟨((zOf a).getD i ([], 0)).1.toArray⟩) := by
        rw [cell_of_row _ _ _ _ _ _ HB2.out, List.getElem?_toArray]; exact c2
      have hst := fromZ_step (zOf a) (qR k) i (by rw [HZL.out]; exact hlt)
      have hq : qR k ((zOf a).getD i ([], 0)) = decide (0 ≤ ((zOf a).getD i ([], 0)).2 ∧ ((zOf a).getD i ([], 0)).2 = k) := rfl
      have hiI : (i : Int) < n := by omega
      rw [← hfr, hq] at hst
      clear c1 c2 hfr hq
      generalize hE : (zOf a).getD i ([], 0) = E at *
      clear hE
      obtain ⟨ky, z⟩ := E
      dsimp only at q1 q2 z0 z1 hst
      by_cases hz : 0 ≤ z
      · by_cases hk : z = k
        · subst hk
          rw [decide_eq_true ⟨hz, rfl⟩, if_pos rfl] at hst
          have hr : r = some ⟨ky.toArray⟩ := by rw [HZ.out, hst]; rfl
          have HR := Lib.hid hr
          clear hst hr
          go_wp2_with fail
          go_ret2
          exact ⟨by rw [HR.out]; rfl, hbel⟩
        · rw [decide_eq_false (fun h => hk h.2), if_neg (by decide)] at hst
          have hb : (z == k) = false := by rw [beq_eq_false_iff_ne]; exact hk
          have HST := Lib.hid hst
          clear hst hk
          go_wp2_with fail
          go_round
          case rel => exact ⟨i + 1, by omega, by go_num, HST.out⟩
          case measure => simp [intOf]; omega
      · rw [decide_eq_false (fun h => hz h.1), if_neg (by decide)] at hst
        have HST := Lib.hid hst
        clear hst
        go_wp2_with fail
        go_round
        case rel => exact ⟨i + 1, by omega, by go_num, HST.out⟩
        case measure => simp [intOf]; omega
    · obtain rfl : i = n := by omega
      have hr : r = none := by rw [HZ.out, hfr, ← HZL.out, fromZ_end]; rfl
      have HR := Lib.hid hr
      clear hr hfr
      go_wp2_with fail
      go_ret2
      exact ⟨by rw [HR.out]; rfl, hbel⟩
end Go.Proofs.Ytbndhegmfnfahab
