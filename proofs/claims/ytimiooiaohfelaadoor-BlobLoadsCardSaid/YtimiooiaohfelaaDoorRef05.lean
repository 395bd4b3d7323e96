/- The reference of a log: homes, and what a sector tells. -/
import Derived.Test.YtimiooiaohfelaaDoorWl4
import Derived.Test.YtimiooiaohfelaaDoorRef03T
namespace Go.Proofs.YtimiooiaohfelaaDoor
open Go.RowKit
set_option linter.unusedVariables false
set_option linter.unusedSimpArgs false

theorem refHome_any (m n : Int) (w : World) : Calls Tryd.prog 29 #[.int .i64 m, .int .i64 n] w fun e w' => e = .returned (.bool (decide (53 ≤ n ∧ n < m))) ∧ w = w' := by
  by_cases h1 : 53 ≤ n
  · by_cases h2 : n < m
    · rw [decide_eq_true ⟨h1, h2⟩]
      go_enter Tryd.func29, Tryd.ntmps29
      go_wp2_with fail
      go_ret
      exact ⟨rfl, rfl⟩
    · rw [decide_eq_false (fun h => h2 h.2)]
      go_enter Tryd.func29, Tryd.ntmps29
      go_wp2_with fail
      go_ret
      exact ⟨rfl, rfl⟩
  · rw [decide_eq_false (fun h => h1 h.1)]
    go_enter Tryd.func29, Tryd.ntmps29
    go_wp2_with fail
    go_ret
    exact ⟨rfl, rfl⟩
def tellsM (s : ByteArray) (l : List Wrt) (n : Nat) : Nat → ByteArray
  | 0 => s
  | t + 1 => if (l.getD t wrtZ).sector = n then (l.getD t wrtZ).bytes else tellsM s l n t
theorem tellsM_no (s : ByteArray) (l : List Wrt) (n : Nat) : ∀ t, (∀ j, j < t → (l.getD j wrtZ).sector ≠ n) → tellsM s l n t = s
  | 0, _ => rfl
  | t + 1, h => by
    unfold tellsM
    rw [if_neg (h t (by omega))]
    exact tellsM_no s l n t (fun j hj => h j (by omega))
theorem tellsM_at (s : ByteArray) (l : List Wrt) (n k : Nat) (hk : (l.getD k wrtZ).sector = n) : ∀ t, k < t → (∀ j, k < j → j < t → (l.getD j wrtZ).sector ≠ n) → tellsM s l n t = (l.getD k wrtZ).bytes
  | 0, h, _ => by omega
  | t + 1, h, hj => by
    unfold tellsM
    by_cases e : k = t
    · subst e; rw [if_pos hk]
    · rw [if_neg (hj t (by omega) (by omega))]
      exact tellsM_at s l n k hk t (by omega) (fun j h1 h2 => hj j h1 (by omega))
theorem tellsM_W (l : Lg) (n : Nat) (hm : ∀ i j, i < j → j < l.dirty.length → (l.dirty.getD i wrtZ).sector < (l.dirty.getD j wrtZ).sector) : tellsM (tells l.dsk n) l.dirty n l.dirty.length = tellsW l n := by
  unfold tellsW
  by_cases h : ∃ k, k < l.dirty.length ∧ (l.dirty.getD k wrtZ).sector = n
  · obtain ⟨k, h1, h2⟩ := h
    rw [find_at n l.dirty k (fun j hj => by have := hm j k hj h1; omega) h1 h2]
    exact tellsM_at _ _ _ k h2 _ h1 (fun j h3 h4 => by have := hm k j h3 h4; omega)
  · rw [find_no n l.dirty (fun j hj e => h ⟨j, hj, e⟩)]
    show _ = tells l.dsk ((n : Int)).toNat
    rw [Int.toNat_natCast]
    exact tellsM_no _ _ _ _ (fun j hj e => h ⟨j, hj, e⟩)
set_option maxRecDepth 100000 in
set_option maxHeartbeats 1000000 in
theorem refTells5_any (v : Value) (l : Lg) (n : Nat) (w : World) (h : IsLog w v l) (hn : n < l.secs.length) (hm : ∀ i j, i < j → j < l.dirty.length → (l.dirty.getD i wrtZ).sector < (l.dirty.getD j wrtZ).sector) :
    Calls Tryd.prog 14 #[v, .int .i64 n] w fun e w' => e = .returned (.string (tellsW l n)) ∧ Below w.heap.size w w' := by
  obtain ⟨x1, x2, x3, x4, x5, x6, rfl, ⟨_, _⟩, ⟨_, _⟩, ⟨h5, h6⟩, _, _, hD⟩ := id h.form
  have hbx := heap_alloc_new w (.cells #[.slice x1 l.secs.length x2, .slice x3 l.pend.length x4, .int .i64 l.left, .int .i64 l.epoch, .int .i64 l.seq, .int .i64 l.used, .slice x5 l.dirty.length x6] 29)
  have hal := (Below.refl w.heap.size w).alloc (Nat.le_refl _) (.cells #[.slice x1 l.secs.length x2, .slice x3 l.pend.length x4, .int .i64 l.left, .int .i64 l.epoch, .int .i64 l.seq, .int .i64 l.used, .slice x5 l.dirty.length x6] 29)
  obtain ⟨u, hU⟩ : ∃ u, w.alloc (.cells #[.slice x1 l.secs.length x2, .slice x3 l.pend.length x4, .int .i64 l.left, .int .i64 l.epoch, .int .i64 l.seq, .int .i64 l.used, .slice x5 l.dirty.length x6] 29) = u := ⟨_, rfl⟩
  obtain ⟨B, hB⟩ : ∃ B, w.heap.size = B := ⟨_, rfl⟩
  rw [hU] at hbx hal
  rw [hB] at hbx
  have HT := Lib.hid (refTells_any _ l.dsk n u ((h.disk).below hal) hn)
  have hW := tellsM_W l n hm
  obtain ⟨k, hk⟩ : ∃ k, l.dirty.length = k := ⟨_, rfl⟩
  rw [hk] at hW h5
  have HD := Lib.hid (fun x (hx : Below w.heap.size w x) => hD.below hx)
  rw [hk] at HD
  have HW := Lib.hid hW; have HU := Lib.hid hU; have HB := Lib.hid hB; have HBX := Lib.hid hbx; have HAL := Lib.hid hal
  have hkI : (k : Int) ≤ 9223372036854775807 := by omega
  have c0 := below_cell (Below.refl _ u) hbx 0 rfl
  have c1 := below_cell (Below.refl _ u) hbx 1 rfl
  rw [hk] at hbx
  have HK := Lib.hid hk
  clear hW hU hB hbx hal hD hm h hk
  go_enter Tryd.func14, Tryd.ntmps14
  go_upto_region 1 with fail
  rw [HU.out, HB.out]
  have hbk := HBX.out
  rw [HK.out] at hbk
  have HBK := Lib.hid hbk
  clear hbk
  go_upto_region 2 with (first | (go_at_call 34; refine HT.out.mono ?_; rintro e u1 ⟨rfl, hb1⟩))
  have hbk := (hb1.block _ (lt_of_block HBK.out)).trans HBK.out
  have d6 := below_cell (Below.refl _ u1) hbk 6 rfl
  have HB1 := Lib.hid (HAL.out.trans (hb1.mono HAL.out.size))
  obtain ⟨S, hS⟩ : ∃ S, tells l.dsk n = S := ⟨_, rfl⟩
  rw [hS] at HW ⊢
  clear c0 c1 hb1 hbk HT hS
  go_wp2_with fail
  go_loopw [5, 16] (fun s z wr => ∃ t : Nat, t ≤ k ∧ z = .int .i64 t ∧ s = .string (tellsM S l.dirty n t) ∧ Hid (Below w.heap.size w wr)) (fun _ z _ => k - (intOf z).toNat)
  case atStart => exact ⟨0, by omega, rfl, rfl, HB1⟩
  case round =>
    obtain ⟨t, ht, rfl, rfl, hbw⟩ := hrel
    by_cases hlt : t < k
    · have htI : (t : Int) < k := by omega
      obtain ⟨a9, n9, c9, hv9, _, _, _, _, hat⟩ := HD.out wr hbw.out
      injection hv9 with t1 t2 t3
      subst t1 t2 t3
      obtain ⟨gp, op, rfl, hgp, hcp⟩ := hat.resolve_left (by omega)
      obtain ⟨p0, p1⟩ := hcp t hlt
      have hnx : tellsM S l.dirty n (t + 1) = if (l.dirty.getD t wrtZ).sector = n then (l.dirty.getD t wrtZ).bytes else tellsM S l.dirty n t := rfl
      obtain ⟨P, hP⟩ : ∃ P, l.dirty.getD t wrtZ = P := ⟨_, rfl⟩
      rw [hP] at p0 p1 hnx
      generalize tellsM S l.dirty n t = S1 at *
      have HNX := Lib.hid hnx
      have HB2 := Lib.hid (hbw.out.alloc hbw.out.size (.cells #[.int .i64 P.sector, .string P.bytes] 49))
      clear hcp hP hnx hbw hat
      by_cases he : P.sector = (n : Nat)
      · rw [he] at p0 HB2
        rw [if_pos he] at HNX
        clear he
        go_wp2_with fail
        go_roundw
        case rel => exact ⟨t + 1, by omega, by go_num, by rw [HNX.out], HB2⟩
        case measure => simp [intOf]; omega
      · rw [if_neg he] at HNX
        have hse : (P.sector == (n : Int)) = false := by simpa using he
        go_wp2_with fail
        go_roundw
        case rel => exact ⟨t + 1, by omega, by go_num, by rw [HNX.out], HB2⟩
        case measure => simp [intOf]; omega
    · obtain rfl : t = k := by omega
      have hnl : ¬ (t : Int) < t := by omega
      go_wp2_with fail
      go_ret
      exact ⟨by rw [← HW.out]; rfl, hbw.out⟩
end Go.Proofs.YtimiooiaohfelaaDoor
