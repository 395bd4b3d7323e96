/- The reference's rows of what all home sectors tell, and when two are the same. -/
import Derived.Test.YthnmnnlbglpjaaaGreatDoorWp5
import Derived.Test.YthnmnnlbglpjaaaGreatDoorPk6
import Derived.Test.YthnmnnlbglpjaaaGreatDoorPkB
namespace Go.Proofs.YthnmnnlbglpjaaaGreatDoor
open Go.RowKit
set_option linter.unusedVariables false
set_option linter.unusedSimpArgs false

def homesN (T : Nat → ByteArray) (k : Nat) : List ByteArray := (List.range k).map (fun i => T (53 + i))
theorem homesN_snoc (T : Nat → ByteArray) (k : Nat) : (homesN T (k + 1)).map Value.string = (homesN T k).map Value.string ++ [.string (T (53 + k))] := by
  unfold homesN
  rw [List.range_succ, List.map_append, List.map_append]
  rfl
theorem homesN_len (T : Nat → ByteArray) (k : Nat) : (homesN T k).length = k := by simp [homesN]
set_option maxRecDepth 100000 in
set_option maxHeartbeats 1000000 in
theorem refHomes (v : Value) (l : Lg) (T : Nat → ByteArray) (N : Nat) (w : World) (h : IsLog w v l) (hs : Sound l) (hv : HasV l N T) :
    Calls Tryz.prog 19 #[v] w fun e w' => ∃ v', e = .returned v' ∧ w'.ownsRow w.heap.size 9 1 v' (N - 53) ((homesN T (N - 53)).map Value.string) ∧ Below w.heap.size w w' := by
  obtain ⟨i0, hi, hz0, hz1, hz2⟩ := info_parts infoStr
  obtain ⟨x1, x2, x3, x4, x5, x6, rfl, ⟨_, _⟩, ⟨_, _⟩, ⟨_, _⟩, _, _, _⟩ := id h.form
  have hbx := heap_alloc_new w (.cells #[.slice x1 l.secs.length x2, .slice x3 l.pend.length x4, .int .i64 l.left, .int .i64 l.epoch, .int .i64 l.seq, .int .i64 l.used, .slice x5 l.dirty.length x6] 29)
  have hal := (Below.refl w.heap.size w).alloc (Nat.le_refl _) (.cells #[.slice x1 l.secs.length x2, .slice x3 l.pend.length x4, .int .i64 l.left, .int .i64 l.epoch, .int .i64 l.seq, .int .i64 l.used, .slice x5 l.dirty.length x6] 29)
  have hsz1 := World.size_alloc w (.cells #[.slice x1 l.secs.length x2, .slice x3 l.pend.length x4, .int .i64 l.left, .int .i64 l.epoch, .int .i64 l.seq, .int .i64 l.used, .slice x5 l.dirty.length x6] 29)
  obtain ⟨u, hU⟩ : ∃ u, w.alloc (.cells #[.slice x1 l.secs.length x2, .slice x3 l.pend.length x4, .int .i64 l.left, .int .i64 l.epoch, .int .i64 l.seq, .int .i64 l.used, .slice x5 l.dirty.length x6] 29) = u := ⟨_, rfl⟩
  obtain ⟨B, hB⟩ : ∃ B, w.heap.size = B := ⟨_, rfl⟩
  rw [hU] at hbx hal hsz1
  rw [hB] at hbx hsz1
  have hm := dirty_rises (right_dirty hs.right).1
  have hd2 := (right_dirty hs.right).2.1
  have h64 := right_64 hs.right
  have hN : l.secs.length = N := hv.1
  have HT := Lib.hid (fun x (hx : Below w.heap.size w x) (n : Nat) (h1 : 53 ≤ n) (hn : n < N) => by
    have := refTells5_any _ l n x (h.below hx) (by rw [hN]; exact hn) hm
    rw [hv.2 n h1 hn] at this
    exact this)
  rw [hN] at hbx hU HT h64 hd2 ⊢
  have HU := Lib.hid hU; have HB := Lib.hid hB; have HBX := Lib.hid hbx; have HAL := Lib.hid hal; have HSZ := Lib.hid hsz1
  have hNI : (N : Int) ≤ 256 := by omega
  have hNI2 : (64 : Int) ≤ N := by omega
  clear hU hB hbx hal h hm hN hv hs hsz1
  go_enter Tryz.func19, Tryz.ntmps19
  go_upto_region 1 with fail
  rw [HU.out, HB.out]
  go_upto_region 2 with fail
  have hO : (u.alloc (.cells #[] 9)).ownsRow (B + 1) 9 1 (.slice (some ⟨u.heap.size, 0, none⟩) 0 0) 0 ((homesN T 0).map Value.string) := by
    refine ⟨rfl, .inr ⟨u.heap.size, 0, #[], rfl, by rw [HSZ.out]; exact Nat.le_refl _, heap_alloc_new u _, Nat.le_refl _, Nat.zero_le _, rfl, rfl⟩⟩
  have hb2 := (Below.refl (B + 1) u).alloc (by rw [HSZ.out]; exact Nat.le_refl _) (.cells #[] 9)
  obtain ⟨u2, hU2⟩ : ∃ u2, u.alloc (.cells #[] 9) = u2 := ⟨_, rfl⟩
  rw [hU2] at hO hb2 ⊢
  have HO := Lib.hid hO; have HB2 := Lib.hid hb2
  clear hO hb2 hU2
  go_upto_region 3 with fail
  go_loopw [3, 4] (fun z3 z4 wr => ∃ k : Nat, k ≤ N - 53 ∧ z4 = .int .i64 ((53 + k : Nat) : Int) ∧ Hid (wr.ownsRow (B + 1) 9 1 z3 k ((homesN T k).map Value.string)) ∧ Hid (Below (B + 1) u wr)) (fun _ z4 _ => N - (intOf z4).toNat)
  case atStart => exact ⟨0, by omega, rfl, HO, HB2⟩
  case round =>
    obtain ⟨k, hk, rfl, HOk, HBk⟩ := hrel
    have hbk := (HBk.out.block B (by omega)).trans HBX.out
    have hbw := HAL.out.trans (HBk.out.mono (by rw [HB.out]; omega))
    have d0 := below_cell (Below.refl _ wr) hbk 0 rfl
    by_cases hlt : k < N - 53
    · have hltI : ((53 + k : Nat) : Int) < N := by omega
      have d1 := below_cell (Below.refl _ wr) hbk 1 rfl
      have d2 := below_cell (Below.refl _ wr) hbk 2 rfl
      have d3 := below_cell (Below.refl _ wr) hbk 3 rfl
      have d4 := below_cell (Below.refl _ wr) hbk 4 rfl
      have d5 := below_cell (Below.refl _ wr) hbk 5 rfl
      have d6 := below_cell (Below.refl _ wr) hbk 6 rfl
      have HTk := Lib.hid (HT.out wr hbw (53 + k) (by omega) (by omega))
      have hsn := homesN_snoc T k
      generalize T (53 + k) = S at *
      have HSN := Lib.hid hsn
      have hkI : ((53 + k : Nat) : Int) ≤ 256 := by omega
      obtain ⟨z, c, rfl, hz⟩ := own_form1 HOk.out
      clear hsn hbw hbk
      go_wp2_with (first
        | (go_at_call 50; refine HTk.out.mono ?_; rintro e u1 ⟨rfl, hb1⟩; have hown := own_keep HOk.out hb1; have hbb := HBk.out.trans (hb1.mono (by have := HBk.out.size; rw [HSZ.out] at this; exact this)))
        | (at_builtin; go_must (refine wpList_push _ _ 22 9 (w0 := u) (news := [.string S]) hown hbb (by rw [HSZ.out]; exact Nat.le_refl _) Tryz.underlying22 hi hz0 hz1 hz2 rfl (by decide) rfl rfl rfl rfl rfl (by intro u hu; rw [List.mem_singleton.1 hu]; rfl) ⟨by omega, by omega⟩ ?_)))
      intro v' w1 hown1 hbel1
      rw [← HSN.out] at hown1
      go_wp2_with fail
      go_roundw
      case rel => exact ⟨k + 1, by omega, by go_num, Lib.hid hown1, Lib.hid hbel1⟩
      case measure => simp [intOf]; omega
    · obtain rfl : k = N - 53 := by omega
      have hnl : ¬ ((53 + (N - 53) : Nat) : Int) < N := by omega
      go_wp2_with fail
      go_ret
      exact ⟨_, rfl, ownsRow_base HOk.out (by rw [HB.out]; omega), hbw⟩
set_option maxRecDepth 100000 in
set_option maxHeartbeats 1000000 in
theorem refSame (va vb : Value) (x y : List ByteArray) (w : World) (ha : IsStrs w va x) (hb : IsStrs w vb y) :
    Calls Tryz.prog 22 #[va, vb] w fun e w' => e = .returned (.bool (decide (x = y))) ∧ Below w.heap.size w w' := by
  obtain ⟨a, len, cap, rfl, hlen, hc1, hc2, hbs, hat⟩ := ha
  obtain ⟨a', len', cap', rfl, hlen', hc1', hc2', hbs', hat'⟩ := hb
  have hlI : (len : Int) ≤ 9223372036854775807 := by omega
  have hlI' : (len' : Int) ≤ 9223372036854775807 := by omega
  have HA := Lib.hid hat; have HA' := Lib.hid hat'
  clear hat hat' hbs hbs'
  by_cases hll : len = len'
  · subst hll
    go_enter Tryz.func22, Tryz.ntmps22
    go_upto_region 4 with fail
    go_loopw [13] (fun z wr => ∃ k : Nat, k ≤ len ∧ z = .int .i64 k ∧ x.take k = y.take k ∧ Below w.heap.size w wr) (fun z _ => len - (intOf z).toNat)
    case atStart => exact ⟨0, by omega, rfl, rfl, Below.refl _ _⟩
    case round =>
      obtain ⟨k, hk, rfl, hpre, hbw⟩ := hrel
      by_cases hlt : k < len
      · have hkI : (k : Int) < len := by omega
        obtain ⟨b, off, rfl, hb, hat⟩ := HA.out.resolve_left (by omega)
        obtain ⟨b', off', rfl, hb', hat'⟩ := HA'.out.resolve_left (by omega)
        have x0 := (hbw.cell (p := ⟨b, off + k, none⟩) hb).trans (hat k hlt)
        have x1 := (hbw.cell (p := ⟨b', off' + k, none⟩) hb').trans (hat' k hlt)
        have hka : k < x.length := by omega
        have hkb : k < y.length := by omega
        have ea : x.getD k ByteArray.empty = x[k] := by simp [List.getD, hka]
        have eb : y.getD k ByteArray.empty = y[k] := by simp [List.getD, hkb]
        rw [ea] at x0
        rw [eb] at x1
        have hsn : x[k] = y[k] → x.take (k + 1) = y.take (k + 1) := fun h => by
          rw [← List.take_append_getElem hka, ← List.take_append_getElem hkb, hpre, h]
        have hno : x[k] ≠ y[k] → decide (x = y) = false := fun h => decide_eq_false (fun e => h (by subst e; rfl))
        have HSN := Lib.hid hsn; have HNO := Lib.hid hno
        clear hat hat' ea eb hsn hno hpre
        generalize x[k] = X at *
        generalize y[k] = Y at *
        by_cases h1 : X = Y
        · subst h1
          have HS2 := Lib.hid (HSN.out rfl)
          clear HSN HNO
          go_wp2_with fail
          go_quiet (fail)
          go_wp2_with fail
          go_roundw
          case rel => exact ⟨k + 1, by omega, by go_num, HS2.out, by first | exact hbw | exact belowN hbw _⟩
          case measure => simp [intOf]; omega
        · have h2 := ba_tne h1
          have HD := Lib.hid (HNO.out h1)
          clear HSN HNO h1
          go_wp2_with fail
          go_quiet (fail)
          go_wp2_with fail
          go_ret
          exact ⟨by rw [HD.out]; rfl, by first | exact hbw | exact belowN hbw _⟩
      · obtain rfl : k = len := by omega
        have hnl : ¬ (k : Int) < k := by omega
        have he : x = y := by rw [← List.take_of_length_le (Nat.le_of_eq hlen), hpre, List.take_of_length_le (Nat.le_of_eq hlen')]
        have HD := Lib.hid (decide_eq_true he)
        clear he hpre
        go_wp2_with fail
        go_ret
        exact ⟨by rw [HD.out]; rfl, hbw⟩
  · have hno : decide (x = y) = false := decide_eq_false (fun e => hll (by subst e; omega))
    have hne : ((len : Int) == (len' : Int)) = false := by rw [beq_eq_false_iff_ne]; omega
    rw [hno]
    clear hno
    go_enter Tryz.func22, Tryz.ntmps22
    go_wp2_with fail
    go_ret
    exact ⟨rfl, Below.refl _ _⟩
end Go.Proofs.YthnmnnlbglpjaaaGreatDoor
