/- The rows of both sides; doorwardref12.Like. -/
import Derived.Test.YtpdfahlglalebaaCk5
namespace Go.Proofs.Ytpdfahlglalebaa
open Go.RowKit Go.ChangeShapes
set_option linter.unusedVariables false

theorem js_rows {l : List Ins} {w : World} {gA gR : Nat} (h : JS w gA gR l.length (joinS l l.length)) (haw : allWell l) (hb : ∀ i ∈ l, i.bounded) : IsRows w (.slice (some ⟨gR, 0, none⟩) l.length l.length) (rowsL l) := by
  have J := joined haw.2.1 hb haw.2.2 l.length (Nat.le_refl _)
  obtain ⟨cs, h1, h2, h3⟩ := h.r
  obtain ⟨ca, a1, a2, _, a3⟩ := h.a
  refine ⟨_, l.length, l.length, rfl, by rw [rowsL, List.length_map, List.length_range], Nat.le_refl _, by have := haw.2.1; omega, .inr ⟨gR, 0, rfl, lt_of_block h1, fun i hi => ⟨_, by rw [Nat.zero_add]; exact h.row i hi, ?_⟩⟩⟩
  rw [rowsL_at l i hi]
  have hself : ∀ cell, pB l l.length cell i ↔ rch l cell i = true := fun cell => pB_self haw.2.1 hb haw.2.2 (Nat.le_refl _) (by omega)
  unfold rowA
  cases hs : joinS l l.length i with
  | none =>
    have hn := (J.none i).1 hs
    rw [hself] at hn
    rw [if_neg hn]
    exact ⟨none, 0, 0, rfl, rfl, Nat.le_refl _, by omega, .inl rfl⟩
  | some o =>
    have h16 : rch l 16 i = true := by
      rw [← hself]
      refine Classical.byContradiction fun hn => ?_
      have := (J.none i).2 hn
      rw [this] at hs
      cases hs
    rw [if_pos h16]
    refine ⟨_, 16, 16, rfl, rowK_len l i 16, Nat.le_refl _, by omega, .inr ⟨gA, 16 * i, ca.toArray, _, rfl, a1, fun j hj => ?_⟩⟩
    rw [List.getElem?_toArray, a3 i j hi hj, hs]
    have hbit := J.bit i o j hs hj
    rw [hself] at hbit
    have h4 : (rowK l i 16).getD j false = !rch l j i := by simp [rowK, List.getD, hj]
    rw [h4]
    show some (Value.bool (o j)) = _
    have : o j = !rch l j i := by
      cases ho : o j with
      | false => rw [hbit.1 ho]; rfl
      | true =>
        cases hr : rch l j i with
        | false => rfl
        | true => rw [hbit.2 hr] at ho; cases ho
    rw [this]
theorem rowsL_le (l : List Ins) : ∀ r ∈ rowsL l, r.length ≤ 16 := by
  intro r hr
  obtain ⟨k, _, rfl⟩ := List.mem_map.1 hr
  unfold rowA
  split
  · rw [rowK_len]; exact Nat.le_refl _
  · exact Nat.zero_le _
set_option maxRecDepth 100000 in
set_option maxHeartbeats 4000000 in
theorem ck_like (rows : List (List Bool)) (va vb : Value) (w : World) (ha : IsRows w va rows) (hb : IsRows w vb rows) (hN : rows.length ≤ 5000) (hr : ∀ r ∈ rows, r.length ≤ 16) :
    Calls Try.prog 13 #[va, vb] w fun e w' => e = .returned (.bool true) ∧ Below w.heap.size w w' := by
  have HA := Lib.hid ha; have HB := Lib.hid hb
  obtain ⟨a, n, cap, rfl, hl, _⟩ := ha
  obtain ⟨a', n', cap', rfl, hl', _⟩ := hb
  have hnn : n = n' := by omega
  subst hnn
  have hnI : (n : Int) ≤ 5000 := by omega
  have HL := Lib.hid hl; have HR := Lib.hid hr
  clear hl hl' hr hN
  go_enter Try.func13, Try.ntmps13
  go_wp2_with fail
  go_loopw [14] (fun z wr => ∃ i : Nat, i ≤ n ∧ z = .int .i64 i ∧ Hid (Below w.heap.size w wr)) (fun z _ => n - (intOf z).toNat)
  case atStart => exact ⟨0, Nat.zero_le _, rfl, Lib.hid (Below.refl _ _)⟩
  case round =>
    obtain ⟨i, hin, rfl, HW⟩ := hrel
    by_cases hlt : i < n
    · have hltI : (i : Int) < n := by omega
      obtain ⟨b, off, r, rfl, hblt, hc, hrow⟩ := (HA.out.below HW.out).at hlt
      obtain ⟨b', off', r', rfl, hblt', hc', hrow'⟩ := (HB.out.below HW.out).at hlt
      have h16 : (rows.getD i []).length ≤ 16 := HR.out _ (by
        have := HL.out
        rw [List.getD_eq_getElem?_getD, List.getElem?_eq_getElem (by omega)]
        exact List.getElem_mem _)
      generalize rows.getD i [] = bs at *
      obtain ⟨ra, m, rc, rfl, hm, _⟩ := id hrow
      obtain ⟨ra', m', rc', rfl, hm', _⟩ := id hrow'
      have hmm : m = m' := by omega
      subst hmm
      have hmI : (m : Int) ≤ 16 := by omega
      have HRW := Lib.hid hrow; have HRW' := Lib.hid hrow'; have HC := Lib.hid hc; have HC' := Lib.hid hc'
      clear hrow hrow' hm hm' h16
      go_wp2_with fail
      go_quiet (fail)
      generalize hwn : wr.drewN nq = wd
      have hbd : Below wr.heap.size wr wd := by rw [← hwn]; exact belowN (Below.refl _ _) _
      have HBD := Lib.hid hbd
      clear hwn hbd hc hc'
      have hc := (HBD.out.cell (p := ⟨b, off + i, none⟩) hblt).trans HC.out
      have hc' := (HBD.out.cell (p := ⟨b', off' + i, none⟩) hblt').trans HC'.out
      go_wp2_with fail
      generalize hwo : wr = wo at *
      clear hwo
      go_loopw [33] (fun z wr => ∃ k : Nat, k ≤ m ∧ z = .int .i64 k ∧ Hid (Below wd.heap.size wd wr)) (fun z _ => m - (intOf z).toNat)
      case atStart => exact ⟨0, Nat.zero_le _, rfl, Lib.hid (Below.refl _ _)⟩
      case round =>
        clear hc hc'
        obtain ⟨k, hkm, rfl, HK⟩ := hrel
        have hbk := HBD.out.trans (HK.out.mono HBD.out.size)
        have hc := (hbk.cell (p := ⟨b, off + i, none⟩) hblt).trans HC.out
        have hc' := (hbk.cell (p := ⟨b', off' + i, none⟩) hblt').trans HC'.out
        by_cases hk : k < m
        · have hkI : (k : Int) < m := by omega
          obtain ⟨b2, o2, rfl, hbit⟩ := (HRW.out.keep (KeepB.below hbk)).cell hk
          obtain ⟨b2', o2', rfl, hbit'⟩ := (HRW'.out.keep (KeepB.below hbk)).cell hk
          generalize bs.getD k false = bit at *
          have hne : (bit != bit) = false := by simp
          clear hbk
          go_wp2_with fail
          go_quiet (fail)
          go_wp2_with fail
          go_roundw
          case rel => exact ⟨k + 1, by omega, by go_num, Lib.hid (by first | exact HK.out | exact belowN HK.out _)⟩
          case measure => simp [intOf]; omega
        · obtain rfl : k = m := by omega
          have hnl : ¬ (k : Int) < k := by omega
          have HWN := Lib.hid (HW.out.trans (hbk.mono HW.out.size))
          clear hbk
          go_wp2_with fail
          go_roundw
          case rel => exact ⟨i + 1, by omega, by go_num, HWN⟩
          case measure => simp [intOf]; omega
    · obtain rfl : i = n := by omega
      have hnl : ¬ (i : Int) < i := by omega
      go_wp2_with fail
      go_ret
      exact ⟨rfl, HW.out⟩
end Go.Proofs.Ytpdfahlglalebaa
