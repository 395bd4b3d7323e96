/- Whether a number stands in a row of numbers. -/
import Derived.Test.YtgcngmlndijppaaTyp
namespace Go.Proofs.Ytgcngmlndijppaa
open Go.RowKit Go.ChangeShapes
set_option linter.unusedVariables false

theorem getD_at (l : List Nat) (j : Nat) (h : j < l.length) : l.getD j 0 = l[j] := by simp [List.getD, h]
set_option maxRecDepth 100000 in
theorem u32Contains (w : World) (A : Option Addr) (m c : Nat) (l : List Nat) (n : Nat) (h : IsU32s w (.slice A m c) l) :
    Calls Try.prog 30 #[.slice A m c, .int .u32 (n : Nat)] w fun e w' => e = .returned (.bool (l.contains n)) ∧ Below w.heap.size w w' := by
  obtain ⟨_, _, _, hv, h1, h2, h3, h4, h5, h6⟩ := h
  injection hv with e1 e2 e3
  subst e1 e2 e3
  have hI : Calls Try.prog 46 #[.slice A m c, .int .u32 (n : Nat)] w fun e w' => (∃ z : Int, e = .returned (.int .i64 z) ∧ decide (0 ≤ z) = l.contains n) ∧ Below w.heap.size w w' := by
    have hmI : (m : Int) ≤ 9223372036854775807 := by omega
    have hat : ∀ j, j < m → ∃ b off, A = some ⟨b, off, none⟩ ∧ ∀ u, Below w.heap.size w u → u.cell? ⟨b, off + j, none⟩ = some (.int .u32 (l.getD j 0 : Nat)) := fun j hj => by
      obtain ⟨b, off, rfl, hlt, hat⟩ := h6.resolve_left (by omega)
      exact ⟨b, off, rfl, fun u hu => (hu.cell (p := ⟨b, off + j, none⟩) hlt).trans (hat j hj)⟩
    have hin : ∀ j, j < m → l.getD j 0 = n → l.contains n = true := fun j hj e => by
      rw [List.contains_iff_mem, ← e, getD_at _ _ (by omega)]
      exact List.getElem_mem _
    have hout : (∀ j, j < m → l.getD j 0 ≠ n) → l.contains n = false := fun h => by
      rw [Bool.eq_false_iff, ne_eq, List.contains_iff_mem]
      intro hm
      obtain ⟨j, hj, e⟩ := List.mem_iff_getElem.1 hm
      exact h j (by omega) (by rw [getD_at _ _ hj]; exact e)
    have HAT := Lib.hid hat; have HIN := Lib.hid hin; have HOUT := Lib.hid hout
    clear hat hin hout h1 h2 h3 h4 h5 h6
    go_enter Try.func46, Try.ntmps46
    go_wp2_with fail
    go_loopw [8] (fun z wr => ∃ j : Nat, z = .int .i64 (j : Nat) ∧ j ≤ m ∧ (∀ i, i < j → l.getD i 0 ≠ n) ∧ Below w.heap.size w wr) (fun z _ => m - (intOf z).toNat)
    case atStart => exact ⟨0, rfl, by omega, fun i hi => absurd hi (Nat.not_lt_zero i), Below.refl _ _⟩
    case round =>
      obtain ⟨j, rfl, hj, hno, hwr⟩ := hrel
      have HNO := Lib.hid hno; have HWR := Lib.hid hwr
      clear hno hwr
      by_cases hlt : j < m
      · obtain ⟨b, off, rfl, hc⟩ := HAT.out j hlt
        have hcell := hc wr HWR.out
        have hjI : (j : Int) < m := by omega
        clear hc
        by_cases hx : l.getD j 0 = n
        · have hy := HIN.out j hlt hx
          have HY := Lib.hid hy
          rw [hx] at hcell
          clear hx hy HIN HOUT HAT
          go_wp2_with fail
          go_ret
          exact ⟨⟨_, rfl, by rw [HY.out]; simp⟩, HWR.out⟩
        · have hne : ((n : Int) == ((l.getD j 0 : Nat) : Int)) = false := by rw [beq_eq_false_iff_ne]; omega
          have HNE := Lib.hid hx
          generalize hgx : l.getD j 0 = x at *
          have HGX := Lib.hid hgx
          clear hx hgx
          go_wp2_with fail
          go_roundw
          case rel => exact ⟨j + 1, by go_num, by omega, fun i hi => by
            by_cases e : i < j
            · exact HNO.out i e
            · obtain rfl : i = j := by omega
              rw [HGX.out]; exact HNE.out, HWR.out⟩
          case measure => simp [intOf]; omega
      · obtain rfl : j = m := by omega
        have hy := HOUT.out HNO.out
        have HY := Lib.hid hy
        clear hy HIN HOUT HAT HNO
        go_wp2_with fail
        go_ret
        exact ⟨⟨_, rfl, by rw [HY.out]; rfl⟩, HWR.out⟩
  have HI := Lib.hid hI
  clear hI h1 h2 h3 h4 h5 h6
  go_enter Try.func30, Try.ntmps30
  go_wp2_with fail
  refine HI.out.mono ?_
  rintro e w2 ⟨⟨z, rfl, hz⟩, hb2⟩
  have HB2 := Lib.hid hb2; have HZ := Lib.hid hz
  clear hb2 hz HI
  go_wp2_with fail
  go_ret
  exact ⟨by rw [← HZ.out]; rfl, HB2.out⟩
end Go.Proofs.Ytgcngmlndijppaa
