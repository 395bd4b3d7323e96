/- The reference's All. -/
import Derived.Test.YtbndhegmfnfahaaInsnMath
import Derived.Test.YtbndhegmfnfahaaRef10
namespace Go.Proofs.Ytbndhegmfnfahaa
open Go.RowKit
set_option linter.unusedVariables false

set_option maxRecDepth 100000 in
set_option maxHeartbeats 1000000 in
theorem refAll_few (l : List Ins) (v : Value) (w : World) (hv : IsInsns w v l) (hl : l.length ≤ 4096) :
    Calls Try.prog 51 #[v] w fun e w' => e = .returned (.tuple #[.string (insAllS l), .int .i64 (insAllE l)]) ∧ Below w.heap.size w w' := by
  obtain ⟨a, len, cap, rfl, hlen, hc1, hc2, hbd, hat⟩ := hv
  have hl2 : len ≤ 4096 := by omega
  have hl3 : (len : Int) ≤ 4096 := by omega
  have hat' : len = 0 ∨ ∃ b off, a = some ⟨b, off, none⟩ ∧ b < w.heap.size ∧ ∀ i, i < len → InsAt w b (off + i * 4) (l.getD i insZ) := hat
  have HAT := Lib.hid hat'
  have HLEN := Lib.hid hlen
  have HBD := Lib.hid (fun i (hi : i < len) => hbd _ (getD_mem l i (by omega)))
  have hE : insAllE l = if allFit l then 0 else 1 := by unfold insAllE; rw [if_neg (by omega)]
  have HE := Lib.hid hE
  clear hat hat' hlen hbd hE hl
  go_enter Try.func51, Try.ntmps51
  go_wp2_with fail
  go_loopw [4, 14] (fun t c wr => ∃ k : Nat, k ≤ len ∧ c = .int .i64 k ∧ allFit (l.take k) ∧ t = .string (allB (l.take k)) ∧ Below w.heap.size w wr) (fun _ c _ => len - (intOf c).toNat)
  case atStart => exact ⟨0, by omega, rfl, by simp [allFit], rfl, Below.refl _ _⟩
  case round =>
    obtain ⟨k, hk, rfl, hfit, rfl, hwr⟩ := hrel
    by_cases hlt : k < len
    · have hat := HAT.out.resolve_left (by omega)
      obtain ⟨b, off, rfl, hb, hat⟩ := hat
      have hin := (hat k hlt).below hwr hb
      have hbd := HBD.out k hlt
      obtain ⟨x, ex⟩ : ∃ x, x = l.getD k insZ := ⟨_, rfl⟩
      rw [← ex] at hin hbd
      obtain ⟨c0, c1, c2, c3⟩ := hin
      have HP := Lib.hid (fun u => refPut_any x u hbd)
      have HX := Lib.hid ex
      have HF := Lib.hid hfit
      clear ex hfit hat hbd
      obtain ⟨xc, xt, xf, xk⟩ := x
      simp only [Ins.value] at HP
      dsimp only at c0 c1 c2 c3
      go_wp2_with fail
      refine (HP.out _).mono ?_
      rintro e w1 ⟨rfl, hb1⟩
      have hw1 : Below w.heap.size w w1 := (hwr.alloc hwr.size _).trans (hb1.mono (by have := hwr.size; simp; omega))
      clear hb1 c0 c1 c2 c3 hwr
      have hsz := HX.out
      by_cases hx : Ins.fits ⟨xc, xt, xf, xk⟩
      · have e1 : insPutS ⟨xc, xt, xf, xk⟩ = Ins.bytes ⟨xc, xt, xf, xk⟩ := by unfold insPutS; rw [if_pos hx]
        have e2 : insPutE ⟨xc, xt, xf, xk⟩ = 0 := by unfold insPutE; rw [if_pos hx]
        rw [e1, e2]
        clear e1 e2 hsz
        have HFX := Lib.hid hx
        clear hx
        have hz := Ins.bytes_size ⟨xc, xt, xf, xk⟩
        have HZ := Lib.hid hz
        clear hz
        have hsn : allB (l.take (k + 1)) = allB (l.take k) ++ Ins.bytes ⟨xc, xt, xf, xk⟩ := by
          apply ba_ext
          rw [ba_append_list, allB_list, allB_list, allL_snoc l k (by have := HLEN.out; omega), ← HX.out]
        have hadd := fun u => add_run (P := Try.prog) (allB (l.take k)) (Ins.bytes ⟨xc, xt, xf, xk⟩) _ hsn (by rw [allB_size, HZ.out]; have : (l.take k).length ≤ k := List.length_take_le _ _; omega) u
        have HSN := Lib.hid hsn
        clear hsn
        go_wp2_with fail
        go_roundw
        case rel =>
          refine ⟨k + 1, by omega, by go_num, ?_, rfl, hw1⟩
          intro i hi
          rw [← List.take_append_getElem (by have := HLEN.out; omega), List.mem_append, List.mem_singleton] at hi
          rcases hi with hi | rfl
          · exact HF.out i hi
          · have := HFX.out
            rw [HX.out] at this
            rwa [show l.getD k insZ = l[k]'(by have := HLEN.out; omega) from by simp [List.getD, show k < l.length by have := HLEN.out; omega]] at this
        case measure => simp [intOf]; omega
      · have e1 : insPutS ⟨xc, xt, xf, xk⟩ = ⟨#[]⟩ := by unfold insPutS; rw [if_neg hx]
        have e2 : insPutE ⟨xc, xt, xf, xk⟩ = 1 := by unfold insPutE; rw [if_neg hx]
        have e3 : ¬ allFit l := fun h => hx (by rw [hsz]; exact h _ (getD_mem l k (by have := HLEN.out; omega)))
        have e4 : insAllE l = 1 := by rw [HE.out, if_neg e3]
        have HE4 := Lib.hid e4
        rw [e1, e2]
        clear e1 e2 e3 e4 hsz hx
        go_wp2_with fail
        go_ret2
        refine ⟨?_, hw1⟩
        unfold insAllS
        rw [HE4.out]
        rfl
    · obtain rfl : k = len := by omega
      have hall : l.take k = l := List.take_of_length_le (by have := HLEN.out; omega)
      rw [hall] at hfit ⊢
      have e4 : insAllE l = 0 := by rw [HE.out, if_pos hfit]
      have HE4 := Lib.hid e4
      clear e4 hall hfit HAT
      go_wp2_with fail
      go_ret2
      refine ⟨?_, hwr⟩
      unfold insAllS
      rw [HE4.out]
      rfl

theorem refAll_any (l : List Ins) (v : Value) (w : World) (hv : IsInsns w v l) :
    Calls Try.prog 51 #[v] w fun e w' => e = .returned (.tuple #[.string (insAllS l), .int .i64 (insAllE l)]) ∧ Below w.heap.size w w' := by
  by_cases hl : l.length ≤ 4096
  · exact refAll_few l v w hv hl
  · obtain ⟨a, len, cap, rfl, hlen, hc1, hc2, hbd, hat⟩ := hv
    have e1 : insAllE l = 2 := by unfold insAllE; rw [if_pos (by omega)]
    have e2 : insAllS l = ⟨#[]⟩ := by unfold insAllS; rw [e1]; rfl
    rw [e1, e2]
    have hgt : (4096 : Int) < len := by omega
    clear e1 e2 hat hbd hlen hl
    go_enter Try.func51, Try.ntmps51
    go_wp2_with fail
    go_ret2
    exact ⟨rfl, Below.refl _ _⟩
end Go.Proofs.Ytbndhegmfnfahaa
