/- Rows of instructions that are alike. -/
import Derived.Test.YtnlmdajoifjddaaInsOwn
namespace Go.Proofs.Ytnlmdajoifjddaa
open Go.ChangeShapes Go.WideShapes Go.ChangeAt Go.RowKit Go.Joins Go.Deep
set_option linter.unusedVariables false

theorem neqIns (i j : Ins) (u : World) : (binOp .neq 44 i.value j.value).run Try.prog u = .ok (.bool (decide (i ≠ j))) u := by
  obtain ⟨a, b, c, d⟩ := i
  obtain ⟨a', b', c', d'⟩ := j
  have u3 := Try.underlying3
  have u27 := Try.underlying30
  have z3 := Try.sizeOf3
  have z27 := Try.sizeOf30
  by_cases h1 : a = a' <;> by_cases h2 : b = b' <;> by_cases h3 : c = c' <;> by_cases h4 : d = d'
  all_goals
    simp only [Ins.value]
    go_simp

theorem insEq_ext {la lb : List Ins} (h1 : la.length = lb.length) (h : ∀ j, j < la.length → la.getD j insZ = lb.getD j insZ) : la = lb := by
  apply List.ext_getElem h1
  intro j hj hj'
  have := h j hj
  simpa [List.getD, hj, hj'] using this

set_option maxRecDepth 100000 in
set_option maxHeartbeats 1000000 in
theorem refLike_any (va vb : Value) (la lb : List Ins) (w : World) (ha : IsInsns w va la) (hb : IsInsns w vb lb) :
    Calls Try.prog 14 #[va, vb] w fun e w' => e = .returned (.bool (decide (la = lb))) ∧ Below w.heap.size w w' := by
  obtain ⟨a, len, cap, rfl, hlen, hc1, hc2, _, hat⟩ := ha
  obtain ⟨a', len', cap', rfl, hlen', hc1', hc2', _, hat'⟩ := hb
  have hlI : (len : Int) ≤ 9223372036854775807 := by omega
  have hlI' : (len' : Int) ≤ 9223372036854775807 := by omega
  by_cases hl : len = len'
  · subst hl
    have HX := Lib.hid (fun (h : ∀ j, j < len → la.getD j insZ = lb.getD j insZ) => insEq_ext (la := la) (lb := lb) (by omega) (fun j hj => h j (by omega)))
    have HA := Lib.hid hat; have HA' := Lib.hid hat'
    clear hat hat' hlen hlen'
    go_enter Try.func14, Try.ntmps14
    go_wp2_with fail
    go_loopw [13] (fun c wr => ∃ k : Nat, k ≤ len ∧ c = .int .i64 k ∧ (∀ j, j < k → la.getD j insZ = lb.getD j insZ) ∧ Below w.heap.size w wr) (fun c _ => len - (intOf c).toNat)
    case atStart => exact ⟨0, by omega, rfl, fun j hj => by omega, Below.refl _ _⟩
    case round =>
      obtain ⟨k, hk, rfl, heq, hwr⟩ := hrel
      have HQ := Lib.hid heq
      clear heq
      by_cases hlt : k < len
      · obtain ⟨b, off, rfl, hbl, hat⟩ := HA.out.resolve_left (by omega)
        obtain ⟨b', off', rfl, hbl', hat'⟩ := HA'.out.resolve_left (by omega)
        have hi := (hat k hlt).below hwr hbl
        have hi' := (hat' k hlt).below hwr hbl'
        clear hat hat'
        have hk0 : (0 : Int) ≤ k := by omega
        have hk1 : (k : Int) < len := by omega
        have hne := fun u => neqIns (la.getD k insZ) (lb.getD k insZ) u
        by_cases hxy : la.getD k insZ = lb.getD k insZ
        · rw [← hxy] at hi' hne
          have HXY := Lib.hid hxy
          clear hxy
          obtain ⟨x, ex⟩ : ∃ x, x = la.getD k insZ := ⟨_, rfl⟩
          rw [← ex] at hi hi' hne
          clear ex
          obtain ⟨xc, xt, xf, xk⟩ := x
          simp only [Ins.value, ne_eq, not_true_eq_false, decide_false] at hne
          obtain ⟨c0, c1, c2, c3⟩ := hi
          obtain ⟨d0, d1, d2, d3⟩ := hi'
          dsimp only at c0 c1 c2 c3 d0 d1 d2 d3
          go_wp2_with fail
          go_quiet (fail)
          go_wp2_with fail
          go_roundw
          case rel =>
            refine ⟨k + 1, by omega, by go_num, fun j hj => ?_, by first | exact hwr | exact belowN hwr _⟩
            by_cases hjk : j < k
            · exact HQ.out j hjk
            · obtain rfl : j = k := by omega
              exact HXY.out
          case measure => simp [intOf]; omega
        · have hd : decide (la = lb) = false := decide_eq_false (fun h => hxy (by rw [h]))
          have HD := Lib.hid hd
          rw [decide_eq_true (show la.getD k insZ ≠ lb.getD k insZ from hxy)] at hne
          clear hxy hd
          generalize la.getD k insZ = x at *
          generalize lb.getD k insZ = y at *
          obtain ⟨xc, xt, xf, xk⟩ := x
          obtain ⟨yc, yt, yf, yk⟩ := y
          simp only [Ins.value] at hne
          obtain ⟨c0, c1, c2, c3⟩ := hi
          obtain ⟨d0, d1, d2, d3⟩ := hi'
          dsimp only at c0 c1 c2 c3 d0 d1 d2 d3
          go_wp2_with fail
          go_quiet (fail)
          go_wp2_with fail
          go_ret
          exact ⟨by rw [HD.out]; rfl, by first | exact hwr | exact belowN hwr _⟩
      · obtain rfl : k = len := by omega
        have hd : decide (la = lb) = true := decide_eq_true (HX.out HQ.out)
        have HD := Lib.hid hd
        clear hd
        go_wp2_with fail
        go_ret
        exact ⟨by rw [HD.out]; rfl, hwr⟩
  · have hd : decide (la = lb) = false := decide_eq_false (fun h => hl (by rw [h] at hlen; omega))
    have hlb : ((len : Int) != len') = true := by rw [bne_iff_ne]; omega
    have HD := Lib.hid hd
    clear hd hat hat' hlen hlen' hl
    go_enter Try.func14, Try.ntmps14
    go_wp2_with fail
    go_ret
    exact ⟨by rw [HD.out]; rfl, Below.refl _ _⟩

end Go.Proofs.Ytnlmdajoifjddaa
