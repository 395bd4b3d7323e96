/- The reference's Like; the law's few. -/
import Derived.Test.YtbndhegmfnfahaaInsnRead
import Derived.Outline
namespace Go.Proofs.Ytbndhegmfnfahaa
open Go.RowKit
set_option linter.unusedVariables false

theorem neqIns (i j : Ins) (u : World) : (binOp .neq 55 i.value j.value).run Try.prog u = .ok (.bool (decide (i ≠ j))) u := by
  obtain ⟨a, b, c, d⟩ := i
  obtain ⟨a', b', c', d'⟩ := j
  have u3 := Try.underlying3
  have u27 := Try.underlying27
  have z3 := Try.sizeOf3
  have z27 := Try.sizeOf27
  by_cases h1 : a = a' <;> by_cases h2 : b = b' <;> by_cases h3 : c = c' <;> by_cases h4 : d = d'
  all_goals
    simp only [Ins.value]
    go_simp

theorem IsInsns.take {w : World} {v : Value} {l : List Ins} (h : IsInsns w v l) : ∃ a len cap, v = .slice a len cap ∧ l.length = len ∧ len ≤ cap ∧ cap ≤ 9223372036854775807 ∧
    ∀ m, m ≤ len → IsInsns w (.slice a m cap) (l.take m) := by
  obtain ⟨a, len, cap, rfl, hlen, hc1, hc2, hbd, hat⟩ := h
  refine ⟨a, len, cap, rfl, hlen, hc1, hc2, fun m hm => ⟨a, m, cap, rfl, by rw [List.length_take]; omega, by omega, hc2, fun i hi => hbd i (List.mem_of_mem_take hi), ?_⟩⟩
  rcases hat with h0 | ⟨b, off, rfl, hb, hat⟩
  · exact .inl (by omega)
  · refine .inr ⟨b, off, rfl, hb, fun i hi => ?_⟩
    have := hat i (by omega)
    rwa [show (l.take m).getD i insZ = l.getD i insZ from by simp [List.getD, hi]]
theorem IsInsns.below {w w' : World} {v : Value} {l : List Ins} (h : IsInsns w v l) (hb : Below w.heap.size w w') : IsInsns w' v l := by
  obtain ⟨a, len, cap, rfl, hlen, hc1, hc2, hbd, hat⟩ := h
  refine ⟨a, len, cap, rfl, hlen, hc1, hc2, hbd, hat.imp id ?_⟩
  rintro ⟨b, off, rfl, hlt, hat⟩
  exact ⟨b, off, rfl, Nat.lt_of_lt_of_le hlt hb.size, fun i hi => (hat i hi).below hb hlt⟩
theorem insCells_at (l : List Ins) (i j : Nat) (hi : i < l.length) (hj : j < 4) : (insCells l)[i * 4 + j]? = (l.getD i insZ).cells[j]? := by
  induction l generalizing i with
  | nil => simp at hi
  | cons a l ih =>
    rw [insCells, List.flatMap_cons, ← insCells]
    cases i with
    | zero => rw [List.getElem?_append_left (by simp [Ins.cells]; omega)]; simp
    | succ i =>
      rw [List.getElem?_append_right (by simp [Ins.cells]; omega), show (i + 1) * 4 + j - a.cells.length = i * 4 + j from by simp [Ins.cells]; omega, ih i (by simpa using hi)]
      rfl
theorem OwnIns.reads {w : World} {base : Nat} {v : Value} {l : List Ins} (h : OwnIns w base v l) (hb : ∀ i ∈ l, i.bounded) : IsInsns w v l := by
  unfold OwnIns at h
  rcases h.2 with ⟨rfl, h0⟩ | ⟨g, cap, cur, rfl, hg, hh, hn, hc, hcs, htake⟩
  · exact ⟨none, 0, 0, rfl, h0, by omega, by omega, hb, .inl rfl⟩
  · refine ⟨_, _, cap, rfl, rfl, hn, by unfold maxLen at hc; exact hc, hb, ?_⟩
    by_cases h0 : l.length = 0
    · exact .inl h0
    · refine .inr ⟨g, 0, rfl, (h.lt g rfl).2, fun i hi => ?_⟩
      have hat : ∀ j u, j < 4 → (l.getD i insZ).cells[j]? = some u → w.cell? ⟨g, i * 4 + j, none⟩ = some u := by
        intro j u hj hu
        have := h.cells (g := g) rfl (i * 4 + j) u (by rw [insCells_at l i j hi hj]; exact hu)
        rwa [show (⟨g, 0, none⟩ : Addr).add (i * 4 + j) = ⟨g, i * 4 + j, none⟩ from by unfold Addr.add; split <;> simp_all] at this
      have h0 := hat 0 _ (by omega) rfl
      have h1 := hat 1 _ (by omega) rfl
      have h2 := hat 2 _ (by omega) rfl
      have h3 := hat 3 _ (by omega) rfl
      exact ⟨by simpa using h0, by simpa using h1, by simpa using h2, by simpa using h3⟩

theorem insEq_ext {la lb : List Ins} (h1 : la.length = lb.length) (h : ∀ j, j < la.length → la.getD j insZ = lb.getD j insZ) : la = lb := by
  apply List.ext_getElem h1
  intro j hj hj'
  have := h j hj
  simpa [List.getD, hj, hj'] using this

set_option maxRecDepth 100000 in
set_option maxHeartbeats 1000000 in
theorem refLike_any (va vb : Value) (la lb : List Ins) (w : World) (ha : IsInsns w va la) (hb : IsInsns w vb lb) :
    Calls Try.prog 54 #[va, vb] w fun e w' => e = .returned (.bool (decide (la = lb))) ∧ Below w.heap.size w w' := by
  obtain ⟨a, len, cap, rfl, hlen, hc1, hc2, _, hat⟩ := ha
  obtain ⟨a', len', cap', rfl, hlen', hc1', hc2', _, hat'⟩ := hb
  have hlI : (len : Int) ≤ 9223372036854775807 := by omega
  have hlI' : (len' : Int) ≤ 9223372036854775807 := by omega
  by_cases hl : len = len'
  · subst hl
    have HX := Lib.hid (fun (h : ∀ j, j < len → la.getD j insZ = lb.getD j insZ) => insEq_ext (la := la) (lb := lb) (by omega) (fun j hj => h j (by omega)))
    have HA := Lib.hid hat; have HA' := Lib.hid hat'
    clear hat hat' hlen hlen'
    go_enter Try.func54, Try.ntmps54
    go_wp2_with fail
    go_loopw [13] (fun c wr => ∃ k : Nat, k ≤ len ∧ c = .int .i64 k ∧ (∀ j, j < k → la.getD j insZ = lb.getD j insZ) ∧ Below w.heap.size w wr) (fun c _ => len - (intOf c).toNat)
    case atStart => exact ⟨0, by omega, rfl, fun j hj => by omega, Below.refl _ _⟩
    case round =>
      obtain ⟨k, hk, rfl, heq, hwr⟩ := hrel
      have HQ := Lib.hid heq
      clear heq
      by_cases hlt : k < len
      · obtain ⟨b, off, rfl, hbl, hat⟩ := HA.out.resolve_left (by omega)
        obtain ⟨b', off', rfl, hbl', hat'⟩ := HA'.out.resolve_left (by omega)
        have hi := (hat k hlt).below hwr hbl
        have hi' := (hat' k hlt).below hwr hbl'
        clear hat hat'
        have hk0 : (0 : Int) ≤ k := by omega
        have hk1 : (k : Int) < len := by omega
        have hne := fun u => neqIns (la.getD k insZ) (lb.getD k insZ) u
        by_cases hxy : la.getD k insZ = lb.getD k insZ
        · rw [← hxy] at hi' hne
          have HXY := Lib.hid hxy
          clear hxy
          obtain ⟨x, ex⟩ : ∃ x, x = la.getD k insZ := ⟨_, rfl⟩
          rw [← ex] at hi hi' hne
          clear ex
          obtain ⟨xc, xt, xf, xk⟩ := x
          simp only [Ins.value, ne_eq, not_true_eq_false, decide_false] at hne
          obtain ⟨c0, c1, c2, c3⟩ := hi
          obtain ⟨d0, d1, d2, d3⟩ := hi'
          dsimp only at c0 c1 c2 c3 d0 d1 d2 d3
          go_wp2_with fail
          go_quiet (fail)
          go_wp2_with fail
          go_roundw
          case rel =>
            refine ⟨k + 1, by omega, by go_num, fun j hj => ?_, by first | exact hwr | exact belowN hwr _⟩
            by_cases hjk : j < k
            · exact HQ.out j hjk
            · obtain rfl : j = k := by omega
              exact HXY.out
          case measure => simp [intOf]; omega
        · have hd : decide (la = lb) = false := decide_eq_false (fun h => hxy (by rw [h]))
          have HD := Lib.hid hd
          rw [decide_eq_true (show la.getD k insZ ≠ lb.getD k insZ from hxy)] at hne
          clear hxy hd
          generalize la.getD k insZ = x at *
          generalize lb.getD k insZ = y at *
          obtain ⟨xc, xt, xf, xk⟩ := x
          obtain ⟨yc, yt, yf, yk⟩ := y
          simp only [Ins.value] at hne
          obtain ⟨c0, c1, c2, c3⟩ := hi
          obtain ⟨d0, d1, d2, d3⟩ := hi'
          dsimp only at c0 c1 c2 c3 d0 d1 d2 d3
          go_wp2_with fail
          go_quiet (fail)
          go_wp2_with fail
          go_ret
          exact ⟨by rw [HD.out]; rfl, by first | exact hwr | exact belowN hwr _⟩
      · obtain rfl : k = len := by omega
        have hd : decide (la = lb) = true := decide_eq_true (HX.out HQ.out)
        have HD := Lib.hid hd
        clear hd
        go_wp2_with fail
        go_ret
        exact ⟨by rw [HD.out]; rfl, hwr⟩
  · have hd : decide (la = lb) = false := decide_eq_false (fun h => hl (by rw [h] at hlen; omega))
    have hlb : ((len : Int) != len') = true := by rw [bne_iff_ne]; omega
    have HD := Lib.hid hd
    clear hd hat hat' hlen hlen' hl
    go_enter Try.func54, Try.ntmps54
    go_wp2_with fail
    go_ret
    exact ⟨by rw [HD.out]; rfl, Below.refl _ _⟩

end Go.Proofs.Ytbndhegmfnfahaa
