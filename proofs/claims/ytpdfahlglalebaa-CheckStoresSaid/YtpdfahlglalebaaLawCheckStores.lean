/- The walk of CheckStores. -/
import Derived.Test.YtpdfahlglalebaaChkL
import Derived.Test.YtpdfahlglalebaaChkP
namespace Go.Proofs.Ytpdfahlglalebaa.lawCheckStores
open Go.ChangeShapes Go.WideShapes Go.ChangeAt Go.RowKit Go.Joins Go.Deep
set_option linter.unusedVariables false

theorem openInsns {H : Type} {enc : TypeId × Value → H} {W : World} {base : Nat} {v : Value} {d : DataW H} {p : List MemPlace}
    (hok : Value.okWide Try.prog W .any base 22 v) (h : DataW.Trod enc Try.prog W 0 (fun _ => true) true 22 v d p) : ∃ l, IsIns W v l := openIns hok h
theorem take_st (j : Nat) (h : j < 16) : insCells (st16.take j) ++ [.int .i64 2, .int .i64 0, .int .i64 0, .int .u32 (j : Int)] = insCells (st16.take (j + 1)) := by
  rw [List.take_succ_eq_append_getElem (by rw [st16_len]; exact h), insCells, insCells, List.flatMap_append]
  have : st16[j]'(by rw [st16_len]; exact h) = ⟨2, 0, 0, (j : Int)⟩ := by simp [st16]
  rw [this]
  rfl
set_option maxRecDepth 100000 in
set_option maxHeartbeats 2000000 in
theorem walk (v0 : Value) (l0 : List Ins) (w : World) (w0 : IsIns w v0 l0) :
    Calls Try.prog 6 #[v0] w fun e w' => e = .returned (.bool true) ∧ Below w.heap.size w w' := by
  obtain ⟨i0, hinf, hz0, hz1, hz2⟩ := info_parts infoInsn
  obtain ⟨a, len, cap, rfl, hlen, hc1, hc2, htk⟩ := w0.1.take
  obtain ⟨n, hn, hn1, hn2, hn3⟩ := min_if len 60 (by omega)
  have hmi : min (len : Int) 60 = n := by omega
  have hl := htk n hn1
  have hll : (l0.take n).length = n := by rw [List.length_take]; omega
  have hcl := fun u (hu : Below w.heap.size w u) => cells_of (w0.below hu) n hn1
  generalize l0.take n = l at *
  have hb : ∀ i ∈ l, i.bounded := by obtain ⟨_, _, _, _, _, _, _, hb, _⟩ := hl; exact hb
  have hnI : (n : Int) ≤ 60 := by omega
  have hncI : (n : Int) ≤ cap := by omega
  have hcI : (cap : Int) ≤ 9223372036854775807 := by omega
  have hC := fun l' v' u hu => chkCheck_any l' v' u hu
  have hCE := fun u hu => chkCells_any l (.slice a n cap) u hu
  have HL := Lib.hid hl; have HC := Lib.hid hC; have HCE := Lib.hid hCE; have HB := Lib.hid hb; have HLL := Lib.hid hll; have HCL := Lib.hid hcl
  clear htk w0 hlen hl hC hCE hb hll hcl hn3
  go_enter Try.func6, Try.ntmps6
  go_wp2_with fail
  refine (HCE.out _ HL.out).mono ?_
  rintro e w2 ⟨hcell, hb2⟩
  have HW2 := Lib.hid hb2
  clear hb2
  obtain ⟨v, E, rfl, hE⟩ : ∃ v E, e = .returned (.tuple #[v, .int .i64 E]) ∧ ((E == 0) = true ↔ allWell l) := by
    rcases hcell with ⟨h1, gA, gR, rfl, _⟩ | ⟨h1, x, y, _, hy, rfl⟩
    · exact ⟨_, 0, rfl, ⟨fun _ => h1, fun _ => rfl⟩⟩
    · exact ⟨_, y, rfl, ⟨fun h => absurd (beq_iff_eq.1 h) hy, fun h => absurd h h1⟩⟩
  have HE := Lib.hid hE
  clear hcell hE
  go_wp2_with fail
  go_loopw [21, 5] (fun z s wr => ∃ j : Nat, z = .int .i64 j ∧ j ≤ 16 ∧ OwnIns wr w.heap.size s (st16.take j) ∧ Below w.heap.size w wr) (fun z _ _ => 16 - (intOf z).toNat)
  case atStart => exact ⟨0, rfl, by omega, World.ownsRow_nil _ _ _ _, HW2.out⟩
  case round =>
    obtain ⟨j, rfl, hj, hown, hwr⟩ := hrel
    by_cases hlt : j < 16
    · have hjI : (j : Int) ≤ 15 := by omega
      have hjw : IntKind.u32.wrap (j : Int) = j := by simp [IntKind.wrap, IntKind.signed, IntKind.bits]; omega
      have htl : (st16.take j).length = j := by rw [List.length_take, st16_len]; omega
      have hown2 : wr.ownsRow w.heap.size 38 4 u5 j (insCells (st16.take j)) := by unfold OwnIns at hown; rwa [htl] at hown
      have HO := Lib.hid hown2; have HW := Lib.hid hwr
      clear hown hown2 hwr htl
      go_wp2_with (first | (at_builtin; go_must (refine wpList_push _ _ 22 38 (news := [.int .i64 2, .int .i64 0, .int .i64 0, .int .u32 (j : Int)]) HO.out HW.out (Nat.le_refl _) Try.underlying22 hinf hz0 hz1 hz2 rfl (by decide) rfl rfl rfl rfl rfl (by simp [Value.oneCell']) ?c3 ?_)))
      case c3 => omega
      intro v5 w5 hown5 hb5
      rw [take_st j hlt] at hown5
      have hO5 : OwnIns w5 w.heap.size v5 (st16.take (j + 1)) := by
        unfold OwnIns
        rw [show (st16.take (j + 1)).length = j + 1 from by rw [List.length_take, st16_len]; omega]
        exact hown5
      have HO5 := Lib.hid hO5; have HB5 := Lib.hid hb5
      clear hown5 hO5 hb5 HO HW
      go_wp2_with fail
      go_roundw
      case rel => exact ⟨j + 1, by go_num, by omega, HO5.out, HB5.out⟩
      case measure => simp [intOf]; omega
    · obtain rfl : j = 16 := by omega
      rw [show st16.take 16 = st16 from rfl] at hown
      have hown2 : wr.ownsRow w.heap.size 38 4 u5 16 (insCells st16) := hown
      have hcA := HCL.out _ hwr
      have hlen1 : (insCells l).length = n * 4 := by rw [insCells_len, HLL.out]
      have HLN := Lib.hid hlen1; have HO := Lib.hid hown2; have HCA := Lib.hid hcA; have HW := Lib.hid hwr
      rw [show ((16 : Nat) : Int) = 16 from rfl]
      clear hlen1 hown hown2 hcA hwr
      go_wp2_with (first | (at_builtin; go_must (refine wpList_extend _ _ 22 38 (insCells l) HO.out HW.out (Nat.le_refl _) Try.underlying22 hinf hz0 hz1 hz2 rfl (by decide) rfl rfl rfl rfl HCA.out HLN.out (insCells_one l) ?c2 ?_)))
      case c2 => omega
      intro v4 w4 hown4 hb4
      have hO5 : OwnIns w4 w.heap.size v4 (st16 ++ l) := by
        unfold OwnIns
        rw [List.length_append, HLL.out, insCells, List.flatMap_append]
        exact hown4
      have hbd5 : ∀ i ∈ st16 ++ l, i.bounded := fun i hi => (List.mem_append.1 hi).elim (st16_bounded i) (HB.out i)
      have hC5 := HC.out _ v4 w4 (hO5.reads hbd5)
      obtain ⟨x5, y5, hv5, hy5⟩ : ∃ (x : Nat) (y : Int), checkV (st16 ++ l) = .tuple #[.int .i64 (x : Int), .int .i64 y] ∧ ((y == 0) = true ↔ okC (st16 ++ l)) := by
        rcases checkV_cases (st16 ++ l) with ⟨h1, h2⟩ | ⟨h1, x, y, h2, hy⟩
        · exact ⟨0, 0, h2, ⟨fun _ => h1, fun _ => rfl⟩⟩
        · exact ⟨x, y, h2, ⟨fun h => absurd (beq_iff_eq.1 h) hy, fun h => absurd h h1⟩⟩
      rw [hv5] at hC5
      rw [st16_ok HB.out (by have := HLL.out; omega)] at hy5
      have HC5 := Lib.hid hC5; have HW5 := Lib.hid hb4; have HY5 := Lib.hid hy5
      clear hown4 hO5 hbd5 hC5 hv5 hb4 hy5 HO HW HCA
      go_wp2_with fail
      refine HC5.out.mono ?_
      rintro e w6 ⟨rfl, hb6⟩
      have HW6 := Lib.hid (HW5.out.trans (hb6.mono HW5.out.size))
      clear hb6
      have hC7 := HC.out l (.slice a n cap) w6 (insns_below HL.out HW6.out)
      obtain ⟨x7, y7, hv7, hy7⟩ : ∃ (x : Nat) (y : Int), checkV l = .tuple #[.int .i64 (x : Int), .int .i64 y] ∧ ((y == 0) = true → allWell l) := by
        rcases checkV_cases l with ⟨h1, h2⟩ | ⟨h1, x, y, h2, hy⟩
        · exact ⟨0, 0, h2, fun _ => h1.1⟩
        · exact ⟨x, y, h2, fun h => absurd (beq_iff_eq.1 h) hy⟩
      rw [hv7] at hC7
      have HC7 := Lib.hid hC7; have HY7 := Lib.hid hy7
      clear hC7 hv7 hy7
      go_wp2_with fail
      refine HC7.out.mono ?_
      rintro e w7 ⟨rfl, hb7⟩
      have HW7 := Lib.hid (HW6.out.trans (hb7.mono HW6.out.size))
      clear hb7
      go_wp2_with fail
      refine (chkAlive _).mono ?_
      rintro e w8 ⟨rfl, hb8⟩
      have HW8 := Lib.hid (HW7.out.trans (hb8.mono HW7.out.size))
      clear hb8
      have h1 : (E == 0) = (y5 == 0) := by
        rw [Bool.eq_iff_iff, HE.out, HY5.out]
      have h2 : (y7 == 0) = true → (E == 0) = true := fun h => HE.out.2 (HY7.out h)
      clear HE HY5 HY7
      by_cases hE0 : E = 0
      · have hy50 : y5 = 0 := by rw [hE0] at h1; exact beq_iff_eq.1 h1.symm
        subst hE0 hy50
        clear h1 h2
        by_cases hy70 : y7 = 0
        · subst hy70
          go_wp2_with fail
          go_ret
          exact ⟨rfl, HW8.out⟩
        · have hyb : (y7 != 0) = true := by rw [bne_iff_ne]; exact hy70
          go_wp2_with fail
          go_ret
          exact ⟨rfl, HW8.out⟩
      · have hEb : (E == 0) = false := by rw [beq_eq_false_iff_ne]; exact hE0
        rw [hEb] at h1 h2
        have hy5b : (y5 == 0) = false := h1.symm
        have hy70 : y7 ≠ 0 := fun h => by have := h2 (beq_iff_eq.2 h); cases this
        have hyb : (y7 != 0) = true := by rw [bne_iff_ne]; exact hy70
        clear h1 h2 hy70
        go_wp2_with fail
        go_ret
        exact ⟨rfl, HW8.out⟩
end Go.Proofs.Ytpdfahlglalebaa.lawCheckStores
