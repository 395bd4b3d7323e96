/- The walk of EmitJoins. -/
import Derived.Test.YtnlmdajoifjddaaEmL
import Derived.Test.YtnlmdajoifjddaaEmJ
import Derived.Test.YtnlmdajoifjddaaExtG
namespace Go.Proofs.Ytnlmdajoifjddaa.lawEmitJoins
open Go.ChangeShapes Go.WideShapes Go.ChangeAt Go.RowKit Go.Joins Go.Deep
set_option linter.unusedVariables false

/-- few steps: the filter is not too long -/
theorem asm_small (l : List Stp) (v : Value) (w : World) (hl : IsOps w v l) (hN : l.length ≤ 1000) :
    Calls Try.prog 9 #[v] w fun e w' => ((asmA l = none ∧ e = .returned (.tuple #[.slice none 0 0, .int .i64 1])) ∨
      ∃ s g, asmA l = some s ∧ e = .returned (.tuple #[.slice (some ⟨g, 0, none⟩) s.c.length s.c.length, .int .i64 0]) ∧ IsIns w' (.slice (some ⟨g, 0, none⟩) s.c.length s.c.length) s.c ∧ s.c.length ≤ 3000) ∧ Below w.heap.size w w' := by
  refine (emAssemble_any l v w hl (by omega)).mono fun e w' ⟨h, hb⟩ => ⟨?_, hb⟩
  unfold AsmPost at h
  cases hs : asmA l with
  | none => rw [hs] at h; exact .inl ⟨rfl, h⟩
  | some s =>
    rw [hs] at h
    have hlen := (asmA_ok l s (fun o ho => (hl.bnd o ho).2.1) (by omega) hs).2
    have hsz := sizeL_le l
    have h : if 4096 < s.c.length then e = .returned (.tuple #[.slice none 0 0, .int .i64 64]) else ∃ g, e = .returned (.tuple #[.slice (some ⟨g, 0, none⟩) s.c.length s.c.length, .int .i64 0]) ∧ IsIns w' (.slice (some ⟨g, 0, none⟩) s.c.length s.c.length) s.c := h
    rw [if_neg (by omega)] at h
    obtain ⟨g, h1, h2⟩ := h
    exact .inr ⟨s, g, rfl, h1, h2, by omega⟩
set_option maxRecDepth 100000 in
set_option maxHeartbeats 2000000 in
theorem walk (v0 : Value) (l0 : List Stp) (v1 : Value) (m0 : List Stp) (w : World) (w0 : IsOps w v0 l0) (w1 : IsOps w v1 m0) :
    Calls Try.prog 5 #[v0, v1] w fun e w' => e = .returned (.bool true) ∧ Below w.heap.size w w' := by
  obtain ⟨iO, hiO, hzO0, hzO1, hzO2⟩ := info_parts infoOp
  obtain ⟨iI, hiI, hzI0, hzI1, hzI2⟩ := info_parts infoInsn
  obtain ⟨a, len, cap, rfl, hlen, hc1, hc2, htk⟩ := w0.take
  obtain ⟨a', len', cap', rfl, hlen', hc1', hc2', htk'⟩ := w1.take
  obtain ⟨n, hn, hn1, hn2, hn3⟩ := min_if len 60 (by omega)
  obtain ⟨n', hn', hn1', hn2', hn3'⟩ := min_if len' 60 (by omega)
  have hmi : min (len : Int) 60 = n := by omega
  have hmi' : min (len' : Int) 60 = n' := by omega
  have hl := htk n hn1
  have hl' := htk' n' hn1'
  have hll : (l0.take n).length = n := by rw [List.length_take]; omega
  have hll' : (m0.take n').length = n' := by rw [List.length_take]; omega
  generalize l0.take n = l at *
  generalize m0.take n' = m at *
  have hncI : (n : Int) ≤ cap := by omega
  have hcI : (cap : Int) ≤ 9223372036854775807 := by omega
  have hncI' : (n' : Int) ≤ cap' := by omega
  have hcI' : (cap' : Int) ≤ 9223372036854775807 := by omega
  have hA := fun u hu => asm_small l (.slice a n cap) u hu (by omega)
  have hA' := fun u hu => asm_small m (.slice a' n' cap') u hu (by omega)
  have hAB := fun v u hu => asm_small (l ++ m) v u hu (by rw [List.length_append]; omega)
  have hbl := hl.bnd
  have hbm := hl'.bnd
  have HL := Lib.hid hl; have HA := Lib.hid hA; have HL' := Lib.hid hl'; have HA' := Lib.hid hA'; have HAB := Lib.hid hAB; have HLL := Lib.hid hll; have HLL' := Lib.hid hll'; have HBL := Lib.hid hbl; have HBM := Lib.hid hbm
  clear htk w0 hlen hl hA hn3 htk' w1 hlen' hl' hA' hn3' hAB hll hll' hbl hbm
  go_enter Try.func5, Try.ntmps5
  go_upto_region 1 with fail
  go_quiet (fail)
  go_wp2_with fail
  have hq : Below w.heap.size w (w.drewN nq) := belowN (Below.refl _ _) nq
  have HQ := Lib.hid hq
  clear hq
  generalize w.drewN nq = wq at *
  refine (HA.out _ (HL.out.below HQ.out)).mono ?_
  rintro e1 w2 ⟨he1, hb2⟩
  have HW2 := Lib.hid (HQ.out.trans (hb2.mono HQ.out.size))
  have HE1 := Lib.hid he1
  clear hb2 he1
  obtain ⟨v1, y1, hv1⟩ : ∃ v y, e1 = .returned (.tuple #[v, .int .i64 y]) := by
    rcases HE1.out with ⟨_, h⟩ | ⟨s, g, _, h, _⟩
    · exact ⟨_, _, h⟩
    · exact ⟨_, _, h⟩
  subst hv1
  go_wp2_with fail
  refine (HA'.out _ (HL'.out.below HW2.out)).mono ?_
  rintro e2 w3 ⟨he2, hb3⟩
  have HW3 := Lib.hid (HW2.out.trans (hb3.mono HW2.out.size))
  have HB3 := Lib.hid hb3
  have HE2 := Lib.hid he2
  clear hb3 he2
  obtain ⟨v2, y2, hv2⟩ : ∃ v y, e2 = .returned (.tuple #[v, .int .i64 y]) := by
    rcases HE2.out with ⟨_, h⟩ | ⟨s, g, _, h, _⟩
    · exact ⟨_, _, h⟩
    · exact ⟨_, _, h⟩
  subst hv2
  have hown0 : (w3.alloc (.cells #[] 32)).ownsRow w3.heap.size 32 4 (.slice (some ⟨w3.heap.size, 0, none⟩) 0 0) 0 [] := World.ownsRow_made w3 #[] 0 (Nat.le_refl _) (by unfold maxLen; omega) rfl
  have hw4 := (Below.refl w3.heap.size w3).alloc (Nat.le_refl _) (.cells #[] 32)
  have hs1 := ops_source ((HL.out.below HW3.out).below hw4)
  have hlc1 : (stpCells l).length = n * 4 := by rw [stpCells_len, HLL.out]
  have hlc2 : (stpCells m).length = n' * 4 := by rw [stpCells_len, HLL'.out]
  have HLN := Lib.hid hlc1; have HLN' := Lib.hid hlc2; have HOW := Lib.hid hown0; have HS1 := Lib.hid hs1
  clear hlc1 hlc2 hown0 hs1
  go_wp2_with (first | (at_builtin; go_must (refine wpList_extend _ _ 22 32 (stpCells l) HOW.out hw4 (Nat.le_refl _) Try.underlying22 hiO hzO0 hzO1 hzO2 rfl (by decide) rfl rfl rfl rfl HS1.out HLN.out (stpCells_one l) ?c2 ?_)))
  case c2 => omega
  intro v4 w5 hown4 hb5
  have HOW4 := Lib.hid hown4; have HB5 := Lib.hid hb5; have HS2 := Lib.hid (ops_source ((HL'.out.below HW3.out).below hb5))
  clear hw4 HOW HS1 hown4 hb5
  go_wp2_with (first | (at_builtin; go_must (refine wpList_extend _ _ 22 32 (stpCells m) HOW4.out HB5.out (Nat.le_refl _) Try.underlying22 hiO hzO0 hzO1 hzO2 rfl (by decide) rfl rfl rfl rfl HS2.out HLN'.out (stpCells_one m) ?c3 ?_)))
  case c3 => omega
  intro v5 w6 hown5 hb6
  have hO5 : IsOps w6 v5 (l ++ m) := by
    have h5 : w6.ownsRow w3.heap.size 32 4 v5 (n + n') (stpCells (l ++ m)) := by
      rw [stpCells_append]
      first | exact hown5 | simpa using hown5
    exact own_ops h5 (by rw [List.length_append, HLL.out, HLL'.out]) (fun i hi => (List.mem_append.1 hi).elim (HBL.out i) (HBM.out i))
  have hC5 := HAB.out v5 w6 hO5
  have HC5 := Lib.hid hC5; have HW6 := Lib.hid hb6
  clear hown5 hO5 hC5 hb6 HOW4 HS2 HB5
  go_wp2_with fail
  refine HC5.out.mono ?_
  rintro e3 w7 ⟨he3, hb7⟩
  have HX7 := Lib.hid (HW6.out.trans (hb7.mono HW6.out.size))
  have HW7 := Lib.hid (HW3.out.trans (HX7.out.mono HW3.out.size))
  have HE3 := Lib.hid he3
  clear hb7 he3
  rcases HE2.out with ⟨hm, h2⟩ | ⟨s2, g2, hm, h2, hi2, hsz2⟩
  · have hnone := asmA_app_none l m hm
    rcases HE3.out with ⟨_, h3⟩ | ⟨s3, g3, hm3, _⟩
    · injection h2 with h2
      injection h2 with h2
      injection (congrArg Array.toList h2) with h2a h2b
      injection h2b with h2b _
      injection h2b with _ h2b
      subst h2a h2b h3
      rcases HE1.out with ⟨hm1, h1⟩ | ⟨s1, g1, hm1, h1, _⟩
      all_goals
        injection h1 with h1
        injection h1 with h1
        injection (congrArg Array.toList h1) with h1a h1b
        injection h1b with h1b _
        injection h1b with _ h1b
        subst h1a h1b
        clear hnone hm hm1 HE1 HE2 HE3
        go_wp2_with fail
        refine (emAlive _).mono ?_
        rintro e w9 ⟨rfl, hb9⟩
        have HW9 := Lib.hid (HW7.out.trans (hb9.mono HW7.out.size))
        clear hb9
        go_wp2_with fail
        go_ret
        exact ⟨rfl, HW9.out⟩
    · rw [hnone] at hm3; cases hm3
  · injection h2 with h2
    injection h2 with h2
    injection (congrArg Array.toList h2) with h2a h2b
    injection h2b with h2b _
    injection h2b with _ h2b
    subst h2a h2b
    rcases HE1.out with ⟨hm1, h1⟩ | ⟨s1, g1, hm1, h1, hi1, hsz1⟩
    · injection h1 with h1
      injection h1 with h1
      injection (congrArg Array.toList h1) with h1a h1b
      injection h1b with h1b _
      injection h1b with _ h1b
      subst h1a h1b
      obtain ⟨v3, y3, hv3⟩ : ∃ v y, e3 = .returned (.tuple #[v, .int .i64 y]) := by
        rcases HE3.out with ⟨_, h⟩ | ⟨s, g, _, h, _⟩
        · exact ⟨_, _, h⟩
        · exact ⟨_, _, h⟩
      subst hv3
      clear hm hm1 hi2 HE1 HE2 HE3
      go_wp2_with fail
      refine (emAlive _).mono ?_
      rintro e w9 ⟨rfl, hb9⟩
      have HW9 := Lib.hid (HW7.out.trans (hb9.mono HW7.out.size))
      clear hb9
      go_wp2_with fail
      go_ret
      exact ⟨rfl, HW9.out⟩
    · injection h1 with h1
      injection h1 with h1
      injection (congrArg Array.toList h1) with h1a h1b
      injection h1b with h1b _
      injection h1b with _ h1b
      subst h1a h1b
      obtain ⟨u, hu, hbeh⟩ := asmA_app l m s2 hm (fun o ho => (HBL.out o ho).2.1) (by have := HLL.out; omega) s1 hm1
      rcases HE3.out with ⟨hm3, _⟩ | ⟨s3, g3, hm3, h3, hi3, hsz3⟩
      · rw [hu] at hm3; cases hm3
      · rw [hu] at hm3
        injection hm3 with hm3
        subst hm3 h3
        have hcc := hbeh.c
        have hl1 := HB3.out
        have HC := Lib.hid hcc; have HI1 := Lib.hid hi1; have HI2 := Lib.hid hi2; have HI3 := Lib.hid hi3
        clear hcc hi1 hi2 hi3 hbeh hu hm hm1 HE1 HE2 HE3
        have hs1b := fun w8 (h8 : Below w3.heap.size w3 w8) => cells_of ((HI1.out.below HB3.out).below h8) s1.c.length (Nat.le_refl _)
        have hs2b := fun w8 (h8 : Below w3.heap.size w3 w8) => cells_of (HI2.out.below h8) s2.c.length (Nat.le_refl _)
        rw [List.take_of_length_le (Nat.le_refl _)] at hs1b hs2b
        have hb1 : ∀ i ∈ s1.c, i.bounded := by obtain ⟨⟨_, _, _, _, _, _, _, h, _⟩, _⟩ := HI1.out; exact h
        have hb2' : ∀ i ∈ s2.c, i.bounded := by obtain ⟨⟨_, _, _, _, _, _, _, h, _⟩, _⟩ := HI2.out; exact h
        have hln1 : (insCells s1.c).length = s1.c.length * 4 := insCells_len _
        have hln2 : (insCells s2.c).length = s2.c.length * 4 := insCells_len _
        generalize s1.c = c1 at *
        generalize s2.c = c2 at *
        obtain ⟨N1, hN1⟩ : ∃ N, c1.length = N := ⟨_, rfl⟩
        obtain ⟨N2, hN2⟩ : ∃ N, c2.length = N := ⟨_, rfl⟩
        rw [hN1] at hs1b hln1 hsz1 ⊢
        rw [hN2] at hs2b hln2 hsz2 ⊢
        have HS1 := Lib.hid hs1b; have HS2 := Lib.hid hs2b; have HLC1 := Lib.hid hln1; have HLC2 := Lib.hid hln2; have HN1 := Lib.hid hN1; have HN2 := Lib.hid hN2; have HBD1 := Lib.hid hb1; have HBD2 := Lib.hid hb2'
        have hsz1I : (N1 : Int) ≤ 3000 := by omega
        have hsz2I : (N2 : Int) ≤ 3000 := by omega
        clear hs1b hs2b hln1 hln2 hN1 hN2 hb1 hb2' HI1 HI2
        go_wp2_with fail
        refine (emAlive _).mono ?_
        rintro e w8 ⟨rfl, hb8⟩
        have HX8 := Lib.hid (HX7.out.trans (hb8.mono HX7.out.size))
        have HI38 := Lib.hid (HI3.out.1.below hb8)
        have HB8 := Lib.hid hb8
        clear hb8
        have hown8 : (w8.alloc (.cells #[] 44)).ownsRow w8.heap.size 44 4 (.slice (some ⟨w8.heap.size, 0, none⟩) 0 0) 0 [] := World.ownsRow_made w8 #[] 0 (Nat.le_refl _) (by unfold maxLen; omega) rfl
        have hw8a := (Below.refl w8.heap.size w8).alloc (Nat.le_refl _) (.cells #[] 44)
        have hsa := HS1.out _ (HX8.out.trans (hw8a.mono HX8.out.size))
        have HOA := Lib.hid hown8; have HSA := Lib.hid hsa
        clear hown8 hsa
        go_wp2_with (first | (at_builtin; go_must (refine wpList_extendG _ _ 24 44 (insCells c1) HOA.out hw8a (Nat.le_refl _) Try.underlying24 hiI hzI0 hzI1 hzI2 rfl (by decide) rfl rfl rfl rfl HSA.out HLC1.out (insCells_one c1) ?c4 ?_)))
        case c4 => omega
        intro v9 w9 hown9 hb9
        have HOB := Lib.hid hown9; have HB9 := Lib.hid hb9; have HSB := Lib.hid (HS2.out _ (HX8.out.trans (hb9.mono HX8.out.size)))
        clear hw8a HOA HSA hown9 hb9
        go_wp2_with (first | (at_builtin; go_must (refine wpList_extendG _ _ 24 44 (insCells c2) HOB.out HB9.out (Nat.le_refl _) Try.underlying24 hiI hzI0 hzI1 hzI2 rfl (by decide) rfl rfl rfl rfl HSB.out HLC2.out (insCells_one c2) ?c5 ?_)))
        case c5 => omega
        intro v10 w10 hown10 hb10
        have hI10 : IsInsns w10 v10 (c1 ++ c2) := by
          have h5 : OwnIns w10 w8.heap.size v10 (c1 ++ c2) := by
            unfold OwnIns
            rw [List.length_append, HN1.out, HN2.out, insCells, List.flatMap_append, ← insCells, ← insCells]
            first | exact hown10 | simpa using hown10
          exact h5.reads (fun i hi => (List.mem_append.1 hi).elim (HBD1.out i) (HBD2.out i))
        have hlk := refLike_any _ v10 u.c (c1 ++ c2) w10 (HI38.out.below hb10) hI10
        rw [decide_eq_true HC.out] at hlk
        have HLK := Lib.hid hlk; have HX10 := Lib.hid (HX8.out.trans (hb10.mono HX8.out.size))
        clear hlk hI10 hown10 hb10
        go_wp2_with fail
        refine HLK.out.mono ?_
        rintro e w11 ⟨rfl, hb11⟩
        have HX11 := Lib.hid (HX10.out.trans (hb11.mono HX10.out.size))
        clear hb11
        go_wp2_with fail
        go_ret
        exact ⟨rfl, HW3.out.trans (HX11.out.mono HW3.out.size)⟩
end Go.Proofs.Ytnlmdajoifjddaa.lawEmitJoins
