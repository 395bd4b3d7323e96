/- The reference of layer 21: which steps fit. -/
import Derived.Test.YtnlmdajoifjddaaRef21
namespace Go.Proofs.Ytnlmdajoifjddaa
open Go.RowKit Go.ChangeShapes
set_option linter.unusedVariables false

set_option maxRecDepth 100000 in
set_option maxHeartbeats 4000000 in
theorem refFits_any (v : Value) (l : List Stp) (w : World) (h : IsOps w v l) (hN : l.length ≤ 100000) :
    Calls Try.prog 22 #[v] w fun e w' => e = .returned (.bool (asmA l).isSome) ∧ Below w.heap.size w w' := by
  have hB := fun p label u hp hu => refBehind_any v l p label u hu hp
  have HB := Lib.hid hB; have HL := Lib.hid h
  clear hB
  obtain ⟨a, len, cap, rfl, hlen, hc1, hc2, hbd, hn, hat⟩ := h
  have hlI : (len : Int) ≤ 100000 := by omega
  have HA := Lib.hid hat; have HLEN := Lib.hid hlen
  clear hat hbd hlen hn
  go_enter Try.func22, Try.ntmps22
  go_wp2_with fail
  go_loopw [7] (fun z wr => ∃ j : Nat, z = .int .i64 j ∧ j ≤ len ∧ (∀ p, p < j → goodAt l p) ∧ Below w.heap.size w wr) (fun z _ => len - (intOf z).toNat)
  case atStart => exact ⟨0, rfl, by omega, fun p hp => absurd hp (Nat.not_lt_zero p), Below.refl _ _⟩
  case round =>
    obtain ⟨j, rfl, hj, hgood, hwr⟩ := hrel
    have HG := Lib.hid hgood
    clear hgood
    by_cases hlt : j < len
    · obtain ⟨b, off, rfl, hb, hat⟩ := HA.out.resolve_left (by omega)
      have hi := (hat j hlt).below hwr hb
      have hjI : (j : Int) < len := by omega
      have hjl : j < l.length := by rw [HLEN.out]; exact hlt
      have hbad : ¬ goodAt l j → (asmA l).isSome = false := fun h => by rw [step_bad l j hjl h]; rfl
      have hnext : goodAt l j → ∀ p, p < j + 1 → goodAt l p := fun h p hp => by
        by_cases e : p < j
        · exact HG.out p e
        · obtain rfl : p = j := by omega
          exact h
      have hBt := fun label u hu => HB.out j label u hjl hu
      unfold goodAt at hbad hnext
      clear hat hjl
      generalize l.getD j stpZ = i at *
      obtain ⟨kind, k, t, f⟩ := i
      obtain ⟨c0, c1, c2, c3⟩ := hi
      dsimp only at c0 c1 c2 c3 hbad hnext
      have hBt1 := hBt t
      have hBt2 := hBt f
      have HC := Lib.hid (fun u => refTest_any kind k t f u)
      have hnw := heap_alloc_new wr (.cells #[.int .i64 kind, .int .u32 (k : Nat), .int .i64 t, .int .i64 f] 32)
      have hwa := (Below.refl wr.heap.size wr).alloc (Nat.le_refl _) (.cells #[.int .i64 kind, .int .u32 (k : Nat), .int .i64 t, .int .i64 f] 32)
      have HWA := Lib.hid (hwr.trans (hwa.mono hwr.size))
      have HBAD := Lib.hid hbad; have HNEXT := Lib.hid hnext; have HB1 := Lib.hid hBt1; have HB2 := Lib.hid hBt2
      clear hwr hbad hnext hBt1 hBt2 hBt HG
      go_upto_region 4 with fail
      generalize wr.alloc (.cells #[.int .i64 kind, .int .u32 (k : Nat), .int .i64 t, .int .i64 f] 32) = wa at *
      have HNW := Lib.hid hnw
      have q0 := below_cell (Below.refl _ _) hnw 0 rfl
      have q1 := below_cell (Below.refl _ _) hnw 1 rfl
      have q2 := below_cell (Below.refl _ _) hnw 2 rfl
      have q3 := below_cell (Below.refl _ _) hnw 3 rfl
      clear hnw hwa c0 c1 c2 c3
      by_cases hk : 1 ≤ kind ∧ kind ≤ 8
      · have HK := Lib.hid hk
        obtain ⟨hk1, hk2⟩ := hk
        go_upto_region 6 with fail
        go_wp2_with fail
        refine (HC.out _).mono ?_
        rintro e w3 ⟨rfl, hb3⟩
        have p0 := below_cell hb3 HNW.out 0 rfl
        have p1 := below_cell hb3 HNW.out 1 rfl
        have p2 := below_cell hb3 HNW.out 2 rfl
        have p3 := below_cell hb3 HNW.out 3 rfl
        have HW3 := Lib.hid (HWA.out.trans (hb3.mono HWA.out.size))
        have HB3 := Lib.hid hb3
        have hol : IsOps w3 (.slice (some ⟨b, off, none⟩) len cap) l := HL.out.below HW3.out
        have HOL := Lib.hid hol
        clear hb3 q0 q1 q2 q3 hol
        by_cases hT : kind = 3 ∨ kind = 4 ∨ kind = 5
        · have e1 : isT kind = true := (isT_iff kind).2 hT
          rw [e1] at HC ⊢
          have E1 := Lib.hid e1
          clear hT e1
          go_wp2_with fail
          refine (HB1.out _ HOL.out).mono ?_
          rintro e w4 ⟨rfl, rfl⟩
          cases hj : beh l j t with
          | none =>
            have he := HBAD.out (fun h => h.2.1 (.inl E1.out) hj)
            have HE := Lib.hid he
            clear hj he
            unfold behI
            dsimp only
            go_wp2_with fail
            go_ret
            exact ⟨by rw [HE.out]; rfl, HW3.out⟩
          | some j1 =>
            have HJ := Lib.hid hj
            clear hj
            unfold behI
            dsimp only
            have hj1 : (0 : Int) ≤ j1 := by omega
            go_upto_region 8 with fail
            go_wp2_with fail
            refine (HC.out _).mono ?_
            rintro e w5 ⟨rfl, hb5⟩
            have p3' := below_cell (HB3.out.trans (hb5.mono HB3.out.size)) HNW.out 3 rfl
            have HW5 := Lib.hid (HW3.out.trans (hb5.mono HW3.out.size))
            have HOL5 := Lib.hid (HOL.out.below hb5)
            clear hb5 p0 p1 p2 p3
            go_wp2_with fail
            refine (HB2.out _ HOL5.out).mono ?_
            rintro e w6 ⟨rfl, rfl⟩
            cases hj2 : beh l j f with
            | none =>
              have he := HBAD.out (fun h => h.2.2 E1.out hj2)
              have HE := Lib.hid he
              clear hj2 he
              unfold behI
              dsimp only
              go_wp2_with fail
              go_ret
              exact ⟨by rw [HE.out]; rfl, HW5.out⟩
            | some j2 =>
              have hx := HNEXT.out ⟨HK.out, fun _ => by rw [HJ.out]; simp, fun _ => by rw [hj2]; simp⟩
              have HX := Lib.hid hx
              clear hj2 hx
              unfold behI
              dsimp only
              have hj20 : (0 : Int) ≤ j2 := by omega
              go_wp2_with fail
              go_roundw
              case rel => exact ⟨j + 1, by go_num, by omega, HX.out, HW5.out⟩
              case measure => simp [intOf]; omega
        · have e1 : isT kind = false := by
            have := isT_iff kind
            cases hx : isT kind
            · rfl
            · exact absurd (this.1 hx) hT
          rw [e1] at HC ⊢
          have E1 := Lib.hid e1
          clear hT e1
          by_cases k7 : kind = 7
          · have hb7 : beh l j t = none → (asmA l).isSome = false := fun hj => HBAD.out (fun h => h.2.1 (.inr k7) hj)
            have hn7 : beh l j t ≠ none → ∀ p, p < j + 1 → goodAt l p := fun hj => HNEXT.out ⟨HK.out, fun _ => hj, fun h => absurd h (by rw [E1.out]; decide)⟩
            have HB7 := Lib.hid hb7; have HN7 := Lib.hid hn7
            clear hb7 hn7 HBAD HNEXT HK E1
            subst k7
            go_wp2_with fail
            refine (HB1.out _ HOL.out).mono ?_
            rintro e w4 ⟨rfl, rfl⟩
            cases hj : beh l j t with
            | none =>
              have he := HB7.out hj
              have HE := Lib.hid he
              clear hj he
              unfold behI
              dsimp only
              go_wp2_with fail
              go_ret
              exact ⟨by rw [HE.out]; rfl, HW3.out⟩
            | some j1 =>
              have hx := HN7.out (by rw [hj]; simp)
              have HX := Lib.hid hx
              clear hj hx
              unfold behI
              dsimp only
              have hj1 : (0 : Int) ≤ j1 := by omega
              go_upto_region 8 with fail
              go_wp2_with fail
              refine (HC.out _).mono ?_
              rintro e w5 ⟨rfl, hb5⟩
              have HW5 := Lib.hid (HW3.out.trans (hb5.mono HW3.out.size))
              clear hb5 p0 p1 p2 p3
              go_wp2_with fail
              go_roundw
              case rel => exact ⟨j + 1, by go_num, by omega, HX.out, HW5.out⟩
              case measure => simp [intOf]; omega
          · have hx := HNEXT.out ⟨HK.out, fun h => absurd h (by rw [E1.out]; rintro (h | h); cases h; exact k7 h), fun h => absurd h (by rw [E1.out]; decide)⟩
            have HX := Lib.hid hx
            have n7 : (kind == 7) = false := by rw [beq_eq_false_iff_ne]; exact k7
            clear hx k7
            go_upto_region 8 with fail
            go_wp2_with fail
            refine (HC.out _).mono ?_
            rintro e w5 ⟨rfl, hb5⟩
            have HW5 := Lib.hid (HW3.out.trans (hb5.mono HW3.out.size))
            clear hb5 p0 p1 p2 p3
            go_wp2_with fail
            go_roundw
            case rel => exact ⟨j + 1, by go_num, by omega, HX.out, HW5.out⟩
            case measure => simp [intOf]; omega
      · have he := HBAD.out (fun h => hk h.1)
        have HE := Lib.hid he
        by_cases hk1 : kind < 1
        · clear hk he
          go_wp2_with fail
          go_ret
          exact ⟨by rw [HE.out]; rfl, HWA.out⟩
        · have hk2 : 8 < kind := by omega
          clear hk he
          go_wp2_with fail
          go_ret
          exact ⟨by rw [HE.out]; rfl, HWA.out⟩
    · obtain rfl : j = len := by omega
      obtain ⟨s, hs⟩ := all_good l (by rw [HLEN.out]; exact HG.out)
      have he : (asmA l).isSome = true := by rw [hs]; rfl
      have HE := Lib.hid he
      clear hs he
      go_wp2_with fail
      go_ret
      exact ⟨by rw [HE.out]; rfl, hwr⟩
end Go.Proofs.Ytnlmdajoifjddaa
