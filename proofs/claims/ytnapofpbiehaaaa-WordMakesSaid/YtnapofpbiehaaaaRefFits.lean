/- The reference of layer 19: steps whose labels fit. -/
import Derived.Test.YtnapofpbiehaaaaWmF
import Derived.Test.YtnapofpbiehaaaaRef19
namespace Go.Proofs.Ytnapofpbiehaaaa
open Go.RowKit Go.ChangeShapes
set_option linter.unusedVariables false

theorem behL_lab (l : List Stp) (L : Int) : ∀ n i, i + n = l.length → (behL l i L n = none ↔ ¬ labIn (l.drop i) L) := by
  intro n
  induction n with
  | zero =>
    intro i hi
    rw [List.drop_eq_nil_of_le (by omega), behL]
    exact ⟨fun _ => lab_nil L, fun _ => rfl⟩
  | succ n ih =>
    intro i hi
    have hlt : i < l.length := by omega
    rw [List.drop_eq_getElem_cons hlt, behL, lab_cons, show l.getD i stpZ = l[i] by simp [List.getD, hlt]]
    by_cases h : l[i].kind = 6 ∧ l[i].t = L
    · rw [if_pos h]
      exact ⟨fun e => (by cases e), fun e => absurd (.inl h) e⟩
    · rw [if_neg h, ih (i + 1) (by omega)]
      exact ⟨fun e => fun e2 => e2.elim h e, fun e e2 => e (.inr e2)⟩
theorem beh_lab (l : List Stp) (p : Nat) (L : Int) (hp : p < l.length) : beh l p L = none ↔ ¬ labIn (l.drop (p + 1)) L := behL_lab l L _ _ (by omega)
theorem FitsL.at' {yes no n n' : Int} : ∀ {l : List Stp} (p : Nat), FitsL yes no n n' l → p < l.length → fitS yes no n n' (l.getD p stpZ) (l.drop (p + 1))
  | [], p, _, hp => by simp at hp
  | o :: r, 0, h, _ => h.1
  | o :: r, p + 1, h, hp => by
    have := FitsL.at' p h.2 (by simpa using hp)
    simpa using this
/-- what is asked of one step, said by where labels stand -/
theorem fits_at {yes no n n' : Int} {l : List Stp} (h : FitsL yes no n n' l) (p : Nat) (hp : p < l.length) :
    (l.getD p stpZ).kind ≠ 8 ∧ ((l.getD p stpZ).kind = 6 → n ≤ (l.getD p stpZ).t ∧ (l.getD p stpZ).t < n' ∧ beh l p (l.getD p stpZ).t = none) ∧
    (isJump (l.getD p stpZ).kind = true → ((l.getD p stpZ).t = yes ∨ (l.getD p stpZ).t = no ∨ ∃ j, beh l p (l.getD p stpZ).t = some j) ∧ ((l.getD p stpZ).kind ≠ 7 → (l.getD p stpZ).f = yes ∨ (l.getD p stpZ).f = no ∨ ∃ j, beh l p (l.getD p stpZ).f = some j)) := by
  obtain ⟨h1, h2, h3⟩ := FitsL.at' p h hp
  have some_of : ∀ L, labIn (l.drop (p + 1)) L → ∃ j, beh l p L = some j := fun L hl => by
    cases hb : beh l p L with
    | none => exact absurd hl ((beh_lab l p L hp).1 hb)
    | some j => exact ⟨j, rfl⟩
  exact ⟨h1, fun e => ⟨(h2 e).1, (h2 e).2.1, (beh_lab l p _ hp).2 (h2 e).2.2⟩, fun e => ⟨(h3 e).1.imp id (·.imp id (some_of _)), fun e7 => ((h3 e).2 e7).imp id (·.imp id (some_of _))⟩⟩
set_option maxRecDepth 100000 in
set_option maxHeartbeats 8000000 in
theorem refFits19 (v : Value) (l : List Stp) (yes no n n' : Int) (w : World) (h : IsOps w v l) (hf : FitsL yes no n n' l) :
    Calls Try.prog 11 #[v, .int .i64 yes, .int .i64 no, .int .i64 n, .int .i64 n'] w fun e w' => e = .returned (.bool true) ∧ Below w.heap.size w w' := by
  have hon := fun u (hu : Below w.heap.size w u) p L hp => refOn_any v l p L u (h.below hu) hp
  obtain ⟨a, len, cap, rfl, hlen, hc1, hc2, hbd, hn, hat⟩ := h
  have hlI : (len : Int) ≤ 9223372036854775807 := by omega
  have hfa := fun p hp => fits_at hf p hp
  have hcell : ∀ j, j < len → ∃ b off, a = some ⟨b, off, none⟩ ∧ ∀ u, Below w.heap.size w u → StpAt u b (off + j * 4) (l.getD j stpZ) := fun j hj => by
    obtain ⟨b, off, rfl, hb, hat⟩ := hat.resolve_left (by omega)
    exact ⟨b, off, rfl, fun u hu => (hat j hj).below hu hb⟩
  have HON := Lib.hid hon; have HFA := Lib.hid hfa; have HCE := Lib.hid hcell; have HLN := Lib.hid hlen
  clear hon hfa hcell hat hbd hf hlen hn
  go_enter Try.func11, Try.ntmps11
  go_upto_region 2 with fail
  go_loopw [15] (fun z wr => ∃ j : Nat, z = .int .i64 (j : Nat) ∧ j ≤ len ∧ Below w.heap.size w wr) (fun z _ => len - (intOf z).toNat)
  case atStart => exact ⟨0, rfl, by omega, Below.refl _ _⟩
  case round =>
    obtain ⟨j, rfl, hj, hwr⟩ := hrel
    have HWR := Lib.hid hwr
    clear hwr
    by_cases hlt : j < len
    · obtain ⟨b, off, rfl, hc⟩ := HCE.out j hlt
      obtain ⟨e0, e1, e2, e3⟩ := hc wr HWR.out
      obtain ⟨f8, f6, fj⟩ := HFA.out j (by rw [HLN.out]; exact hlt)
      have hon := fun u hu L => HON.out u hu j L (by rw [HLN.out]; exact hlt)
      have hjI : (j : Int) < len := by omega
      generalize l.getD j stpZ = o at *
      obtain ⟨kind, kk, T, F⟩ := o
      dsimp only at e0 e1 e2 e3 f8 f6 fj
      generalize hBT : beh l j T = BT at *
      generalize hBF : beh l j F = BF at *
      have HO := Lib.hid hon; have HLT := Lib.hid hlt; have HBT := Lib.hid hBT; have HBF := Lib.hid hBF; have F6 := Lib.hid f6; have FJ := Lib.hid fj
      clear hc hon hlt hBT hBF f6 fj
      have k8 : (kind == 8) = false := by rw [beq_eq_false_iff_ne]; exact f8
      go_upto_region 4 with fail
      have hn9 := heap_alloc_new wr (.cells #[.int .i64 kind, .int .u32 (kk : Nat), .int .i64 T, .int .i64 F] 47)
      have hy9 := (Below.refl wr.heap.size wr).alloc (Nat.le_refl _) (.cells #[.int .i64 kind, .int .u32 (kk : Nat), .int .i64 T, .int .i64 F] 47)
      generalize wr.alloc (.cells #[.int .i64 kind, .int .u32 (kk : Nat), .int .i64 T, .int .i64 F] 47) = w9 at *
      have HX9 := Lib.hid (HWR.out.trans (hy9.mono HWR.out.size))
      generalize wr.heap.size = b9 at *
      have HN9 := Lib.hid hn9
      have y0 := below_cell (Below.refl _ _) hn9 0 rfl
      have y2 := below_cell (Below.refl _ _) hn9 2 rfl
      have y3 := below_cell (Below.refl _ _) hn9 3 rfl
      clear hn9 hy9 e0 e1 e2 e3 HWR f8
      by_cases k6 : kind = 6
      · obtain ⟨g1, g2, g3⟩ := F6.out k6
        subst k6
        have g1' : ¬ T < n := by omega
        have g2' : ¬ n' ≤ T := by omega
        subst g3
        clear g1 g2 F6 FJ k8
        go_wp2_with fail
        refine (HO.out _ HX9.out T).mono ?_
        rw [HBT.out]
        rintro e w10 ⟨rfl, rfl⟩
        unfold onV
        go_wp2_with fail
        go_roundw
        case rel => exact ⟨j + 1, by go_num, by have := HLT.out; omega, HX9.out⟩
        case measure => have := HLT.out; simp [intOf]; omega
      · have n6 : (kind == 6) = false := by rw [beq_eq_false_iff_ne]; exact k6
        by_cases hjp : isJump kind = true
        · obtain ⟨gt, gf⟩ := FJ.out hjp
          have hk : kind = 3 ∨ kind = 4 ∨ kind = 5 ∨ kind = 7 := by simpa [isJump, or_assoc] using hjp
          have HK := Lib.hid hk; have GT := Lib.hid gt; have GF := Lib.hid gf
          clear hjp k6 F6 FJ hk gt gf
          go_upto_region 9 with fail
          go_cut [61] (fun bv wx => bv = .bool true ∧ w9 = wx)
          case first =>
            rcases HK.out with rfl | rfl | rfl | rfl
            all_goals
              go_wp2_with fail
              go_meet
              exact ⟨rfl, rfl⟩
          case rest =>
          obtain ⟨rfl, rfl⟩ := hcut
          go_upto_region 10 with fail
          go_cut [79] (fun bv wx => bv = .bool false ∧ w9 = wx)
          case first =>
            rcases GT.out with h1 | h1 | ⟨q, h1⟩
            · have t1 : (T != yes) = false := by rw [bne_eq_false_iff_eq]; exact h1
              clear h1
              go_wp2_with fail
              go_meet
              exact ⟨rfl, rfl⟩
            · by_cases h0 : T = yes
              · have t1 : (T != yes) = false := by rw [bne_eq_false_iff_eq]; exact h0
                clear h1 h0
                go_wp2_with fail
                go_meet
                exact ⟨rfl, rfl⟩
              · have t1 : (T != yes) = true := by rw [bne_iff_ne]; exact h0
                have t2 : (T != no) = false := by rw [bne_eq_false_iff_eq]; exact h1
                clear h1 h0
                go_wp2_with fail
                go_meet
                exact ⟨rfl, rfl⟩
            · by_cases h0 : T = yes
              · have t1 : (T != yes) = false := by rw [bne_eq_false_iff_eq]; exact h0
                clear h1 h0
                go_wp2_with fail
                go_meet
                exact ⟨rfl, rfl⟩
              · have t1 : (T != yes) = true := by rw [bne_iff_ne]; exact h0
                by_cases h2 : T = no
                · have t2 : (T != no) = false := by rw [bne_eq_false_iff_eq]; exact h2
                  clear h1 h0 h2
                  go_wp2_with fail
                  go_meet
                  exact ⟨rfl, rfl⟩
                · have t2 : (T != no) = true := by rw [bne_iff_ne]; exact h2
                  have ho := HO.out _ HX9.out T
                  rw [HBT.out, h1] at ho
                  have HOO := Lib.hid ho
                  have q0 : (0 : Int) ≤ q := by omega
                  clear h1 h0 h2 ho
                  go_wp2_with fail
                  refine HOO.out.mono ?_
                  rintro e w10 ⟨rfl, rfl⟩
                  unfold onV
                  go_wp2_with fail
                  go_meet
                  exact ⟨rfl, rfl⟩
          case rest =>
          obtain ⟨rfl, rfl⟩ := hcut
          go_upto_region 12 with fail
          go_cut [102] (fun bv wx => bv = .bool false ∧ w9 = wx)
          case first =>
            by_cases h7 : kind = 7
            · have t7 : (kind != 7) = false := by rw [bne_eq_false_iff_eq]; exact h7
              clear h7
              go_wp2_with fail
              go_meet
              exact ⟨rfl, rfl⟩
            have t7 : (kind != 7) = true := by rw [bne_iff_ne]; exact h7
            rcases GF.out h7 with h1 | h1 | ⟨q, h1⟩
            · have t1 : (F != yes) = false := by rw [bne_eq_false_iff_eq]; exact h1
              clear h1 h7
              go_wp2_with fail
              go_meet
              exact ⟨rfl, rfl⟩
            · by_cases h0 : F = yes
              · have t1 : (F != yes) = false := by rw [bne_eq_false_iff_eq]; exact h0
                clear h1 h0 h7
                go_wp2_with fail
                go_meet
                exact ⟨rfl, rfl⟩
              · have t1 : (F != yes) = true := by rw [bne_iff_ne]; exact h0
                have t2 : (F != no) = false := by rw [bne_eq_false_iff_eq]; exact h1
                clear h1 h0 h7
                go_wp2_with fail
                go_meet
                exact ⟨rfl, rfl⟩
            · by_cases h0 : F = yes
              · have t1 : (F != yes) = false := by rw [bne_eq_false_iff_eq]; exact h0
                clear h1 h0 h7
                go_wp2_with fail
                go_meet
                exact ⟨rfl, rfl⟩
              · have t1 : (F != yes) = true := by rw [bne_iff_ne]; exact h0
                by_cases h2 : F = no
                · have t2 : (F != no) = false := by rw [bne_eq_false_iff_eq]; exact h2
                  clear h1 h0 h2 h7
                  go_wp2_with fail
                  go_meet
                  exact ⟨rfl, rfl⟩
                · have t2 : (F != no) = true := by rw [bne_iff_ne]; exact h2
                  have ho := HO.out _ HX9.out F
                  rw [HBF.out, h1] at ho
                  have HOO := Lib.hid ho
                  have q0 : (0 : Int) ≤ q := by omega
                  clear h1 h0 h2 ho h7
                  go_wp2_with fail
                  refine HOO.out.mono ?_
                  rintro e w10 ⟨rfl, rfl⟩
                  unfold onV
                  go_wp2_with fail
                  go_meet
                  exact ⟨rfl, rfl⟩
          case rest =>
          obtain ⟨rfl, rfl⟩ := hcut
          go_wp2_with fail
          go_roundw
          case rel => exact ⟨j + 1, by go_num, by have := HLT.out; omega, HX9.out⟩
          case measure => have := HLT.out; simp [intOf]; omega
        · have hk : kind ≠ 3 ∧ kind ≠ 4 ∧ kind ≠ 5 ∧ kind ≠ 7 := by
            simp [isJump] at hjp
            omega
          have n3 : (kind == 3) = false := by rw [beq_eq_false_iff_ne]; exact hk.1
          have n4 : (kind == 4) = false := by rw [beq_eq_false_iff_ne]; exact hk.2.1
          have n5 : (kind == 5) = false := by rw [beq_eq_false_iff_ne]; exact hk.2.2.1
          have n7 : (kind == 7) = false := by rw [beq_eq_false_iff_ne]; exact hk.2.2.2
          clear hk hjp k6 F6 FJ
          go_wp2_with fail
          go_roundw
          case rel => exact ⟨j + 1, by go_num, by have := HLT.out; omega, HX9.out⟩
          case measure => have := HLT.out; simp [intOf]; omega
    · obtain rfl : j = len := by omega
      go_wp2_with fail
      go_ret
      exact ⟨rfl, HWR.out⟩
end Go.Proofs.Ytnapofpbiehaaaa
