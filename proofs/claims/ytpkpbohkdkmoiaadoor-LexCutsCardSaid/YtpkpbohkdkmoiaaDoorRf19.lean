/- The reference's Lex and Like. -/
import Derived.Test.YtpkpbohkdkmoiaaDoorRf18
import Derived.Test.YtpkpbohkdkmoiaaDoorLxR
namespace Go.Proofs.YtpkpbohkdkmoiaaDoor
open Go.RowKit
set_option linter.unusedVariables false

set_option maxRecDepth 100000 in
set_option maxHeartbeats 4000000 in
theorem rfLex (s : ByteArray) (w : World) (hs : s.size ≤ 1000000) : Calls Tryd.prog 10 #[.string s] w (LexPost s w) := by
  obtain ⟨iI, hNI, hzI0, hzI1, hzI2⟩ := tk_info infoTk
  have hsI : (s.size : Int) ≤ 1000000 := by omega
  unfold LexPost
  obtain ⟨RE, hRE⟩ : ∃ RE, lexE s = RE := ⟨_, rfl⟩
  obtain ⟨RA, hRA⟩ : ∃ RA, lexAt s = RA := ⟨_, rfl⟩
  obtain ⟨RT, hRT⟩ : ∃ RT, lexToks s = RT := ⟨_, rfl⟩
  rw [hRE, hRA, hRT]
  unfold lexE at hRE
  unfold lexAt at hRA
  unfold lexToks at hRT
  by_cases h2 : 2000 < s.size
  · rw [if_pos h2] at hRE hRA hRT
    subst hRE hRA hRT
    have h2I : (2000 : Int) < s.size := by omega
    clear h2
    go_enter Tryd.func10, Tryd.ntmps10
    go_wp2_with fail
    go_ret3
    exact ⟨_, rfl, World.ownsRow_nil _ _ _ _, Below.refl _ _⟩
  rw [if_neg h2] at hRE hRA hRT
  have h2I : (s.size : Int) ≤ 2000 := by omega
  have HRE := Lib.hid hRE; have HRA := Lib.hid hRA; have HRT := Lib.hid hRT
  have hown0 : (w.alloc (.cells #[] 34)).ownsRow w.heap.size 34 3 (.slice (some ⟨w.heap.size, 0, none⟩) 0 0) 0 [] := World.ownsRow_made w #[] 0 (Nat.le_refl _) (by unfold maxLen; omega) rfl
  have hbel0 := (Below.refl w.heap.size w).alloc (Nat.le_refl _) (.cells #[] 34)
  have HO0 := Lib.hid hown0; have HB0 := Lib.hid hbel0
  clear hRE hRA hRT h2 hown0 hbel0
  go_enter Tryd.func10, Tryd.ntmps10
  go_wp2_with fail
  go_loopw [5, 6] (fun z5 z6 wr => ∃ (p : Nat) (l : List Tk), z6 = .int .i64 p ∧ p ≤ s.size ∧ l.length ≤ p ∧ Hid (lexS s = (lexR s p).pre l) ∧ Hid (wr.ownsRow w.heap.size 34 3 z5 l.length (tkCells l)) ∧ Hid (Below w.heap.size w wr)) (fun _ z6 _ => s.size - (intOf z6).toNat)
  case atStart => exact ⟨0, [], rfl, by omega, by simp, Lib.hid (by rw [Lx.pre_nil]; rfl), HO0, HB0⟩
  case round =>
    obtain ⟨p, l, rfl, hp, hlp, HL, HO, HB⟩ := hrel
    by_cases hlt : p < s.size
    · have hltI : (p : Int) < s.size := by omega
      have HF := Lib.hid (fun u => rfToken s p u hs hlt)
      have hxs := rest_size s p (by omega)
      have hle := fstL_le (s.extract p s.size) (by omega)
      have hkd := fstL_kind (s.extract p s.size)
      obtain ⟨K, hK⟩ : ∃ K, (fstL (s.extract p s.size)).1 = K := ⟨_, rfl⟩
      obtain ⟨Z, hZ⟩ : ∃ Z, (fstL (s.extract p s.size)).2 = Z := ⟨_, rfl⟩
      have hfl : fstL (s.extract p s.size) = (K, Z) := by rw [← hK, ← hZ]
      rw [hZ, hxs] at hle
      rw [hK] at hkd
      clear hK hZ hxs
      by_cases hz0 : Z = 0
      · subst hz0
        rw [tok_none hfl] at HF
        have hbad := lexR_bad s p hlt hfl
        have hlex := HL.out
        rw [hbad] at hlex
        have e1 := HRE.out; have e2 := HRA.out; have e3 := HRT.out
        rw [hlex] at e1 e2 e3
        simp only [Lx.pre] at e1 e2 e3
        subst e1 e2 e3
        clear hlex hbad HL HO hfl hle hkd HRE HRA HRT
        go_wp2_with fail
        refine (HF.out _).mono ?_
        rintro e w1 ⟨rfl, rfl⟩
        go_wp2_with fail
        go_ret3
        exact ⟨_, rfl, World.ownsRow_nil _ _ _ _, HB.out⟩
      rw [tok_some hfl hz0] at HF
      have hstep := Lib.hid (lexR_step s p hlt hfl hz0)
      have hk2 : (K == -2) = false := by rw [beq_eq_false_iff_ne]; omega
      obtain ⟨q, hq⟩ : ∃ q, p + Z = q := ⟨_, rfl⟩
      have hqs : q ≤ s.size := by omega
      have hqI : (q : Int) ≤ s.size := by omega
      have hpq : p < q := by omega
      have hpqI : (p : Int) ≤ q := by omega
      rw [hq] at HF hstep
      clear hfl
      by_cases hk1 : K = -1
      · subst hk1
        have HL2 := Lib.hid (show lexS s = (lexR s q).pre l by rw [HL.out, hstep.out, if_pos rfl, Lx.pre_nil])
        clear HL hstep hkd hq
        go_wp2_with fail
        refine (HF.out _).mono ?_
        rintro e w1 ⟨rfl, rfl⟩
        go_wp2_with fail
        go_roundw
        case rel => exact ⟨q, l, rfl, by omega, by omega, HL2, HO, HB⟩
        case measure => simp [intOf]; omega
      · have hkb : (0 : Int) ≤ K := by omega
        have HL2 := Lib.hid (show lexS s = (lexR s q).pre (l ++ [(⟨K, s.extract p q, p⟩ : Tk)]) by rw [HL.out, hstep.out, if_neg hk1, Lx.pre_pre])
        clear HL hstep hkd hk1
        go_wp2_with fail
        refine (HF.out _).mono ?_
        rintro e w1 ⟨rfl, rfl⟩
        go_wp2_with (first | (at_builtin; go_must (refine wpList_push _ _ 23 34 HO.out HB.out (Nat.le_refl _) Tryd.underlying23 hNI hzI0 hzI1 hzI2 rfl (by decide) rfl rfl rfl rfl rfl ?c1 ?c2 ?_)))
        case c1 => intro u hu; simp at hu; rcases hu with rfl | rfl | rfl <;> rfl
        case c2 => omega
        intro v' w3 hown3 hb3
        have HO3 := Lib.hid (show w3.ownsRow w.heap.size 34 3 v' (l ++ [(⟨K, s.extract p q, p⟩ : Tk)]).length (tkCells (l ++ [(⟨K, s.extract p q, p⟩ : Tk)])) by rw [tkCells_snoc, List.length_append]; exact hown3)
        have HW3 := Lib.hid hb3
        clear hown3 hb3 HO HB
        go_wp2_with fail
        go_roundw
        case rel => exact ⟨q, _, rfl, by omega, by rw [List.length_append, List.length_singleton]; omega, HL2, HO3, HW3⟩
        case measure => simp [intOf]; omega
    · obtain rfl : p = s.size := by omega
      have hlex := HL.out
      rw [lexR_end s _ (Nat.le_refl _)] at hlex
      simp only [Lx.pre, List.append_nil] at hlex
      have e1 := HRE.out; have e2 := HRA.out; have e3 := HRT.out
      rw [hlex] at e1 e2 e3
      simp only at e1 e2 e3
      subst e1 e2 e3
      clear hlex HL
      go_wp2_with (first | (at_builtin; go_must (refine wpList_push _ _ 23 34 HO.out HB.out (Nat.le_refl _) Tryd.underlying23 hNI hzI0 hzI1 hzI2 rfl (by decide) rfl rfl rfl rfl rfl ?c1 ?c2 ?_)))
      case c1 => intro u hu; simp at hu; rcases hu with rfl | rfl | rfl <;> rfl
      case c2 => omega
      intro v' w3 hown3 hb3
      have HO3 := Lib.hid (show w3.ownsRow w.heap.size 34 3 v' (l ++ [endTk s]).length (tkCells (l ++ [endTk s])) by rw [tkCells_snoc, List.length_append]; exact hown3)
      have HW3 := Lib.hid hb3
      clear HO HB hown3 hb3
      go_wp2_with fail
      go_ret3
      exact ⟨_, rfl, HO3.out, HW3.out⟩
theorem neqTk (K : Int) (X : ByteArray) (p : Int) (u : World) : (binOp .neq 34 (.agg #[.int .i64 K, .string X, .int .i64 p]) (.agg #[.int .i64 K, .string X, .int .i64 p])).run Tryd.prog u = .ok (.bool false) u := by
  have u3 := Tryd.underlying3
  have u9 := Tryd.underlying9
  have z3 := Tryd.sizeOf3
  have z9 := Tryd.sizeOf9
  go_simp
set_option maxRecDepth 100000 in
set_option maxHeartbeats 4000000 in
/-- two rows of the same tokens are alike -/
theorem rfLike (v1 v2 : Value) (l : List Tk) (w : World) (h1 : IsTks w v1 l) (h2 : IsTks w v2 l) :
    Calls Tryd.prog 14 #[v1, v2] w fun e w' => e = .returned (.bool true) ∧ Below w.heap.size w w' := by
  obtain ⟨a1, c1, rfl, hc11, hc12, hat1⟩ := h1
  obtain ⟨a2, c2, rfl, hc21, hc22, hat2⟩ := h2
  obtain ⟨n, hn⟩ : ∃ n, l.length = n := ⟨_, rfl⟩
  have HAT1 := Lib.hid hat1; have HAT2 := Lib.hid hat2; have HN := Lib.hid hn
  rw [hn] at hc11 hc21 ⊢
  have hnI : (n : Int) ≤ 9223372036854775807 := by omega
  clear hat1 hat2 hn
  go_enter Tryd.func14, Tryd.ntmps14
  go_wp2_with fail
  go_loopw [13] (fun z wr => ∃ (j : Nat), z = .int .i64 j ∧ j ≤ n ∧ Hid (Below w.heap.size w wr)) (fun z _ => n - (intOf z).toNat)
  case atStart => exact ⟨0, rfl, by omega, Lib.hid (Below.refl _ _)⟩
  case round =>
    obtain ⟨j, rfl, hj, HW⟩ := hrel
    by_cases hjn : j < n
    · have hjI : (j : Int) < n := by omega
      have hjl : j < l.length := by rw [HN.out]; exact hjn
      obtain ⟨b1, rfl, hlt1, hat1⟩ := HAT1.out.resolve_left (by omega)
      obtain ⟨b2, rfl, hlt2, hat2⟩ := HAT2.out.resolve_left (by omega)
      obtain ⟨x1, x2, x3⟩ := hat1 j hjl
      obtain ⟨y1, y2, y3⟩ := hat2 j hjl
      have k1 := (HW.out.cell (p := ⟨b1, j * 3, none⟩) hlt1).trans x1
      have k2 := (HW.out.cell (p := ⟨b1, j * 3 + 1, none⟩) hlt1).trans x2
      have k3 := (HW.out.cell (p := ⟨b1, j * 3 + 2, none⟩) hlt1).trans x3
      have m1 := (HW.out.cell (p := ⟨b2, j * 3, none⟩) hlt2).trans y1
      have m2 := (HW.out.cell (p := ⟨b2, j * 3 + 1, none⟩) hlt2).trans y2
      have m3 := (HW.out.cell (p := ⟨b2, j * 3 + 2, none⟩) hlt2).trans y3
      have hne := fun u => neqTk l[j].kind l[j].text l[j].pos u
      clear hat1 hat2 x1 x2 x3 y1 y2 y3
      generalize l[j].kind = K at *
      generalize l[j].text = X at *
      generalize (l[j].pos : Int) = P at *
      go_wp2_with fail
      go_quiet (fail)
      go_wp2_with fail
      go_roundw
      case rel => exact ⟨j + 1, by go_num, by omega, Lib.hid (by first | exact HW.out | exact belowN HW.out _)⟩
      case measure => simp [intOf]; omega
    · obtain rfl : j = n := by omega
      go_wp2_with fail
      go_ret
      exact ⟨rfl, HW.out⟩
end Go.Proofs.YtpkpbohkdkmoiaaDoor
