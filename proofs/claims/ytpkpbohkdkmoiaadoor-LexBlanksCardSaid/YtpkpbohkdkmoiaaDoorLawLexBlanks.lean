/- The walk of LexBlanks. -/
import Derived.Test.YtpkpbohkdkmoiaaDoorLxE
import Derived.Test.YtpkpbohkdkmoiaaDoorLxD
namespace Go.Proofs.YtpkpbohkdkmoiaaDoor.lawLexBlanks
open Go.RowKit
set_option linter.unusedVariables false

theorem rot_b (x : Int) (i : Nat) (h0 : 0 < i) (h1 : i ≤ 3000) : ∃ B : Nat, (wrap64 (x.tmod i + i)).tmod i = B ∧ B < i ∧ wrap64 (x.tmod i + i) = x.tmod i + i ∧ (x.tmod i + i).tmod i = B := by
  have ha : x.tmod i < i := Int.tmod_lt_of_pos x (by omega)
  have hb : -(i : Int) < x.tmod i := Int.lt_tmod_of_pos x (by omega)
  have hw : wrap64 (x.tmod i + i) = x.tmod i + i := by unfold wrap64; omega
  have he : (x.tmod i + i).tmod i = (x.tmod i + i) % i := Int.tmod_eq_emod_of_nonneg (by omega)
  rw [hw, he]
  refine ⟨((x.tmod i + i) % i).toNat, ?_, ?_, rfl, ?_⟩
  · have := Int.emod_nonneg (x.tmod i + i) (show (i : Int) ≠ 0 by omega); omega
  · have := Int.emod_lt_of_pos (x.tmod i + i) (show (0 : Int) < i by omega); omega
  · have := Int.emod_nonneg (x.tmod i + i) (show (i : Int) ≠ 0 by omega); omega
theorem below_row {w w' : World} {b j : Nat} {v : Value} (hb : Below w.heap.size w w') (hlt : b < w.heap.size) (h : w.cell? ⟨b, j, none⟩ = some v) : w'.cell? ⟨b, j, none⟩ = some v :=
  (hb.cell (p := ⟨b, j, none⟩) hlt).trans h
theorem toks_few (s : ByteArray) (hs : s.size ≤ 900) : (lexToks s).length ≤ 901 := by
  have hg := lexGood s
  by_cases h0 : lexE s = 0
  · rw [if_pos h0] at hg
    obtain ⟨l, hl, hP⟩ := hg
    have : ∀ (l : List Tk) p, Placed s p l → p + l.length ≤ s.size ∨ l = [] := by
      intro l
      induction l with
      | nil => intro p _; exact .inr rfl
      | cons t r ih =>
        intro p hp
        obtain ⟨h1, h2, h3, _, _, h6⟩ := hp
        left
        rcases ih _ h6 with h | h
        · rw [List.length_cons]; omega
        · rw [h]; simp; omega
    rw [hl, List.length_append, List.length_singleton]
    rcases this l 0 hP with h | h
    · omega
    · rw [h]; simp
  · rw [if_neg h0] at hg
    rw [hg.1]; simp
set_option maxRecDepth 100000 in
set_option maxHeartbeats 8000000 in
theorem walk (s0 : ByteArray) (at0 : Int) (r0 : ByteArray) (w : World) (w0 : s0.size ≤ maxLen) (w1 : (Lit.int .i64 at0).wf = true) (w2 : r0.size ≤ maxLen) (hE : Errs w) :
    Calls Tryd.prog 5 #[.string s0, .int .i64 at0, .string r0] w fun e w' => e = .returned (.bool true) ∧ Below w.heap.size w w' := by
  have hsI0 : (s0.size : Int) ≤ 9223372036854775807 := by unfold maxLen at w0; omega
  have hrI0 : (r0.size : Int) ≤ 9223372036854775807 := by unfold maxLen at w2; omega
  obtain ⟨s, hS⟩ : ∃ s, s0.extract 0 (min (s0.size : Int) 900).toNat = s := ⟨_, rfl⟩
  have hss : s.size ≤ 900 := by rw [← hS, ByteArray.size_extract]; omega
  have hsI : (s.size : Int) ≤ 900 := by omega
  have HS := Lib.hid hS
  have HG := Lib.hid (fun u hu => lxGot s u (by omega) hu)
  have hfew := toks_few s hss
  have HBL := Lib.hid (lexBlank s hss)
  have hgood := lexGood s
  clear hS w0 w1 w2
  unfold LexGot at HG
  generalize lexE s = RE at *
  generalize lexAt s = RA at *
  generalize lexToks s = RT at *
  obtain ⟨m, hm, hm1, hm2, hm3⟩ := min_if r0.size 100 (by omega)
  have hmm : min (r0.size : Int) 100 = m := by omega
  by_cases h0 : RE = 0
  case neg =>
    rw [if_neg h0] at hgood
    obtain ⟨hRT, _⟩ := hgood
    subst hRT
    have hREb : ((RE : Int) != 0) = true := by rw [bne_iff_ne]; omega
    clear h0 HBL hm hmm
    go_enter Tryd.func5, Tryd.ntmps5
    go_wp2_with fail
    rw [HS.out]
    refine (HG.out _ hE).mono ?_
    rintro e w1 ⟨v, rfl, ⟨a, cap, rfl, hc1, hc2, hat⟩, hb⟩
    go_wp2_with fail
    refine (lxAlive _ (hE.keep hb)).mono ?_
    rintro e w2 ⟨rfl, hb2⟩
    go_wp2_with fail
    go_ret
    exact ⟨rfl, hb.trans (hb2.mono hb.size)⟩
  subst h0
  rw [if_pos rfl] at hgood
  have hpos : 0 < RT.length := by
    obtain ⟨l, hl, _⟩ := hgood
    rw [hl]; simp
  obtain ⟨n, hn⟩ : ∃ n, RT.length = n := ⟨_, rfl⟩
  rw [hn] at hpos hfew
  have hnI : (n : Int) ≤ 901 := by omega
  have hnp : (0 : Int) < n := by omega
  have hnz : ((n : Int) == 0) = false := by rw [beq_eq_false_iff_ne]; omega
  obtain ⟨i, hi1, hi2, hi3, hi4⟩ := rot_b at0 n hpos (by omega)
  have hiI : (i : Int) < n := by omega
  have hiR : i < RT.length := by omega
  obtain ⟨T, hT⟩ : ∃ T, RT[i]'hiR = T := ⟨_, rfl⟩
  have hbl := HBL.out rfl i hiR
  rw [hT] at hbl
  obtain ⟨kd, tx, ps⟩ := T
  simp only at hbl
  have HBL2 := Lib.hid hbl
  have HT := Lib.hid hT
  clear HBL hbl hgood
  go_enter Tryd.func5, Tryd.ntmps5
  go_wp2_with fail
  rw [HS.out]
  refine (HG.out _ hE).mono ?_
  rintro e w1 ⟨v, rfl, ⟨a, cap, rfl, hc1, hc2, hat⟩, hb⟩
  rcases hat with h0 | ⟨b, rfl, hlt, hat⟩
  · omega
  rw [hn] at hc1 ⊢
  obtain ⟨c1, c2, c3⟩ := hat i hiR
  simp only [HT.out] at c1 c2 c3
  have HAT := Lib.hid hat
  have HB := Lib.hid hb
  clear hat hb c2
  by_cases hk4 : kd = 4 ∨ kd = 0
  · rcases hk4 with rfl | rfl
    all_goals
      go_wp2_with fail
      go_loop [10, 68] (fun z10 z68 => ∃ (j : Nat) (r : List UInt8), z68 = .int .i64 j ∧ j ≤ m ∧ z10 = .string ⟨(32 :: 35 :: r).toArray⟩ ∧ r.length ≤ j ∧ Hid (∀ c ∈ r, notLine c.toNat = true)) (fun _ z68 => m - (intOf z68).toNat)
      case atStart => exact ⟨0, [], rfl, by omega, rfl, by simp, Lib.hid (fun c hc => by cases hc)⟩
      case round =>
        obtain ⟨j, r, rfl, hj, rfl, hrj, HR⟩ := hrel
        by_cases hjm : j < m
        · have hjI : (j : Int) < m := by omega
          have hjr : (j : Int) < r0.size := by omega
          have hidx : ∀ u : World, Sem.run Tryd.prog (Instr.index 9 (.string r0) (.int .i64 (j : Int))) u = .ok (.int .u8 (r0[j].toNat : Int)) u := fun u => lxIdxS r0 j (by omega) u
          by_cases hc : r0[j] = 10
          · rw [hc] at hidx
            go_wp2_with fail
            go_round
            case rel => exact ⟨j + 1, r, by go_num, by omega, rfl, by omega, HR⟩
            case measure => simp [intOf]; omega
          · have hcb : ((r0[j].toNat : Int) != 10) = true := by
              rw [bne_iff_ne]
              intro e
              apply hc
              apply UInt8.toNat_inj.1
              show r0[j].toNat = 10
              omega
            have HR2 := Lib.hid (show ∀ c ∈ r ++ [r0[j]], notLine c.toNat = true by
              intro c hcm
              rcases List.mem_append.1 hcm with h | h
              · exact HR.out c h
              · rw [List.mem_singleton.1 h]
                unfold notLine
                rw [decide_eq_true_eq]
                intro e
                apply hc
                apply UInt8.toNat_inj.1
                exact e)
            have hex : (⟨(32 :: 35 :: (r ++ [r0[j]])).toArray⟩ : ByteArray) = ⟨(32 :: 35 :: r).toArray⟩ ++ r0.extract j (j + 1) := by
              apply ba_ext
              have hd1 : (r0.data.toList.drop j).take 1 = [r0[j]] := by
                rw [List.drop_eq_getElem_cons (by rw [ba_len]; omega), List.take_succ_cons, List.take_zero]
                simp [ByteArray.getElem_eq_getElem_data]
              rw [ba_append_list, ba_extract_list, Nat.add_sub_cancel_left, hd1]
              simp
            have hadd := fun u => add_run (P := Tryd.prog) _ _ _ hex (by rw [ba_size, ByteArray.size_extract]; simp; omega) u
            generalize r0[j] = c at *
            generalize (c.toNat : Int) = c' at *
            obtain ⟨X, hX⟩ : ∃ X : ByteArray, ⟨(32 :: 35 :: (r ++ [c])).toArray⟩ = X := ⟨_, rfl⟩
            rw [hX] at hadd
            have HX := Lib.hid hX
            clear hX hex hc
            have hj1 : (j : Int) + 1 ≤ r0.size := by omega
            have hj2 : (j : Int) ≤ (j : Int) + 1 := by omega
            go_wp2_with fail
            go_round
            case rel => exact ⟨j + 1, r ++ [c], by go_num, by omega, by rw [HX.out], by simp; omega, HR2⟩
            case measure => simp [intOf]; omega
        · obtain rfl : j = m := by omega
          obtain ⟨hps, he0, hmap⟩ := HBL2.out (32 :: 35 :: r) (by simp; omega) (.inr ⟨r, rfl, HR.out, by simp⟩)
          obtain ⟨P, hP⟩ : ∃ P : ByteArray, ⟨(32 :: 35 :: r).toArray⟩ = P := ⟨_, rfl⟩
          have hPs : P.size ≤ 102 := by rw [← hP, ba_size]; simp; omega
          rw [hP] at he0 hmap ⊢
          clear hP HR hrj HBL2
          have hpsI : (ps : Int) ≤ s.size := by omega
          have hps0 : (0 : Int) ≤ ps := by omega
          obtain ⟨M, hM⟩ : ∃ M, s.extract 0 ps ++ P ++ s.extract ps s.size = M := ⟨_, rfl⟩
          obtain ⟨U, hU⟩ : ∃ U, s.extract 0 ps ++ P = U := ⟨_, rfl⟩
          have hUs : U.size = ps + P.size := by rw [← hU, ByteArray.size_append, ByteArray.size_extract]; omega
          have hMs : M.size ≤ 1100 := by rw [← hM, ByteArray.size_append, hU, ByteArray.size_extract]; omega
          have hadd1 := fun u => add_run (P := Tryd.prog) (s.extract 0 ps) P U hU.symm (by rw [ByteArray.size_extract]; omega) u
          have hadd2 := fun u => add_run (P := Tryd.prog) U (s.extract ps s.size) M (by rw [← hU]; exact hM.symm) (by rw [ByteArray.size_extract]; omega) u
          rw [hM] at he0 hmap
          have HG2 := Lib.hid (fun u hu => lxGot M u (by omega) hu)
          unfold LexGot at HG2
          rw [he0] at HG2
          obtain ⟨MA, hMA⟩ : ∃ MA, lexAt M = MA := ⟨_, rfl⟩
          obtain ⟨MT, hMT⟩ : ∃ MT, lexToks M = MT := ⟨_, rfl⟩
          rw [hMA, hMT] at HG2
          rw [hMT] at hmap
          have hlen : MT.length = n := by have := congrArg List.length hmap; simp at this; omega
          have HMAP := Lib.hid hmap
          clear hM hU hMA hMT hmap he0
          go_upto_region 18 with fail
          have hE1 := hE.keep HB.out
          have hEd : ∀ u : World, u.heap = w1.heap → Errs u := by
            intro u hu
            obtain ⟨x1, x2, x3, x4, x5, x6⟩ := hE1
            exact ⟨x1, x2, x3, x4, (World.cell?_of_block (a := ⟨1, 0, none⟩) (by rw [hu])).trans x5, (World.cell?_of_block (a := ⟨2, 0, none⟩) (by rw [hu])).trans x6⟩
          go_region_with (first | (go_at_call 9; refine (HG2.out _ (hEd _ (by rfl))).mono ?_; rintro e w5 ⟨v5, rfl, h5, hb5⟩))
          all_goals
            obtain ⟨a5, cap5, rfl, hc51, hc52, hat5⟩ := h5
            rcases hat5 with h0 | ⟨b5, rfl, hlt5, hat5⟩
            · omega
            rw [hlen] at hc51 ⊢
            have hb6 : Below w1.heap.size w1 w5 := (Below.refl _ w1).drew.trans hb5
            have HAT5 := Lib.hid hat5
            have HB6 := Lib.hid hb6
            clear hat5 hb5 hb6
            go_wp2_with fail
            go_loopw [121] (fun z wr => ∃ (j : Nat), z = .int .i64 j ∧ j ≤ n ∧ Hid (Below w5.heap.size w5 wr)) (fun z _ => n - (intOf z).toNat)
            case atStart => exact ⟨0, rfl, by omega, Lib.hid (Below.refl _ _)⟩
            case round =>
              obtain ⟨j, rfl, hj, HW⟩ := hrel
              by_cases hjn : j < n
              · have hjI : (j : Int) < n := by omega
                obtain ⟨x1, x2, _⟩ := HAT.out j (by omega)
                obtain ⟨y1, y2, _⟩ := HAT5.out j (by omega)
                have hme := congrArg (fun l : List (Int × ByteArray) => l[j]?) HMAP.out
                simp only [List.getElem?_map, List.getElem?_eq_getElem (show j < MT.length by omega), List.getElem?_eq_getElem (show j < RT.length by omega), Option.map_some, Option.some.injEq, Prod.mk.injEq] at hme
                obtain ⟨hm1, hm2⟩ := hme
                rw [hm1] at y1
                rw [hm2] at y2
                generalize (RT[j]'(by omega)).kind = K at *
                generalize (RT[j]'(by omega)).text = X at *
                have x1' := below_row HW.out (Nat.lt_of_lt_of_le hlt HB6.out.size) (below_row HB6.out hlt x1)
                have x2' := below_row HW.out (Nat.lt_of_lt_of_le hlt HB6.out.size) (below_row HB6.out hlt x2)
                have y1' := below_row HW.out hlt5 y1
                have y2' := below_row HW.out hlt5 y2
                clear x1 x2 y1 y2 hm1 hm2
                go_wp2_with fail
                go_quiet (fail)
                go_wp2_with fail
                go_roundw
                case rel => exact ⟨j + 1, by go_num, by omega, Lib.hid (by first | exact HW.out | exact belowN HW.out _)⟩
                case measure => simp [intOf]; omega
              · obtain rfl : j = n := by omega
                have HALL := Lib.hid (HB.out.trans ((HB6.out.trans (HW.out.mono HB6.out.size)).mono HB.out.size))
                have HE2 := Lib.hid (hE.keep HALL.out)
                go_wp2_with fail
                refine (lxAlive _ HE2.out).mono ?_
                rintro e w7 ⟨rfl, hb7⟩
                go_wp2_with fail
                go_ret
                exact ⟨rfl, HALL.out.trans (hb7.mono HALL.out.size)⟩
  · have hk4a : (kd == 4) = false := by rw [beq_eq_false_iff_ne]; intro e; exact hk4 (.inl e)
    have hk4b : (kd == 0) = false := by rw [beq_eq_false_iff_ne]; intro e; exact hk4 (.inr e)
    obtain ⟨hps, he0, hmap⟩ := HBL2.out [32, 9] (by simp) (.inl ⟨rfl, fun e => hk4 (.inl e), fun e => hk4 (.inr e)⟩)
    have hP0 : (⟨#[32, 9]⟩ : ByteArray) = ⟨([32, 9] : List UInt8).toArray⟩ := rfl
    rw [← hP0] at he0 hmap
    clear hP0
    obtain ⟨P, hP⟩ : ∃ P : ByteArray, ⟨#[32, 9]⟩ = P := ⟨_, rfl⟩
    have hPs : P.size ≤ 102 := by rw [← hP]; decide
    have HP := Lib.hid hP
    go_upto_region 15 with fail
    rw [hP] at he0 hmap ⊢
    clear hP HBL2 hk4
    have hpsI : (ps : Int) ≤ s.size := by omega
    have hps0 : (0 : Int) ≤ ps := by omega
    obtain ⟨M, hM⟩ : ∃ M, s.extract 0 ps ++ P ++ s.extract ps s.size = M := ⟨_, rfl⟩
    obtain ⟨U, hU⟩ : ∃ U, s.extract 0 ps ++ P = U := ⟨_, rfl⟩
    have hUs : U.size = ps + P.size := by rw [← hU, ByteArray.size_append, ByteArray.size_extract]; omega
    have hMs : M.size ≤ 1100 := by rw [← hM, ByteArray.size_append, hU, ByteArray.size_extract]; omega
    have hadd1 := fun u => add_run (P := Tryd.prog) (s.extract 0 ps) P U hU.symm (by rw [ByteArray.size_extract]; omega) u
    have hadd2 := fun u => add_run (P := Tryd.prog) U (s.extract ps s.size) M (by rw [← hU]; exact hM.symm) (by rw [ByteArray.size_extract]; omega) u
    rw [hM] at he0 hmap
    have HG2 := Lib.hid (fun u hu => lxGot M u (by omega) hu)
    unfold LexGot at HG2
    rw [he0] at HG2
    obtain ⟨MA, hMA⟩ : ∃ MA, lexAt M = MA := ⟨_, rfl⟩
    obtain ⟨MT, hMT⟩ : ∃ MT, lexToks M = MT := ⟨_, rfl⟩
    rw [hMA, hMT] at HG2
    rw [hMT] at hmap
    have hlen : MT.length = n := by have := congrArg List.length hmap; simp at this; omega
    have HMAP := Lib.hid hmap
    clear hM hU hMA hMT hmap he0
    go_upto_region 18 with fail
    have hE1 := hE.keep HB.out
    have hEd : ∀ u : World, u.heap = w1.heap → Errs u := by
      intro u hu
      obtain ⟨x1, x2, x3, x4, x5, x6⟩ := hE1
      exact ⟨x1, x2, x3, x4, (World.cell?_of_block (a := ⟨1, 0, none⟩) (by rw [hu])).trans x5, (World.cell?_of_block (a := ⟨2, 0, none⟩) (by rw [hu])).trans x6⟩
    go_region_with (first | (go_at_call 9; refine (HG2.out _ (hEd _ (by rfl))).mono ?_; rintro e w5 ⟨v5, rfl, h5, hb5⟩))
    all_goals
      obtain ⟨a5, cap5, rfl, hc51, hc52, hat5⟩ := h5
      rcases hat5 with h0 | ⟨b5, rfl, hlt5, hat5⟩
      · omega
      rw [hlen] at hc51 ⊢
      have hb6 : Below w1.heap.size w1 w5 := (Below.refl _ w1).drew.trans hb5
      have HAT5 := Lib.hid hat5
      have HB6 := Lib.hid hb6
      clear hat5 hb5 hb6
      go_wp2_with fail
      go_loopw [121] (fun z wr => ∃ (j : Nat), z = .int .i64 j ∧ j ≤ n ∧ Hid (Below w5.heap.size w5 wr)) (fun z _ => n - (intOf z).toNat)
      case atStart => exact ⟨0, rfl, by omega, Lib.hid (Below.refl _ _)⟩
      case round =>
        obtain ⟨j, rfl, hj, HW⟩ := hrel
        by_cases hjn : j < n
        · have hjI : (j : Int) < n := by omega
          obtain ⟨x1, x2, _⟩ := HAT.out j (by omega)
          obtain ⟨y1, y2, _⟩ := HAT5.out j (by omega)
          have hme := congrArg (fun l : List (Int × ByteArray) => l[j]?) HMAP.out
          simp only [List.getElem?_map, List.getElem?_eq_getElem (show j < MT.length by omega), List.getElem?_eq_getElem (show j < RT.length by omega), Option.map_some, Option.some.injEq, Prod.mk.injEq] at hme
          obtain ⟨hm1, hm2⟩ := hme
          rw [hm1] at y1
          rw [hm2] at y2
          generalize (RT[j]'(by omega)).kind = K at *
          generalize (RT[j]'(by omega)).text = X at *
          have x1' := below_row HW.out (Nat.lt_of_lt_of_le hlt HB6.out.size) (below_row HB6.out hlt x1)
          have x2' := below_row HW.out (Nat.lt_of_lt_of_le hlt HB6.out.size) (below_row HB6.out hlt x2)
          have y1' := below_row HW.out hlt5 y1
          have y2' := below_row HW.out hlt5 y2
          clear x1 x2 y1 y2 hm1 hm2
          go_wp2_with fail
          go_quiet (fail)
          go_wp2_with fail
          go_roundw
          case rel => exact ⟨j + 1, by go_num, by omega, Lib.hid (by first | exact HW.out | exact belowN HW.out _)⟩
          case measure => simp [intOf]; omega
        · obtain rfl : j = n := by omega
          have HALL := Lib.hid (HB.out.trans ((HB6.out.trans (HW.out.mono HB6.out.size)).mono HB.out.size))
          have HE2 := Lib.hid (hE.keep HALL.out)
          go_wp2_with fail
          refine (lxAlive _ HE2.out).mono ?_
          rintro e w7 ⟨rfl, hb7⟩
          go_wp2_with fail
          go_ret
          exact ⟨rfl, HALL.out.trans (hb7.mono HALL.out.size)⟩
end Go.Proofs.YtpkpbohkdkmoiaaDoor.lawLexBlanks
