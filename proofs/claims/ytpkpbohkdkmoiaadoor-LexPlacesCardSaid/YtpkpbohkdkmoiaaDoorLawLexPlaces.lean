/- The walk of LexPlaces. -/
import Derived.Test.YtpkpbohkdkmoiaaDoorLxD
namespace Go.Proofs.YtpkpbohkdkmoiaaDoor.lawLexPlaces
open Go.RowKit
set_option linter.unusedVariables false

theorem below_row {w w' : World} {b j : Nat} {v : Value} (hb : Below w.heap.size w w') (hlt : b < w.heap.size) (h : w.cell? ⟨b, j, none⟩ = some v) : w'.cell? ⟨b, j, none⟩ = some v :=
  (hb.cell (p := ⟨b, j, none⟩) hlt).trans h
set_option maxRecDepth 100000 in
set_option maxHeartbeats 4000000 in
theorem walk (s0 : ByteArray) (w : World) (w0 : s0.size ≤ maxLen) (hE : Errs w) :
    Calls Tryd.prog 4 #[.string s0] w fun e w' => e = .returned (.bool true) ∧ Below w.heap.size w w' := by
  have hs0 : s0.size ≤ 9223372036854775807 := w0
  obtain ⟨s, hS⟩ : ∃ s, lxShortS s0 = s := ⟨_, rfl⟩
  have HSH := Lib.hid (fun u => lxShort s0 u hs0)
  have hss := lxShortS_size s0
  rw [hS] at HSH hss
  have hsI : (s.size : Int) ≤ 2100 := by omega
  have HG := Lib.hid (fun u hu => lxGot s u (by omega) hu)
  clear hS w0 hs0
  unfold LexGot at HG
  obtain ⟨RE, hRE⟩ : ∃ RE, lexE s = RE := ⟨_, rfl⟩
  obtain ⟨RA, hRA⟩ : ∃ RA, lexAt s = RA := ⟨_, rfl⟩
  obtain ⟨RT, hRT⟩ : ∃ RT, lexToks s = RT := ⟨_, rfl⟩
  rw [hRE, hRA, hRT] at HG
  have hgood := lexGood s
  rw [hRE, hRA, hRT] at hgood
  clear hRE hRA hRT
  by_cases h0 : RE = 0
  case neg =>
    rw [if_neg h0] at hgood
    obtain ⟨hRT, hRA⟩ := hgood
    subst hRT
    have hREb : ((RE : Int) != 0) = true := by rw [bne_iff_ne]; omega
    have hRAI : (RA : Int) ≤ s.size := by omega
    have hRA0 : (0 : Int) ≤ RA := by omega
    clear h0
    go_enter Tryd.func4, Tryd.ntmps4
    go_wp2_with fail
    refine (HSH.out _).mono ?_
    rintro e w1 ⟨rfl, rfl⟩
    go_wp2_with fail
    refine (HG.out _ hE).mono ?_
    rintro e w1 ⟨v, rfl, ⟨a, cap, rfl, hc1, hc2, hat⟩, hb⟩
    go_wp2_with fail
    refine (lxAlive _ (hE.keep hb)).mono ?_
    rintro e w2 ⟨rfl, hb2⟩
    go_wp2_with fail
    go_ret
    exact ⟨rfl, hb.trans (hb2.mono hb.size)⟩
  subst h0
  rw [if_pos rfl] at hgood
  obtain ⟨l, hRT, hP⟩ := hgood
  subst hRT
  obtain ⟨n, hn⟩ : ∃ n, (l ++ [endTk s]).length = n := ⟨_, rfl⟩
  have hnl : n = l.length + 1 := by rw [← hn]; simp
  have HNL := Lib.hid hnl
  clear hnl
  have HP0 := Lib.hid hP
  clear hP
  go_enter Tryd.func4, Tryd.ntmps4
  go_wp2_with fail
  refine (HSH.out _).mono ?_
  rintro e w1 ⟨rfl, rfl⟩
  go_wp2_with fail
  refine (HG.out _ hE).mono ?_
  rintro e w1 ⟨v, rfl, ⟨a, cap, rfl, hc1, hc2, hat⟩, hb⟩
  have HGE : Hid (∀ i (h : i < n), (l ++ [endTk s])[i]? = some ((l ++ [endTk s])[i]'(by omega))) := Lib.hid fun i h => List.getElem?_eq_getElem _
  rcases hat with h0 | ⟨b, rfl, hlt, hat⟩
  · simp at h0
  rw [hn] at hc1 ⊢
  have HAT := Lib.hid hat
  clear hat
  have hb1 := hb
  have HB := Lib.hid hb
  clear hb
  go_wp2_with fail
  go_loopw [6, 37] (fun z6 z37 wr => ∃ (j last : Nat), z37 = .int .i64 j ∧ z6 = .int .i64 last ∧ j ≤ n ∧ last ≤ s.size ∧ Hid (Placed s last (l.drop j)) ∧ Hid (Below w1.heap.size w1 wr)) (fun _ z37 _ => n - (intOf z37).toNat)
  case atStart => exact ⟨0, 0, rfl, rfl, by omega, by omega, HP0, Lib.hid (Below.refl _ _)⟩
  case round =>
    obtain ⟨j, last, rfl, rfl, hj, hla, HPL, HW⟩ := hrel
    by_cases hjn : j < n
    case neg =>
      obtain rfl : j = n := by omega
      have hnl := HNL.out
      obtain ⟨m, hm⟩ : ∃ m, l.length = m := ⟨_, rfl⟩
      have hmj : (j : Int) - 1 = (m : Int) := by omega
      have hjp : (0 : Int) < j := by omega
      have hmI : (m : Int) < j := by omega
      have c3 := (HAT.out l.length (by omega)).2.2
      simp only [List.getElem_append_right (Nat.le_refl _), Nat.sub_self, List.getElem_cons_zero, endTk] at c3
      rw [hm] at c3
      have HB1 := Lib.hid hb1
      have HALL := Lib.hid (HB.out.trans (HW.out.mono HB.out.size))
      have HC := Lib.hid (fun (u : World) (hu : Below w1.heap.size w1 u) => below_row hu hlt c3)
      have HWW := HW
      have HE2 := Lib.hid (hE.keep HALL.out)
      clear hnl hm HPL HW hb1 c3 HGE
      go_wp2_with fail
      refine (lxAlive _ HE2.out).mono ?_
      rintro e w5 ⟨rfl, hb5⟩
      have k3 := HC.out _ (HWW.out.trans (hb5.mono HWW.out.size))
      have HFIN := Lib.hid (HALL.out.trans (hb5.mono HALL.out.size))
      clear hb5
      go_wp2_with fail
      go_ret
      exact ⟨rfl, HFIN.out⟩
    have hjI : (j : Int) < n := by omega
    obtain ⟨T, hT⟩ : ∃ T, (l ++ [endTk s])[j]'(by omega) = T := ⟨_, rfl⟩
    have hcell := HAT.out j (by omega)
    rw [hT] at hcell
    obtain ⟨c1, c2, c3⟩ := hcell
    have hnl := HNL.out
    by_cases hjl : j < l.length
    · have hTl : T = l[j] := by rw [← hT, List.getElem_append_left hjl]
      have hdrop : l.drop j = T :: l.drop (j + 1) := by rw [hTl, List.drop_eq_getElem_cons hjl]
      have hpl := HPL.out
      rw [hdrop] at hpl
      obtain ⟨p1, p2, p3, p4, ⟨p5, p6⟩, p7⟩ := hpl
      obtain ⟨kd, tx, ps⟩ := T
      simp only at c1 c2 c3 p1 p2 p3 p4 p5 p6 p7
      clear hdrop hTl hT HPL
      obtain ⟨q, hq⟩ : ∃ q, ps + tx.size = q := ⟨_, rfl⟩
      rw [hq] at p3 p4 p7
      have hqI : (ps : Int) + (tx.size : Int) = (q : Int) := by omega
      have hd1 : decide (ps < last) = false := decide_eq_false (by omega)
      have hd2 : decide (s.size < q) = false := decide_eq_false (by omega)
      have hpq : ps ≤ q := by omega
      have ht1 : ((s.extract ps q).toList == tx.toList) = true := by rw [← p4, beq_self_eq_true]
      have ht2 : tx.toList.isEmpty = false := by
        rw [ByteArray.toList_eq]
        cases hx : tx.data.toList with
        | nil => have := ba_len tx; rw [hx] at this; simp at this; omega
        | cons _ _ => rfl
      have ht3 : (kd == 0) = false := by rw [beq_eq_false_iff_ne]; omega
      have ht4 : ((j : Int) == (n : Int) - 1) = false := by rw [beq_eq_false_iff_ne]; omega
      have HP7 := Lib.hid p7
      have k1 := below_row HW.out hlt c1
      have k2 := below_row HW.out hlt c2
      have k3 := below_row HW.out hlt c3
      have HBX := Lib.hid (heap_alloc_new wr (.cells #[.int .i64 kd, .string tx, .int .i64 ps] 34))
      have HW1 := Lib.hid (HW.out.alloc HW.out.size (.cells #[.int .i64 kd, .string tx, .int .i64 ps] 34))
      clear p4 p7 c1 c2 c3 hnl
      go_wp2_with fail
      obtain ⟨bx, hbx⟩ : ∃ bx, wr.heap.size = bx := ⟨_, rfl⟩
      obtain ⟨W2, hW2⟩ : ∃ W2, wr.alloc (.cells #[.int .i64 kd, .string tx, .int .i64 ps] 34) = W2 := ⟨_, rfl⟩
      rw [hW2] at HBX HW1
      rw [hbx] at HBX
      rw [hW2, hbx]
      have g1 := below_cell (Below.refl _ W2) HBX.out 0 rfl
      have g2 := below_cell (Below.refl _ W2) HBX.out 1 rfl
      have g3 := below_cell (Below.refl _ W2) HBX.out 2 rfl
      clear hW2 hbx k1 k2 k3 HW
      go_quiet (fail)
      go_wp2_with fail
      go_roundw
      case rel => exact ⟨j + 1, q, by go_num, rfl, by omega, by omega, HP7, Lib.hid (belowN HW1.out _)⟩
      case measure => simp [intOf]; omega
    · obtain rfl : j = l.length := by omega
      have hTl : T = endTk s := by rw [← hT]; simp
      have hpl := HPL.out
      subst hTl
      simp only [endTk] at c1 c2 c3
      have hd1 : decide (s.size < last) = false := decide_eq_false (by omega)
      have hd2 : decide (s.size < s.size) = false := decide_eq_false (by omega)
      have ht1 : ((s.extract s.size s.size).toList == ByteArray.toList ⟨#[]⟩) = true := by
        rw [beq_iff_eq, ByteArray.toList_eq, ByteArray.toList_eq, ByteArray.data_extract]
        simp
      have ht4 : ((l.length : Int) == (n : Int) - 1) = true := by rw [beq_iff_eq]; omega
      have ht5 : (n : Int) - 1 = (l.length : Int) := by omega
      have HP7 := Lib.hid (show Placed s s.size (l.drop (l.length + 1)) by rw [List.drop_eq_nil_of_le (by omega)]; trivial)
      have k1 := below_row HW.out hlt c1
      have k2 := below_row HW.out hlt c2
      have k3 := below_row HW.out hlt c3
      have HBX := Lib.hid (heap_alloc_new wr (.cells #[.int .i64 0, .string ⟨#[]⟩, .int .i64 s.size] 34))
      have HW1 := Lib.hid (HW.out.alloc HW.out.size (.cells #[.int .i64 0, .string ⟨#[]⟩, .int .i64 s.size] 34))
      clear c1 c2 c3 hnl hpl HPL hT
      go_wp2_with fail
      obtain ⟨bx, hbx⟩ : ∃ bx, wr.heap.size = bx := ⟨_, rfl⟩
      obtain ⟨W2, hW2⟩ : ∃ W2, wr.alloc (.cells #[.int .i64 0, .string ⟨#[]⟩, .int .i64 s.size] 34) = W2 := ⟨_, rfl⟩
      rw [hW2] at HBX HW1
      rw [hbx] at HBX
      rw [hW2, hbx]
      have g1 := below_cell (Below.refl _ W2) HBX.out 0 rfl
      have g2 := below_cell (Below.refl _ W2) HBX.out 1 rfl
      have g3 := below_cell (Below.refl _ W2) HBX.out 2 rfl
      clear hW2 hbx k1 k2 k3 HW
      go_quiet (fail)
      go_wp2_with fail
      go_roundw
      case rel => exact ⟨l.length + 1, s.size, by go_num, by first | rfl | go_num, by have := HNL.out; omega, by omega, HP7, Lib.hid (belowN HW1.out _)⟩
      case measure => simp [intOf]; have := HNL.out; omega
end Go.Proofs.YtpkpbohkdkmoiaaDoor.lawLexPlaces
