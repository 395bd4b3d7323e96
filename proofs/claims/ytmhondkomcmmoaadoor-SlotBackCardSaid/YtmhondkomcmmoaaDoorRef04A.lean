/- The reference of layer 4: numbers, kinds, parts. -/
import Derived.Test.YtmhondkomcmmoaaDoorSlotRH
import Derived.Test.YtmhondkomcmmoaaDoorRef02
namespace Go.Proofs.YtmhondkomcmmoaaDoor
open Go.RowKit
set_option linter.unusedVariables false

set_option maxRecDepth 100000 in
theorem ref4Number_any (n : Int) (k : Nat) (w : World) (h0 : 0 ≤ n) (h1 : n ≤ 9223372036854775807) (hk : k ≤ 8) :
    Calls Tryd.prog 31 #[.int .i64 n, .int .i64 (k : Nat)] w fun e w' => e = .returned (.string ⟨(putL n.toNat k).toArray⟩) ∧ Below w.heap.size w w' := by
  have HB := Lib.hid (fun u => refBytes_any n.toNat k u (by omega) (by omega))
  rw [show ((n.toNat : Nat) : Int) = n by omega] at HB
  have hw : IntKind.u64.wrap n = n := by simp [IntKind.wrap, IntKind.signed, IntKind.bits]; omega
  go_enter Tryd.func31, Tryd.ntmps31
  go_wp2_with fail
  refine (HB.out _).mono ?_
  rintro e w1 ⟨rfl, hb1⟩
  go_wp2_with fail
  go_ret
  exact ⟨rfl, hb1⟩
theorem ref4Epoch_any (n : Int) (w : World) : Calls Tryd.prog 11 #[.int .i64 n] w fun e w' => e = .returned (.bool (decide (1 ≤ n ∧ n ≤ 1099511627776))) ∧ w = w' := by
  by_cases h1 : 1 ≤ n <;> by_cases h2 : n ≤ 1099511627776
  all_goals
    go_enter Tryd.func11, Tryd.ntmps11
    go_wp2_with fail
    go_ret
    simp [h1, h2]
theorem ref4Place_any (n : Int) (w : World) : Calls Tryd.prog 13 #[.int .i64 n] w fun e w' => e = .returned (.bool (decide (0 ≤ n ∧ n < 6))) ∧ w = w' := by
  have e : decide (0 ≤ n ∧ n < 6) = decide (0 ≤ n ∧ n ≤ 5) := by congr 1; rw [eq_iff_iff]; omega
  rw [e]
  by_cases h1 : 0 ≤ n <;> by_cases h2 : n ≤ 5
  all_goals
    go_enter Tryd.func13, Tryd.ntmps13
    go_wp2_with fail
    go_ret
    simp [h1, h2]
theorem ref4Lay_any (l : List UInt8) (w : World) (h : l.length ≤ 100000) :
    Calls Tryd.prog 30 #[.string ⟨l.toArray⟩] w fun e w' => e = .returned (.string (layS l)) ∧ Below w.heap.size w w' := by
  have hz : (ByteArray.mk l.toArray).size = l.length := ba_size l
  have HC := Lib.hid (fun u => ref02Seal_any ⟨l.toArray⟩ u (by omega))
  have HT := Lib.hid (fun u => refTrim_any (sealL ⟨l.toArray⟩) u (by rw [sealL_size]; omega))
  show Calls _ _ _ _ fun e w' => e = .returned (.string (trimS (sealL ⟨l.toArray⟩))) ∧ _
  generalize sealL ⟨l.toArray⟩ = X at *
  generalize (ByteArray.mk l.toArray) = Y at *
  clear hz h
  go_enter Tryd.func30, Tryd.ntmps30
  go_wp2_with fail
  refine (HC.out _).mono ?_
  rintro e w1 ⟨rfl, hb1⟩
  go_wp2_with fail
  refine (HT.out _).mono ?_
  rintro e w2 ⟨rfl, rfl⟩
  go_wp2_with fail
  go_ret
  exact ⟨rfl, hb1⟩
theorem superL_eq (n : Int) : superL n = [1] ++ putL n.toNat 6 := by simp [superL, fieldsL, putL]
theorem commitL_eq (n s : Int) : commitL n s = ([3] ++ putL n.toNat 6) ++ putL s.toNat 1 := by simp [commitL, fieldsL, putL]
set_option maxRecDepth 100000 in
theorem ref4Super_any (n : Int) (w : World) (h0 : 0 ≤ n) (h1 : n ≤ 9223372036854775807) :
    Calls Tryd.prog 12 #[.int .i64 n] w fun e w' => e = .returned (.string (layS (superL n))) ∧ Below w.heap.size w w' := by
  have HN := Lib.hid (fun u => ref4Number_any n 6 u h0 h1 (by omega))
  have HL := Lib.hid (fun u => ref4Lay_any (superL n) u (by rw [superL_eq, List.length_append, putL_length]; simp))
  have hadd : ∀ u, (Op.stringOp .add ⟨#[1]⟩ ⟨(putL n.toNat 6).toArray⟩).run Tryd.prog u = .ok (.string ⟨(superL n).toArray⟩) u :=
    add_run _ _ _ (by rw [superL_eq]; exact ba_app [1] _) (by rw [ba_size, ba_size, putL_length]; decide)
  generalize (ByteArray.mk (putL n.toNat 6).toArray) = F at *
  generalize (ByteArray.mk (superL n).toArray) = G at *
  generalize layS (superL n) = R at *
  go_enter Tryd.func12, Tryd.ntmps12
  go_wp2_with fail
  refine (HN.out _).mono ?_
  rintro e w1 ⟨rfl, hb1⟩
  go_wp2_with fail
  refine (HL.out _).mono ?_
  rintro e w2 ⟨rfl, hb2⟩
  go_wp2_with fail
  go_ret
  exact ⟨rfl, hb1.trans (hb2.mono hb1.size)⟩
set_option maxRecDepth 100000 in
theorem ref4Commit_any (n s : Int) (w : World) (h0 : 0 ≤ n) (h1 : n ≤ 9223372036854775807) (h2 : 0 ≤ s) (h3 : s ≤ 9223372036854775807) :
    Calls Tryd.prog 14 #[.int .i64 n, .int .i64 s] w fun e w' => e = .returned (.string (layS (commitL n s))) ∧ Below w.heap.size w w' := by
  have HN := Lib.hid (fun u => ref4Number_any n 6 u h0 h1 (by omega))
  have HN1 := Lib.hid (fun u => ref4Number_any s 1 u h2 h3 (by omega))
  have HL := Lib.hid (fun u => ref4Lay_any (commitL n s) u (by rw [commitL_eq, List.length_append, List.length_append, putL_length, putL_length]; simp))
  obtain ⟨M, hM⟩ : ∃ M, [3] ++ putL n.toNat 6 = M := ⟨_, rfl⟩
  have hml : M.length = 7 := by rw [← hM, List.length_append, putL_length]; rfl
  have hadd : ∀ u, (Op.stringOp .add ⟨#[3]⟩ ⟨(putL n.toNat 6).toArray⟩).run Tryd.prog u = .ok (.string ⟨M.toArray⟩) u :=
    add_run _ _ _ (by rw [← hM]; exact ba_app [3] _) (by rw [ba_size, ba_size, putL_length]; decide)
  have hadd2 : ∀ u, (Op.stringOp .add ⟨M.toArray⟩ ⟨(putL s.toNat 1).toArray⟩).run Tryd.prog u = .ok (.string ⟨(commitL n s).toArray⟩) u :=
    add_run _ _ _ (by rw [commitL_eq, hM]; exact ba_app _ _) (by rw [ba_size, ba_size, putL_length, hml]; decide)
  generalize (ByteArray.mk (putL n.toNat 6).toArray) = F at *
  generalize (ByteArray.mk (putL s.toNat 1).toArray) = F2 at *
  generalize (ByteArray.mk (commitL n s).toArray) = G at *
  generalize (ByteArray.mk M.toArray) = G2 at *
  generalize layS (commitL n s) = R at *
  clear hM hml
  go_enter Tryd.func14, Tryd.ntmps14
  go_wp2_with fail
  refine (HN.out _).mono ?_
  rintro e w1 ⟨rfl, hb1⟩
  go_wp2_with fail
  refine (HN1.out _).mono ?_
  rintro e w2 ⟨rfl, hb2⟩
  go_wp2_with fail
  refine (HL.out _).mono ?_
  rintro e w3 ⟨rfl, hb3⟩
  go_wp2_with fail
  go_ret
  have hb12 := hb1.trans (hb2.mono hb1.size)
  exact ⟨rfl, hb12.trans (hb3.mono hb12.size)⟩
theorem part_end (s : ByteArray) (p k : Nat) (h : s.size ≤ p) : partN s p k = 0 := by
  unfold partN cutL
  rw [List.drop_eq_nil_of_le (by rw [ba_len]; exact h)]
  simp [getL]
theorem part_cons (s : ByteArray) (p k : Nat) (h : p < s.size) : partN s p (k + 1) = (s[p]'h).toNat + 256 * partN s (p + 1) k := by
  have hl : p < s.data.toList.length := by rw [ba_len]; exact h
  unfold partN cutL
  rw [List.drop_eq_getElem_cons hl, List.take_succ_cons, getL]
  rfl
set_option maxRecDepth 100000 in
set_option maxHeartbeats 1000000 in
theorem ref4Part_any (s : ByteArray) (p k : Nat) (w : World) (hs : s.size ≤ 2000) (hp : p ≤ 2000) (hk : k ≤ 6) :
    Calls Tryd.prog 33 #[.string s, .int .i64 (p : Nat), .int .i64 (k : Nat)] w fun e w' => e = .returned (.int .i64 (partN s p k : Nat)) ∧ w = w' := by
  have hkI : (k : Int) ≤ 6 := by omega
  have hpI : (p : Int) ≤ 2000 := by omega
  have hsI : (s.size : Int) ≤ 2000 := by omega
  have HL := Lib.hid (fun j (hj : j ≤ k) => (Nat.lt_of_lt_of_le (partN_lt s (p + j) (k - j)) (Nat.pow_le_pow_right (by omega) (show k - j ≤ 6 - j by omega))))
  go_enter Tryd.func33, Tryd.ntmps33
  go_wp2_with fail
  go_loop [7, 8] (fun x z => ∃ j : Nat, j ≤ k ∧ x = .int .i64 (partN s (p + j) (k - j) : Nat) ∧ z = .int .i64 ((j : Int) - 1)) (fun _ z => (intOf z + 1).toNat)
  case atStart => exact ⟨k, Nat.le_refl _, by rw [Nat.sub_self]; rfl, rfl⟩
  case round =>
    obtain ⟨j, hj, rfl, rfl⟩ := hrel
    by_cases h0 : j = 0
    · subst h0
      have hx : ((0 : Nat) : Int) - 1 < 0 := by omega
      go_wp2_with fail
      go_ret
      exact ⟨rfl, rfl⟩
    · obtain ⟨i, rfl⟩ : ∃ i, j = i + 1 := ⟨j - 1, by omega⟩
      have hi : ((i + 1 : Nat) : Int) - 1 = i := by omega
      rw [hi]
      have hb := HL.out (i + 1) hj
      have hb2 : partN s (p + (i + 1)) (k - (i + 1)) < 256 ^ 5 := Nat.lt_of_lt_of_le hb (Nat.pow_le_pow_right (by omega) (by omega))
      rw [show (256 : Nat) ^ 5 = 1099511627776 by decide] at hb2
      have hkk : k - i = (k - (i + 1)) + 1 := by omega
      by_cases hlt : p + i < s.size
      · have hltI : (p : Int) + i < s.size := by omega
        have hc := part_cons s (p + i) (k - (i + 1)) hlt
        rw [← hkk, show p + i + 1 = p + (i + 1) by omega] at hc
        have hbt : ((s[p + i]'hlt).toNat : Int) ≤ 255 := by have := UInt8.toNat_lt (s[p + i]'hlt); omega
        have hix : ∀ u : World, (Instr.index 9 (.string s) (.int .i64 ((p : Int) + i))).run Tryd.prog u = .ok (.int .u8 ((s[p + i]'hlt).toNat : Int)) u := fun u => by
          have u9 := Tryd.underlying9
          have e9 : ((p : Int) + i).toNat = p + i := by omega
          go_simp
          rw [dif_pos (by omega)]
        generalize (s[p + i]'hlt).toNat = b at *
        generalize partN s (p + (i + 1)) (k - (i + 1)) = N at *
        generalize hM : partN s (p + i) (k - i) = M at *
        have hNI : (N : Int) ≤ 1099511627775 := by omega
        have hb0 : (0 : Int) ≤ b := by omega
        have hwb : IntKind.i64.wrap (b : Int) = b := by simp [IntKind.wrap, IntKind.signed, IntKind.bits]; omega
        have HC := Lib.hid hc; have HM := Lib.hid hM
        clear hb hb2 hc hM HL hkk
        go_wp2_with fail
        go_round
        case rel => exact ⟨i, by omega, by rw [HM.out, HC.out]; first | (congr 1; omega) | (simp; omega), by go_num⟩
        case measure => simp [intOf]
      · have hltI : ¬ (p : Int) + i < s.size := by omega
        have e1 := part_end s (p + (i + 1)) (k - (i + 1)) (by omega)
        have e2 := part_end s (p + i) (k - i) (by omega)
        rw [e1]
        have HE2 := Lib.hid e2
        clear e1 e2 hb hb2
        go_wp2_with fail
        go_round
        case rel => exact ⟨i, by omega, by rw [HE2.out]; rfl, by go_num⟩
        case measure => simp [intOf]
end Go.Proofs.YtmhondkomcmmoaaDoor
