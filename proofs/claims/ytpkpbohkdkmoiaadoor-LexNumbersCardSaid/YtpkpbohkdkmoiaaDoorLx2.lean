/- internal/strconv.ParseUint of few hexadecimal digits. -/
import Derived.Test.YtpkpbohkdkmoiaaDoorLx1
import Derived.Outline
import Derived.Lib.ConvBytes
namespace Go.Proofs.YtpkpbohkdkmoiaaDoor
open Go.RowKit
set_option linter.unusedVariables false

def hexD (c : Nat) : Nat := if c ≤ 57 then c - 48 else c - 87
def hexB (c : Nat) : Bool := decide (48 ≤ c ∧ c ≤ 57) || decide (97 ≤ c ∧ c ≤ 102)
def hexN (l : List UInt8) : Nat := l.foldl (fun n c => 16 * n + hexD c.toNat) 0
theorem hexN_snoc (l : List UInt8) (i : Nat) (h : i < l.length) : hexN (l.take (i + 1)) = 16 * hexN (l.take i) + hexD l[i].toNat := by
  unfold hexN
  rw [← List.take_append_getElem h, List.foldl_append]
  rfl
theorem hexN_lt (l : List UInt8) (hd : ∀ c ∈ l, hexB c.toNat = true) : hexN l < 16 ^ l.length := by
  have : ∀ (l : List UInt8), (∀ c ∈ l, hexB c.toNat = true) → ∀ n k, n < 16 ^ k → l.foldl (fun n c => 16 * n + hexD c.toNat) n < 16 ^ (k + l.length) := by
    intro l
    induction l with
    | nil => intro _ n k h; simpa using h
    | cons a l ih =>
      intro hd n k h
      have h1 := hd a (by simp)
      have h2 : hexD a.toNat ≤ 15 := by
        unfold hexB at h1
        simp only [Bool.or_eq_true, decide_eq_true_eq] at h1
        unfold hexD
        split <;> omega
      have h3 : 16 * n + hexD a.toNat < 16 ^ (k + 1) := by rw [Nat.pow_succ]; omega
      have := ih (fun c hc => hd c (by simp [hc])) _ (k + 1) h3
      rw [List.length_cons, List.foldl_cons]
      rwa [show k + (l.length + 1) = k + 1 + l.length by omega]
  have h := this l hd 0 0 (by simp)
  rwa [Nat.zero_add] at h
theorem lxLower (c : Nat) (u : World) (h : 97 ≤ c ∧ c ≤ 102) : Calls Tryd.prog 52 #[.int .u8 (c : Int)] u fun e u' => e = .returned (.int .u8 (c : Int)) ∧ u = u' := by
  have hc : c = 97 ∨ c = 98 ∨ c = 99 ∨ c = 100 ∨ c = 101 ∨ c = 102 := by omega
  clear h
  rcases hc with rfl | rfl | rfl | rfl | rfl | rfl
  all_goals
    go_enter Tryd.func52, Tryd.ntmps52
    go_wp2_with fail
    go_ret
    exact ⟨rfl, rfl⟩
theorem lxBytesBel (w : World) (e : TypeId) (s : ByteArray) : Below w.heap.size w (Lib.bytesWorld w e s) :=
  ⟨by simp [Lib.bytesWorld, World.freeze]; rfl, by simp [Lib.bytesWorld, World.freeze], by simp [Lib.bytesWorld, World.freeze]; rfl, by rw [Lib.bytesWorld_size]; omega, fun k hk => Lib.bytesWorld_at_old w e s k hk⟩
set_option maxRecDepth 100000 in
set_option maxHeartbeats 2000000 in
theorem lxHex (s : ByteArray) (w : World) (h0 : 0 < s.size) (h16 : s.size ≤ 16) (hd : ∀ j (h : j < s.size), hexB s[j].toNat = true) :
    Calls Tryd.prog 41 #[.string s, .int .i64 16, .int .i64 64] w fun e w' => e = .returned (.tuple #[.int .u64 (hexN s.data.toList : Nat), .nilIface]) ∧ Below w.heap.size w w' := by
  have hl := ba_len s
  have hsI : (s.size : Int) ≤ 16 := by omega
  have hemp : s.toList.isEmpty = false := by
    rw [ByteArray.toList_eq]
    cases hx : s.data.toList with
    | nil => rw [hx] at hl; simp at hl; omega
    | cons a t => rfl
  have hcv := Lib.run_convert_string_bytes (P := Tryd.prog) w 9 66 5 s Tryd.underlying9 Tryd.underlying66 Tryd.underlying5
  have hB : ∀ j, j < s.size → (Lib.bytesWorld w 5 s).cell? ⟨w.heap.size, j, none⟩ = some (.int .u8 (s.data.toList.getD j 0).toNat) := fun j hj => Lib.bytesWorld_cell w 5 s j hj
  have hbel : Below w.heap.size w (Lib.bytesWorld w 5 s) := lxBytesBel w _ s
  have hmv : IntKind.u64.wrap (IntKind.u64.wrap 18446744073709551616 - 1) = 18446744073709551615 := by
    rw [IntKind.wrap_u64, IntKind.wrap_u64]
    decide
  obtain ⟨W1, hW1⟩ : ∃ W1, Lib.bytesWorld w 5 s = W1 := ⟨_, rfl⟩
  rw [hW1] at hcv hB hbel
  have HB := Lib.hid hB; have HBEL := Lib.hid hbel; have HD := Lib.hid hd; have HL := Lib.hid hl
  clear hW1 hB hbel hd hl
  go_enter Tryd.func41, Tryd.ntmps41
  go_wp2_with fail
  have e0 : hexN (s.data.toList.take 0) = 0 := rfl
  go_loop [12, 13, 101] (fun b n z => ∃ i : Nat, z = .int .i64 i ∧ i ≤ s.size ∧ b = .bool false ∧ n = .int .u64 (hexN (s.data.toList.take i) : Nat)) (fun _ _ z => s.size - (intOf z).toNat)
  case atStart => exact ⟨0, rfl, by omega, rfl, by rw [e0]; rfl⟩
  case round =>
    obtain ⟨i, rfl, hi, rfl, rfl⟩ := hrel
    have hl := HL.out
    by_cases hlt : i < s.size
    · have hltI : (i : Int) < s.size := by omega
      have hc := HB.out i hlt
      have hsn := hexN_snoc s.data.toList i (by omega)
      have hN := hexN_lt (s.data.toList.take i) (fun c hc => by
        obtain ⟨j, hj, rfl⟩ := List.mem_iff_getElem.1 (List.mem_of_mem_take hc)
        have := HD.out j (by omega)
        simpa [ByteArray.getElem_eq_getElem_data] using this)
      have hlen : (s.data.toList.take i).length ≤ 15 := by rw [List.length_take]; omega
      have hp : 16 ^ (s.data.toList.take i).length ≤ 16 ^ 15 := Nat.pow_le_pow_right (by omega) hlen
      have hp2 : (16 : Nat) ^ 15 = 1152921504606846976 := by decide
      have hg : s.data.toList.getD i 0 = s.data.toList[i]'(by omega) := by rw [List.getD_eq_getElem?_getD, List.getElem?_eq_getElem (by omega)]; rfl
      have hcl : hexB (s.data.toList[i]'(by omega)).toNat = true := by
        have := HD.out i hlt
        simpa [ByteArray.getElem_eq_getElem_data] using this
      rw [hg] at hc
      generalize s.data.toList[i]'(by omega) = ch at *
      generalize ch.toNat = c at *
      obtain ⟨N, hNN⟩ : ∃ N, hexN (s.data.toList.take i) = N := ⟨_, rfl⟩
      obtain ⟨M, hMM⟩ : ∃ M, hexN (s.data.toList.take (i + 1)) = M := ⟨_, rfl⟩
      rw [hNN] at hN hsn ⊢
      rw [hMM] at hsn
      have HMM := Lib.hid hMM
      have hNI : (N : Int) ≤ 1152921504606846975 := by omega
      have hcls : (48 ≤ c ∧ c ≤ 57 ∧ (M : Int) = N * 16 + (c - 48)) ∨ (97 ≤ c ∧ c ≤ 102 ∧ (M : Int) = N * 16 + (c - 97 + 10)) := by
        unfold hexB at hcl
        simp only [Bool.or_eq_true, decide_eq_true_eq] at hcl
        rcases hcl with h | h
        · left
          refine ⟨h.1, h.2, ?_⟩
          rw [hsn, hexD, if_pos h.2]; omega
        · right
          refine ⟨h.1, h.2, ?_⟩
          rw [hsn, hexD, if_neg (by omega)]; omega
      have hnc : ¬ ((N : Int) ≥ 1152921504606846976) := by omega
      have hn95 : ((c : Int) == 95) = false := by rw [beq_eq_false_iff_ne]; omega
      clear hsn hN hp hp2 hlen hg hcl hNN hMM hl hmv
      rcases hcls with ⟨g1, g2, g3⟩ | ⟨g1, g2, g3⟩
      · have k1 : (48 : Int) ≤ c := by omega
        have k2 : (c : Int) ≤ 57 := by omega
        have k3 : (c : Int) - 48 < 16 := by omega
        clear g1 g2
        go_big_wp2_with fail
        go_round
        case rel => exact ⟨i + 1, by go_num, by omega, rfl, by rw [HMM.out, g3]⟩
        case measure => simp [intOf]; omega
      · have k1 : (97 : Int) ≤ c := by omega
        have k2 : (c : Int) ≤ 102 := by omega
        have k4 : ¬ (c : Int) ≤ 57 := by omega
        have k3 : (c : Int) - 97 + 10 < 16 := by omega
        have k5 : (c : Int) ≤ 122 := by omega
        have k6 : (48 : Int) ≤ c := by omega
        have HLO := Lib.hid (fun u => lxLower c u ⟨g1, g2⟩)
        clear g1 g2
        go_big_wp2_with fail
        refine (HLO.out _).mono ?_
        rintro e w2 ⟨rfl, rfl⟩
        go_big_wp2_with fail
        refine (HLO.out _).mono ?_
        rintro e w2 ⟨rfl, rfl⟩
        go_big_wp2_with fail
        refine (HLO.out _).mono ?_
        rintro e w2 ⟨rfl, rfl⟩
        go_upto_region 46 with fail
        have kd : 0 ≤ (c : Int) - 97 + 10 ∧ (c : Int) - 97 + 10 ≤ 15 := by omega
        obtain ⟨d, hdd⟩ : ∃ d, (c : Int) - 97 + 10 = d := ⟨_, rfl⟩
        rw [hdd] at kd g3 ⊢
        obtain ⟨kd0, kd1⟩ := kd
        have kd2 : d < 16 := by omega
        have m1 : IntKind.u64.wrap ((N : Int) * 16) = N * 16 := by rw [IntKind.wrap_u64]; omega
        have m2 : IntKind.u64.wrap ((N : Int) * 16 + d) = N * 16 + d := by rw [IntKind.wrap_u64]; omega
        have m3 : ((N : Int) * 16 + d < N * 16) = False := by simp; omega
        have m4 : ((18446744073709551615 : Int) < (N : Int) * 16 + d) = False := by simp; omega
        have m5 : IntKind.u64.wrap d = d := by rw [IntKind.wrap_u64]; omega
        have m6 : ((1152921504606846976 : Int) ≤ N) = False := by simp; omega
        have m7 : ((16 : Int) ≤ d) = False := by simp; omega
        clear k1 k2 k3 k4 k5 k6 hdd HLO hn95 hsI kd0 kd1 kd2 hNI hnc
        go_upto_region 48 with fail
        go_big_wp2_with fail
        go_round
        case rel => exact ⟨i + 1, by go_num, by omega, rfl, by rw [HMM.out, g3]⟩
        case measure => simp [intOf]; omega
    · obtain rfl : i = s.size := by omega
      have hnl : ¬ (s.size : Int) < s.size := by omega
      rw [List.take_of_length_le (by omega)]
      go_wp2_with fail
      go_ret2
      exact ⟨rfl, HBEL.out⟩
end Go.Proofs.YtpkpbohkdkmoiaaDoor
