/- slot.fields, slot.sealed and what fits. -/
import Derived.Test.YthnmnnlbglpjaaaDoorCrcSeal
import Derived.Test.YthnmnnlbglpjaaaDoorRow1
import Derived.Test.YthnmnnlbglpjaaaDoorLePut
import Derived.Test.YthnmnnlbglpjaaaDoorFill
import Derived.Test.YthnmnnlbglpjaaaDoorBuilder
import Derived.Outline
namespace Go.Proofs.YthnmnnlbglpjaaaDoor
open Go.RowKit
set_option linter.unusedVariables false

def encI (n : Int) : Value := .int .i64 n
/-- numbers one behind the other, each in k bytes -/
def fieldsL (k : Nat) (l : List Int) : List UInt8 := l.flatMap fun n => putL n.toNat k
theorem fieldsL_snoc (k : Nat) (l : List Int) (j : Nat) (h : j < l.length) : fieldsL k (l.take (j + 1)) = fieldsL k (l.take j) ++ putL (l[j]).toNat k := by
  rw [← List.take_append_getElem h, fieldsL, List.flatMap_append]
  simp [fieldsL]
theorem fieldsL_len (k : Nat) (l : List Int) : (fieldsL k l).length = l.length * k := by
  induction l with
  | nil => simp [fieldsL]
  | cons a l ih => rw [fieldsL, List.flatMap_cons, List.length_append, ← fieldsL, ih, putL_length, List.length_cons, Nat.add_mul]; omega
set_option maxRecDepth 100000 in
set_option maxHeartbeats 1000000 in
theorem slotFields_ok (k : Int) (v : Value) (l : List Int) (w : World) (hv : Reads1 encI w v l) (hk1 : 1 ≤ k) (hk8 : k ≤ 8) (hl : l.length ≤ 1000) (hf : ∀ n ∈ l, 0 ≤ n ∧ n.toNat < 256 ^ k.toNat) :
    Calls Tryd.prog 39 #[.int .i64 k, v] w fun e w' => e = .returned (.string ⟨(fieldsL k.toNat l).toArray⟩) ∧ Below w.heap.size w w' := by
  obtain ⟨a, len, cap, rfl, hlen, hc1, hc2, hat⟩ := hv
  subst hlen
  have hlI : (l.length : Int) ≤ 1000 := by omega
  have HAT := Lib.hid hat
  have HF := Lib.hid hf
  have hp8 := pow256_le (k := k.toNat) (by omega)
  have HP8 := Lib.hid hp8
  clear hat hf hp8
  go_enter Tryd.func39, Tryd.ntmps39
  go_wp2_with fail
  have h0 : Lib.IsBuilder 94 5 w.heap.size w.heap.size [] (w.alloc (.cells #[.pointer none, .slice none 0 0] 94)) := Lib.fresh_isBuilder 94 5 w
  have b0 : Below w.heap.size w (w.alloc (.cells #[.pointer none, .slice none 0 0] 94)) := (Below.refl _ w).alloc (Nat.le_refl _) _
  have H0 := Lib.hid h0
  clear h0
  go_loopw [12] (fun c wr => ∃ j : Nat, j ≤ l.length ∧ c = .int .i64 j ∧ Lib.IsBuilder 94 5 w.heap.size w.heap.size (Lib.byteCells (fieldsL k.toNat (l.take j))) wr ∧ Below w.heap.size w wr) (fun c _ => l.length - (intOf c).toNat)
  case atStart => exact ⟨0, by omega, rfl, H0.out, b0⟩
  case round =>
    clear H0 b0
    obtain ⟨j, hj, rfl, hbl, hwr⟩ := hrel
    have HBL := Lib.hid hbl
    clear hbl
    by_cases hlt : j < l.length
    · have hltI : (j : Int) < l.length := by omega
      obtain ⟨b, off, rfl, hb, hat⟩ := HAT.out.resolve_left (by omega)
      have hcell : wr.cell? ⟨b, off + j, none⟩ = some (.int .i64 l[j]) := (hwr.cell (p := ⟨b, off + j, none⟩) hb).trans (hat j hlt)
      obtain ⟨hn0, hn1⟩ := HF.out l[j] (List.getElem_mem hlt)
      have hsn := fieldsL_snoc k.toNat l j hlt
      generalize l[j] = n at *
      have hn2 : n ≤ 18446744073709551615 := by have := HP8.out; omega
      have hwn : IntKind.u64.wrap n = n := by simp [IntKind.wrap, IntKind.signed, IntKind.bits]; omega
      have hok : putOk n k = true := by unfold putOk; exact decide_eq_true ⟨hk1, hk8, hn1⟩
      have hps : putS n k = ⟨(putL n.toNat k.toNat).toArray⟩ := by unfold putS; rw [hok]; rfl
      have hpe : putE n k = 0 := by unfold putE; rw [hok]; rfl
      have HP := Lib.hid (fun u => lePut_any n k u hn0 hn2)
      rw [hps, hpe] at HP
      have hz : (ByteArray.mk (putL n.toNat k.toNat).toArray).size = k.toNat := by rw [ba_size, putL_length]
      have HSN := Lib.hid hsn; have HZ := Lib.hid hz
      clear hat hps hpe hok hsn hz hn1
      go_wp2_with fail
      refine (HP.out _).mono ?_
      rintro e w1 ⟨rfl, hb1⟩
      have HBL1 := Lib.hid (bldBelow HBL.out hb1)
      have hw1 := hwr.trans (hb1.mono hwr.size)
      clear hb1 HBL hwr hcell
      generalize hX : (ByteArray.mk (putL n.toNat k.toNat).toArray) = X at *
      have HX := Lib.hid hX
      clear hX
      go_wp2_with fail
      have h2 : k.toNat ≤ 8 := by omega
      have h3 : (l.take j).length * k.toNat ≤ 1000 * 8 := Nat.mul_le_mul (Nat.le_trans (List.length_take_le _ _) (by omega)) h2
      refine (bldWrite _ _ _ _ _ HBL1.out (by rw [Lib.byteCells_length, fieldsL_len, HZ.out]; omega) hw1.size).mono ?_
      rintro e w2 ⟨rfl, hbl2, hb2⟩
      have hbl3 : Lib.IsBuilder 94 5 w.heap.size w.heap.size (Lib.byteCells (fieldsL k.toNat (l.take (j + 1)))) w2 := by
        rw [HSN.out, Lib.byteCells_append]
        have : Lib.byteCells (putL n.toNat k.toNat) = Lib.strCells X := by rw [Lib.strCells_eq, ← HX.out]
        rw [this]
        exact Or.inr hbl2
      have HB3 := Lib.hid hbl3
      have hw2 := hw1.trans hb2
      clear hbl2 hbl3 hb2 hw1 HBL1
      go_wp2_with fail
      go_roundw
      case rel => exact ⟨j + 1, by omega, by go_num, HB3.out, hw2⟩
      case measure => simp [intOf]; omega
    · obtain rfl : j = l.length := by omega
      have hall : l.take l.length = l := List.take_length
      rw [hall] at HBL
      clear hall HAT HF
      go_wp2_with fail
      refine (Tryd.Builder_String_any w.heap.size w.heap.size (fieldsL k.toNat l) _ HBL.out hwr.size).mono ?_
      rintro e w2 ⟨rfl, hb2⟩
      go_wp2_with fail
      go_ret
      exact ⟨rfl, hwr.trans hb2⟩
def layS (l : List UInt8) : ByteArray := trimS (sealL ⟨l.toArray⟩)
theorem slotSealed_any (l : List UInt8) (w : World) (h : l.length ≤ 100000) :
    Calls Tryd.prog 38 #[.string ⟨l.toArray⟩] w fun e w' => e = .returned (.string (layS l)) ∧ Below w.heap.size w w' := by
  have hz : (ByteArray.mk l.toArray).size = l.length := ba_size l
  have HC := Lib.hid (fun u => crcSeal_any ⟨l.toArray⟩ u (by omega))
  have HT := Lib.hid (fun u => leTrim_any (sealL ⟨l.toArray⟩) u (by rw [sealL_size]; omega))
  show Calls _ _ _ _ fun e w' => e = .returned (.string (trimS (sealL ⟨l.toArray⟩))) ∧ _
  generalize sealL ⟨l.toArray⟩ = X at *
  generalize (ByteArray.mk l.toArray) = Y at *
  clear hz h
  go_enter Tryd.func38, Tryd.ntmps38
  go_wp2_with fail
  refine (HC.out _).mono ?_
  rintro e w1 ⟨rfl, hb1⟩
  go_wp2_with fail
  refine (HT.out _).mono ?_
  rintro e w2 ⟨rfl, rfl⟩
  go_wp2_with fail
  go_ret
  exact ⟨rfl, hb1⟩
theorem slotEpoch_any (n : Int) (w : World) : Calls Tryd.prog 37 #[.int .i64 n] w fun e w' => e = .returned (.bool (decide (1 ≤ n ∧ n ≤ 1099511627776))) ∧ w = w' := by
  by_cases h1 : 1 ≤ n <;> by_cases h2 : n ≤ 1099511627776
  all_goals
    go_enter Tryd.func37, Tryd.ntmps37
    go_wp2_with fail
    go_ret
    simp [h1, h2]
theorem slotPlace_any (n : Int) (w : World) : Calls Tryd.prog 63 #[.int .i64 n] w fun e w' => e = .returned (.bool (decide (0 ≤ n ∧ n < 6))) ∧ w = w' := by
  by_cases h1 : 0 ≤ n <;> by_cases h2 : n < 6
  all_goals
    go_enter Tryd.func63, Tryd.ntmps63
    go_wp2_with fail
    go_ret
    simp [h1, h2]
end Go.Proofs.YthnmnnlbglpjaaaDoor
