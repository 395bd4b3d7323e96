/- Ref01Bytes, Ref02, SlotN, SlotR, SlotRH, Ref04A, Ref04H, Ref04B, in one text. -/
import Derived.Test.YthnmnnlbglpjaaaGreatDoorPkA
import Derived.Test.YthnmnnlbglpjaaaGreatDoorPkD
import Derived.IntWalk
import Derived.Deep.RegionLaw
import Derived.BigQuiet
namespace Go.Proofs.YthnmnnlbglpjaaaGreatDoor
section SRef01Bytes
open Go.RowKit
set_option linter.unusedVariables false
theorem infoU8r : (Tryz.prog.info? 5).map (fun i => (i.zero, i.size, i.bytes)) = some (some (.int .u8 0), 1, 1) := by kernel_rfl

theorem div256 (n j : Nat) : ((n / 256 ^ j : Nat) : Int) / 256 = ((n / 256 ^ (j + 1) : Nat) : Int) := by
  rw [Nat.pow_succ, ← Nat.div_div_eq_div_mul]; simp
theorem mod256 (m : Nat) : ((m : Int) % 256) = ((UInt8.ofNat (m % 256)).toNat : Int) := by
  rw [u8_mod]; simp

set_option maxHeartbeats 400000 in
theorem refBytes_any (n : Nat) (k : Nat) (w : World) (h1 : n < 18446744073709551616) (hk : k ≤ 1000) :
    Calls Tryz.prog 91 #[.int .u64 n, .int .i64 k] w fun e w' => e = .returned (.tuple #[.string ⟨(putL n k).toArray⟩, .int .u64 (n / 256 ^ k : Nat)]) ∧ Below w.heap.size w w' := by
  obtain ⟨i0, hi, hz0, hz1, hz2⟩ := info_parts infoU8r
  go_enter Tryz.func91, Tryz.ntmps91
  go_wp2
  go_loopw [6, 0, 7] (fun b m c wr => ∃ j : Nat, j ≤ k ∧ c = .int .i64 j ∧ m = .int .u64 (n / 256 ^ j : Nat) ∧ wr.ownsRow w.heap.size 5 1 b j ((putL n j).map fun x => .int .u8 x.toNat) ∧ Below w.heap.size w wr) (fun _ _ c _ => k - (intOf c).toNat)
  case atStart => exact ⟨0, by omega, rfl, by simp, World.ownsRow_made w #[] 0 (Nat.le_refl _) (by unfold maxLen; omega) rfl, (Below.refl _ _).alloc (Nat.le_refl _) _⟩
  case round =>
    obtain ⟨j, hj, rfl, rfl, hown, hbel⟩ := hrel
    by_cases hlt : j < k
    · have hsz := hbel.size
      have hm : n / 256 ^ j < 18446744073709551616 := Nat.lt_of_le_of_lt (Nat.div_le_self _ _) h1
      have hmI : ((n / 256 ^ j : Nat) : Int) ≤ 18446744073709551615 := by omega
      have HD := Lib.hid (div256 n j)
      have HM := Lib.hid (mod256 (n / 256 ^ j))
      have HS := Lib.hid (putL_snoc n j)
      clear hm
      generalize hq : n / 256 ^ j = q at *
      clear hq h1
      go_wp2_with (first | (at_builtin; go_must (refine wpList_push _ _ 133 5 hown hbel (Nat.le_refl _) Tryz.underlying133 hi hz0 hz1 hz2 rfl (by decide) rfl rfl rfl rfl rfl ?c1 ?c2 ?_)))
      case c1 => intro u hu; rw [List.mem_singleton.1 hu]; rfl
      case c2 => omega
      intro v' w1 hown1 hbel1
      clear hown hbel
      go_wp2
      go_roundw
      case rel =>
        refine ⟨j + 1, by omega, by go_num, by rw [HD.out], ?_, hbel1⟩
        rw [HS.out, List.map_append, List.map_cons, List.map_nil, ← HM.out]
        exact hown1
      case measure => simp [intOf]; omega
    · obtain rfl : j = k := by omega
      have hcv := own_string (P := Tryz.prog) (src := 133) (dst := 9) (putL n j) hown Tryz.underlying133 Tryz.underlying5 Tryz.underlying9
      clear hown
      go_wp2
      go_ret2
      exact ⟨rfl, hbel⟩
end SRef01Bytes
section SRef02
open Go.RowKit
set_option linter.unusedVariables false

/-- the register behind the k lowest bits of a byte -/
def bitsR (r b : Nat) : Nat → Nat
  | 0 => r
  | k + 1 => let q := bitsR r b k; if q % 2 ≠ b / 2 ^ k % 2 then q / 2 ^^^ 3988292384 else q / 2
theorem bit_step (r t : Nat) (ht : t < 2) : (if r % 2 ≠ t then r / 2 ^^^ 3988292384 else r / 2) = stepB (r ^^^ t) := by
  unfold stepB
  rw [xor_mod2, xor_div2]
  have hr : r % 2 = 0 ∨ r % 2 = 1 := by omega
  have ht' : t = 0 ∨ t = 1 := by omega
  rcases hr with hr | hr <;> rcases ht' with rfl | rfl <;> simp [hr]
theorem bitsR_step (r b k : Nat) : bitsR r b k = stepN k (r ^^^ b % 2 ^ k) := by
  induction k with
  | zero => simp [bitsR, stepN, Nat.mod_one]
  | succ k ih =>
    have e : b % 2 ^ (k + 1) = (b % 2 ^ k) ^^^ (2 ^ k * (b / 2 ^ k % 2)) := by
      have := split_xor k (b % 2 ^ (k + 1))
      rw [Nat.pow_succ] at this ⊢
      rw [Nat.mod_mul_right_mod, Nat.mod_mul_right_div_self] at this
      exact this
    simp only [bitsR, ih]
    rw [bit_step _ _ (Nat.mod_lt _ (by omega)), stepN_succ, e]
    congr 1
    conv => rhs; rw [← Nat.xor_assoc, stepN_xor, stepN_pow]
theorem bitsR_byte (r b : Nat) (hb : b < 256) : bitsR r b 8 = byteB r b := by
  rw [bitsR_step, Nat.mod_eq_of_lt (show b < 2 ^ 8 from hb)]; rfl
theorem bitsR_lt {r : Nat} (hr : r < 4294967296) (b : Nat) (hb : b < 256) (k : Nat) : bitsR r b k < 4294967296 := by
  rw [bitsR_step]
  exact stepN_lt k (Nat.xor_lt_two_pow (n := 32) hr (by have := Nat.mod_le b (2 ^ k); omega))

set_option maxHeartbeats 1000000 in
theorem ref02Of_any (s : ByteArray) (w : World) (hs : s.size ≤ 9223372036854775807) :
    Calls Tryz.prog 110 #[.string s] w fun e w' => e = .returned (.int .u32 (sumL s.data.toList : Nat)) ∧ w = w' := by
  go_enter Tryz.func110, Tryz.ntmps110
  go_wp2_with fail
  go_loop [3, 4] (fun x c => ∃ i : Nat, i ≤ s.size ∧ c = .int .i64 i ∧ x = .int .u32 (regL ones (s.data.toList.take i) : Nat)) (fun _ c => s.size - (intOf c).toNat)
  case atStart => exact ⟨0, by omega, rfl, rfl⟩
  case round =>
    obtain ⟨i, hi, rfl, rfl⟩ := hrel
    by_cases hlt : i < s.size
    · have hr := regL_lt ones_lt (s.data.toList.take i)
      have hsn : regL ones (s.data.toList.take (i + 1)) = byteB (regL ones (s.data.toList.take i)) s[i].toNat := by
        rw [List.take_succ_eq_append_getElem (by rw [ba_len]; exact hlt), regL_append]; rfl
      have HS := Lib.hid hsn
      have hb : s[i].toNat < 256 := UInt8.toNat_lt _
      have HR := Lib.hid hr
      have HB := Lib.hid hb
      clear hsn hr hb
      go_wp2_with fail
      go_loop [3, 5, 6] (fun x c _ => ∃ k : Nat, k ≤ 8 ∧ c = .int .i64 k ∧ x = .int .u32 (bitsR (regL ones (s.data.toList.take i)) s[i].toNat k : Nat)) (fun _ c _ => 8 - (intOf c).toNat)
      case atStart => exact ⟨0, by omega, rfl, rfl⟩
      case round =>
        obtain ⟨k, hk, rfl, rfl⟩ := hrel
        by_cases hkl : k < 8
        · have hbi : (s[i].toNat : Int) ≤ 255 := by have := HB.out; omega
          have hq := bitsR_lt HR.out s[i].toNat HB.out k
          obtain ⟨y, ey⟩ : ∃ y, y = bitsR (regL ones (s.data.toList.take i)) s[i].toNat (k + 1) := ⟨_, rfl⟩
          obtain ⟨q, eq⟩ : ∃ q, q = bitsR (regL ones (s.data.toList.take i)) s[i].toNat k := ⟨_, rfl⟩
          have hstep : y = if q % 2 ≠ s[i].toNat / 2 ^ k % 2 then q / 2 ^^^ 3988292384 else q / 2 := by rw [ey, eq]; rfl
          rw [← eq] at hq ⊢
          have hqI : (q : Int) ≤ 4294967295 := by omega
          have hX := xorPoly q hq
          have EY := Lib.hid ey
          have HST := Lib.hid hstep
          clear ey eq hstep hq
          have hdc : ((s[i].toNat : Int) / 2 ^ k) = ((s[i].toNat / 2 ^ k : Nat) : Int) := by simp
          have hnn : (0 : Int) ≤ (s[i].toNat : Int) / 2 ^ k := by rw [hdc]; exact Int.natCast_nonneg _
          have HDC := Lib.hid hdc
          clear hdc
          by_cases hd : q % 2 = s[i].toNat / 2 ^ k % 2
          · have hdI : ((q : Int) % 2 != (s[i].toNat : Int) / 2 ^ k % 2) = false := by
              rw [HDC.out, bne_eq_false_iff_eq]; omega
            have HD := Lib.hid hd
            clear hd
            go_wp2_with fail
            go_round
            case rel => exact ⟨k + 1, by omega, by go_num, by rw [← EY.out, HST.out, if_neg (by simpa using HD.out)]; simp⟩
            case measure => simp [intOf]; omega
          · have hdI : ((q : Int) % 2 != (s[i].toNat : Int) / 2 ^ k % 2) = true := by
              rw [HDC.out, bne_iff_ne]; omega
            have HD := Lib.hid hd
            clear hd
            go_wp2_with fail
            go_round
            case rel => exact ⟨k + 1, by omega, by go_num, by rw [← EY.out, HST.out, if_pos (by simpa using HD.out)]⟩
            case measure => simp [intOf]; omega
        · obtain rfl : k = 8 := by omega
          have hby := bitsR_byte (regL ones (s.data.toList.take i)) s[i].toNat HB.out
          rw [hby, ← HS.out]
          clear hby
          go_wp2_with fail
          go_round
          case rel => exact ⟨i + 1, by omega, by go_num, rfl⟩
          case measure => simp [intOf]; omega
    · obtain rfl : i = s.size := by omega
      have hall : s.data.toList.take s.size = s.data.toList := List.take_of_length_le (by rw [ba_len]; omega)
      have hr := regL_lt ones_lt s.data.toList
      have hsu : sumL s.data.toList = 4294967295 - regL ones s.data.toList := ones_sub hr
      rw [hall]
      have hrI : ((regL ones s.data.toList : Nat) : Int) ≤ 4294967295 := by omega
      have hsuI : ((sumL s.data.toList : Nat) : Int) = 4294967295 - (regL ones s.data.toList : Nat) := by omega
      have HS := Lib.hid hsuI
      clear hall hr hsu hsuI
      go_wp2_with fail
      go_ret
      exact ⟨congrArg (fun n => Ending.returned (Value.int .u32 n)) HS.out.symm, rfl⟩

theorem ref02Seal_any (s : ByteArray) (w : World) (hs : s.size ≤ 140737488355328) :
    Calls Tryz.prog 92 #[.string s] w fun e w' => e = .returned (.string (sealL s)) ∧ Below w.heap.size w w' := by
  have hl := sumL_lt s.data.toList
  have hadd : ∀ u : World, (Op.stringOp .add s ⟨(putL (sumL s.data.toList) 4).toArray⟩).run Tryz.prog u = .ok (.string (sealL s)) u := fun u => by
    have e : sealL s = s ++ ⟨(putL (sumL s.data.toList) 4).toArray⟩ := by apply ba_ext; simp [sealL]
    rw [e]
    exact run_string_add_sum _ _ _ (by have e1 := ba_size (putL (sumL s.data.toList) 4); rw [putL_length] at e1; omega)
  have hlI : ((sumL s.data.toList : Nat) : Int) ≤ 4294967295 := by omega
  go_enter Tryz.func92, Tryz.ntmps92
  go_wp2_with fail
  refine (ref02Of_any s _ (by omega)).mono ?_
  rintro e w1 ⟨rfl, rfl⟩
  go_wp2_with fail
  refine (refBytes_any (sumL s.data.toList) 4 _ (by omega) (by omega)).mono ?_
  rintro e w2 ⟨rfl, hb2⟩
  go_wp2_with fail
  go_ret
  exact ⟨rfl, hb2⟩
end SRef02
section SSlotN
open Go.RowKit
set_option linter.unusedVariables false

set_option maxRecDepth 100000 in
theorem slotNumbers_any (s : ByteArray) (w : World) : Calls Tryz.prog 75 #[.string s] w fun e w' =>
    e = .returned (.func (.func 102) #[.pointer (some ⟨w.heap.size, 0, none⟩)] #[]) ∧ w' = w.alloc (.cells #[.string s, .int .i64 1] 149) := by
  go_enter Tryz.func75, Tryz.ntmps75
  go_wp2_with fail
  go_ret
  exact ⟨rfl, rfl⟩
/-- the number that k bytes at p make, as if zero bytes went on behind the text -/
def partN (s : ByteArray) (p k : Nat) : Nat := getL (cutL s p k)
theorem getL_zeros (n : Nat) : getL (List.replicate n 0) = 0 := by
  induction n with
  | zero => rfl
  | succ n ih => rw [List.replicate_succ, getL, ih]; rfl
theorem partN_lt (s : ByteArray) (p k : Nat) : partN s p k < 256 ^ k := by
  have h := getL_lt (cutL s p k)
  have h2 : (cutL s p k).length ≤ k := by unfold cutL; exact List.length_take_le _ _
  exact Nat.lt_of_lt_of_le h (Nat.pow_le_pow_right (by omega) h2)
theorem part_fill (s : ByteArray) (p k m e : Nat) (hm : m = min p e) (he : e = min (p + k) s.size) : getL (cutL (s.extract m e ++ zerosB (k - (s.extract m e).size)) 0 k) = partN s p k := by
  have h1 : (s.extract m e).data.toList = cutL s p k := by
    rw [ba_extract_list]
    unfold cutL
    have hl := ba_len s
    by_cases hp : p ≤ s.size
    · by_cases hpk : p + k ≤ s.size
      · have e1 : m = p := by omega
        have e2 : e = p + k := by omega
        rw [e1, e2, show p + k - p = k by omega]
      · have e1 : m = p := by omega
        have e2 : e = s.size := by omega
        rw [e1, e2, List.take_of_length_le (by rw [List.length_drop]; omega), List.take_of_length_le (by rw [List.length_drop]; omega)]
    · have e1 : m = e := by omega
      have : e - m = 0 := by omega
      rw [this, List.take_zero, List.drop_eq_nil_of_le (by omega)]
      simp
  have h2 : (s.extract m e).size ≤ k := by
    rw [← ba_len, h1]; unfold cutL; exact List.length_take_le _ _
  have h3 : (s.extract m e ++ zerosB (k - (s.extract m e).size)).data.toList = cutL s p k ++ List.replicate (k - (s.extract m e).size) 0 := by
    rw [ba_append_list, h1, zerosB_list]
  have h4 : cutL (s.extract m e ++ zerosB (k - (s.extract m e).size)) 0 k = cutL s p k ++ List.replicate (k - (s.extract m e).size) 0 := by
    unfold cutL at h3 ⊢
    rw [List.drop_zero, h3, List.take_of_length_le]
    rw [List.length_append, List.length_replicate]
    have := h1
    unfold cutL at this
    rw [← this, ba_len]; omega
  rw [h4, getL_append, getL_zeros]
  simp [partN]
set_option maxRecDepth 100000 in
set_option maxHeartbeats 1000000 in
theorem slotNumber_any (R p k : Nat) (s : ByteArray) (w : World) (hR : w.heap[R]? = some (.cells #[.string s, .int .i64 (p : Nat)] 149 (0, 0))) (hk1 : 1 ≤ k) (hk2 : k ≤ 6) (hp : p ≤ 2000) (hs : s.size ≤ 2000) :
    Calls Tryz.prog 102 #[.pointer (some ⟨R, 0, none⟩), .int .i64 (k : Nat)] w fun e w' =>
      e = .returned (.int .i64 (partN s p k : Nat)) ∧ Below w.heap.size (w.setCell ⟨R, 1, none⟩ (.int .i64 ((p : Int) + k))) w' := by
  have c0 := below_cell (Below.refl _ w) hR 0 rfl
  have c1 := below_cell (Below.refl _ w) hR 1 rfl
  have f1 := block_frozen hR 1
  obtain ⟨e, he⟩ : ∃ e, min (p + k) s.size = e := ⟨_, rfl⟩
  obtain ⟨m, hm⟩ : ∃ m, min p e = m := ⟨_, rfl⟩
  have hpf := part_fill s p k m e hm.symm he.symm
  have hpl : partN s p k < 256 ^ 6 := Nat.lt_of_lt_of_le (partN_lt s p k) (Nat.pow_le_pow_right (by omega) hk2)
  have h6 : (256 : Nat) ^ 6 = 281474976710656 := by decide
  rw [h6] at hpl
  have hsz : (s.extract m e).size ≤ k := by rw [ByteArray.size_extract]; omega
  have hsI : (s.size : Int) ≤ 2000 := by omega
  have hpI : (p : Int) ≤ 2000 := by omega
  have hkI : (k : Int) ≤ 6 := by omega
  have hkI1 : (1 : Int) ≤ k := by omega
  have heI : min ((p : Int) + k) s.size = e := by omega
  have heI2 : (if (s.size : Int) < (p : Int) + k then (s.size : Int) else (p : Int) + k) = e := by split <;> omega
  have hmI : min (p : Int) e = m := by omega
  have hmI2 : (if (e : Int) < (p : Int) then (e : Int) else (p : Int)) = m := by split <;> omega
  have hem : (m : Int) ≤ e := by omega
  have hes : (e : Int) ≤ s.size := by omega
  have hw1 : IntKind.i64.wrap ((p : Int) + k) = (p : Int) + k := IntWalk.i64_in _ (by omega)
  have hFi := Lib.hid (fun u => leFill_any (s.extract m e) (k : Int) u (by omega) (by omega) (by omega))
  obtain ⟨q1, q2⟩ := fillS_ok (s.extract m e) k hsz
  rw [q1, q2] at hFi
  have hF2 : (s.extract m e ++ zerosB (k - (s.extract m e).size)).size = k := by rw [ByteArray.size_append, zerosB_size]; omega
  have hG := Lib.hid (fun u => leGet_ok (s.extract m e ++ zerosB (k - (s.extract m e).size)) 0 k u (by omega) hk1 (by omega) (by omega))
  rw [hpf] at hG
  generalize s.extract m e ++ zerosB (k - (s.extract m e).size) = F at *
  generalize partN s p k = N at *
  have hN : (N : Int) ≤ 281474976710655 := by omega
  have hwN : IntKind.i64.wrap (N : Int) = N := IntWalk.i64_in _ (by omega)
  clear he hm hpf hpl h6 hsz hR hp hs hk1 hk2 q1 q2
  go_enter Tryz.func102, Tryz.ntmps102
  go_upto_region 1 with fail
  go_region
  go_upto_region 2 with fail
  go_region
  go_wp2_with fail
  refine (hFi.out _).mono ?_
  rintro e1 w1 ⟨rfl, hb1⟩
  go_wp2_with fail
  refine (hG.out _).mono ?_
  rintro e2 w2 ⟨rfl, rfl⟩
  go_wp2_with fail
  go_ret
  exact ⟨rfl, ((Below.refl w.heap.size (w.setCell ⟨R, 1, none⟩ (.int .i64 ((p : Int) + k)))).drew.drew).trans (hb1.mono (by simp [World.drew]))⟩
end SSlotN
section SSlotR
open Go.RowKit
set_option linter.unusedVariables false

theorem decide_eq' (p : Prop) [Decidable p] : p ∨ ¬ p := Decidable.em p
/-- what a text is read as: an epoch, and whether it is one -/
def superIs (s : ByteArray) : Prop := (1 ≤ (partN s 1 6 : Int) ∧ (partN s 1 6 : Int) ≤ 1099511627776) ∧ layS (superL (partN s 1 6 : Nat)) = s
def commitIs (s : ByteArray) : Prop := ((1 ≤ (partN s 1 6 : Int) ∧ (partN s 1 6 : Int) ≤ 1099511627776) ∧ (0 ≤ (partN s 7 1 : Int) ∧ (partN s 7 1 : Int) < 6)) ∧ layS (commitL (partN s 1 6 : Nat) (partN s 7 1 : Nat)) = s
instance (s : ByteArray) : Decidable (superIs s) := by unfold superIs; exact inferInstance
instance (s : ByteArray) : Decidable (commitIs s) := by unfold commitIs; exact inferInstance
def superV (s : ByteArray) : Int := if superIs s then (partN s 1 6 : Nat) else 0
def superE (s : ByteArray) : Int := if superIs s then 0 else 4
set_option maxRecDepth 100000 in
set_option maxHeartbeats 1000000 in
theorem slotReadSuper_any (s : ByteArray) (w : World) (hs : s.size ≤ 2000) :
    Calls Tryz.prog 43 #[.string s] w fun e w' => e = .returned (.tuple #[.agg #[.int .i64 (superV s)], .int .i64 (superE s)]) ∧ Below w.heap.size w w' := by
  have hA := heap_alloc_new w (.cells #[.int .i64 0] 78)
  have hw := (Below.refl w.heap.size w).alloc (Nat.le_refl _) (.cells #[.int .i64 0] 78)
  have hV : superV s = if superIs s then ((partN s 1 6 : Nat) : Int) else 0 := rfl
  have hE : superE s = if superIs s then 0 else 4 := rfl
  have hS : superIs s ↔ ((1 ≤ (partN s 1 6 : Int) ∧ (partN s 1 6 : Int) ≤ 1099511627776) ∧ layS (superL (partN s 1 6 : Nat)) = s) := Iff.rfl
  have HN := Lib.hid (fun R u hR => slotNumber_any R 1 6 s u hR (by omega) (by omega) (by omega) hs)
  go_enter Tryz.func43, Tryz.ntmps43
  go_wp2_with fail
  refine (slotNumbers_any s _).mono ?_
  rintro e w2 ⟨rfl, rfl⟩
  have hA2 := (heap_alloc_old _ (.cells #[.string s, .int .i64 1] 149) (Array.getElem?_eq_some_iff.1 hA).1).trans hA
  have hR2 := heap_alloc_new (w.alloc (.cells #[.int .i64 0] 78)) (.cells #[.string s, .int .i64 1] 149)
  have hw2 := hw.alloc hw.size (.cells #[.string s, .int .i64 1] 149)
  rw [World.size_alloc] at hR2 ⊢
  obtain ⟨w2, hW2⟩ : ∃ w2, (w.alloc (.cells #[.int .i64 0] 78)).alloc (.cells #[.string s, .int .i64 1] 149) = w2 := ⟨_, rfl⟩
  rw [hW2] at hA2 hR2 hw2 ⊢
  clear hW2 hA hw
  go_wp2_with fail
  refine (HN.out _ w2 hR2).mono ?_
  rintro e w3 ⟨rfl, hb3⟩
  have hA3 := ((hb3.block _ (Array.getElem?_eq_some_iff.1 hA2).1).trans (Below.heap_setCell w2 ⟨w.heap.size + 1, 1, none⟩ (.int .i64 (1 + 6)) w.heap.size (by show w.heap.size ≠ w.heap.size + 1; omega))).trans hA2
  have hw3 := (hw2.setCell (p := ⟨w.heap.size + 1, 1, none⟩) (by simp) (.int .i64 (1 + 6))).trans (hb3.mono (by have := hw2.size; simpa using this))
  clear hA2 hR2 hw2 hb3 HN
  generalize partN s 1 6 = N at *
  go_upto_region 3 with fail
  have hw4 : Below w.heap.size w (w3.alloc (.cells #[.int .i64 (N : Nat)] 78)) := hw3.alloc hw3.size _
  have hT4 := heap_alloc_new w3 (.cells #[.int .i64 (N : Nat)] 78)
  have hA4 := (heap_alloc_old w3 (.cells #[.int .i64 (N : Nat)] 78) (Array.getElem?_eq_some_iff.1 hA3).1).trans hA3
  obtain ⟨w4, hW4⟩ : ∃ w4, w3.alloc (.cells #[.int .i64 (N : Nat)] 78) = w4 := ⟨_, rfl⟩
  rw [hW4] at hw4 hT4 hA4 ⊢
  clear hW4 hA3 hw3
  have HV := Lib.hid hV; have HE := Lib.hid hE; have HS := Lib.hid hS
  clear hV hE hS
  have t0 := below_cell (Below.refl _ w4) hT4 0 rfl
  by_cases hin : 1 ≤ (N : Int) ∧ (N : Int) ≤ 1099511627776
  · go_wp2_with fail
    refine (slotSuper_ok (N : Nat) w4 hin.1 hin.2).mono ?_
    rintro e w5 ⟨rfl, hb5⟩
    have hA5 := (hb5.block _ (Array.getElem?_eq_some_iff.1 hA4).1).trans hA4
    have hT5 := (hb5.block _ (Array.getElem?_eq_some_iff.1 hT4).1).trans hT4
    have hw5 := hw4.trans (hb5.mono hw4.size)
    clear t0 hA4 hT4 hw4 hb5
    have t0 := below_cell (Below.refl _ w5) hT5 0 rfl
    have a0 := below_cell (Below.refl _ w5) hA5 0 rfl
    have f0 := block_frozen hA5 0
    by_cases heq : layS (superL (N : Nat)) = s
    · have his : superIs s := HS.out.2 ⟨hin, heq⟩
      have e1 : superV s = N := by rw [HV.out, if_pos his]
      have e2 : superE s = 0 := by rw [HE.out, if_pos his]
      rw [heq]
      have HE1 := Lib.hid e1; have HE2 := Lib.hid e2
      have hset := block_set hA5 0 (.int .i64 (N : Nat))
      have HSET := Lib.hid hset
      have hw6 := hw5.setCell (p := ⟨w.heap.size, 0, none⟩) (Nat.le_refl _) (.int .i64 (N : Nat))
      clear e1 e2 his heq hset hin
      go_wp2_with fail
      refine bodyPost_ret (results_row_tmp rfl _ _ w.heap.size _ _ _ _ rfl HSET.out Tryz.underlying78 rfl (by kernel_rfl)) rfl ⟨?_, hw6⟩
      rw [HE1.out, HE2.out]
      first | rfl | (simp; done)
    · have his : ¬ superIs s := fun h => heq (HS.out.1 h).2
      have e1 : superV s = 0 := by rw [HV.out, if_neg his]
      have e2 : superE s = 4 := by rw [HE.out, if_neg his]
      have hne := ba_tne heq
      have HE1 := Lib.hid e1; have HE2 := Lib.hid e2
      have hset := block_set hA5 0 (.int .i64 0)
      have HSET := Lib.hid hset
      have hw6 := hw5.setCell (p := ⟨w.heap.size, 0, none⟩) (Nat.le_refl _) (.int .i64 0)
      clear e1 e2 his heq hset hin
      go_wp2_with fail
      refine bodyPost_ret (results_row_tmp rfl _ _ w.heap.size _ _ _ _ rfl HSET.out Tryz.underlying78 rfl (by kernel_rfl)) rfl ⟨?_, hw6⟩
      rw [HE1.out, HE2.out]
      first | rfl | (simp; done)
  · have his : ¬ superIs s := fun h => hin (HS.out.1 h).1
    have e1 : superV s = 0 := by rw [HV.out, if_neg his]
    have e2 : superE s = 4 := by rw [HE.out, if_neg his]
    have HE1 := Lib.hid e1; have HE2 := Lib.hid e2
    clear e1 e2 his
    go_wp2_with fail
    refine (slotSuper_bad (N : Nat) w4 hin).mono ?_
    rintro e w5 ⟨rfl, hb5⟩
    have hA5 := (hb5.block _ (Array.getElem?_eq_some_iff.1 hA4).1).trans hA4
    have hw5 := hw4.trans (hb5.mono hw4.size)
    clear t0 hA4 hT4 hw4 hb5
    have a0 := below_cell (Below.refl _ w5) hA5 0 rfl
    have f0 := block_frozen hA5 0
    have hset := block_set hA5 0 (.int .i64 0)
    have HSET := Lib.hid hset
    have hw6 := hw5.setCell (p := ⟨w.heap.size, 0, none⟩) (Nat.le_refl _) (.int .i64 0)
    clear hset hin
    go_wp2_with fail
    refine bodyPost_ret (results_row_tmp rfl _ _ w.heap.size _ _ _ _ rfl HSET.out Tryz.underlying78 rfl (by kernel_rfl)) rfl ⟨?_, hw6⟩
    rw [HE1.out, HE2.out]
    first | rfl | (simp; done)
def commitV (s : ByteArray) : Int := if commitIs s then ((partN s 1 6 : Nat) : Int) else 0
def commitW (s : ByteArray) : Int := if commitIs s then ((partN s 7 1 : Nat) : Int) else 0
def commitE (s : ByteArray) : Int := if commitIs s then 0 else 4
set_option maxRecDepth 100000 in
set_option maxHeartbeats 1000000 in
theorem slotReadCommit_any (s : ByteArray) (w : World) (hs : s.size ≤ 2000) :
    Calls Tryz.prog 78 #[.string s] w fun e w' => e = .returned (.tuple #[.int .i64 (commitV s), .int .i64 (commitW s), .int .i64 (commitE s)]) ∧ Below w.heap.size w w' := by
  have hV : commitV s = if commitIs s then ((partN s 1 6 : Nat) : Int) else 0 := rfl
  have hW : commitW s = if commitIs s then ((partN s 7 1 : Nat) : Int) else 0 := rfl
  have hE : commitE s = if commitIs s then 0 else 4 := rfl
  have hS : commitIs s ↔ (((1 ≤ (partN s 1 6 : Int) ∧ (partN s 1 6 : Int) ≤ 1099511627776) ∧ (0 ≤ (partN s 7 1 : Int) ∧ (partN s 7 1 : Int) < 6)) ∧ layS (commitL (partN s 1 6 : Nat) (partN s 7 1 : Nat)) = s) := Iff.rfl
  have HN := Lib.hid (fun R u hR => slotNumber_any R 1 6 s u hR (by omega) (by omega) (by omega) hs)
  have HN2 := Lib.hid (fun R u hR => slotNumber_any R 7 1 s u hR (by omega) (by omega) (by omega) hs)
  go_enter Tryz.func78, Tryz.ntmps78
  go_wp2_with fail
  refine (slotNumbers_any s _).mono ?_
  rintro e w2 ⟨rfl, rfl⟩
  have hR2 := heap_alloc_new w (.cells #[.string s, .int .i64 1] 149)
  have hw2 := (Below.refl w.heap.size w).alloc (Nat.le_refl _) (.cells #[.string s, .int .i64 1] 149)
  obtain ⟨w2, hW2⟩ : ∃ w2, w.alloc (.cells #[.string s, .int .i64 1] 149) = w2 := ⟨_, rfl⟩
  rw [hW2] at hR2 hw2 ⊢
  clear hW2
  go_wp2_with fail
  refine (HN.out _ w2 hR2).mono ?_
  rintro e w3 ⟨rfl, hb3⟩
  have hR3 := (hb3.block _ (by have := (Array.getElem?_eq_some_iff.1 hR2).1; exact this)).trans (block_set hR2 1 (.int .i64 (1 + 6)))
  have hw3 := (hw2.setCell (p := ⟨w.heap.size, 1, none⟩) (Nat.le_refl _) (.int .i64 (1 + 6))).trans (hb3.mono (by have := hw2.size; simpa using this))
  clear hR2 hw2 hb3 HN
  go_wp2_with fail
  refine (HN2.out w.heap.size w3 hR3).mono ?_
  rintro e w4 ⟨rfl, hb4⟩
  have hw4 := (hw3.setCell (p := ⟨w.heap.size, 1, none⟩) (Nat.le_refl _) (.int .i64 (7 + 1))).trans (hb4.mono (by have := hw3.size; simpa using this))
  clear hR3 hw3 hb4 HN2
  generalize partN s 1 6 = N at *
  generalize partN s 7 1 = M at *
  have HV := Lib.hid hV; have HE := Lib.hid hE; have HS := Lib.hid hS; have HW := Lib.hid hW
  clear hV hE hS hW
  by_cases hin : (1 ≤ (N : Int) ∧ (N : Int) ≤ 1099511627776) ∧ (0 ≤ (M : Int) ∧ (M : Int) < 6)
  · go_wp2_with fail
    refine (slotCommit_ok (N : Nat) (M : Nat) w4 hin.1 hin.2).mono ?_
    rintro e w5 ⟨rfl, hb5⟩
    have hw5 := hw4.trans (hb5.mono hw4.size)
    by_cases heq : layS (commitL (N : Nat) (M : Nat)) = s
    · have his : commitIs s := HS.out.2 ⟨hin, heq⟩
      have e1 : commitV s = N := by rw [HV.out, if_pos his]
      have e3 : commitW s = M := by rw [HW.out, if_pos his]
      have e2 : commitE s = 0 := by rw [HE.out, if_pos his]
      rw [heq]
      have HE1 := Lib.hid e1; have HE2 := Lib.hid e2; have HE3 := Lib.hid e3
      clear e1 e2 e3 his heq hin
      go_wp2_with fail
      go_ret3
      exact ⟨by rw [HE1.out, HE2.out, HE3.out]; rfl, hw5⟩
    · have his : ¬ commitIs s := fun h => heq (HS.out.1 h).2
      have e1 : commitV s = 0 := by rw [HV.out, if_neg his]
      have e3 : commitW s = 0 := by rw [HW.out, if_neg his]
      have e2 : commitE s = 4 := by rw [HE.out, if_neg his]
      have hne := ba_tne heq
      have HE1 := Lib.hid e1; have HE2 := Lib.hid e2; have HE3 := Lib.hid e3
      clear e1 e2 e3 his heq hin
      go_wp2_with fail
      go_ret3
      exact ⟨by rw [HE1.out, HE2.out, HE3.out]; rfl, hw5⟩
  · have his : ¬ commitIs s := fun h => hin (HS.out.1 h).1
    have e1 : commitV s = 0 := by rw [HV.out, if_neg his]
    have e3 : commitW s = 0 := by rw [HW.out, if_neg his]
    have e2 : commitE s = 4 := by rw [HE.out, if_neg his]
    have HE1 := Lib.hid e1; have HE2 := Lib.hid e2; have HE3 := Lib.hid e3
    clear e1 e2 e3 his
    go_wp2_with fail
    refine (slotCommit_bad (N : Nat) (M : Nat) w4 hin).mono ?_
    rintro e w5 ⟨rfl, hb5⟩
    have hw5 := hw4.trans (hb5.mono hw4.size)
    clear hin
    go_wp2_with fail
    go_ret3
    exact ⟨by rw [HE1.out, HE2.out, HE3.out]; rfl, hw5⟩
end SSlotR
section SSlotRH
open Go.RowKit
set_option linter.unusedVariables false

/-- 's = append(s, t...)' as a step of a region that draws -/
theorem step_push {P : Program} {ops : Array Oper} {o : Oper} {a : Act} {K : Act → World → Prop} {Q : Exit → Act → World → Prop} {E : Prop} {w w0 : World}
    (s x : Operand) (t : TypeId) (e : TypeId) {i : TypeInfo} {z : Value} {size bytes m c : Nat} {base : Nat} {v : Value} {n : Nat} {xs : List Value} {ad : Addr} (news : List Value)
    (hown : w.ownsRow base e size v n xs) (hbel : Below base w0 w) (hbase : base ≤ w0.heap.size)
    (ht : P.underlying t = some (.slice e)) (hi : P.info? e = some i) (hz : i.zero = some z)
    (hsize : i.size = size) (hby : i.bytes = bytes) (hzs : z.cells.size = size) (hsz : 0 < size)
    (hgd : o.guard = none) (ho : o.op = .call { callee := .builtin .append, args := #[s, x], argTypes := #[t, t] })
    (hs : a.eval s = v) (hx : a.eval x = .slice (some ad) m c) (hc : ∀ j u, news[j]? = some u → w.cell? (ad.add j) = some u)
    (hl : news.length = m * size) (h1 : ∀ u ∈ news, u.oneCell' = true)
    (hroom : n + m ≤ 17592186044416 ∧ (n + m) * bytes ≤ 140737488355328)
    (h : ∀ v' w', w'.ownsRow base e size v' (n + m) (xs ++ news) → Below base w0 w' → K (a.put o.dst v') w') :
    if Region.wanted o (yielded ops a.tmps) = true then Oper.wp P o a w K Q else E := by
  rw [if_pos (by simp [Region.wanted, hgd])]
  exact wp_append_own w s x t ho base e i z size bytes ht hi hz hsize hby hzs hsz v n xs hs hown ad m c news hx hl hc h1 (by unfold maxLen; omega) hroom.2 (Nat.le_trans hbase hbel.size)
    fun v' w' h2 h3 _ => h v' w' h2 (hbel.grown h3 (Nat.le_trans hbase hbel.size) (fun k hk => (hown.lt k hk).1))
theorem own_form1' {w : World} {base : Nat} {e : TypeId} {v : Value} {n : Nat} {xs : List Value} (h : w.ownsRow base e 1 v n xs) : ∃ A c, v = .slice A n c := by
  obtain ⟨A, c, rfl, _⟩ := own_form1 h
  exact ⟨A, c, rfl⟩
theorem own_keepB {w w' : World} {B base : Nat} {e : TypeId} {size : Nat} {v : Value} {n : Nat} {xs : List Value} (h : w.ownsRow base e size v n xs) (hb : Below w.heap.size w w') (hB : B ≤ w.heap.size) : w'.ownsRow base e size v n xs :=
  h.kept (row := none) ⟨hb.os, hb.tape, hb.output, hb.size, fun i hi _ => hb.block i hi⟩ (Classical.em _)
structure Hd where
  epoch : Int
  seq : Int
  tgt : List Int
  deriving DecidableEq
def IsHd (w : World) (v : Value) (h : Hd) : Prop := ∃ tv, v = .agg #[.int .i64 h.epoch, .int .i64 h.seq, tv] ∧ Reads1 encI w tv h.tgt
theorem IsHd.below {w w' : World} {v : Value} {h : Hd} (hh : IsHd w v h) (hb : Below w.heap.size w w') : IsHd w' v h := by
  obtain ⟨tv, rfl, hr⟩ := hh
  exact ⟨tv, rfl, hr.below hb⟩
def tgtL (s : ByteArray) (n : Nat) : List Int := (List.range n).map fun i => (partN s (9 + 2 * i) 2 : Int)
theorem tgtL_len (s : ByteArray) (n : Nat) : (tgtL s n).length = n := by simp [tgtL]
theorem tgtL_snoc (s : ByteArray) (n : Nat) : tgtL s (n + 1) = tgtL s n ++ [(partN s (9 + 2 * n) 2 : Int)] := by
  simp [tgtL, List.range_succ]
/-- the head that a text tells -/
def headOf (s : ByteArray) : Hd := ⟨(partN s 1 6 : Nat), (partN s 7 1 : Nat), tgtL s (partN s 8 1)⟩
def Hd.ok (h : Hd) : Bool := headOk h.epoch h.seq h.tgt
def Hd.bytes (h : Hd) : ByteArray := layS (headL h.epoch h.seq h.tgt)
def headIs (s : ByteArray) : Prop := (headOf s).ok = true ∧ (headOf s).bytes = s
instance (s : ByteArray) : Decidable (headIs s) := by unfold headIs; exact inferInstance
def headV (s : ByteArray) : Hd := if headIs s then headOf s else ⟨0, 0, []⟩
def headE (s : ByteArray) : Int := if headIs s then 0 else 4
theorem infoI : (Tryz.prog.info? 3).map (fun i => (i.zero, i.size, i.bytes)) = some (some (.int .i64 0), 1, 8) := by kernel_rfl
theorem HNF (wr : World) (p k B T R A : Nat) (hTR : T ≠ R) (hAR : A ≠ R) {o oA : Obj} {s : ByteArray} {t : TypeId} {e : TypeId} {v : Value} {n : Nat} {xs : List Value} (hT : wr.heap[T]? = some o) (hR : wr.heap[R]? = some (.cells #[.string s, .int .i64 ((p : Nat) : Int)] t (0, 0))) (hA : wr.heap[A]? = some oA)
    (hO : wr.ownsRow B e 1 v n xs) (hRB : R < B) (hBw : B ≤ wr.heap.size) :
    ∀ w7, Below wr.drew.heap.size (wr.drew.setCell ⟨R, 1, none⟩ (.int .i64 ((p : Int) + ((k : Nat) : Int)))) w7 →
      w7.heap[T]? = some o ∧ w7.heap[R]? = some (.cells #[.string s, .int .i64 ((p + k : Nat) : Int)] t (0, 0)) ∧ w7.heap[A]? = some oA ∧ w7.ownsRow B e 1 v n xs ∧ B ≤ w7.heap.size ∧ T < w7.heap.size := by
  intro w7 hb
  have lT := (Array.getElem?_eq_some_iff.1 hT).1
  have lA := (Array.getElem?_eq_some_iff.1 hA).1
  have lR := (Array.getElem?_eq_some_iff.1 hR).1
  have hsz : wr.heap.size ≤ w7.heap.size := by have := hb.size; rw [World.size_setCell] at this; exact this
  refine ⟨?_, ?_, ?_, ?_, by omega, by omega⟩
  · exact ((hb.block T lT).trans (Below.heap_setCell wr.drew ⟨R, 1, none⟩ _ T hTR)).trans hT
  · have := (hb.block R lR).trans (block_set (w := wr.drew) hR 1 (.int .i64 ((p : Int) + ((k : Nat) : Int))))
    rw [Int.natCast_add]
    exact this
  · exact ((hb.block A lA).trans (Below.heap_setCell wr.drew ⟨R, 1, none⟩ _ A hAR)).trans hA
  · exact own_keepB (ownsRow_setCell_below (a := ⟨R, 1, none⟩) hO.drew hRB _) (hb.mono (by rw [World.size_setCell]; exact Nat.le_refl _)) (by rw [World.size_setCell]; exact hBw)
set_option maxRecDepth 100000 in
set_option maxHeartbeats 2000000 in
theorem slotReadHead_any (s : ByteArray) (w : World) (hs : s.size ≤ 2000) :
    Calls Tryz.prog 76 #[.string s] w fun e w' => ∃ v', e = .returned (.tuple #[v', .int .i64 (headE s)]) ∧ IsHd w' v' (headV s) ∧ Below w.heap.size w w' := by
  obtain ⟨i0, hi, hz0, hz1, hz2⟩ := info_parts infoI
  have hA := heap_alloc_new w (.cells #[.int .i64 0, .int .i64 0, .slice none 0 0] 67)
  have hw := (Below.refl w.heap.size w).alloc (Nat.le_refl _) (.cells #[.int .i64 0, .int .i64 0, .slice none 0 0] 67)
  have hn8 := partN_lt s 8 1
  have HN := Lib.hid (fun R u hR => slotNumber_any R 1 6 s u hR (by omega) (by omega) (by omega) hs)
  have HN2 := Lib.hid (fun R u hR => slotNumber_any R 7 1 s u hR (by omega) (by omega) (by omega) hs)
  have HN3 := Lib.hid (fun R u hR => slotNumber_any R 8 1 s u hR (by omega) (by omega) (by omega) hs)
  have HNT := Lib.hid (fun (i : Nat) (hi : i ≤ 300) R u hR => slotNumber_any R (9 + 2 * i) 2 s u hR (by omega) (by omega) (by omega) hs)
  have hV : headV s = if headIs s then headOf s else ⟨0, 0, []⟩ := rfl
  have hE : headE s = if headIs s then 0 else 4 := rfl
  have hS : headIs s ↔ (headOk (partN s 1 6 : Nat) (partN s 7 1 : Nat) (tgtL s (partN s 8 1)) = true ∧ layS (headL (partN s 1 6 : Nat) (partN s 7 1 : Nat) (tgtL s (partN s 8 1))) = s) := Iff.rfl
  have hO : headOf s = ⟨(partN s 1 6 : Nat), (partN s 7 1 : Nat), tgtL s (partN s 8 1)⟩ := rfl
  go_enter Tryz.func76, Tryz.ntmps76
  go_wp2_with fail
  refine (slotNumbers_any s _).mono ?_
  rintro e w2 ⟨rfl, rfl⟩
  have hA2 := (heap_alloc_old _ (.cells #[.string s, .int .i64 1] 149) (Array.getElem?_eq_some_iff.1 hA).1).trans hA
  have hR2 := heap_alloc_new (w.alloc (.cells #[.int .i64 0, .int .i64 0, .slice none 0 0] 67)) (.cells #[.string s, .int .i64 1] 149)
  have hw2 := hw.alloc hw.size (.cells #[.string s, .int .i64 1] 149)
  rw [World.size_alloc] at hR2 ⊢
  obtain ⟨w2, hW2⟩ : ∃ w2, (w.alloc (.cells #[.int .i64 0, .int .i64 0, .slice none 0 0] 67)).alloc (.cells #[.string s, .int .i64 1] 149) = w2 := ⟨_, rfl⟩
  rw [hW2] at hA2 hR2 hw2 ⊢
  clear hW2 hA hw
  have hne : w.heap.size ≠ w.heap.size + 1 := by omega
  go_wp2_with fail
  refine (HN.out _ w2 hR2).mono ?_
  rintro e w3 ⟨rfl, hb3⟩
  have hA3 := ((hb3.block _ (Array.getElem?_eq_some_iff.1 hA2).1).trans (Below.heap_setCell w2 ⟨w.heap.size + 1, 1, none⟩ (.int .i64 (1 + 6)) w.heap.size hne)).trans hA2
  have hR3 := (hb3.block _ (Array.getElem?_eq_some_iff.1 hR2).1).trans (block_set hR2 1 (.int .i64 (1 + 6)))
  have hw3 := (hw2.setCell (p := ⟨w.heap.size + 1, 1, none⟩) (by simp) (.int .i64 (1 + 6))).trans (hb3.mono (by have := hw2.size; simpa using this))
  clear hA2 hR2 hw2 hb3 HN
  go_wp2_with fail
  refine (HN2.out _ w3 hR3).mono ?_
  rintro e w4 ⟨rfl, hb4⟩
  have hA4 := ((hb4.block _ (Array.getElem?_eq_some_iff.1 hA3).1).trans (Below.heap_setCell w3 ⟨w.heap.size + 1, 1, none⟩ (.int .i64 (7 + 1)) w.heap.size hne)).trans hA3
  have hR4 := (hb4.block _ (Array.getElem?_eq_some_iff.1 hR3).1).trans (block_set hR3 1 (.int .i64 (7 + 1)))
  have hw4 := (hw3.setCell (p := ⟨w.heap.size + 1, 1, none⟩) (by simp) (.int .i64 (7 + 1))).trans (hb4.mono (by have := hw3.size; simpa using this))
  clear hA3 hR3 hw3 hb4 HN2
  generalize partN s 1 6 = E at *
  generalize partN s 7 1 = S at *
  go_upto_region 3 with fail
  have hT5 := heap_alloc_new w4 (.cells #[.int .i64 (E : Nat), .int .i64 (S : Nat), .slice none 0 0] 67)
  have hA5 := (heap_alloc_old w4 (.cells #[.int .i64 (E : Nat), .int .i64 (S : Nat), .slice none 0 0] 67) (Array.getElem?_eq_some_iff.1 hA4).1).trans hA4
  have hR5 := (heap_alloc_old w4 (.cells #[.int .i64 (E : Nat), .int .i64 (S : Nat), .slice none 0 0] 67) (Array.getElem?_eq_some_iff.1 hR4).1).trans hR4
  have hw5 : Below w.heap.size w (w4.alloc (.cells #[.int .i64 (E : Nat), .int .i64 (S : Nat), .slice none 0 0] 67)) := hw4.alloc hw4.size _
  have hRT : w.heap.size + 1 < w4.heap.size := (Array.getElem?_eq_some_iff.1 hR4).1
  obtain ⟨w5, hW5⟩ : ∃ w5, w4.alloc (.cells #[.int .i64 (E : Nat), .int .i64 (S : Nat), .slice none 0 0] 67) = w5 := ⟨_, rfl⟩
  obtain ⟨T, hTT⟩ : ∃ T, w4.heap.size = T := ⟨_, rfl⟩
  rw [hW5] at hA5 hR5 hw5 hT5 ⊢
  rw [hTT] at hT5 hRT ⊢
  clear hW5 hTT hA4 hR4 hw4
  go_wp2_with fail
  refine (HN3.out _ w5 hR5).mono ?_
  rintro e w6 ⟨rfl, hb6⟩
  have hneT : T ≠ w.heap.size + 1 := by omega
  have hA6 := ((hb6.block _ (Array.getElem?_eq_some_iff.1 hA5).1).trans (Below.heap_setCell w5 ⟨w.heap.size + 1, 1, none⟩ (.int .i64 (8 + 1)) w.heap.size hne)).trans hA5
  have hT6 := ((hb6.block _ (Array.getElem?_eq_some_iff.1 hT5).1).trans (Below.heap_setCell w5 ⟨w.heap.size + 1, 1, none⟩ (.int .i64 (8 + 1)) T hneT)).trans hT5
  have hR6 := (hb6.block _ (Array.getElem?_eq_some_iff.1 hR5).1).trans (block_set hR5 1 (.int .i64 (8 + 1)))
  have hw6 := (hw5.setCell (p := ⟨w.heap.size + 1, 1, none⟩) (by simp) (.int .i64 (8 + 1))).trans (hb6.mono (by have := hw5.size; simpa using this))
  clear hA5 hR5 hw5 hT5 hb6 HN3
  rw [show (256 : Nat) ^ 1 = 256 by decide] at hn8
  generalize partN s 8 1 = n at *
  have hnI : (n : Int) ≤ 255 := by omega
  have hown6 := World.ownsRow_nil w6 w6.heap.size 3 1
  have hTb : T < w6.heap.size := (Array.getElem?_eq_some_iff.1 hT6).1
  have hRb : w.heap.size + 1 < w6.heap.size := by omega
  obtain ⟨B, hB⟩ : ∃ B, w6.heap.size = B := ⟨_, rfl⟩
  rw [hB] at hown6 hTb hRb
  have hBs : B ≤ w6.heap.size := by omega
  clear hB
  go_wp2_with fail
  have HA6 := Lib.hid hA6; have HT6 := Lib.hid hT6; have HR6 := Lib.hid hR6; have HO6 := Lib.hid hown6
  clear hA6 hT6 hR6 hown6
  go_loopw [17] (fun z wr => ∃ (i : Nat) (tv : Value), i ≤ n ∧ z = .int .i64 i ∧ wr.heap[T]? = some (.cells #[.int .i64 (E : Nat), .int .i64 (S : Nat), tv] 67 (0, 0)) ∧ wr.ownsRow B 3 1 tv i ((tgtL s i).map encI) ∧ wr.heap[w.heap.size + 1]? = some (.cells #[.string s, .int .i64 ((9 + 2 * i : Nat) : Int)] 149 (0, 0)) ∧ wr.heap[w.heap.size]? = some (.cells #[.int .i64 0, .int .i64 0, .slice none 0 0] 67 (0, 0)) ∧ B ≤ wr.heap.size ∧ Below w.heap.size w wr) (fun z _ => n - (intOf z).toNat)
  case atStart => exact ⟨0, _, by omega, rfl, HT6.out, HO6.out, HR6.out, HA6.out, hBs, hw6⟩
  case round =>
    clear HA6 HT6 HR6 HO6 hw6 hBs
    obtain ⟨i, tv, hin, rfl, hT, hown, hR, hA, hBr, hwr⟩ := hrel
    by_cases hlt : i < n
    · have hltI : (i : Int) < n := by omega
      have HT := Lib.hid hT; have HO := Lib.hid hown; have HR := Lib.hid hR; have HA := Lib.hid hA
      have HC := Lib.hid (HNT.out i (by omega) (w.heap.size + 1) wr.drew hR)
      have hsn := tgtL_snoc s i
      generalize partN s (9 + 2 * i) 2 = X at *
      have HSN := Lib.hid hsn
      obtain ⟨ta, tc, rfl⟩ := own_form1' hown
      have hc2 := below_cell (Below.refl _ wr) hT 2 rfl
      clear hsn hT hown hR hA
      have hstep := HNF wr (9 + 2 * i) 2 B T (w.heap.size + 1) w.heap.size hneT (by omega) HT.out HR.out HA.out HO.out hRb hBr
      have HST := Lib.hid hstep
      clear hstep
      go_upto_region 5 with fail
      go_region_law (first
        | (go_simp; go_at_call 102; refine HC.out.mono ?_; rintro e w7 ⟨rfl, hb7⟩; obtain ⟨hT7, hR7, hA7, hown7, hsz7, hTl⟩ := HST.out w7 hb7; have ht7 := below_cell (Below.refl _ w7) hT7 2 rfl; go_simp)
        | (refine step_push (m := 1) (c := 1) (Operand.tmp 20) (Operand.tmp 23) 65 3 [encI (X : Nat)] (own_keepB hown7 ((Below.refl _ w7).alloc (Nat.le_refl _) (.cells #[.int .i64 (X : Nat)] 3)) hsz7) (Below.refl B _) (by simp; omega) Tryz.underlying65 hi hz0 hz1 hz2 rfl (by decide) (by rfl) (by rfl) (by rfl) (by rfl) (cells_new w7 [encI (X : Nat)] 3) (by rfl) (by intro u hu; rw [List.mem_singleton.1 hu]; rfl) ⟨by omega, by omega⟩ ?_; intro v8 w8 hown8 hb8; obtain ⟨ta8, tc8, rfl⟩ := own_form1' hown8; have hT8 := (hb8.block _ hTb).trans ((heap_alloc_old w7 (.cells #[.int .i64 (X : Nat)] 3) hTl).trans hT7); have ht8 := below_cell (Below.refl _ w8) hT8 2 rfl; have hf8 := block_frozen hT8 2)
        | fail)
      all_goals
        have hT9 := block_set hT8 2 (.slice ta8 (i + 1) tc8)
        have hb78 := ((Below.refl B w7).alloc hsz7 (.cells #[.int .i64 (X : Nat)] 3)).trans hb8
        have hw8 : Below w.heap.size w w8 := ((hwr.drew.setCell (p := ⟨w.heap.size + 1, 1, none⟩) (by simp) (.int .i64 (((9 + 2 * i : Nat) : Int) + ((2 : Nat) : Int)))).trans (hb7.mono hwr.size)).trans (hb78.mono (by omega))
        have hA9 := (Below.heap_setCell w8 ⟨T, 2, none⟩ (.slice ta8 (i + 1) tc8) w.heap.size (by show w.heap.size ≠ T; omega)).trans ((hb78.block _ (by omega)).trans hA7)
        have hR9 := (Below.heap_setCell w8 ⟨T, 2, none⟩ (.slice ta8 (i + 1) tc8) (w.heap.size + 1) (by show w.heap.size + 1 ≠ T; omega)).trans ((hb78.block _ hRb).trans hR7)
        have hown9 := ownsRow_setCell_below (a := ⟨T, 2, none⟩) hown8 hTb (.slice ta8 (i + 1) tc8)
        have hw9 := hw8.setCell (p := ⟨T, 2, none⟩) (show w.heap.size ≤ T by omega) (.slice ta8 (i + 1) tc8)
        have hsz9 : B ≤ (w8.setCell ⟨T, 2, none⟩ (.slice ta8 (i + 1) tc8)).heap.size := by rw [World.size_setCell]; exact Nat.le_trans hsz7 hb78.size
        have H9 := Lib.hid (And.intro hT9 (And.intro hA9 (And.intro hR9 hown9)))
        clear hT9 hA9 hR9 hown9 hb78 hw8 ht8 hf8 hT8 hown8 hb8 hT7 hR7 hA7 hown7 ht7 hb7
        go_wp2_with fail
        go_roundw
        case rel =>
          obtain ⟨r1, r2, r3, r4⟩ := H9.out
          refine ⟨i + 1, _, by omega, by go_num, r1, ?_, ?_, r2, hsz9, hw9⟩
          · rw [HSN.out, List.map_append]; exact r4
          · rw [show 9 + 2 * (i + 1) = 9 + 2 * i + 2 by omega]; exact r3
        case measure => simp [intOf]; omega
    · obtain rfl : i = n := by omega
      obtain ⟨ta, tc, rfl⟩ := own_form1' hown
      have hrd : Reads1 encI wr (.slice ta i tc) (tgtL s i) := own_reads1 hown (tgtL_len s i)
      have htl := tgtL_len s i
      have HV := Lib.hid hV; have HE := Lib.hid hE; have HS := Lib.hid hS; have HO := Lib.hid hO
      have HRD := Lib.hid hrd
      generalize tgtL s i = L at *
      have hown' := hown
      clear hV hE hS hO hown hrd hlt hR
      have t0 := below_cell (Below.refl _ wr) hT 0 rfl
      have t1 := below_cell (Below.refl _ wr) hT 1 rfl
      have t2 := below_cell (Below.refl _ wr) hT 2 rfl
      by_cases hok : headOk (E : Nat) (S : Nat) L = true
      · go_wp2_with fail
        refine (slotHead_ok (E : Nat) (S : Nat) (.slice ta i tc) L wr HRD.out hok).mono ?_
        rintro e w5 ⟨rfl, hb5⟩
        have hA5 := (hb5.block _ (Array.getElem?_eq_some_iff.1 hA).1).trans hA
        have hT5 := (hb5.block _ (Array.getElem?_eq_some_iff.1 hT).1).trans hT
        have hw5 := hwr.trans (hb5.mono hwr.size)
        have hrd5 := HRD.out.below hb5
        have hown5 := own_keepB hown' hb5 hBr
        clear t0 t1 t2 hA hT hwr hb5
        have t0 := below_cell (Below.refl _ w5) hT5 0 rfl
        have t1 := below_cell (Below.refl _ w5) hT5 1 rfl
        have t2 := below_cell (Below.refl _ w5) hT5 2 rfl
        by_cases heq : layS (headL (E : Nat) (S : Nat) L) = s
        · have his : headIs s := HS.out.2 ⟨hok, heq⟩
          have e1 : headV s = ⟨(E : Nat), (S : Nat), L⟩ := by rw [HV.out, if_pos his, HO.out]
          have e2 : headE s = 0 := by rw [HE.out, if_pos his]
          rw [heq]
          have HE1 := Lib.hid e1; have HE2 := Lib.hid e2
          have a0 := below_cell (Below.refl _ w5) hA5 0 rfl
          have a1 := below_cell (Below.refl _ w5) hA5 1 rfl
          have a2 := below_cell (Below.refl _ w5) hA5 2 rfl
          have f0 := block_frozen hA5 0
          have f1 := block_frozen hA5 1
          have f2 := block_frozen hA5 2
          have hset := block_set (block_set (block_set hA5 0 (.int .i64 (E : Nat))) 1 (.int .i64 (S : Nat))) 2 (.slice ta i tc)
          have HSET := Lib.hid hset
          have hw6 := ((hw5.setCell (p := ⟨w.heap.size, 0, none⟩) (Nat.le_refl _) (.int .i64 (E : Nat))).setCell (p := ⟨w.heap.size, 1, none⟩) (Nat.le_refl _) (.int .i64 (S : Nat))).setCell (p := ⟨w.heap.size, 2, none⟩) (Nat.le_refl _) (.slice ta i tc)
          have hWB : w.heap.size < B := by omega
          have hown6 := ownsRow_setCell_below (a := ⟨w.heap.size, 2, none⟩) (ownsRow_setCell_below (a := ⟨w.heap.size, 1, none⟩) (ownsRow_setCell_below (a := ⟨w.heap.size, 0, none⟩) hown5 hWB (.int .i64 (E : Nat))) hWB (.int .i64 (S : Nat))) hWB (.slice ta i tc)
          have HR6 := Lib.hid (own_reads1 hown6 htl)
          clear e1 e2 his heq hset hok hown6 hown5 hrd5
          go_wp2_with fail
          refine bodyPost_ret (results_row_tmp rfl _ _ w.heap.size _ _ _ _ rfl HSET.out Tryz.underlying67 rfl (by kernel_rfl)) rfl ⟨.agg #[.int .i64 (E : Nat), .int .i64 (S : Nat), .slice ta i tc], ?_, ?_, hw6⟩
          · rw [HE2.out]
            first | rfl | (simp; done)
          · rw [HE1.out]
            exact ⟨_, rfl, HR6.out⟩
        · have his : ¬ headIs s := fun h => heq (HS.out.1 h).2
          have e1 : headV s = ⟨0, 0, []⟩ := by rw [HV.out, if_neg his]
          have e2 : headE s = 4 := by rw [HE.out, if_neg his]
          have hne' := ba_tne heq
          have HE1 := Lib.hid e1; have HE2 := Lib.hid e2
          clear e1 e2 his heq hok
          have a0 := below_cell (Below.refl _ w5) hA5 0 rfl
          have a1 := below_cell (Below.refl _ w5) hA5 1 rfl
          have a2 := below_cell (Below.refl _ w5) hA5 2 rfl
          have f0 := block_frozen hA5 0
          have f1 := block_frozen hA5 1
          have f2 := block_frozen hA5 2
          have hset := block_set (block_set (block_set hA5 0 (.int .i64 0)) 1 (.int .i64 0)) 2 (.slice none 0 0)
          have HSET := Lib.hid hset
          have hw6 := ((hw5.setCell (p := ⟨w.heap.size, 0, none⟩) (Nat.le_refl _) (.int .i64 0)).setCell (p := ⟨w.heap.size, 1, none⟩) (Nat.le_refl _) (.int .i64 0)).setCell (p := ⟨w.heap.size, 2, none⟩) (Nat.le_refl _) (.slice none 0 0)
          clear hset
          go_wp2_with fail
          refine bodyPost_ret (results_row_tmp rfl _ _ w.heap.size _ _ _ _ rfl HSET.out Tryz.underlying67 rfl (by kernel_rfl)) rfl ⟨.agg #[.int .i64 0, .int .i64 0, .slice none 0 0], ?_, ?_, hw6⟩
          · rw [HE2.out]
            first | rfl | (simp; done)
          · rw [HE1.out]
            exact ⟨_, rfl, _, _, _, rfl, rfl, Nat.le_refl _, by omega, .inl rfl⟩
      · have his : ¬ headIs s := fun h => hok (HS.out.1 h).1
        have hok' : headOk (E : Nat) (S : Nat) L = false := by cases h : headOk (E : Nat) (S : Nat) L with | true => exact absurd h hok | false => rfl
        have e1 : headV s = ⟨0, 0, []⟩ := by rw [HV.out, if_neg his]
        have e2 : headE s = 4 := by rw [HE.out, if_neg his]
        have HE1 := Lib.hid e1; have HE2 := Lib.hid e2
        clear e1 e2 his hok
        go_wp2_with fail
        refine (slotHead_bad (E : Nat) (S : Nat) (.slice ta i tc) L wr HRD.out hok').mono ?_
        rintro e w5 ⟨rfl, hb5⟩
        have hA5 := (hb5.block _ (Array.getElem?_eq_some_iff.1 hA).1).trans hA
        have hw5 := hwr.trans (hb5.mono hwr.size)
        clear t0 t1 t2 hA hT hwr hb5 hok'
        have a0 := below_cell (Below.refl _ w5) hA5 0 rfl
        have a1 := below_cell (Below.refl _ w5) hA5 1 rfl
        have a2 := below_cell (Below.refl _ w5) hA5 2 rfl
        have f0 := block_frozen hA5 0
        have f1 := block_frozen hA5 1
        have f2 := block_frozen hA5 2
        have hset := block_set (block_set (block_set hA5 0 (.int .i64 0)) 1 (.int .i64 0)) 2 (.slice none 0 0)
        have HSET := Lib.hid hset
        have hw6 := ((hw5.setCell (p := ⟨w.heap.size, 0, none⟩) (Nat.le_refl _) (.int .i64 0)).setCell (p := ⟨w.heap.size, 1, none⟩) (Nat.le_refl _) (.int .i64 0)).setCell (p := ⟨w.heap.size, 2, none⟩) (Nat.le_refl _) (.slice none 0 0)
        clear hset
        go_wp2_with fail
        refine bodyPost_ret (results_row_tmp rfl _ _ w.heap.size _ _ _ _ rfl HSET.out Tryz.underlying67 rfl (by kernel_rfl)) rfl ⟨.agg #[.int .i64 0, .int .i64 0, .slice none 0 0], ?_, ?_, hw6⟩
        · rw [HE2.out]
          first | rfl | (simp; done)
        · rw [HE1.out]
          exact ⟨_, rfl, _, _, _, rfl, rfl, Nat.le_refl _, by omega, .inl rfl⟩
end SSlotRH
section SRef04A
open Go.RowKit
set_option linter.unusedVariables false

set_option maxRecDepth 100000 in
theorem ref4Number_any (n : Int) (k : Nat) (w : World) (h0 : 0 ≤ n) (h1 : n ≤ 9223372036854775807) (hk : k ≤ 8) :
    Calls Tryz.prog 63 #[.int .i64 n, .int .i64 (k : Nat)] w fun e w' => e = .returned (.string ⟨(putL n.toNat k).toArray⟩) ∧ Below w.heap.size w w' := by
  have HB := Lib.hid (fun u => refBytes_any n.toNat k u (by omega) (by omega))
  rw [show ((n.toNat : Nat) : Int) = n by omega] at HB
  have hw : IntKind.u64.wrap n = n := by simp [IntKind.wrap, IntKind.signed, IntKind.bits]; omega
  go_enter Tryz.func63, Tryz.ntmps63
  go_wp2_with fail
  refine (HB.out _).mono ?_
  rintro e w1 ⟨rfl, hb1⟩
  go_wp2_with fail
  go_ret
  exact ⟨rfl, hb1⟩
theorem ref4Epoch_any (n : Int) (w : World) : Calls Tryz.prog 51 #[.int .i64 n] w fun e w' => e = .returned (.bool (decide (1 ≤ n ∧ n ≤ 1099511627776))) ∧ w = w' := by
  by_cases h1 : 1 ≤ n <;> by_cases h2 : n ≤ 1099511627776
  all_goals
    go_enter Tryz.func51, Tryz.ntmps51
    go_wp2_with fail
    go_ret
    simp [h1, h2]
theorem ref4Place_any (n : Int) (w : World) : Calls Tryz.prog 104 #[.int .i64 n] w fun e w' => e = .returned (.bool (decide (0 ≤ n ∧ n < 6))) ∧ w = w' := by
  have e : decide (0 ≤ n ∧ n < 6) = decide (0 ≤ n ∧ n ≤ 5) := by congr 1; rw [eq_iff_iff]; omega
  rw [e]
  by_cases h1 : 0 ≤ n <;> by_cases h2 : n ≤ 5
  all_goals
    go_enter Tryz.func104, Tryz.ntmps104
    go_wp2_with fail
    go_ret
    simp [h1, h2]
theorem ref4Lay_any (l : List UInt8) (w : World) (h : l.length ≤ 100000) :
    Calls Tryz.prog 64 #[.string ⟨l.toArray⟩] w fun e w' => e = .returned (.string (layS l)) ∧ Below w.heap.size w w' := by
  have hz : (ByteArray.mk l.toArray).size = l.length := ba_size l
  have HC := Lib.hid (fun u => ref02Seal_any ⟨l.toArray⟩ u (by omega))
  have HT := Lib.hid (fun u => refTrim_any (sealL ⟨l.toArray⟩) u (by rw [sealL_size]; omega))
  show Calls _ _ _ _ fun e w' => e = .returned (.string (trimS (sealL ⟨l.toArray⟩))) ∧ _
  generalize sealL ⟨l.toArray⟩ = X at *
  generalize (ByteArray.mk l.toArray) = Y at *
  clear hz h
  go_enter Tryz.func64, Tryz.ntmps64
  go_wp2_with fail
  refine (HC.out _).mono ?_
  rintro e w1 ⟨rfl, hb1⟩
  go_wp2_with fail
  refine (HT.out _).mono ?_
  rintro e w2 ⟨rfl, rfl⟩
  go_wp2_with fail
  go_ret
  exact ⟨rfl, hb1⟩
theorem superL_eq (n : Int) : superL n = [1] ++ putL n.toNat 6 := by simp [superL, fieldsL, putL]
theorem commitL_eq (n s : Int) : commitL n s = ([3] ++ putL n.toNat 6) ++ putL s.toNat 1 := by simp [commitL, fieldsL, putL]
set_option maxRecDepth 100000 in
theorem ref4Super_any (n : Int) (w : World) (h0 : 0 ≤ n) (h1 : n ≤ 9223372036854775807) :
    Calls Tryz.prog 38 #[.int .i64 n] w fun e w' => e = .returned (.string (layS (superL n))) ∧ Below w.heap.size w w' := by
  have HN := Lib.hid (fun u => ref4Number_any n 6 u h0 h1 (by omega))
  have HL := Lib.hid (fun u => ref4Lay_any (superL n) u (by rw [superL_eq, List.length_append, putL_length]; simp))
  have hadd : ∀ u, (Op.stringOp .add ⟨#[1]⟩ ⟨(putL n.toNat 6).toArray⟩).run Tryz.prog u = .ok (.string ⟨(superL n).toArray⟩) u :=
    add_run _ _ _ (by rw [superL_eq]; exact ba_app [1] _) (by rw [ba_size, ba_size, putL_length]; decide)
  generalize (ByteArray.mk (putL n.toNat 6).toArray) = F at *
  generalize (ByteArray.mk (superL n).toArray) = G at *
  generalize layS (superL n) = R at *
  go_enter Tryz.func38, Tryz.ntmps38
  go_wp2_with fail
  refine (HN.out _).mono ?_
  rintro e w1 ⟨rfl, hb1⟩
  go_wp2_with fail
  refine (HL.out _).mono ?_
  rintro e w2 ⟨rfl, hb2⟩
  go_wp2_with fail
  go_ret
  exact ⟨rfl, hb1.trans (hb2.mono hb1.size)⟩
set_option maxRecDepth 100000 in
theorem ref4Commit_any (n s : Int) (w : World) (h0 : 0 ≤ n) (h1 : n ≤ 9223372036854775807) (h2 : 0 ≤ s) (h3 : s ≤ 9223372036854775807) :
    Calls Tryz.prog 32 #[.int .i64 n, .int .i64 s] w fun e w' => e = .returned (.string (layS (commitL n s))) ∧ Below w.heap.size w w' := by
  have HN := Lib.hid (fun u => ref4Number_any n 6 u h0 h1 (by omega))
  have HN1 := Lib.hid (fun u => ref4Number_any s 1 u h2 h3 (by omega))
  have HL := Lib.hid (fun u => ref4Lay_any (commitL n s) u (by rw [commitL_eq, List.length_append, List.length_append, putL_length, putL_length]; simp))
  obtain ⟨M, hM⟩ : ∃ M, [3] ++ putL n.toNat 6 = M := ⟨_, rfl⟩
  have hml : M.length = 7 := by rw [← hM, List.length_append, putL_length]; rfl
  have hadd : ∀ u, (Op.stringOp .add ⟨#[3]⟩ ⟨(putL n.toNat 6).toArray⟩).run Tryz.prog u = .ok (.string ⟨M.toArray⟩) u :=
    add_run _ _ _ (by rw [← hM]; exact ba_app [3] _) (by rw [ba_size, ba_size, putL_length]; decide)
  have hadd2 : ∀ u, (Op.stringOp .add ⟨M.toArray⟩ ⟨(putL s.toNat 1).toArray⟩).run Tryz.prog u = .ok (.string ⟨(commitL n s).toArray⟩) u :=
    add_run _ _ _ (by rw [commitL_eq, hM]; exact ba_app _ _) (by rw [ba_size, ba_size, putL_length, hml]; decide)
  generalize (ByteArray.mk (putL n.toNat 6).toArray) = F at *
  generalize (ByteArray.mk (putL s.toNat 1).toArray) = F2 at *
  generalize (ByteArray.mk (commitL n s).toArray) = G at *
  generalize (ByteArray.mk M.toArray) = G2 at *
  generalize layS (commitL n s) = R at *
  clear hM hml
  go_enter Tryz.func32, Tryz.ntmps32
  go_wp2_with fail
  refine (HN.out _).mono ?_
  rintro e w1 ⟨rfl, hb1⟩
  go_wp2_with fail
  refine (HN1.out _).mono ?_
  rintro e w2 ⟨rfl, hb2⟩
  go_wp2_with fail
  refine (HL.out _).mono ?_
  rintro e w3 ⟨rfl, hb3⟩
  go_wp2_with fail
  go_ret
  have hb12 := hb1.trans (hb2.mono hb1.size)
  exact ⟨rfl, hb12.trans (hb3.mono hb12.size)⟩
theorem part_end (s : ByteArray) (p k : Nat) (h : s.size ≤ p) : partN s p k = 0 := by
  unfold partN cutL
  rw [List.drop_eq_nil_of_le (by rw [ba_len]; exact h)]
  simp [getL]
theorem part_cons (s : ByteArray) (p k : Nat) (h : p < s.size) : partN s p (k + 1) = (s[p]'h).toNat + 256 * partN s (p + 1) k := by
  have hl : p < s.data.toList.length := by rw [ba_len]; exact h
  unfold partN cutL
  rw [List.drop_eq_getElem_cons hl, List.take_succ_cons, getL]
  rfl
set_option maxRecDepth 100000 in
set_option maxHeartbeats 1000000 in
theorem ref4Part_any (s : ByteArray) (p k : Nat) (w : World) (hs : s.size ≤ 2000) (hp : p ≤ 2000) (hk : k ≤ 6) :
    Calls Tryz.prog 79 #[.string s, .int .i64 (p : Nat), .int .i64 (k : Nat)] w fun e w' => e = .returned (.int .i64 (partN s p k : Nat)) ∧ w = w' := by
  have hkI : (k : Int) ≤ 6 := by omega
  have hpI : (p : Int) ≤ 2000 := by omega
  have hsI : (s.size : Int) ≤ 2000 := by omega
  have HL := Lib.hid (fun j (hj : j ≤ k) => (Nat.lt_of_lt_of_le (partN_lt s (p + j) (k - j)) (Nat.pow_le_pow_right (by omega) (show k - j ≤ 6 - j by omega))))
  go_enter Tryz.func79, Tryz.ntmps79
  go_wp2_with fail
  go_loop [7, 8] (fun x z => ∃ j : Nat, j ≤ k ∧ x = .int .i64 (partN s (p + j) (k - j) : Nat) ∧ z = .int .i64 ((j : Int) - 1)) (fun _ z => (intOf z + 1).toNat)
  case atStart => exact ⟨k, Nat.le_refl _, by rw [Nat.sub_self]; rfl, rfl⟩
  case round =>
    obtain ⟨j, hj, rfl, rfl⟩ := hrel
    by_cases h0 : j = 0
    · subst h0
      have hx : ((0 : Nat) : Int) - 1 < 0 := by omega
      go_wp2_with fail
      go_ret
      exact ⟨rfl, rfl⟩
    · obtain ⟨i, rfl⟩ : ∃ i, j = i + 1 := ⟨j - 1, by omega⟩
      have hi : ((i + 1 : Nat) : Int) - 1 = i := by omega
      rw [hi]
      have hb := HL.out (i + 1) hj
      have hb2 : partN s (p + (i + 1)) (k - (i + 1)) < 256 ^ 5 := Nat.lt_of_lt_of_le hb (Nat.pow_le_pow_right (by omega) (by omega))
      rw [show (256 : Nat) ^ 5 = 1099511627776 by decide] at hb2
      have hkk : k - i = (k - (i + 1)) + 1 := by omega
      by_cases hlt : p + i < s.size
      · have hltI : (p : Int) + i < s.size := by omega
        have hc := part_cons s (p + i) (k - (i + 1)) hlt
        rw [← hkk, show p + i + 1 = p + (i + 1) by omega] at hc
        have hbt : ((s[p + i]'hlt).toNat : Int) ≤ 255 := by have := UInt8.toNat_lt (s[p + i]'hlt); omega
        have hix : ∀ u : World, (Instr.index 9 (.string s) (.int .i64 ((p : Int) + i))).run Tryz.prog u = .ok (.int .u8 ((s[p + i]'hlt).toNat : Int)) u := fun u => by
          have u9 := Tryz.underlying9
          have e9 : ((p : Int) + i).toNat = p + i := by omega
          go_simp
          rw [dif_pos (by omega)]
        generalize (s[p + i]'hlt).toNat = b at *
        generalize partN s (p + (i + 1)) (k - (i + 1)) = N at *
        generalize hM : partN s (p + i) (k - i) = M at *
        have hNI : (N : Int) ≤ 1099511627775 := by omega
        have hb0 : (0 : Int) ≤ b := by omega
        have hwb : IntKind.i64.wrap (b : Int) = b := by simp [IntKind.wrap, IntKind.signed, IntKind.bits]; omega
        have HC := Lib.hid hc; have HM := Lib.hid hM
        clear hb hb2 hc hM HL hkk
        go_wp2_with fail
        go_round
        case rel => exact ⟨i, by omega, by rw [HM.out, HC.out]; first | (congr 1; omega) | (simp; omega), by go_num⟩
        case measure => simp [intOf]
      · have hltI : ¬ (p : Int) + i < s.size := by omega
        have e1 := part_end s (p + (i + 1)) (k - (i + 1)) (by omega)
        have e2 := part_end s (p + i) (k - i) (by omega)
        rw [e1]
        have HE2 := Lib.hid e2
        clear e1 e2 hb hb2
        go_wp2_with fail
        go_round
        case rel => exact ⟨i, by omega, by rw [HE2.out]; rfl, by go_num⟩
        case measure => simp [intOf]
end SRef04A
section SRef04H
open Go.RowKit
set_option linter.unusedVariables false

theorem infoBl4 : (Tryz.prog.info? 4).map (fun i => (i.zero, i.size, i.bytes)) = some (some (.bool false), 1, 1) := by kernel_rfl
theorem make_256 : ∀ u : World, (Instr.makeSlice 52 (.int .i64 256) (.int .i64 256)).run Tryz.prog u =
    .ok (.slice (some ⟨u.heap.size, 0, none⟩) 256 256) (u.alloc (.cells (seenC []) 4)) := by
  intro u
  obtain ⟨i0, hi, hz0, hz1, hz2⟩ := info_parts infoBl4
  have h := run_make (P := Tryz.prog) u 52 4 i0 (.bool false) Tryz.underlying52 hi hz0 .i64 .i64 256 256 (by omega) (Int.le_refl _) (by rw [hz2]; omega) (by omega)
  have hm : madeCells #[Value.bool false] 256 = seenC [] := by
    rw [seenC_nil, fill_zero (.bool false) 256, fill]
    apply Array.toList_inj.1
    simp only [List.nil_append, List.length_nil, Nat.sub_zero, Array.toList_replicate]
  rw [hz1] at h
  simp only [Value.cells] at h
  have e : (256 : Int).toNat = 256 := rfl
  rw [e, hm] at h
  exact h
set_option maxRecDepth 100000 in
set_option maxHeartbeats 1000000 in
theorem ref4IsHead_any (E S : Int) (tv : Value) (l : List Int) (w : World) (hv : Reads1 encI w tv l) :
    Calls Tryz.prog 103 #[.agg #[.int .i64 E, .int .i64 S, tv]] w fun e w' => e = .returned (.bool (headOk E S l)) ∧ Below w.heap.size w w' := by
  obtain ⟨a, len, cap, rfl, hlen, hc1, hc2, hat⟩ := hv
  subst hlen
  have hlI : (l.length : Int) ≤ 9223372036854775807 := by omega
  have HE := Lib.hid (fun u => ref4Epoch_any E u)
  have HP := Lib.hid (fun u => ref4Place_any S u)
  have hA := heap_alloc_new w (.cells #[.int .i64 E, .int .i64 S, .slice a l.length cap] 67)
  have hw := (Below.refl w.heap.size w).alloc (Nat.le_refl _) (.cells #[.int .i64 E, .int .i64 S, .slice a l.length cap] 67)
  have hres : headOk E S l = (decide (1 ≤ E ∧ E ≤ 1099511627776) && (decide (0 ≤ S ∧ S < 6) && okT l)) := rfl
  generalize decide (1 ≤ E ∧ E ≤ 1099511627776) = b1 at *
  generalize decide (0 ≤ S ∧ S < 6) = b2 at *
  generalize headOk E S l = res at *
  have HRES := Lib.hid hres
  clear hres
  cases b1 with
  | false =>
    clear hat
    go_enter Tryz.func103, Tryz.ntmps103
    go_wp2_with fail
    refine (HE.out _).mono ?_
    rintro e w2 ⟨rfl, rfl⟩
    go_wp2_with fail
    go_ret
    exact ⟨by rw [HRES.out]; rfl, hw⟩
  | true =>
    cases b2 with
    | false =>
      clear hat
      go_enter Tryz.func103, Tryz.ntmps103
      go_wp2_with fail
      refine (HE.out _).mono ?_
      rintro e w2 ⟨rfl, rfl⟩
      go_wp2_with fail
      refine (HP.out _).mono ?_
      rintro e w2 ⟨rfl, rfl⟩
      go_wp2_with fail
      go_ret
      exact ⟨by rw [HRES.out]; rfl, hw⟩
    | true =>
      by_cases h1 : l.length < 1
      · have h1I : (l.length : Int) < 1 := by omega
        have he : okT l = false := by unfold okT; exact decide_eq_false (by omega)
        have HOK := Lib.hid he
        clear hat he
        generalize l.length = n at *
        go_enter Tryz.func103, Tryz.ntmps103
        go_wp2_with fail
        refine (HE.out _).mono ?_
        rintro e w2 ⟨rfl, rfl⟩
        go_wp2_with fail
        refine (HP.out _).mono ?_
        rintro e w2 ⟨rfl, rfl⟩
        go_wp2_with fail
        go_ret
        exact ⟨by rw [HRES.out, HOK.out]; rfl, hw⟩
      · have h1I : ¬ (l.length : Int) < 1 := by omega
        by_cases h2 : 40 < l.length
        · have h2I : (40 : Int) < l.length := by omega
          have he : okT l = false := by unfold okT; exact decide_eq_false (by omega)
          have HOK := Lib.hid he
          clear hat he
          generalize l.length = n at *
          go_enter Tryz.func103, Tryz.ntmps103
          go_wp2_with fail
          refine (HE.out _).mono ?_
          rintro e w2 ⟨rfl, rfl⟩
          go_wp2_with fail
          refine (HP.out _).mono ?_
          rintro e w2 ⟨rfl, rfl⟩
          go_wp2_with fail
          go_ret
          exact ⟨by rw [HRES.out, HOK.out]; rfl, hw⟩
        · have h2I : ¬ (40 : Int) < l.length := by omega
          have HAT := Lib.hid hat
          have hmk := make_256
          clear hat
          go_enter Tryz.func103, Tryz.ntmps103
          go_wp2_with fail
          refine (HE.out _).mono ?_
          rintro e w2 ⟨rfl, rfl⟩
          go_wp2_with fail
          refine (HP.out _).mono ?_
          rintro e w2 ⟨rfl, rfl⟩
          go_upto_region 4 with fail
          have hB0 := heap_alloc_new (w.alloc (.cells #[.int .i64 E, .int .i64 S, .slice a l.length cap] 67)) (.cells (seenC []) 4)
          have hA1 := (heap_alloc_old (w.alloc (.cells #[.int .i64 E, .int .i64 S, .slice a l.length cap] 67)) (.cells (seenC []) 4) (Array.getElem?_eq_some_iff.1 hA).1).trans hA
          have hw1 := hw.alloc hw.size (.cells (seenC []) 4)
          obtain ⟨B, hB⟩ : ∃ B, w.heap.size + 1 = B := ⟨_, rfl⟩
          rw [World.size_alloc, hB] at hB0
          obtain ⟨w1, hW1⟩ : ∃ w1, (w.alloc (.cells #[.int .i64 E, .int .i64 S, .slice a l.length cap] 67)).alloc (.cells (seenC []) 4) = w1 := ⟨_, rfl⟩
          rw [hW1] at hB0 hA1 hw1 ⊢
          rw [hB]
          have hsz : w.heap.size ≤ B := by omega
          have hb0 := Below.refl B w1
          have x2 := below_cell (Below.refl _ w1) hA1 2 rfl
          clear hW1 hmk hA hw HE HP
          go_wp2_with fail
          clear x2 hA1
          go_loopw [32] (fun c wr => ∃ j : Nat, j ≤ l.length ∧ c = .int .i64 j ∧ (∀ t ∈ l.take j, 53 ≤ t ∧ t ≤ 255) ∧ (l.take j).Nodup ∧ wr.heap[B]? = some (.cells (seenC (l.take j)) 4 (0, 0)) ∧ Below B w1 wr) (fun c _ => l.length - (intOf c).toNat)
          case atStart => exact ⟨0, by omega, rfl, by simp, by simp, hB0, hb0⟩
          case round =>
            clear hB0 hb0
            obtain ⟨j, hj, rfl, hin, hnd, hbk, hwr⟩ := hrel
            have HIN := Lib.hid hin; have HND := Lib.hid hnd; have HBK := Lib.hid hbk
            clear hin hnd hbk
            by_cases hlt : j < l.length
            · have hltI : (j : Int) < l.length := by omega
              obtain ⟨b, off, rfl, hb, hat⟩ := HAT.out.resolve_left (by omega)
              have hcell : wr.cell? ⟨b, off + j, none⟩ = some (.int .i64 l[j]) := (hwr.cell (p := ⟨b, off + j, none⟩) (Nat.lt_of_lt_of_le hb hsz)).trans ((hw1.cell (p := ⟨b, off + j, none⟩) hb).trans (hat j hlt))
              have hbad := okT_bad l j hlt
              have hseen := okT_seen l j hlt
              have hnod := take_nodup l j hlt HND.out
              have htk : l.take (j + 1) = l.take j ++ [l[j]] := (List.take_append_getElem hlt).symm
              clear hat
              generalize l[j] = t at *
              by_cases hr : 53 ≤ t ∧ t ≤ 255
              · obtain ⟨hr1, hr2⟩ := hr
                obtain ⟨c, rfl⟩ := Int.eq_ofNat_of_zero_le (show 0 ≤ t by omega)
                have hcz : wr.cell? ⟨B, c, none⟩ = some (.bool (decide ((c : Int) ∈ l.take j))) := by rw [cell_of_row _ _ c _ _ _ HBK.out, seenC_get _ _ (by omega)]
                have hfz := block_frozen HBK.out c
                by_cases hs : (c : Int) ∈ l.take j
                · have HE := Lib.hid (hseen hs)
                  rw [decide_eq_true hs] at hcz
                  clear hseen hbad hnod htk hs
                  go_wp2_with fail
                  go_ret
                  exact ⟨by rw [HRES.out, HE.out]; rfl, by first | exact hw1.trans (hwr.mono hsz) | (rw [hB]; exact hw1.trans (hwr.mono hsz))⟩
                · rw [decide_eq_false hs] at hcz
                  have hset := block_set HBK.out c (.bool true)
                  rw [seenC_set _ _ (by omega), ← htk] at hset
                  have HSET := Lib.hid hset
                  have HNO := Lib.hid (hnod hs)
                  have HIN2 := Lib.hid (show ∀ t ∈ l.take (j + 1), 53 ≤ t ∧ t ≤ 255 by
                    intro t ht
                    rw [htk, List.mem_append, List.mem_singleton] at ht
                    rcases ht with ht | rfl
                    · exact HIN.out t ht
                    · exact ⟨hr1, hr2⟩)
                  have hw2 : Below B w1 (wr.setCell ⟨B, c, none⟩ (.bool true)) := hwr.setCell (p := ⟨B, c, none⟩) (Nat.le_refl _) _
                  clear hseen hbad hnod htk hs hset
                  go_wp2_with fail
                  go_roundw
                  case rel => exact ⟨j + 1, by omega, by go_num, HIN2.out, HNO.out, HSET.out, hw2⟩
                  case measure => simp [intOf]; omega
              · have HE := Lib.hid (hbad hr)
                clear hbad hseen hnod htk
                by_cases h3 : t < 53
                · go_wp2_with fail
                  go_ret
                  exact ⟨by rw [HRES.out, HE.out]; rfl, by first | exact hw1.trans (hwr.mono hsz) | (rw [hB]; exact hw1.trans (hwr.mono hsz))⟩
                · have h4 : 255 < t := by omega
                  go_wp2_with fail
                  go_ret
                  exact ⟨by rw [HRES.out, HE.out]; rfl, by first | exact hw1.trans (hwr.mono hsz) | (rw [hB]; exact hw1.trans (hwr.mono hsz))⟩
            · obtain rfl : j = l.length := by omega
              have hok : okT l = true := by
                have e1 := HIN.out; have e2 := HND.out
                rw [List.take_length] at e1 e2
                unfold okT
                exact decide_eq_true ⟨by omega, by omega, e1, e2⟩
              have HOK := Lib.hid hok
              clear hok
              go_wp2_with fail
              go_ret
              exact ⟨by rw [HRES.out, HOK.out]; rfl, by first | exact hw1.trans (hwr.mono hsz) | (rw [hB]; exact hw1.trans (hwr.mono hsz))⟩
end SRef04H
section SRef04B
open Go.RowKit
set_option linter.unusedVariables false

def hd3 (E S : Int) (n : Nat) : List UInt8 := (([2] ++ putL E.toNat 6) ++ putL S.toNat 1) ++ putL n 1
theorem headL_eq (E S : Int) (l : List Int) : headL E S l = hd3 E S l.length ++ fieldsL 2 l := by
  unfold headL hd3
  congr 1
theorem hd3_len (E S : Int) (n : Nat) : (hd3 E S n).length = 9 := by simp [hd3, putL_length]
set_option maxRecDepth 100000 in
set_option maxHeartbeats 1000000 in
theorem ref4Head_any (E S : Int) (tv : Value) (l : List Int) (w : World) (hv : Reads1 encI w tv l) (h : headOk E S l = true) :
    Calls Tryz.prog 31 #[.agg #[.int .i64 E, .int .i64 S, tv]] w fun e w' => e = .returned (.string (layS (headL E S l))) ∧ Below w.heap.size w w' := by
  obtain ⟨a, len, cap, rfl, hlen, hc1, hc2, hat⟩ := hv
  subst hlen
  unfold headOk at h
  rw [Bool.and_eq_true, Bool.and_eq_true] at h
  obtain ⟨h1, h2, h3⟩ := h
  obtain ⟨h4, h5⟩ := okT_fit l h3
  have hE := of_decide_eq_true h1
  have hS := of_decide_eq_true h2
  have hlI : (l.length : Int) ≤ 40 := by omega
  have HN6 := Lib.hid (fun u => ref4Number_any E 6 u (by omega) (by omega) (by omega))
  have HN1 := Lib.hid (fun u => ref4Number_any S 1 u (by omega) (by omega) (by omega))
  have HNL := Lib.hid (fun u => ref4Number_any (l.length : Int) 1 u (by omega) (by omega) (by omega))
  have HNT := Lib.hid (fun t (ht : t ∈ l) u => ref4Number_any t 2 u (h5 t ht).1 (by have := (of_decide_eq_true h3).2.2.1 t ht; omega) (by omega))
  have HLY := Lib.hid (fun u => ref4Lay_any (headL E S l) u (by rw [headL_len]; omega))
  rw [Int.toNat_natCast] at HNL
  obtain ⟨M1, hM1⟩ : ∃ M, [2] ++ putL E.toNat 6 = M := ⟨_, rfl⟩
  obtain ⟨M2, hM2⟩ : ∃ M, M1 ++ putL S.toNat 1 = M := ⟨_, rfl⟩
  have hm1 : M1.length = 7 := by rw [← hM1, List.length_append, putL_length]; rfl
  have hm2 : M2.length = 8 := by rw [← hM2, List.length_append, putL_length, hm1]
  have hadd : ∀ u, (Op.stringOp .add ⟨#[2]⟩ ⟨(putL E.toNat 6).toArray⟩).run Tryz.prog u = .ok (.string ⟨M1.toArray⟩) u :=
    add_run _ _ _ (by rw [← hM1]; exact ba_app [2] _) (by rw [ba_size, ba_size, putL_length]; decide)
  have hadd2 : ∀ u, (Op.stringOp .add ⟨M1.toArray⟩ ⟨(putL S.toNat 1).toArray⟩).run Tryz.prog u = .ok (.string ⟨M2.toArray⟩) u :=
    add_run _ _ _ (by rw [← hM2]; exact ba_app _ _) (by rw [ba_size, ba_size, putL_length, hm1]; decide)
  have hadd3 : ∀ u, (Op.stringOp .add ⟨M2.toArray⟩ ⟨(putL l.length 1).toArray⟩).run Tryz.prog u = .ok (.string ⟨(hd3 E S l.length).toArray⟩) u :=
    add_run _ _ _ (by rw [show hd3 E S l.length = M2 ++ putL l.length 1 by rw [← hM2, ← hM1]; rfl]; exact ba_app _ _) (by rw [ba_size, ba_size, putL_length, hm2]; decide)
  obtain ⟨f, hf⟩ : ∃ f : Nat → ByteArray, ∀ j, f j = ⟨(hd3 E S l.length ++ fieldsL 2 (l.take j)).toArray⟩ := ⟨_, fun _ => rfl⟩
  have HADD := Lib.hid (fun (j : Nat) (hj : j < l.length) u => add_run (P := Tryz.prog) (f j) ⟨(putL (l[j]).toNat 2).toArray⟩ (f (j + 1))
    (by rw [hf, hf, fieldsL_snoc 2 l j hj, ← List.append_assoc]; exact ba_app _ _) (by rw [hf, ba_size, ba_size, putL_length, List.length_append, hd3_len, fieldsL_len]; have : (l.take j).length ≤ j := List.length_take_le _ _; omega) u)
  have HST := Lib.hid (show (ByteArray.mk (hd3 E S l.length).toArray) = f 0 by rw [hf]; simp [fieldsL])
  have HFIN := Lib.hid (show f l.length = ⟨(headL E S l).toArray⟩ by rw [hf, List.take_length, headL_eq])
  clear hf
  have HAT := Lib.hid hat
  generalize (ByteArray.mk (putL E.toNat 6).toArray) = F1 at *
  generalize (ByteArray.mk (putL S.toNat 1).toArray) = F2 at *
  generalize (ByteArray.mk (putL l.length 1).toArray) = F3 at *
  generalize (ByteArray.mk M1.toArray) = F4 at *
  generalize (ByteArray.mk M2.toArray) = F5 at *
  generalize (ByteArray.mk (hd3 E S l.length).toArray) = F6 at *
  generalize (ByteArray.mk (headL E S l).toArray) = F7 at *
  generalize layS (headL E S l) = R at *
  clear hM1 hM2 hm1 hm2 hat h1 h2 h3 h5
  go_enter Tryz.func31, Tryz.ntmps31
  go_wp2_with fail
  have hblk := heap_alloc_new w (.cells #[.int .i64 E, .int .i64 S, .slice a l.length cap] 67)
  have hbel := (Below.refl w.heap.size w).alloc (Nat.le_refl _) (.cells #[.int .i64 E, .int .i64 S, .slice a l.length cap] 67)
  obtain ⟨W, hW⟩ : ∃ W, w.alloc (.cells #[.int .i64 E, .int .i64 S, .slice a l.length cap] 67) = W := ⟨_, rfl⟩
  rw [hW] at hblk hbel ⊢
  clear hW
  have q0 := keep_at hblk 0 rfl
  have q1 := keep_at hblk 1 rfl
  have q2 := keep_at hblk 2 rfl
  have HB := Lib.hid hblk
  clear hblk
  refine wp_region_keep (w0 := W) (by kernel_rfl) (by kernel_rfl) (Below.refl _ _) ?_
  repeat (go_big_quiet_step ((first | (go_at_call_of 63 (Value.int .i64 E); exact keepCall (HN6.out _)) | (go_at_call_of 63 (Value.int .i64 S); exact keepCall (HN1.out _)) | (go_at_call_of 63 (Value.int .i64 (l.length : Int)); exact keepCall (HNL.out _)))))
  refine wpQuiet_nil ?_
  intro _ hw'
  obtain ⟨x, rfl⟩ := hw'
  have hz := x.below
  clear q0 q1 q2
  generalize x.val = wz at *
  have p2 := below_cell hz HB.out 2 rfl
  have hwz : Below w.heap.size w wz := hbel.trans (hz.mono hbel.size)
  clear hz x HB hbel HN6 HN1 HNL hadd hadd2 hadd3
  go_wp2_with fail
  clear p2
  go_loopw [3, 22] (fun s z wr => ∃ j : Nat, j ≤ l.length ∧ z = .int .i64 j ∧ s = .string (f j) ∧ Below w.heap.size w wr) (fun _ z _ => l.length - (intOf z).toNat)
  case atStart => exact ⟨0, by omega, rfl, by rw [HST.out], hwz⟩
  case round =>
    clear HST hwz
    obtain ⟨j, hj, rfl, rfl, hwr⟩ := hrel
    by_cases hlt : j < l.length
    · have hltI : (j : Int) < l.length := by omega
      obtain ⟨b, off, rfl, hb, hat⟩ := HAT.out.resolve_left (by omega)
      have hcell : wr.cell? ⟨b, off + j, none⟩ = some (.int .i64 l[j]) := (hwr.cell (p := ⟨b, off + j, none⟩) hb).trans (hat j hlt)
      have HNN := Lib.hid (HNT.out l[j] (List.getElem_mem hlt))
      have hadd := HADD.out j hlt
      generalize l[j] = t at *
      generalize (ByteArray.mk (putL t.toNat 2).toArray) = Z at *
      clear hat
      go_wp2_with fail
      refine (HNN.out _).mono ?_
      rintro e w2 ⟨rfl, hb2⟩
      have hw2 := hwr.trans (hb2.mono hwr.size)
      clear hb2 hwr hcell
      go_wp2_with fail
      go_roundw
      case rel => exact ⟨j + 1, by omega, by go_num, rfl, hw2⟩
      case measure => simp [intOf]; omega
    · obtain rfl : j = l.length := by omega
      have hfin := HFIN.out
      generalize f l.length = fl at *
      subst hfin
      go_wp2_with fail
      refine (HLY.out _).mono ?_
      rintro e w2 ⟨rfl, hb2⟩
      go_wp2_with fail
      go_ret
      exact ⟨rfl, hwr.trans (hb2.mono hwr.size)⟩
end SRef04B
end Go.Proofs.YthnmnnlbglpjaaaGreatDoor
