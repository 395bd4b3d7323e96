/- le.Put: what it answers. -/
import Derived.Test.YtimiooiaohfelaaDoorSized
namespace Go.Proofs.YtimiooiaohfelaaDoor
open Go.RowKit
set_option linter.unusedVariables false

theorem infoU8 : (Tryd.prog.info? 5).map (fun i => (i.zero, i.size, i.bytes)) = some (some (.int .u8 0), 1, 1) := by kernel_rfl

def putCells (n k j : Nat) : Array Value := ((putL n j).map (fun b => Value.int .u8 b.toNat) ++ List.replicate (k - j) (Value.int .u8 0)).toArray
theorem putCells_zero (n k : Nat) : madeCells #[Value.int .u8 0] k = putCells n k 0 := by
  apply Array.toList_inj.1
  simp only [putCells, putL, List.map_nil, List.nil_append, Nat.sub_zero, madeCells, Array.toList_map, Array.toList_range]
  rw [List.eq_replicate_iff]
  refine ⟨by simp, ?_⟩
  intro b hb
  obtain ⟨a, _, rfl⟩ := List.mem_map.1 hb
  simp [Nat.mod_one]
theorem putCells_get (n k j : Nat) (h : j < k) : (putCells n k j)[j]? = some (.int .u8 0) := by
  have h2 : j - (putL n j).length < k - j := by rw [putL_length]; omega
  simp only [putCells, List.getElem?_toArray]
  rw [List.getElem?_append_right (by simp [putL_length])]
  simp only [List.length_map]
  rw [List.getElem?_replicate, if_pos h2]
theorem putCells_set (n k j : Nat) (h : j < k) : (putCells n k j).setIfInBounds j (.int .u8 ((n / 256 ^ j % 256 : Nat) : Int)) = putCells n k (j + 1) := by
  apply Array.toList_inj.1
  simp only [putCells, List.setIfInBounds_toArray, putL_snoc, List.map_append, List.map_cons, List.map_nil, List.append_assoc]
  rw [List.set_append_right _ _ (by simp [putL_length])]
  simp only [List.length_map, putL_length, Nat.sub_self]
  rw [show k - j = (k - (j + 1)) + 1 from by omega, List.replicate_succ]
  simp
theorem putCells_all (n k : Nat) : ∀ i, i < k → (putCells n k k)[i]? = some (.int .u8 (((putL n k).map fun b => (b.toNat : Int)).getD i 0)) := by
  intro i hi
  have h : i < (putL n k).length := by rw [putL_length]; exact hi
  simp [putCells, h, List.getD]

def putOk (n k : Int) : Bool := decide (1 ≤ k ∧ k ≤ 8 ∧ n.toNat < 256 ^ k.toNat)
def putS (n k : Int) : ByteArray := if putOk n k then ⟨(putL n.toNat k.toNat).toArray⟩ else ⟨#[]⟩
def putE (n k : Int) : Int := if putOk n k then 0 else 1

set_option maxRecDepth 100000 in
theorem lePut_bad (n k : Int) (w : World) (h0 : 0 ≤ n) (h1 : n ≤ 18446744073709551615) (h : putOk n k = false) :
    Calls Tryd.prog 46 #[.int .u64 n, .int .i64 k] w fun e w' => e = .returned (.tuple #[.string ⟨#[]⟩, .int .i64 1]) ∧ w = w' := by
  by_cases hk : 1 ≤ k ∧ k ≤ 8
  · obtain ⟨hk1, hk8⟩ := hk
    obtain ⟨j, rfl⟩ := Int.eq_ofNat_of_zero_le (show 0 ≤ k by omega)
    obtain ⟨m, rfl⟩ := Int.eq_ofNat_of_zero_le h0
    have hbig : ¬ (m / 2 ^ (8 * (j - 1)) ≤ 255) := by
      rw [lt_pow_iff _ _ (by omega)]
      intro hh
      have : putOk m j = true := by simp only [putOk, Int.toNat_natCast]; exact decide_eq_true ⟨hk1, hk8, hh⟩
      rw [this] at h; cases h
    have hb : (255 : Int) < (m : Int) / 2 ^ (8 * (j - 1)) := by
      have e : ((m : Int) / 2 ^ (8 * (j - 1))) = ((m / 2 ^ (8 * (j - 1)) : Nat) : Int) := by simp
      rw [e]; omega
    clear h hbig
    have hz : decide (1 ≤ (j : Int) ∧ (j : Int) ≤ 8) = true := decide_eq_true ⟨hk1, hk8⟩
    go_enter Tryd.func46, Tryd.ntmps46
    go_wp2_with (first | (go_at_call 45; refine (leSized_any _ _).mono ?_; rintro e w' ⟨rfl, rfl⟩))
    go_ret2
    exact ⟨rfl, rfl⟩
  · have hz : decide (1 ≤ k ∧ k ≤ 8) = false := decide_eq_false hk
    clear h hk
    go_enter Tryd.func46, Tryd.ntmps46
    go_wp2_with (first | (go_at_call 45; refine (leSized_any _ _).mono ?_; rintro e w' ⟨rfl, rfl⟩))
    go_ret2
    exact ⟨rfl, rfl⟩

set_option maxRecDepth 100000 in
theorem lePut_ok (n k : Nat) (w : World) (h1 : n < 256 ^ k) (hs1 : 1 ≤ k) (hs2 : k ≤ 8) :
    Calls Tryd.prog 46 #[.int .u64 n, .int .i64 k] w fun e w' => e = .returned (.tuple #[.string ⟨(putL n k).toArray⟩, .int .i64 0]) ∧ Below w.heap.size w w' := by
  obtain ⟨i0, hi, hz0, hz1, hz2⟩ := info_parts infoU8
  have hmk : ∀ u : World, (Instr.makeSlice 81 (.int .i64 (k : Int)) (.int .i64 (k : Int))).run Tryd.prog u =
      .ok (.slice (some ⟨u.heap.size, 0, none⟩) k k) (u.alloc (.cells (madeCells #[.int .u8 0] k) 5)) := fun u => by
    have h := run_make (P := Tryd.prog) u 81 5 i0 (.int .u8 0) Tryd.underlying81 hi hz0 .i64 .i64 (k : Int) (k : Int) (by omega) (Int.le_refl _) (by rw [hz2]; omega) (by omega)
    simpa [hz1, Value.cells] using h
  have hn64 : n < 18446744073709551616 := Nat.lt_of_lt_of_le h1 (pow256_le hs2)
  have hlt := (lt_pow_iff n k hs1).2 h1
  have hle : (n : Int) / 2 ^ (8 * (k - 1)) ≤ 255 := by
    have e : ((n : Int) / 2 ^ (8 * (k - 1))) = ((n / 2 ^ (8 * (k - 1)) : Nat) : Int) := by simp
    rw [e]; omega
  have hb1 : (1 : Int) ≤ k := by omega
  have hb8 : (k : Int) ≤ 8 := by omega
  have hn : (n : Int) ≤ 18446744073709551615 := by omega
  have hz : decide (1 ≤ (k : Int) ∧ (k : Int) ≤ 8) = true := decide_eq_true ⟨hb1, hb8⟩
  clear hlt h1 hn64
  go_enter Tryd.func46, Tryd.ntmps46
  go_wp2_with (first | (go_at_call 45; refine (leSized_any _ _).mono ?_; rintro e w' ⟨rfl, rfl⟩))
  go_loopw [22] (fun c wr => ∃ j : Nat, j ≤ k ∧ c = .int .i64 j ∧ wr = w.alloc (.cells (putCells n k j) 5)) (fun c _ => k - (intOf c).toNat)
  case atStart => exact ⟨0, by omega, rfl, by rw [putCells_zero n]⟩
  case round =>
    obtain ⟨j, hj, rfl, rfl⟩ := hrel
    by_cases hlt : j < k
    · have hget := putCells_get n k j hlt
      have HS := Lib.hid (putCells_set n k j hlt)
      go_wp2
      go_roundw
      case rel =>
        refine ⟨j + 1, by omega, by go_num, ?_⟩
        rw [← HS.out]
        congr 4
        rw [pow256_2]
        simp
      case measure => simp [intOf]; omega
    · obtain rfl : j = k := by omega
      have hall := putCells_all n j
      have hcv : (convert 81 9 (.slice (some ⟨w.heap.size, 0, none⟩) j j)).run Tryd.prog (w.alloc (.cells (putCells n j j) 5)) = .ok (.string ⟨(putL n j).toArray⟩) (w.alloc (.cells (putCells n j j) 5)) := by
        have h := run_convert_bytes_arg (P := Tryd.prog) (w.alloc (.cells (putCells n j j) 5)) 81 5 Tryd.underlying81 Tryd.underlying5 w.heap.size 0 j j ((putL n j).map fun b => (b.toNat : Int)) (by simp [putL_length])
          (by intro i hi; rw [Nat.zero_add, World.cell?_alloc_new]; exact hall i hi) 9 Tryd.underlying9
        rw [h]
        congr 2
        simp [strOfNums, Function.comp_def]
      clear hall
      go_wp2
      go_ret2
      exact ⟨rfl, (Below.refl _ _).alloc (Nat.le_refl _) _⟩

/-- whatever it is handed -/
theorem lePut_any (n k : Int) (w : World) (h0 : 0 ≤ n) (h1 : n ≤ 18446744073709551615) :
    Calls Tryd.prog 46 #[.int .u64 n, .int .i64 k] w fun e w' => e = .returned (.tuple #[.string (putS n k), .int .i64 (putE n k)]) ∧ Below w.heap.size w w' := by
  cases h : putOk n k with
  | false =>
    refine (lePut_bad n k w h0 h1 h).mono ?_
    rintro e w' ⟨rfl, rfl⟩
    exact ⟨by simp [putS, putE, h], Below.refl _ _⟩
  | true =>
    obtain ⟨hk1, hk8, hlt⟩ := of_decide_eq_true h
    obtain ⟨j, rfl⟩ := Int.eq_ofNat_of_zero_le (show 0 ≤ k by omega)
    obtain ⟨m, rfl⟩ := Int.eq_ofNat_of_zero_le h0
    simp only [Int.toNat_natCast] at hlt
    refine (lePut_ok m j w hlt (by omega) (by omega)).mono ?_
    rintro e w' ⟨rfl, hb⟩
    exact ⟨by simp [putS, putE, h], hb⟩
end Go.Proofs.YtimiooiaohfelaaDoor
