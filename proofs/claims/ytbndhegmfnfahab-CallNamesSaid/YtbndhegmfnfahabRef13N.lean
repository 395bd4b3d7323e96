/- The reference's tables of calls; call.Arch and the reference's. -/
import Derived.Test.YtbndhegmfnfahabCallNr
import Derived.Test.YtbndhegmfnfahabCallName
namespace Go.Proofs.Ytbndhegmfnfahab
open Go.RowKit
set_option linter.unusedVariables false

def refNs : List (List UInt8) := [[114, 101, 97, 100], [119, 114, 105, 116, 101], [111, 112, 101, 110], [99, 108, 111, 115, 101], [115, 116, 97, 116], [102, 115, 116, 97, 116], [108, 115, 101, 101, 107], [109, 109, 97, 112], [109, 112, 114, 111, 116, 101, 99, 116], [109, 117, 110, 109, 97, 112], [98, 114, 107], [105, 111, 99, 116, 108], [97, 99, 99, 101, 115, 115], [112, 105, 112, 101], [100, 117, 112], [103, 101, 116, 112, 105, 100], [115, 111, 99, 107, 101, 116], [99, 111, 110, 110, 101, 99, 116], [97, 99, 99, 101, 112, 116], [98, 105, 110, 100], [108, 105, 115, 116, 101, 110], [99, 108, 111, 110, 101], [102, 111, 114, 107], [101, 120, 101, 99, 118, 101], [101, 120, 105, 116], [107, 105, 108, 108], [117, 110, 97, 109, 101], [102, 99, 110, 116, 108], [112, 116, 114, 97, 99, 101], [103, 101, 116, 117, 105, 100], [109, 111, 117, 110, 116], [102, 117, 116, 101, 120], [101, 120, 105, 116, 95, 103, 114, 111, 117, 112], [111, 112, 101, 110, 97, 116], [115, 101, 99, 99, 111, 109, 112]]
def refX : List Int := [0, 1, 2, 3, 4, 5, 8, 9, 10, 11, 12, 16, 21, 22, 32, 39, 41, 42, 43, 49, 50, 56, 57, 59, 60, 62, 63, 72, 101, 102, 165, 202, 231, 257, 317]
def refR : List Int := [63, 64, -1, 57, -1, 80, 62, 222, 226, 215, 214, 29, -1, -1, 23, 172, 198, 203, 202, 200, 201, 220, -1, 221, 93, 129, 160, 25, 117, 174, 40, 98, 94, 56, 277]
def nsV (l : List (List UInt8)) : List Value := l.map fun n => .string ⟨n.toArray⟩
def nrV (l : List Int) : List Value := l.map fun n => .int .i64 n
set_option maxHeartbeats 4000000 in
set_option maxRecDepth 100000 in
theorem refNames_any (w : World) : Calls Try.prog 42 #[] w fun e w' => e = .returned (.slice (some ⟨w.heap.size, 0, none⟩) 35 35) ∧ w' = w.alloc (.cells (nsV refNs).toArray 9) := by
  go_enter Try.func42, Try.ntmps42
  go_big_wp2_with fail
  go_ret
  exact ⟨rfl, rfl⟩
set_option maxHeartbeats 4000000 in
set_option maxRecDepth 100000 in
theorem refX_any (w : World) : Calls Try.prog 49 #[] w fun e w' => e = .returned (.slice (some ⟨w.heap.size, 0, none⟩) 35 35) ∧ w' = w.alloc (.cells (nrV refX).toArray 3) := by
  go_enter Try.func49, Try.ntmps49
  go_big_wp2_with fail
  go_ret
  exact ⟨rfl, rfl⟩
set_option maxHeartbeats 4000000 in
set_option maxRecDepth 100000 in
theorem refR_any (w : World) : Calls Try.prog 50 #[] w fun e w' => e = .returned (.slice (some ⟨w.heap.size, 0, none⟩) 35 35) ∧ w' = w.alloc (.cells (nrV refR).toArray 3) := by
  go_enter Try.func50, Try.ntmps50
  go_big_wp2_with fail
  go_ret
  exact ⟨rfl, rfl⟩
def refRow (a : Int) : List Int := if a = 3221225534 then refX else if a = 3221225655 then refR else []
/-- v is the row, in a block of its own -/
def IsRow (w : World) (v : Value) (base : Nat) (l : List Int) : Prop :=
  ∃ g, base ≤ g ∧ v = .slice (some ⟨g, 0, none⟩) l.length l.length ∧ w.heap[g]? = some (.cells (nrV l).toArray 3 (0, 0))
theorem refRow_any (a : Int) (w : World) (h0 : 0 ≤ a) (h1 : a ≤ 4294967295) :
    Calls Try.prog 41 #[.int .u32 a] w fun e w' => (∃ v, e = .returned v ∧ IsRow w' v w.heap.size (refRow a)) ∧ Below w.heap.size w w' := by
  by_cases hx : a = 3221225534
  · have ht : refRow a = refX := by unfold refRow; rw [if_pos hx]
    have HT := Lib.hid ht
    have hb : (a == 3221225534) = true := by simp [hx]
    clear hx ht
    go_enter Try.func41, Try.ntmps41
    go_wp2_with fail
    refine (refX_any _).mono ?_
    rintro e w1 ⟨rfl, rfl⟩
    go_wp2_with fail
    go_ret
    refine ⟨⟨_, rfl, ?_⟩, (Below.refl _ _).alloc (Nat.le_refl _) _⟩
    rw [HT.out]
    exact ⟨_, Nat.le_refl _, rfl, heap_alloc_new _ _⟩
  · by_cases hy : a = 3221225655
    · have ht : refRow a = refR := by unfold refRow; rw [if_neg hx, if_pos hy]
      have HT := Lib.hid ht
      have hb : (a == 3221225534) = false := by simp [hx]
      have hb2 : (a == 3221225655) = true := by simp [hy]
      clear hx hy ht
      go_enter Try.func41, Try.ntmps41
      go_wp2_with fail
      refine (refR_any _).mono ?_
      rintro e w1 ⟨rfl, rfl⟩
      go_wp2_with fail
      go_ret
      refine ⟨⟨_, rfl, ?_⟩, (Below.refl _ _).alloc (Nat.le_refl _) _⟩
      rw [HT.out]
      exact ⟨_, Nat.le_refl _, rfl, heap_alloc_new _ _⟩
    · have ht : refRow a = [] := by unfold refRow; rw [if_neg hx, if_neg hy]
      have HT := Lib.hid ht
      have hb : (a == 3221225534) = false := by simp [hx]
      have hb2 : (a == 3221225655) = false := by simp [hy]
      clear hx hy ht
      go_enter Try.func41, Try.ntmps41
      go_wp2_with fail
      go_ret
      refine ⟨⟨_, rfl, ?_⟩, (Below.refl _ _).alloc (Nat.le_refl _) _⟩
      rw [HT.out]
      exact ⟨_, Nat.le_refl _, rfl, heap_alloc_new _ _⟩

/-- an architecture's number by its name -/
def archOf (s : ByteArray) : Option Nat := if s = ⟨#[97, 97, 114, 99, 104, 54, 52]⟩ then some 3221225655 else if s = ⟨#[120, 56, 54, 95, 54, 52]⟩ then some 3221225534 else none
def archV (s : ByteArray) : Value := .tuple #[.int .u32 (((archOf s).getD 0 : Nat) : Int), .bool (archOf s).isSome]
theorem zeroU32m (w : World) : (zeroValue 30).run Try.prog w = .ok (.int .u32 0) w := by kernel_rfl
theorem arch_step {c : Prop} [Decidable c] (v : Value) (p : Nat) (r : Option Value) (o : Option Nat) (h1 : Value.int .u32 (p : Nat) = v) (h2 : ¬ c → r = o.map fun n => Value.int .u32 (n : Nat)) :
    (if c then some v else r) = (if c then some p else o).map fun n => Value.int .u32 (n : Nat) := by
  by_cases h : c
  · rw [if_pos h, if_pos h, Option.map_some, h1]
  · rw [if_neg h, if_neg h, h2 h]
set_option maxHeartbeats 1000000 in
set_option maxRecDepth 100000 in
theorem callArch_any (s : ByteArray) (w : World) :
    Calls Try.prog 21 #[.string s] w fun e w' => e = .returned (archV s) ∧ Below w.heap.size w w' := by
  have hmm := @run_makeMap Try.prog
  have hbel := (Below.refl w.heap.size w).alloc (Nat.le_refl _) (.map #[] 0)
  have hm := HoldsMap.new strKeys w
  unfold archV
  cases ha : archOf s with
  | none =>
    have HA := Lib.hid ha
    clear ha
    go_enter Try.func21, Try.ntmps21
    go_wp2_with (refine wpList_mapSet (K := strKeys) hm hbel (Nat.le_refl _) (Nat.le_refl _) 77 9 30 _ _ _ _ _ rfl (.inr rfl) Try.underlying77 Try.underlying9 rfl rfl rfl ?_; clear hm hbel; intro wk hm hbel hg; clear hg; try (have hlk := (hm.congr (m' := fun k => (archOf k).map fun n => Value.int .u32 (n : Nat)) (fun k => by unfold archOf; refine arch_step _ _ _ _ rfl fun _ => ?_; exact arch_step _ _ _ _ rfl fun _ => rfl)).lookup (P := Try.prog) s Try.underlying77 Try.underlying9 (zeroU32m _); rw [HA.out] at hlk; simp only [strKeys, Option.map_none, Option.getD_none, Option.isSome_none] at hlk))
    go_ret2
    exact ⟨rfl, hbel⟩
  | some p =>
    have HA := Lib.hid ha
    clear ha
    go_enter Try.func21, Try.ntmps21
    go_wp2_with (refine wpList_mapSet (K := strKeys) hm hbel (Nat.le_refl _) (Nat.le_refl _) 77 9 30 _ _ _ _ _ rfl (.inr rfl) Try.underlying77 Try.underlying9 rfl rfl rfl ?_; clear hm hbel; intro wk hm hbel hg; clear hg; try (have hlk := (hm.congr (m' := fun k => (archOf k).map fun n => Value.int .u32 (n : Nat)) (fun k => by unfold archOf; refine arch_step _ _ _ _ rfl fun _ => ?_; exact arch_step _ _ _ _ rfl fun _ => rfl)).lookup (P := Try.prog) s Try.underlying77 Try.underlying9 (zeroU32m _); rw [HA.out] at hlk; simp only [strKeys, Option.map_some, Option.getD_some, Option.isSome_some] at hlk))
    go_ret2
    exact ⟨rfl, hbel⟩
theorem refArch_any (s : ByteArray) (w : World) :
    Calls Try.prog 22 #[.string s] w fun e w' => e = .returned (archV s) ∧ w = w' := by
  by_cases hx : s = ⟨#[120, 56, 54, 95, 54, 52]⟩
  · subst hx
    have hv : archV ⟨#[120, 56, 54, 95, 54, 52]⟩ = .tuple #[.int .u32 3221225534, .bool true] := by
      unfold archV
      rw [show archOf ⟨#[120, 56, 54, 95, 54, 52]⟩ = some 3221225534 from by decide +kernel]
      rfl
    rw [hv]
    go_enter Try.func22, Try.ntmps22
    go_wp2_with fail
    go_ret2
    exact ⟨rfl, rfl⟩
  · by_cases hy : s = ⟨#[97, 97, 114, 99, 104, 54, 52]⟩
    · subst hy
      have hv : archV ⟨#[97, 97, 114, 99, 104, 54, 52]⟩ = .tuple #[.int .u32 3221225655, .bool true] := by
        unfold archV
        rw [show archOf ⟨#[97, 97, 114, 99, 104, 54, 52]⟩ = some 3221225655 from by decide +kernel]
        rfl
      rw [hv]
      go_enter Try.func22, Try.ntmps22
      go_wp2_with fail
      go_ret2
      exact ⟨rfl, rfl⟩
    · have hv : archV s = .tuple #[.int .u32 0, .bool false] := by unfold archV archOf; rw [if_neg hy, if_neg hx]; rfl
      have b1 : (s.toList == [120, 56, 54, 95, 54, 52]) = false := by rw [ByteArray.toList_eq, beq_eq_false_iff_ne]; exact fun e => hx (ba_ext e)
      have b2 : (s.toList == [97, 97, 114, 99, 104, 54, 52]) = false := by rw [ByteArray.toList_eq, beq_eq_false_iff_ne]; exact fun e => hy (ba_ext e)
      rw [hv]
      clear hx hy hv
      go_enter Try.func22, Try.ntmps22
      go_wp2_with fail
      go_ret2
      exact ⟨rfl, rfl⟩
end Go.Proofs.Ytbndhegmfnfahab
