/- CrcPlain, CrcOf, CrcSeal, Builder, SlotF, SlotT, SlotW, SlotH, in one text. -/
import Derived.Test.YthnmnnlbglpjaaaGreatDoorPkA
import Derived.Test.YthnmnnlbglpjaaaGreatDoorRows
import Derived.Test.YthnmnnlbglpjaaaGreatDoorShelf
import Derived.Lib.Builder
import Derived.Lib.AppendStr
import Derived.Laws.Externs
import Derived.Lib.Walk
import Derived.Outline
import Derived.Deep.WholeRow
import Derived.Deep.RegionHeld3
namespace Go.Proofs.YthnmnnlbglpjaaaGreatDoor
section SCrcPlain
set_option linter.unusedVariables false

/-- the register, moved down by one bit -/
def stepB (r : Nat) : Nat := if r % 2 = 1 then (r / 2) ^^^ 3988292384 else r / 2
def stepN : Nat → Nat → Nat
  | 0, r => r
  | n + 1, r => stepN n (stepB r)

theorem xor_mod2 (a b : Nat) : (a ^^^ b) % 2 = (a % 2 + b % 2) % 2 := by
  have h := Nat.xor_mod_two_eq_one (a := a) (b := b)
  by_cases ha : a % 2 = 1 <;> by_cases hb : b % 2 = 1 <;> by_cases hx : (a ^^^ b) % 2 = 1 <;> simp only [ha, hb, hx] at h <;> simp at h <;> omega
theorem xor_div2 (a b : Nat) : (a ^^^ b) / 2 = a / 2 ^^^ b / 2 := Nat.xor_div_two
theorem stepB_xor (a b : Nat) : stepB (a ^^^ b) = stepB a ^^^ stepB b := by
  unfold stepB
  rw [xor_mod2, xor_div2]
  have ha : a % 2 = 0 ∨ a % 2 = 1 := by omega
  have hb : b % 2 = 0 ∨ b % 2 = 1 := by omega
  rcases ha with ha | ha <;> rcases hb with hb | hb <;> simp only [ha, hb] <;> simp
  · rw [Nat.xor_assoc]
  · rw [Nat.xor_assoc, Nat.xor_comm (b / 2), ← Nat.xor_assoc]
  · rw [show ∀ x y z : Nat, x ^^^ z ^^^ (y ^^^ z) = x ^^^ y from fun x y z => by rw [Nat.xor_assoc, Nat.xor_comm y z, ← Nat.xor_assoc z, Nat.xor_self, Nat.zero_xor]]
theorem stepN_xor (n a b : Nat) : stepN n (a ^^^ b) = stepN n a ^^^ stepN n b := by
  induction n generalizing a b with
  | zero => rfl
  | succ n ih => simp only [stepN, stepB_xor, ih]
theorem stepB_zero : stepB 0 = 0 := rfl
theorem stepN_zero (n : Nat) : stepN n 0 = 0 := by
  induction n with
  | zero => rfl
  | succ n ih => simp [stepN, stepB_zero, ih]
theorem stepB_double (x : Nat) : stepB (2 * x) = x := by
  unfold stepB; rw [if_neg (by omega)]; omega
theorem stepN_pow (n x : Nat) : stepN n (2 ^ n * x) = x := by
  induction n generalizing x with
  | zero => simp [stepN]
  | succ n ih => rw [stepN, Nat.pow_succ, show 2 ^ n * 2 * x = 2 * (2 ^ n * x) from by rw [Nat.mul_comm (2 ^ n) 2, Nat.mul_assoc], stepB_double, ih]
theorem stepN_add (m n r : Nat) : stepN (m + n) r = stepN n (stepN m r) := by
  induction m generalizing r with
  | zero => simp [stepN]
  | succ m ih => rw [show m + 1 + n = (m + n) + 1 from by omega, stepN, stepN, ih]
theorem stepN_succ (n r : Nat) : stepN (n + 1) r = stepB (stepN n r) := stepN_add n 1 r
theorem stepB_lt {r : Nat} (h : r < 4294967296) : stepB r < 4294967296 := by
  unfold stepB
  split
  · exact Nat.xor_lt_two_pow (n := 32) (by omega) (by omega)
  · omega
theorem stepN_lt (n : Nat) {r : Nat} (h : r < 4294967296) : stepN n r < 4294967296 := by
  induction n generalizing r with
  | zero => exact h
  | succ n ih => exact ih (stepB_lt h)
/-- nothing is lost -/
theorem stepB_eq_zero {r : Nat} (hr : r < 4294967296) (h : stepB r = 0) : r = 0 := by
  unfold stepB at h
  split at h
  · have h2 : r / 2 = 3988292384 := by
      have := congrArg (fun x => x ^^^ 3988292384) h
      simp only [Nat.xor_assoc, Nat.xor_self, Nat.xor_zero, Nat.zero_xor] at this
      exact this
    omega
  · omega
theorem stepN_eq_zero (n : Nat) {r : Nat} (hr : r < 4294967296) (h : stepN n r = 0) : r = 0 := by
  induction n generalizing r with
  | zero => exact h
  | succ n ih => exact stepB_eq_zero hr (ih (stepB_lt hr) h)
theorem stepN_inj (n : Nat) {a b : Nat} (ha : a < 4294967296) (hb : b < 4294967296) (h : stepN n a = stepN n b) : a = b := by
  have hx : stepN n (a ^^^ b) = 0 := by rw [stepN_xor, h, Nat.xor_self]
  have := stepN_eq_zero n (Nat.xor_lt_two_pow (n := 32) ha hb) hx
  have h2 := congrArg (fun x => x ^^^ b) this
  simpa [Nat.xor_assoc] using h2

/-- a number below and its upper part, put together -/
theorem split_xor (n r : Nat) : r = (r % 2 ^ n) ^^^ (2 ^ n * (r / 2 ^ n)) := by
  have h1 : 2 ^ n * (r / 2 ^ n) ||| r % 2 ^ n = 2 ^ n * (r / 2 ^ n) + r % 2 ^ n := nat_join n _ _ (Nat.mul_mod_right _ _) (Nat.mod_lt _ (Nat.pow_pos (by omega)))
  have h2 : (r % 2 ^ n) ^^^ (2 ^ n * (r / 2 ^ n)) = 2 ^ n * (r / 2 ^ n) + r % 2 ^ n := by
    rw [← h1]
    apply Nat.eq_of_testBit_eq
    intro i
    simp only [Nat.testBit_xor, Nat.testBit_or, Nat.testBit_mod_two_pow, Nat.testBit_two_pow_mul]
    by_cases hi : i < n
    · simp [hi, show ¬ n ≤ i from by omega]
    · simp [hi, show n ≤ i from by omega]
  rw [h2, Nat.div_add_mod]
/-- by tables: so many bits at once -/
theorem stepN_split (n r : Nat) : stepN n r = stepN n (r % 2 ^ n) ^^^ r / 2 ^ n := by
  conv => lhs; rw [split_xor n r]
  rw [stepN_xor, stepN_pow]

/-- a byte -/
def byteB (r b : Nat) : Nat := stepN 8 (r ^^^ b)
/-- a text's register, from r on -/
def regL (r : Nat) (l : List UInt8) : Nat := l.foldl (fun r b => byteB r b.toNat) r
def ones : Nat := 4294967295
def sumL (l : List UInt8) : Nat := ones ^^^ regL ones l

theorem byteB_lt {r : Nat} (h : r < 4294967296) (b : UInt8) : byteB r b.toNat < 4294967296 :=
  stepN_lt 8 (Nat.xor_lt_two_pow (n := 32) h (by have := b.toNat_lt; omega))
theorem regL_lt {r : Nat} (h : r < 4294967296) (l : List UInt8) : regL r l < 4294967296 := by
  induction l generalizing r with
  | nil => exact h
  | cons b l ih => exact ih (byteB_lt h b)
theorem ones_lt : ones < 4294967296 := by decide
theorem sumL_lt (l : List UInt8) : sumL l < 4294967296 := Nat.xor_lt_two_pow (n := 32) ones_lt (regL_lt ones_lt l)
theorem regL_append (r : Nat) (a b : List UInt8) : regL r (a ++ b) = regL (regL r a) b := by simp [regL, List.foldl_append]
theorem ones_sub {r : Nat} (h : r < 4294967296) : ones ^^^ r = 4294967295 - r := by
  have e : (4294967295 : Nat) - r = 2 ^ 32 - (r + 1) := by omega
  have eo : ones = 2 ^ 32 - 1 := by decide
  rw [e, eo]
  apply Nat.eq_of_testBit_eq
  intro i
  rw [Nat.testBit_xor, Nat.testBit_two_pow_sub_one, Nat.testBit_two_pow_sub_succ (show r < 2 ^ 32 from h)]
  by_cases hi : i < 32
  · simp [hi]
  · have : r.testBit i = false := Nat.testBit_lt_two_pow (Nat.lt_of_lt_of_le (show r < 2 ^ 32 from h) (Nat.pow_le_pow_right (by omega) (by omega)))
    simp [hi, this]
end SCrcPlain
section SCrcOf
open Go.RowKit
set_option linter.unusedVariables false

theorem xorPoly (x : Nat) (h : x < 4294967296) : bits BinOp.xor IntKind.u32 ((x : Int) / 2) 3988292384 = ((x / 2 ^^^ 3988292384 : Nat) : Int) := by
  have := u32_xor_nat (x / 2) 3988292384 (by omega) (by omega)
  rw [← this]; congr 1
theorem stepB_odd {x : Nat} (h : x % 2 = 1) : stepB x = x / 2 ^^^ 3988292384 := by unfold stepB; rw [if_pos h]
theorem stepB_even {x : Nat} (h : ¬ x % 2 = 1) : stepB x = x / 2 := by unfold stepB; rw [if_neg h]

theorem fill_any (n B : Nat) (w : World) (u : Value) (hn : n < 16) (hc : w.cell? ⟨B, n, none⟩ = some u) (hf : w.frozen? ⟨B, n, none⟩ = false) :
    Calls Tryz.prog 130 #[.int .u32 n, .pointer (some ⟨B, 0, none⟩)] w fun e w' => e = .returned (.tuple #[]) ∧ w' = w.setCell ⟨B, n, none⟩ (.int .u32 (stepN 4 n : Nat)) := by
  go_enter Tryz.func130, Tryz.ntmps130
  go_wp2_with fail
  go_loop [3, 5] (fun s c => ∃ j : Nat, j ≤ 4 ∧ c = .int .i64 j ∧ s = .int .u32 (stepN j n : Nat)) (fun _ c => 4 - (intOf c).toNat)
  case atStart => exact ⟨0, by omega, rfl, rfl⟩
  case round =>
    obtain ⟨j, hj, rfl, rfl⟩ := hrel
    by_cases hlt : j < 4
    · have hx := stepN_lt j (show n < 4294967296 by omega)
      have HS := Lib.hid (stepN_succ j n)
      obtain ⟨x, hxe⟩ : ∃ x, x = stepN j n := ⟨_, rfl⟩
      rw [← hxe] at hx HS ⊢
      clear hxe
      by_cases ho : x % 2 = 1
      · have hod : ((x : Int) % 2 == 1) = true := beq_iff_eq.2 (by omega)
        have HX := Lib.hid (xorPoly x hx)
        have HB := Lib.hid (stepB_odd ho)
        have hxI : (x : Int) ≤ 4294967295 := by omega
        clear ho
        go_wp2
        go_round
        case rel => exact ⟨j + 1, by omega, by go_num, by rw [HX.out, ← HB.out, ← HS.out]⟩
        case measure => simp [intOf]; omega
      · have hod : ((x : Int) % 2 == 1) = false := beq_eq_false_iff_ne.2 (by omega)
        have HB := Lib.hid (stepB_even ho)
        have hxI : (x : Int) ≤ 4294967295 := by omega
        clear ho
        go_wp2
        go_round
        case rel => exact ⟨j + 1, by omega, by go_num, by rw [HS.out, HB.out]; simp⟩
        case measure => simp [intOf]; omega
    · obtain rfl : j = 4 := by omega
      go_wp2
      go_end0
      exact ⟨rfl, rfl⟩

def tabCells (i : Nat) : Array Value := (((List.range 16).map fun k => Value.int .u32 (if k < i then (stepN 4 k : Nat) else 0))).toArray
theorem tabCells_get (i k : Nat) (hk : k < 16) : (tabCells i)[k]? = some (.int .u32 (if k < i then (stepN 4 k : Nat) else 0)) := by
  simp [tabCells, hk]
theorem tabCells_set (i : Nat) (hi : i < 16) : (tabCells i).setIfInBounds i (.int .u32 (stepN 4 i : Nat)) = tabCells (i + 1) := by
  apply Array.ext
  · simp [tabCells]
  · intro k h1 h2
    simp only [tabCells, List.setIfInBounds_toArray, List.getElem_toArray, List.getElem_set, List.getElem_map, List.getElem_range]
    by_cases hk : i = k
    · subst hk; simp
    · simp [hk, show (k < i + 1) ↔ k < i from by omega]

theorem halves_any (w : World) : Calls Tryz.prog 122 #[] w fun e w' => e = .returned (.agg (tabCells 16)) ∧ Below w.heap.size w w' := by
  have hz : (tabCells 0) = #[.int .u32 0, .int .u32 0, .int .u32 0, .int .u32 0, .int .u32 0, .int .u32 0, .int .u32 0, .int .u32 0, .int .u32 0, .int .u32 0, .int .u32 0, .int .u32 0, .int .u32 0, .int .u32 0, .int .u32 0, .int .u32 0] := rfl
  have HZ := Lib.hid hz
  clear hz
  go_enter Tryz.func122, Tryz.ntmps122
  go_wp2_with fail
  rw [← HZ.out]
  go_loopw [5] (fun c wr => ∃ i : Nat, i ≤ 16 ∧ c = .int .u32 i ∧ wr = (w.alloc (.cells (tabCells 0) 172)).alloc (.cells (tabCells i) 172)) (fun c _ => 16 - (intOf c).toNat)
  case atStart => exact ⟨0, by omega, rfl, rfl⟩
  case round =>
    obtain ⟨i, hi, rfl, rfl⟩ := hrel
    by_cases hlt : i < 16
    · have HS := Lib.hid (tabCells_set i hlt)
      have HG := Lib.hid (tabCells_get i i hlt)
      go_wp2_with fail
      refine (fill_any i (w.heap.size + 1) _ _ hlt (by rw [World.cell?_alloc_at (hn := by simp)]; exact HG.out) (by rw [World.frozen?_alloc_at (hn := by simp)])).mono ?_
      rintro e w1 ⟨rfl, rfl⟩
      rw [World.setCell_alloc_at (hn := by simp), HS.out]
      go_wp2_with fail
      go_roundw
      case rel => exact ⟨i + 1, by omega, by go_num, rfl⟩
      case measure => simp [intOf]; omega
    · obtain rfl : i = 16 := by omega
      have hsz : (tabCells 16).size = 16 := by simp [tabCells]
      have h1 : ((w.alloc (.cells (tabCells 0) 172)).alloc (.cells (tabCells 16) 172)).heap[w.heap.size + 1]? = some (.cells (tabCells 16) 172 (0, 0)) := heap_alloc2_new w _ _
      have h0 : ((w.alloc (.cells (tabCells 0) 172)).alloc (.cells (tabCells 16) 172)).heap[w.heap.size]? = some (.cells (tabCells 0) 172 (0, 0)) := heap_alloc2_old w _ _
      have hone : (tabCells 16).all (·.oneCell') = true := by decide +kernel
      have H1 := Lib.hid h1; have H0 := Lib.hid h0
      clear h1 h0
      go_wp2_with (first | (refine wpList_load_row rfl 172 _ rfl (w.heap.size + 1) rfl 172 (tabCells 16) (0, 0) _ H1.out Tryz.underlying172 rfl (by kernel_rfl) ?_) | (refine wpList_store_row rfl 172 _ _ rfl w.heap.size (tabCells 16) rfl rfl 172 (tabCells 0) H0.out (by kernel_rfl) rfl hone ?_))
      have hh : (((w.alloc (.cells (tabCells 0) 172)).alloc (.cells (tabCells 16) 172)).setRow w.heap.size (tabCells 16)).heap[w.heap.size]? = some (.cells (tabCells 16) 172 (0, 0)) :=
        setRow_heap _ _ _ _ _ _ H0.out
      refine bodyPost_ret (v := .agg (tabCells 16)) (results_cell_row rfl _ _ w.heap.size 172 (tabCells 16) (0, 0) _ rfl hh Tryz.underlying172 rfl (by kernel_rfl)) rfl ⟨rfl, ?_⟩
      exact below_setRow (((Below.refl _ _).alloc (Nat.le_refl _) _).alloc (by simp) _) (Nat.le_refl _) _

/-- two halves of a byte, by the table -/
def nib (r : Nat) : Nat := stepN 4 (r % 16) ^^^ r / 16
theorem byte_nib (r b : Nat) : byteB r b = nib (nib (r ^^^ b)) := by
  unfold byteB nib
  rw [show (8 : Nat) = 4 + 4 from rfl, stepN_add, stepN_split 4 (r ^^^ b)]
  exact stepN_split 4 _
theorem nib_lt {r : Nat} (h : r < 4294967296) : nib r < 4294967296 := by
  have := stepN_lt 4 h
  rwa [stepN_split] at this
theorem nib_walk (r : Nat) (h : r < 4294967296) :
    bits BinOp.xor IntKind.u32 ((stepN 4 (r % 16) : Nat) : Int) ((r : Int) / 16) = (nib r : Nat) := by
  have h1 := stepN_lt 4 (show r % 16 < 4294967296 by omega)
  have := u32_xor_nat (stepN 4 (r % 16)) (r / 16) h1 (by omega)
  unfold nib
  rw [← this]; congr 1

theorem crcOf_any (s : ByteArray) (w : World) (hs : s.size ≤ 9223372036854775807) :
    Calls Tryz.prog 111 #[.string s] w fun e w' => e = .returned (.int .u32 (sumL s.data.toList : Nat)) ∧ Below w.heap.size w w' := by
  have hone : (tabCells 16).all (·.oneCell') = true := by decide +kernel
  go_enter Tryz.func111, Tryz.ntmps111
  go_wp2_with fail
  refine (halves_any _).mono ?_
  rintro e w1 ⟨rfl, hb1⟩
  go_wp2_with (first | (refine wpList_store_row rfl 172 _ _ rfl w1.heap.size (tabCells 16) rfl rfl 172 _ (heap_alloc_new w1 _) (by kernel_rfl) rfl hone ?_))
  have hW : ∀ k, k < 16 → ((w1.alloc (.cells (tabCells 0) 172)).setRow w1.heap.size (tabCells 16)).cell? ⟨w1.heap.size, k, none⟩ = some (.int .u32 (stepN 4 k : Nat)) := by
    intro k hk
    rw [cell_of_row _ _ k _ _ _ (setRow_heap _ _ _ _ _ _ (heap_alloc_new w1 _)), tabCells_get 16 k hk, if_pos hk]
  have hb2 : Below w.heap.size w ((w1.alloc (.cells (tabCells 0) 172)).setRow w1.heap.size (tabCells 16)) :=
    below_setRow (hb1.alloc hb1.size _) hb1.size _
  change Code.wp _ _ _ _ ((w1.alloc (.cells (tabCells 0) 172)).setRow w1.heap.size (tabCells 16))
  have HW := Lib.hid hW
  clear hW
  generalize (w1.alloc (.cells (tabCells 0) 172)).setRow w1.heap.size (tabCells 16) = W2 at *
  generalize w1.heap.size = B at *
  go_loop [4, 9] (fun x c => ∃ i : Nat, i ≤ s.size ∧ c = .int .i64 i ∧ x = .int .u32 (regL ones (s.data.toList.take i) : Nat)) (fun _ c => s.size - (intOf c).toNat)
  case atStart => exact ⟨0, by omega, rfl, rfl⟩
  case round =>
    obtain ⟨i, hi, rfl, rfl⟩ := hrel
    by_cases hlt : i < s.size
    · have hr := regL_lt ones_lt (s.data.toList.take i)
      have hsn : regL ones (s.data.toList.take (i + 1)) = byteB (regL ones (s.data.toList.take i)) s[i].toNat := by
        rw [List.take_succ_eq_append_getElem (by rw [ba_len]; exact hlt), regL_append]; rfl
      have hb : s[i].toNat < 256 := UInt8.toNat_lt _
      have hx := Nat.xor_lt_two_pow (n := 32) hr (show s[i].toNat < 2 ^ 32 by omega)
      have hxor := u32_xor_nat (regL ones (s.data.toList.take i)) s[i].toNat hr (by omega)
      obtain ⟨x0, e0⟩ : ∃ x0 : Nat, x0 = regL ones (s.data.toList.take i) ^^^ s[i].toNat := ⟨_, rfl⟩
      obtain ⟨x1, e1⟩ : ∃ x1 : Nat, x1 = nib x0 := ⟨_, rfl⟩
      rw [← e0] at hx hxor
      have hx1 := nib_lt hx
      have hn0 := nib_walk x0 hx
      have hn1 := nib_walk x1 (by rw [e1]; exact hx1)
      rw [← e1] at hn0 hx1
      have hlast : byteB (regL ones (s.data.toList.take i)) s[i].toNat = nib x1 := by rw [byte_nib, ← e0, e1]
      rw [hlast] at hsn
      have hc0 := HW.out (x0 % 16) (by omega)
      have hc1 := HW.out (x1 % 16) (by omega)
      obtain ⟨q0, f0⟩ : ∃ q : Nat, q = x0 % 16 := ⟨_, rfl⟩
      obtain ⟨q1, f1⟩ : ∃ q : Nat, q = x1 % 16 := ⟨_, rfl⟩
      rw [← f0] at hc0 hn0
      rw [← f1] at hc1 hn1
      have hq0 : (x0 : Int) % 16 = (q0 : Int) := by omega
      have hq1 : (x1 : Int) % 16 = (q1 : Int) := by omega
      have hq0l : (q0 : Int) < 16 := by omega
      have hq1l : (q1 : Int) < 16 := by omega
      have hx0I : (x0 : Int) ≤ 4294967295 := by omega
      have hx1I : (x1 : Int) ≤ 4294967295 := by omega
      have hbI : (s[i].toNat : Int) ≤ 255 := by omega
      have hrI : ((regL ones (s.data.toList.take i) : Nat) : Int) ≤ 4294967295 := by omega
      have HS := Lib.hid hsn
      clear hsn hlast e0 e1 f0 f1 hx hx1 hr hb
      generalize nib x1 = x2 at *
      go_wp2_with fail
      go_roundw
      case rel => exact ⟨i + 1, by omega, by go_num, by rw [HS.out]⟩
      case measure => simp [intOf]; omega
    · obtain rfl : i = s.size := by omega
      have hall : s.data.toList.take s.size = s.data.toList := List.take_of_length_le (by rw [ba_len]; omega)
      have hr := regL_lt ones_lt s.data.toList
      have hs : bits BinOp.xor IntKind.u32 IntKind.u32.max ((regL ones s.data.toList : Nat) : Int) = (sumL s.data.toList : Nat) := u32_xor_nat ones _ ones_lt hr
      rw [hall]
      have hrI : ((regL ones s.data.toList : Nat) : Int) ≤ 4294967295 := by omega
      have HS := Lib.hid hs
      clear hall hr hs
      go_wp2_with fail
      go_ret
      exact ⟨congrArg (fun n => Ending.returned (Value.int .u32 n)) HS.out, hb2⟩
/-- a text's sum, closed -/
def sumB (s : ByteArray) : Nat := sumL s.data.toList
theorem crcOf_b (s : ByteArray) (w : World) (hs : s.size ≤ 9223372036854775807) :
    Calls Tryz.prog 111 #[.string s] w fun e w' => e = .returned (.int .u32 (sumB s : Nat)) ∧ Below w.heap.size w w' := crcOf_any s w hs
end SCrcOf
section SCrcSeal
open Go.RowKit
set_option linter.unusedVariables false

/-- a text with its sum behind it -/
def sealL (s : ByteArray) : ByteArray := ⟨(s.data.toList ++ putL (sumL s.data.toList) 4).toArray⟩
theorem sealL_size (s : ByteArray) : (sealL s).size = s.size + 4 := by
  rw [sealL, ba_size, List.length_append, putL_length, ba_len]
theorem sealL_list (s : ByteArray) : (sealL s).data.toList = s.data.toList ++ putL (sumL s.data.toList) 4 := by simp [sealL]

theorem crcSeal_any (s : ByteArray) (w : World) (hs : s.size ≤ 140737488355328) :
    Calls Tryz.prog 94 #[.string s] w fun e w' => e = .returned (.string (sealL s)) ∧ Below w.heap.size w w' := by
  have hl := sumL_lt s.data.toList
  have hadd : ∀ u : World, (Op.stringOp .add s ⟨(putL (sumL s.data.toList) 4).toArray⟩).run Tryz.prog u = .ok (.string (sealL s)) u := fun u => by
    have e : sealL s = s ++ ⟨(putL (sumL s.data.toList) 4).toArray⟩ := by apply ba_ext; simp [sealL]
    rw [e]
    exact run_string_add_sum _ _ _ (by have e1 := ba_size (putL (sumL s.data.toList) 4); rw [putL_length] at e1; omega)
  have hlI : ((sumL s.data.toList : Nat) : Int) ≤ 4294967295 := by omega
  go_enter Tryz.func94, Tryz.ntmps94
  go_wp2_with fail
  refine (crcOf_any s _ (by omega)).mono ?_
  rintro e w1 ⟨rfl, hb1⟩
  go_wp2_with fail
  refine (lePut_ok (sumL s.data.toList) 4 _ hl (by omega) (by omega)).mono ?_
  rintro e w2 ⟨rfl, hb2⟩
  go_wp2_with fail
  go_ret
  exact ⟨rfl, hb1.trans (hb2.mono hb1.size)⟩

/-- the error, the text -/
def openE (t : ByteArray) : Int := if t.size < 4 then 3 else if sealL (t.extract 0 (t.size - 4)) = t then 0 else 4
def openS (t : ByteArray) : ByteArray := if openE t = 0 then t.extract 0 (t.size - 4) else ⟨#[]⟩

theorem open_tail (t : ByteArray) (h : 4 ≤ t.size) : t.data.toList = (t.extract 0 (t.size - 4)).data.toList ++ cutL t (t.size - 4) 4 := by
  rw [ba_extract_list, cutL]
  have hlen := ba_len t
  have h4 : ((t.data.toList.drop (t.size - 4))).take 4 = t.data.toList.drop (t.size - 4) := List.take_of_length_le (by rw [List.length_drop]; omega)
  rw [h4]; simp
theorem open_iff (t : ByteArray) (h : 4 ≤ t.size) : getL (cutL t (t.size - 4) 4) = sumL (t.extract 0 (t.size - 4)).data.toList ↔ sealL (t.extract 0 (t.size - 4)) = t := by
  have ht := open_tail t h
  have hl : (cutL t (t.size - 4) 4).length = 4 := cutL_length _ _ _ (by omega)
  constructor
  · intro he
    apply ba_ext
    rw [sealL_list, ← he]
    have := putL_getL (cutL t (t.size - 4) 4)
    rw [hl] at this
    rw [this, ← ht]
  · intro he
    have h1 := congrArg (fun s : ByteArray => s.data.toList) he
    simp only [sealL_list] at h1
    conv at h1 => rhs; rw [ht]
    have h2 := List.append_cancel_left h1
    rw [← h2, getL_putL, Nat.mod_eq_of_lt (sumL_lt _)]
end SCrcSeal
section SBuilder
open Go.RowKit
set_option linter.unusedVariables false

theorem sizeBuilder : (Tryz.prog.info? 135).map (·.size) = some 2 := by kernel_rfl
theorem liesBuilder : liesAt Tryz.prog Tryz.prog.depth 135 (2 / Tryz.prog.cellsOf 135) 0 135 1 = true := by kernel_rfl
theorem infoByte_ : (Tryz.prog.info? 5).map (fun i => (i.zero, i.size, i.bytes)) = some (some (.int .u8 0), 1, 1) := by kernel_rfl

set_option maxRecDepth 100000 in
theorem bldCheck_used (b : Nat) (w : World) (h0 : w.cell? ⟨b, 0, none⟩ = some (.pointer (some ⟨b, 0, none⟩))) :
    Calls Tryz.prog 113 #[.pointer (some ⟨b, 0, none⟩)] w fun e w' => e = .returned (.tuple #[]) ∧ w' = w := by
  obtain ⟨j, hj, _⟩ := Option.map_eq_some_iff.1 sizeBuilder
  go_enter Tryz.func113, Tryz.ntmps113
  go_wp2
  rw [Lib.run_neq_ptr_same w _ Tryz.underlying132 hj]
  go_wp2
  go_end0
  exact ⟨rfl, rfl⟩
set_option maxRecDepth 100000 in
theorem bldCheck_fresh (b : Nat) (w : World) (h0 : w.cell? ⟨b, 0, none⟩ = some (.pointer none)) (hsh : w.shape? b = some (135, 2)) (hfz : w.frozen? ⟨b, 0, none⟩ = false) :
    Calls Tryz.prog 113 #[.pointer (some ⟨b, 0, none⟩)] w fun e w' => e = .returned (.tuple #[]) ∧ w' = w.setCell ⟨b, 0, none⟩ (.pointer (some ⟨b, 0, none⟩)) := by
  obtain ⟨j, hj, hjs⟩ := Option.map_eq_some_iff.1 sizeBuilder
  go_enter Tryz.func113, Tryz.ntmps113
  go_wp2
  rw [Lib.run_to_unsafe w ⟨b, 0, none⟩ Tryz.underlying132 Tryz.underlying174 hj (by rw [hjs]; decide) hsh (Nat.zero_lt_succ 1)]
  simp only [Result.andThen]
  rw [Oper.upon_value]
  go_wp2
  rw [run_callFunc_extern Tryz.func123 (by kernel_rfl) (by kernel_rfl) (by kernel_rfl) (e := Extern.AbiNoEscape.same) (by kernel_rfl)]
  rw [Lib.run_noEscape]
  simp only [Result.andThen]
  rw [Oper.upon_value]
  go_wp2
  rw [Lib.run_from_unsafe w ⟨b, 0, none⟩ Tryz.underlying174 Tryz.underlying132 hj hsh liesBuilder]
  simp only [Result.andThen]
  rw [Oper.upon_value]
  go_wp2
  go_end0
  exact ⟨rfl, rfl⟩
theorem bldCheck (B b : Nat) (bs : List Value) (w : World) (h : Lib.IsBuilder 135 5 B b bs w) :
    Calls Tryz.prog 113 #[.pointer (some ⟨b, 0, none⟩)] w fun e w' => e = .returned (.tuple #[]) ∧ (Lib.BuilderAt 135 5 B b (.pointer (some ⟨b, 0, none⟩)) bs w' ∧ Below B w w') := by
  rcases h with h | h
  · refine (bldCheck_fresh b w h.cell0 h.shape h.frozen0).mono ?_
    rintro e w' ⟨rfl, rfl⟩
    exact ⟨rfl, h.used _, (Below.refl B w).setCell (p := ⟨b, 0, none⟩) h.1 _⟩
  · refine (bldCheck_used b w h.cell0).mono ?_
    rintro e w' ⟨rfl, rfl⟩
    exact ⟨rfl, h, Below.refl B _⟩

set_option maxHeartbeats 1000000 in
set_option maxRecDepth 100000 in
theorem bldWrite (B b : Nat) (bs : List Value) (s : ByteArray) (w : World) (h : Lib.IsBuilder 135 5 B b bs w) (hlen : bs.length + s.size ≤ 140737488355328) (hBw : B ≤ w.heap.size) :
    Calls Tryz.prog 96 #[.pointer (some ⟨b, 0, none⟩), .string s] w fun e w' => e = .returned (.tuple #[.int .i64 s.size, .nilIface]) ∧ (Lib.BuilderAt 135 5 B b (.pointer (some ⟨b, 0, none⟩)) (bs ++ Lib.strCells s) w' ∧ Below B w w') := by
  obtain ⟨i0, hi, hz0, hz1, hz2⟩ := info_parts infoByte_
  go_enter Tryz.func96, Tryz.ntmps96
  go_wp2_with fail
  refine (bldCheck B b bs _ h).mono ?_
  rintro e w1 ⟨rfl, h1, hb1⟩
  obtain ⟨hB, v, hbk, hown, hne⟩ := h1
  have c0 : w1.cell? ⟨b, 0, none⟩ = some (.pointer (some ⟨b, 0, none⟩)) := by rw [Lib.cell_of_heap hbk]; rfl
  have c1 : w1.cell? ⟨b, 1, none⟩ = some v := by rw [Lib.cell_of_heap hbk]; rfl
  go_wp2_with (at_builtin; refine Lib.wpList_append_own_string _ rfl _ _ 133 9 rfl B 5 i0 Tryz.underlying133 Tryz.underlying9 hi hz0 hz1 hz2 _ _ _ rfl hown s rfl ?c3 ?c4 ?c5 ?_)
  case c3 => unfold maxLen; omega
  case c4 => omega
  case c5 => have := hb1.size; omega
  intro v' w2 hown' hgrow _
  have hlt : b < w1.heap.size := by
    rcases Nat.lt_or_ge b w1.heap.size with h' | h'
    · exact h'
    · simp [Array.getElem?_eq_none h'] at hbk
  have hb2 : w2.heap[b]? = some (.cells #[.pointer (some ⟨b, 0, none⟩), v] 135 (0, 0)) := by
    rw [hgrow.block b hlt (fun e => hne e.symm)]
    exact hbk
  have d0 : w2.cell? ⟨b, 0, none⟩ = some (.pointer (some ⟨b, 0, none⟩)) := by rw [Lib.cell_of_heap hb2]; rfl
  have d1 : w2.cell? ⟨b, 1, none⟩ = some v := by rw [Lib.cell_of_heap hb2]; rfl
  have f1 : w2.frozen? ⟨b, 1, none⟩ = false := Lib.frozen_of_heap hb2 1
  obtain ⟨ao, n', cap, rfl⟩ : ∃ ao n' cap, v' = .slice ao n' cap := by
    rcases hown'.2 with ⟨hv, _⟩ | ⟨g, cap, cur, hv, _⟩
    · exact ⟨_, _, _, hv⟩
    · exact ⟨_, _, _, hv⟩
  go_wp2
  go_ret2
  refine ⟨rfl, ?_, ?_⟩
  · exact Lib.BuilderAt.put hB hb2 (bs' := bs ++ Lib.strCells s) (by simpa [Lib.strCells_length] using hown') (by decide)
  · exact (hb1.grown hgrow (by have := hb1.size; omega) (fun k hk => (hown.lt k hk).1)).setCell (p := ⟨b, 1, none⟩) hB _
/-- a builder stays one while only new blocks are laid -/
theorem bldBelow {T e : TypeId} {B b : Nat} {bs : List Value} {w w' : World} (h : Lib.IsBuilder T e B b bs w) (hb : Below w.heap.size w w') : Lib.IsBuilder T e B b bs w' := by
  have hg : w.grownBy w' none := ⟨hb.os, hb.tape, hb.output, hb.size, fun i hi _ => hb.block i hi⟩
  have go : ∀ p, Lib.BuilderAt T e B b p bs w → Lib.BuilderAt T e B b p bs w' := by
    intro p h
    have hlt := h.lt
    obtain ⟨hB, v, hbk, hown, hne⟩ := h
    exact ⟨hB, v, (hb.block b hlt).trans hbk, hown.kept hg (Classical.em _), hne⟩
  exact h.elim (fun x => .inl (go _ x)) (fun x => .inr (go _ x))
end SBuilder
section SSlotF
open Go.RowKit
set_option linter.unusedVariables false

def encI (n : Int) : Value := .int .i64 n
/-- numbers one behind the other, each in k bytes -/
def fieldsL (k : Nat) (l : List Int) : List UInt8 := l.flatMap fun n => putL n.toNat k
theorem fieldsL_snoc (k : Nat) (l : List Int) (j : Nat) (h : j < l.length) : fieldsL k (l.take (j + 1)) = fieldsL k (l.take j) ++ putL (l[j]).toNat k := by
  rw [← List.take_append_getElem h, fieldsL, List.flatMap_append]
  simp [fieldsL]
theorem fieldsL_len (k : Nat) (l : List Int) : (fieldsL k l).length = l.length * k := by
  induction l with
  | nil => simp [fieldsL]
  | cons a l ih => rw [fieldsL, List.flatMap_cons, List.length_append, ← fieldsL, ih, putL_length, List.length_cons, Nat.add_mul]; omega
set_option maxRecDepth 100000 in
set_option maxHeartbeats 1000000 in
theorem slotFields_ok (k : Int) (v : Value) (l : List Int) (w : World) (hv : Reads1 encI w v l) (hk1 : 1 ≤ k) (hk8 : k ≤ 8) (hl : l.length ≤ 1000) (hf : ∀ n ∈ l, 0 ≤ n ∧ n.toNat < 256 ^ k.toNat) :
    Calls Tryz.prog 68 #[.int .i64 k, v] w fun e w' => e = .returned (.string ⟨(fieldsL k.toNat l).toArray⟩) ∧ Below w.heap.size w w' := by
  obtain ⟨a, len, cap, rfl, hlen, hc1, hc2, hat⟩ := hv
  subst hlen
  have hlI : (l.length : Int) ≤ 1000 := by omega
  have HAT := Lib.hid hat
  have HF := Lib.hid hf
  have hp8 := pow256_le (k := k.toNat) (by omega)
  have HP8 := Lib.hid hp8
  clear hat hf hp8
  go_enter Tryz.func68, Tryz.ntmps68
  go_wp2_with fail
  have h0 : Lib.IsBuilder 135 5 w.heap.size w.heap.size [] (w.alloc (.cells #[.pointer none, .slice none 0 0] 135)) := Lib.fresh_isBuilder 135 5 w
  have b0 : Below w.heap.size w (w.alloc (.cells #[.pointer none, .slice none 0 0] 135)) := (Below.refl _ w).alloc (Nat.le_refl _) _
  have H0 := Lib.hid h0
  clear h0
  go_loopw [12] (fun c wr => ∃ j : Nat, j ≤ l.length ∧ c = .int .i64 j ∧ Lib.IsBuilder 135 5 w.heap.size w.heap.size (Lib.byteCells (fieldsL k.toNat (l.take j))) wr ∧ Below w.heap.size w wr) (fun c _ => l.length - (intOf c).toNat)
  case atStart => exact ⟨0, by omega, rfl, H0.out, b0⟩
  case round =>
    clear H0 b0
    obtain ⟨j, hj, rfl, hbl, hwr⟩ := hrel
    have HBL := Lib.hid hbl
    clear hbl
    by_cases hlt : j < l.length
    · have hltI : (j : Int) < l.length := by omega
      obtain ⟨b, off, rfl, hb, hat⟩ := HAT.out.resolve_left (by omega)
      have hcell : wr.cell? ⟨b, off + j, none⟩ = some (.int .i64 l[j]) := (hwr.cell (p := ⟨b, off + j, none⟩) hb).trans (hat j hlt)
      obtain ⟨hn0, hn1⟩ := HF.out l[j] (List.getElem_mem hlt)
      have hsn := fieldsL_snoc k.toNat l j hlt
      generalize l[j] = n at *
      have hn2 : n ≤ 18446744073709551615 := by have := HP8.out; omega
      have hwn : IntKind.u64.wrap n = n := by simp [IntKind.wrap, IntKind.signed, IntKind.bits]; omega
      have hok : putOk n k = true := by unfold putOk; exact decide_eq_true ⟨hk1, hk8, hn1⟩
      have hps : putS n k = ⟨(putL n.toNat k.toNat).toArray⟩ := by unfold putS; rw [hok]; rfl
      have hpe : putE n k = 0 := by unfold putE; rw [hok]; rfl
      have HP := Lib.hid (fun u => lePut_any n k u hn0 hn2)
      rw [hps, hpe] at HP
      have hz : (ByteArray.mk (putL n.toNat k.toNat).toArray).size = k.toNat := by rw [ba_size, putL_length]
      have HSN := Lib.hid hsn; have HZ := Lib.hid hz
      clear hat hps hpe hok hsn hz hn1
      go_wp2_with fail
      refine (HP.out _).mono ?_
      rintro e w1 ⟨rfl, hb1⟩
      have HBL1 := Lib.hid (bldBelow HBL.out hb1)
      have hw1 := hwr.trans (hb1.mono hwr.size)
      clear hb1 HBL hwr hcell
      generalize hX : (ByteArray.mk (putL n.toNat k.toNat).toArray) = X at *
      have HX := Lib.hid hX
      clear hX
      go_wp2_with fail
      have h2 : k.toNat ≤ 8 := by omega
      have h3 : (l.take j).length * k.toNat ≤ 1000 * 8 := Nat.mul_le_mul (Nat.le_trans (List.length_take_le _ _) (by omega)) h2
      refine (bldWrite _ _ _ _ _ HBL1.out (by rw [Lib.byteCells_length, fieldsL_len, HZ.out]; omega) hw1.size).mono ?_
      rintro e w2 ⟨rfl, hbl2, hb2⟩
      have hbl3 : Lib.IsBuilder 135 5 w.heap.size w.heap.size (Lib.byteCells (fieldsL k.toNat (l.take (j + 1)))) w2 := by
        rw [HSN.out, Lib.byteCells_append]
        have : Lib.byteCells (putL n.toNat k.toNat) = Lib.strCells X := by rw [Lib.strCells_eq, ← HX.out]
        rw [this]
        exact Or.inr hbl2
      have HB3 := Lib.hid hbl3
      have hw2 := hw1.trans hb2
      clear hbl2 hbl3 hb2 hw1 HBL1
      go_wp2_with fail
      go_roundw
      case rel => exact ⟨j + 1, by omega, by go_num, HB3.out, hw2⟩
      case measure => simp [intOf]; omega
    · obtain rfl : j = l.length := by omega
      have hall : l.take l.length = l := List.take_length
      rw [hall] at HBL
      clear hall HAT HF
      go_wp2_with fail
      refine (Tryz.Builder_String_any w.heap.size w.heap.size (fieldsL k.toNat l) _ HBL.out hwr.size).mono ?_
      rintro e w2 ⟨rfl, hb2⟩
      go_wp2_with fail
      go_ret
      exact ⟨rfl, hwr.trans hb2⟩
def layS (l : List UInt8) : ByteArray := trimS (sealL ⟨l.toArray⟩)
theorem slotSealed_any (l : List UInt8) (w : World) (h : l.length ≤ 100000) :
    Calls Tryz.prog 67 #[.string ⟨l.toArray⟩] w fun e w' => e = .returned (.string (layS l)) ∧ Below w.heap.size w w' := by
  have hz : (ByteArray.mk l.toArray).size = l.length := ba_size l
  have HC := Lib.hid (fun u => crcSeal_any ⟨l.toArray⟩ u (by omega))
  have HT := Lib.hid (fun u => leTrim_any (sealL ⟨l.toArray⟩) u (by rw [sealL_size]; omega))
  show Calls _ _ _ _ fun e w' => e = .returned (.string (trimS (sealL ⟨l.toArray⟩))) ∧ _
  generalize sealL ⟨l.toArray⟩ = X at *
  generalize (ByteArray.mk l.toArray) = Y at *
  clear hz h
  go_enter Tryz.func67, Tryz.ntmps67
  go_wp2_with fail
  refine (HC.out _).mono ?_
  rintro e w1 ⟨rfl, hb1⟩
  go_wp2_with fail
  refine (HT.out _).mono ?_
  rintro e w2 ⟨rfl, rfl⟩
  go_wp2_with fail
  go_ret
  exact ⟨rfl, hb1⟩
theorem slotEpoch_any (n : Int) (w : World) : Calls Tryz.prog 66 #[.int .i64 n] w fun e w' => e = .returned (.bool (decide (1 ≤ n ∧ n ≤ 1099511627776))) ∧ w = w' := by
  by_cases h1 : 1 ≤ n <;> by_cases h2 : n ≤ 1099511627776
  all_goals
    go_enter Tryz.func66, Tryz.ntmps66
    go_wp2_with fail
    go_ret
    simp [h1, h2]
theorem slotPlace_any (n : Int) (w : World) : Calls Tryz.prog 85 #[.int .i64 n] w fun e w' => e = .returned (.bool (decide (0 ≤ n ∧ n < 6))) ∧ w = w' := by
  by_cases h1 : 0 ≤ n <;> by_cases h2 : n < 6
  all_goals
    go_enter Tryz.func85, Tryz.ntmps85
    go_wp2_with fail
    go_ret
    simp [h1, h2]
end SSlotF
section SSlotT
open Go.RowKit
set_option linter.unusedVariables false

theorem info256b : (Tryz.prog.info? 99).map (fun i => (i.zero, i.size)) = some (some (.agg (Array.replicate 256 (.bool false))), 256) := by kernel_rfl
/-- which sectors have been seen -/
def seenC (s : List Int) : Array Value := ((List.range 256).map fun (c : Nat) => Value.bool (decide ((c : Int) ∈ s))).toArray
theorem seenC_nil : seenC [] = Array.replicate 256 (.bool false) := by
  apply Array.toList_inj.1
  simp only [seenC, List.not_mem_nil, decide_false, Array.toList_replicate]
  rw [List.eq_replicate_iff]
  refine ⟨by simp only [List.length_map, List.length_range], fun b hb => ?_⟩
  obtain ⟨_, _, rfl⟩ := List.mem_map.1 hb
  rfl
theorem seenC_get (s : List Int) (c : Nat) (h : c < 256) : (seenC s)[c]? = some (.bool (decide ((c : Int) ∈ s))) := by simp [seenC, h]
theorem seenC_set (s : List Int) (c : Nat) (h : c < 256) : (seenC s).setIfInBounds c (.bool true) = seenC (s ++ [(c : Int)]) := by
  apply Array.ext
  · simp [seenC]
  · intro i h1 h2
    have hi : i < 256 := by simpa [seenC] using h2
    rw [Array.getElem_setIfInBounds (by simpa using h1)]
    by_cases e : c = i
    · subst e; simp [seenC]
    · rw [if_neg e]
      have : ¬ ((i : Int) = c) := by omega
      simp [seenC, this]
def okT (l : List Int) : Bool := decide (1 ≤ l.length ∧ l.length ≤ 40 ∧ (∀ t ∈ l, 53 ≤ t ∧ t ≤ 255) ∧ l.Nodup)
theorem okT_bad (l : List Int) (j : Nat) (h : j < l.length) (hb : ¬ (53 ≤ l[j] ∧ l[j] ≤ 255)) : okT l = false := by
  unfold okT
  exact decide_eq_false (fun hh => hb (hh.2.2.1 _ (List.getElem_mem h)))
theorem okT_seen (l : List Int) (j : Nat) (h : j < l.length) (hb : l[j] ∈ l.take j) : okT l = false := by
  unfold okT
  refine decide_eq_false (fun hh => ?_)
  obtain ⟨i, hi, he⟩ := List.mem_iff_getElem.1 hb
  rw [List.length_take] at hi
  rw [List.getElem_take] at he
  exact (List.pairwise_iff_getElem.1 hh.2.2.2) i j (by omega) h (by omega) he
theorem take_nodup (l : List Int) (j : Nat) (h : j < l.length) (hn : (l.take j).Nodup) (hb : ¬ l[j] ∈ l.take j) : (l.take (j + 1)).Nodup := by
  rw [← List.take_append_getElem h, List.nodup_append]
  refine ⟨hn, by simp, fun a ha b hbb => ?_⟩
  simp at hbb
  subst hbb
  exact fun e => hb (e ▸ ha)
set_option maxRecDepth 100000 in
set_option maxHeartbeats 1000000 in
theorem slotTargets_any (v : Value) (l : List Int) (w : World) (hv : Reads1 encI w v l) :
    Calls Tryz.prog 86 #[v] w fun e w' => e = .returned (.bool (okT l)) ∧ Below w.heap.size w w' := by
  obtain ⟨a, len, cap, rfl, hlen, hc1, hc2, hat⟩ := hv
  subst hlen
  have hlI : (l.length : Int) ≤ 9223372036854775807 := by omega
  by_cases h1 : l.length < 1
  · have h1I : (l.length : Int) < 1 := by omega
    have he : okT l = false := by unfold okT; exact decide_eq_false (by omega)
    rw [he]
    clear hat
    generalize l.length = n at *
    go_enter Tryz.func86, Tryz.ntmps86
    go_wp2_with fail
    go_ret
    exact ⟨rfl, Below.refl _ _⟩
  · have h1I : ¬ (l.length : Int) < 1 := by omega
    by_cases h2 : 40 < l.length
    · have h2I : (40 : Int) < l.length := by omega
      have he : okT l = false := by unfold okT; exact decide_eq_false (by omega)
      rw [he]
      clear hat
      generalize l.length = n at *
      go_enter Tryz.func86, Tryz.ntmps86
      go_wp2_with fail
      go_ret
      exact ⟨rfl, Below.refl _ _⟩
    · have h2I : ¬ (40 : Int) < l.length := by omega
      have HAT := Lib.hid hat
      have hz := (zero_of_info info256b).1
      clear hat
      go_enter Tryz.func86, Tryz.ntmps86
      go_wp2_with fail
      have hb0 : Below w.heap.size w (w.alloc (.cells (Array.replicate 256 (.bool false)) 99)) := (Below.refl _ w).alloc (Nat.le_refl _) _
      have hB0 := heap_alloc_new w (.cells (Array.replicate 256 (.bool false)) 99)
      rw [← seenC_nil] at hb0 hB0
      have hlt0 : w.heap.size < (w.alloc (.cells (seenC []) 99)).heap.size := by simp
      generalize hB : w.heap.size = B at *
      rw [← seenC_nil]
      generalize w.alloc (.cells (seenC []) 99) = w1 at *
      clear hz
      go_loopw [16] (fun c wr => ∃ j : Nat, j ≤ l.length ∧ c = .int .i64 j ∧ (∀ t ∈ l.take j, 53 ≤ t ∧ t ≤ 255) ∧ (l.take j).Nodup ∧ wr.heap[B]? = some (.cells (seenC (l.take j)) 99 (0, 0)) ∧ Below B w wr) (fun c _ => l.length - (intOf c).toNat)
      case atStart => exact ⟨0, by omega, rfl, by simp, by simp, hB0, hb0⟩
      case round =>
        clear hB0 hb0 hlt0
        obtain ⟨j, hj, rfl, hin, hnd, hbk, hwr⟩ := hrel
        have HIN := Lib.hid hin; have HND := Lib.hid hnd; have HBK := Lib.hid hbk
        clear hin hnd hbk
        by_cases hlt : j < l.length
        · have hltI : (j : Int) < l.length := by omega
          obtain ⟨b, off, rfl, hb, hat⟩ := HAT.out.resolve_left (by omega)
          have hcell : wr.cell? ⟨b, off + j, none⟩ = some (.int .i64 l[j]) := (hwr.cell (p := ⟨b, off + j, none⟩) hb).trans (hat j hlt)
          have hbad := okT_bad l j hlt
          have hseen := okT_seen l j hlt
          have hnod := take_nodup l j hlt HND.out
          have htk : l.take (j + 1) = l.take j ++ [l[j]] := (List.take_append_getElem hlt).symm
          clear hat
          generalize l[j] = t at *
          by_cases hr : 53 ≤ t ∧ t ≤ 255
          · obtain ⟨hr1, hr2⟩ := hr
            obtain ⟨c, rfl⟩ := Int.eq_ofNat_of_zero_le (show 0 ≤ t by omega)
            have hcz : wr.cell? ⟨B, c, none⟩ = some (.bool (decide ((c : Int) ∈ l.take j))) := by rw [cell_of_row _ _ c _ _ _ HBK.out, seenC_get _ _ (by omega)]
            have hfz := block_frozen HBK.out c
            by_cases hs : (c : Int) ∈ l.take j
            · have HE := Lib.hid (hseen hs)
              rw [decide_eq_true hs] at hcz
              clear hseen hbad hnod htk hs
              go_wp2_with fail
              go_ret
              exact ⟨by rw [HE.out]; rfl, by first | exact hwr | (rw [hB]; exact hwr)⟩
            · rw [decide_eq_false hs] at hcz
              have hset := block_set HBK.out c (.bool true)
              rw [seenC_set _ _ (by omega), ← htk] at hset
              have HSET := Lib.hid hset
              have HNO := Lib.hid (hnod hs)
              have HIN2 := Lib.hid (show ∀ t ∈ l.take (j + 1), 53 ≤ t ∧ t ≤ 255 by
                intro t ht
                rw [htk, List.mem_append, List.mem_singleton] at ht
                rcases ht with ht | rfl
                · exact HIN.out t ht
                · exact ⟨hr1, hr2⟩)
              have hw2 : Below B w (wr.setCell ⟨B, c, none⟩ (.bool true)) := hwr.setCell (p := ⟨B, c, none⟩) (Nat.le_refl _) _
              clear hseen hbad hnod htk hs hset
              go_wp2_with fail
              go_roundw
              case rel => exact ⟨j + 1, by omega, by go_num, HIN2.out, HNO.out, HSET.out, hw2⟩
              case measure => simp [intOf]; omega
          · have HE := Lib.hid (hbad hr)
            clear hbad hseen hnod htk
            by_cases h3 : t < 53
            · go_wp2_with fail
              go_ret
              exact ⟨by rw [HE.out]; rfl, by first | exact hwr | (rw [hB]; exact hwr)⟩
            · have h4 : 256 ≤ t := by omega
              go_wp2_with fail
              go_ret
              exact ⟨by rw [HE.out]; rfl, by first | exact hwr | (rw [hB]; exact hwr)⟩
        · obtain rfl : j = l.length := by omega
          have hok : okT l = true := by
            have e1 := HIN.out; have e2 := HND.out
            rw [List.take_length] at e1 e2
            unfold okT
            exact decide_eq_true ⟨by omega, by omega, e1, e2⟩
          have HOK := Lib.hid hok
          clear hok
          go_wp2_with fail
          go_ret
          exact ⟨by rw [HOK.out]; rfl, by first | exact hwr | (rw [hB]; exact hwr)⟩
end SSlotT
section SSlotW
open Go.RowKit
set_option linter.unusedVariables false

theorem reads1_one {u : World} {g : Nat} {n : Int} (h : u.cell? ⟨g, 0, none⟩ = some (.int .i64 n)) (hg : g < u.heap.size) : Reads1 encI u (.slice (some ⟨g, 0, none⟩) 1 1) [n] :=
  ⟨_, 1, 1, rfl, rfl, Nat.le_refl _, by omega, .inr ⟨g, 0, rfl, hg, fun i hi => by
    have : i = 0 := by simpa using hi
    subst this
    exact h⟩⟩
theorem reads1_two {u : World} {g : Nat} {n m : Int} (h : u.cell? ⟨g, 0, none⟩ = some (.int .i64 n)) (h1 : u.cell? ⟨g, 1, none⟩ = some (.int .i64 m)) (hg : g < u.heap.size) : Reads1 encI u (.slice (some ⟨g, 0, none⟩) 2 2) [n, m] :=
  ⟨_, 2, 2, rfl, rfl, Nat.le_refl _, by omega, .inr ⟨g, 0, rfl, hg, fun i hi => by
    have : i = 0 ∨ i = 1 := by simp at hi; omega
    rcases this with rfl | rfl
    · exact h
    · exact h1⟩⟩
theorem c_new {u : World} {cs : Array Value} {t : TypeId} {g j : Nat} {v : Value} (hg : g = u.heap.size) (hj : cs[j]? = some v) : (u.alloc (.cells cs t)).cell? ⟨g, j, none⟩ = some v := by
  subst hg
  rw [cell_of_row _ _ j _ _ _ (heap_alloc_new u _)]
  exact hj
theorem c_old {u : World} {o : Obj} {g j : Nat} {v : Value} (hg : g < u.heap.size) (h : u.cell? ⟨g, j, none⟩ = some v) : (u.alloc o).cell? ⟨g, j, none⟩ = some v :=
  (World.cell?_of_block (a := ⟨g, j, none⟩) (heap_alloc_old u o hg)).trans h
theorem drew_size (u : World) : u.drew.heap.size = u.heap.size := rfl
theorem c_drew {u : World} {p : Addr} {v : Value} (h : u.cell? p = some v) : u.drew.cell? p = some v := h
theorem c_call {u w' : World} {g j : Nat} {v : Value} (hb : Below u.heap.size u w') (hg : g < u.heap.size) (h : u.cell? ⟨g, j, none⟩ = some v) : w'.cell? ⟨g, j, none⟩ = some v := (hb.cell (p := ⟨g, j, none⟩) hg).trans h
def superL (n : Int) : List UInt8 := fieldsL 1 [1] ++ fieldsL 6 [n]
def commitL (n s : Int) : List UInt8 := fieldsL 1 [3] ++ fieldsL 6 [n] ++ fieldsL 1 [s]
def headL (n s : Int) (l : List Int) : List UInt8 := fieldsL 1 [2] ++ fieldsL 6 [n] ++ fieldsL 1 [s, (l.length : Int)] ++ fieldsL 2 l
theorem keepSl {w3 u : World} {g : Nat} {x : Value} {t : TypeId} {fr : Nat × Nat} (h : w3.heap[g]? = some (.cells #[x] t fr)) (hb : Below w3.heap.size w3 u) :
    Below w3.heap.size w3 u ∧ u.cell? ⟨g, 0, none⟩ = some x := ⟨hb, below_cell hb h 0 rfl⟩
theorem keepA {w3 u : World} {R : Prop} (h : Below w3.heap.size w3 u ∧ R) (o : Obj) : Below w3.heap.size w3 (u.alloc o) := h.1.alloc h.1.size o
theorem keepC {w3 u u' : World} {R : Prop} (h : Below w3.heap.size w3 u ∧ R) (hb : Below u.heap.size u u') : Below w3.heap.size w3 u' := h.1.trans (hb.mono h.1.size)
theorem keepE {w w3 u : World} {R : Prop} (hw : Below w.heap.size w w3) (h : Below w3.heap.size w3 u ∧ R) : Below w.heap.size w u := hw.trans (h.1.mono hw.size)
theorem ba_app (a b : List UInt8) : (ByteArray.mk (a ++ b).toArray) = ⟨a.toArray⟩ ++ ⟨b.toArray⟩ := ba_ext (by simp)
theorem pow6 (n : Int) (h1 : 1 ≤ n) (h2 : n ≤ 1099511627776) : n.toNat < 256 ^ 6 := by
  have : (256 : Nat) ^ 6 = 281474976710656 := by decide
  omega
set_option maxRecDepth 100000 in
set_option maxHeartbeats 1000000 in
theorem slotSuper_ok (n : Int) (w : World) (h1 : 1 ≤ n) (h2 : n ≤ 1099511627776) :
    Calls Tryz.prog 35 #[.agg #[.int .i64 n]] w fun e w' => e = .returned (.tuple #[.string (layS (superL n)), .int .i64 0]) ∧ Below w.heap.size w w' := by
  have HE := Lib.hid (fun u => slotEpoch_any n u)
  rw [decide_eq_true (show 1 ≤ n ∧ n ≤ 1099511627776 from ⟨h1, h2⟩)] at HE
  have HF1 := Lib.hid (fun v u hv => slotFields_ok 1 v [1] u hv (by omega) (by omega) (by simp) (by intro n hn; rw [List.mem_singleton.1 hn]; exact ⟨by omega, by decide⟩))
  have HF6 := Lib.hid (fun v u hv => slotFields_ok 6 v [n] u hv (by omega) (by omega) (by simp) (by intro m hm; rw [List.mem_singleton.1 hm]; exact ⟨by omega, pow6 n h1 h2⟩))
  have HS := Lib.hid (fun u => slotSealed_any (superL n) u (by unfold superL; rw [List.length_append, fieldsL_len, fieldsL_len]; simp))
  have hadd : ∀ u, (Op.stringOp .add ⟨(fieldsL (1 : Int).toNat [1]).toArray⟩ ⟨(fieldsL (6 : Int).toNat [n]).toArray⟩).run Tryz.prog u = .ok (.string ⟨(superL n).toArray⟩) u :=
    add_run _ _ _ (ba_app _ _) (by rw [ba_size, ba_size, fieldsL_len, fieldsL_len]; simp)
  generalize (ByteArray.mk (fieldsL (1 : Int).toNat [1]).toArray) = F1 at *
  generalize (ByteArray.mk (fieldsL (6 : Int).toNat [n]).toArray) = F2 at *
  generalize (ByteArray.mk (superL n).toArray) = F3 at *
  have HL := Lib.hid (rfl : layS (superL n) = layS (superL n))
  generalize hR : layS (superL n) = R at *
  have hA := heap_alloc_new w (.cells #[.int .i64 n] 78)
  have hw := (Below.refl w.heap.size w).alloc (Nat.le_refl _) (.cells #[.int .i64 n] 78)
  clear hR
  go_enter Tryz.func35, Tryz.ntmps35
  go_wp2_with fail
  refine (HE.out _).mono ?_
  rintro e w2 ⟨rfl, rfl⟩
  obtain ⟨w1, hW⟩ : ∃ w1, w.alloc (.cells #[.int .i64 n] 78) = w1 := ⟨_, rfl⟩
  rw [hW] at hA hw ⊢
  clear hW HE
  have HA := Lib.hid hA
  go_upto_region 3 with fail
  go_region_held3 (fun u => Below w1.heap.size w1 u ∧ u.cell? ⟨w.heap.size, 0, none⟩ = some (.int .i64 n))
    ((refine keepSl HA.out ?_; first | assumption | exact (Below.refl _ _).drew | exact keepA (by assumption) _ | exact keepC (by assumption) (by assumption)))
    (first
    | (go_at_call_of 68 (Value.int .i64 1); refine (HF1.out _ _ ?_).mono ?_; refine reads1_one ?_ ?_; (focus (repeat (first | assumption | ((with_reducible refine c_new ?_ ?_) <;> (first | rfl | ((repeat (first | rw [drew_size] | rw [World.size_alloc])); done) | ((repeat (first | rw [drew_size] | rw [World.size_alloc])); rfl))) | with_reducible refine c_drew ?_ | ((with_reducible refine c_old ?_ ?_); ((repeat (first | rw [drew_size] | rw [World.size_alloc])); omega)) | ((with_reducible refine c_call (by assumption) ?_ ?_); ((repeat (first | rw [drew_size] | rw [World.size_alloc])); omega))))); ((repeat (first | rw [drew_size] | rw [World.size_alloc])); omega); rintro e w4 ⟨rfl, hbw4⟩; have hzw4 := hbw4.size; (repeat (first | rw [drew_size] at hzw4 | rw [World.size_alloc] at hzw4)))
    | (go_at_call_of 68 (Value.int .i64 6); refine (HF6.out _ _ ?_).mono ?_; refine reads1_one ?_ ?_; (focus (repeat (first | assumption | ((with_reducible refine c_new ?_ ?_) <;> (first | rfl | ((repeat (first | rw [drew_size] | rw [World.size_alloc])); done) | ((repeat (first | rw [drew_size] | rw [World.size_alloc])); rfl))) | with_reducible refine c_drew ?_ | ((with_reducible refine c_old ?_ ?_); ((repeat (first | rw [drew_size] | rw [World.size_alloc])); omega)) | ((with_reducible refine c_call (by assumption) ?_ ?_); ((repeat (first | rw [drew_size] | rw [World.size_alloc])); omega))))); ((repeat (first | rw [drew_size] | rw [World.size_alloc])); omega); rintro e w5 ⟨rfl, hbw5⟩; have hzw5 := hbw5.size; (repeat (first | rw [drew_size] at hzw5 | rw [World.size_alloc] at hzw5)))
    | (go_at_call 67; refine (HS.out _).mono ?_; rintro e w6 ⟨rfl, hb6⟩))
  all_goals
    go_wp2_with fail
    go_ret2
    exact ⟨rfl, keepE hw (by assumption)⟩
set_option maxRecDepth 100000 in
theorem slotSuper_bad (n : Int) (w : World) (h : ¬ (1 ≤ n ∧ n ≤ 1099511627776)) :
    Calls Tryz.prog 35 #[.agg #[.int .i64 n]] w fun e w' => e = .returned (.tuple #[.string ⟨#[]⟩, .int .i64 1]) ∧ Below w.heap.size w w' := by
  have HE := Lib.hid (fun u => slotEpoch_any n u)
  rw [decide_eq_false h] at HE
  clear h
  go_enter Tryz.func35, Tryz.ntmps35
  go_wp2_with fail
  refine (HE.out _).mono ?_
  rintro e w2 ⟨rfl, rfl⟩
  go_wp2_with fail
  go_ret2
  exact ⟨rfl, (Below.refl w.heap.size w).alloc (Nat.le_refl _) _⟩
theorem pow1 (n : Int) (h1 : 0 ≤ n) (h2 : n < 256) : n.toNat < 256 ^ 1 := by
  have : (256 : Nat) ^ 1 = 256 := by decide
  omega
set_option maxRecDepth 100000 in
set_option maxHeartbeats 1000000 in
theorem slotCommit_ok (n s : Int) (w : World) (h1 : 1 ≤ n ∧ n ≤ 1099511627776) (h2 : 0 ≤ s ∧ s < 6) :
    Calls Tryz.prog 59 #[.int .i64 n, .int .i64 s] w fun e w' => e = .returned (.tuple #[.string (layS (commitL n s)), .int .i64 0]) ∧ Below w.heap.size w w' := by
  have HE := Lib.hid (fun u => slotEpoch_any n u)
  have HP := Lib.hid (fun u => slotPlace_any s u)
  rw [decide_eq_true h1] at HE
  rw [decide_eq_true h2] at HP
  have HF1 := Lib.hid (fun v u hv => slotFields_ok 1 v [3] u hv (by omega) (by omega) (by simp) (by intro n hn; rw [List.mem_singleton.1 hn]; exact ⟨by omega, by decide⟩))
  have HF6 := Lib.hid (fun v u hv => slotFields_ok 6 v [n] u hv (by omega) (by omega) (by simp) (by intro m hm; rw [List.mem_singleton.1 hm]; exact ⟨by omega, pow6 n h1.1 h1.2⟩))
  have HFS := Lib.hid (fun v u hv => slotFields_ok 1 v [s] u hv (by omega) (by omega) (by simp) (by intro m hm; rw [List.mem_singleton.1 hm]; exact ⟨by omega, pow1 s (by omega) (by omega)⟩))
  have HS := Lib.hid (fun u => slotSealed_any (commitL n s) u (by unfold commitL; rw [List.length_append, List.length_append, fieldsL_len, fieldsL_len, fieldsL_len]; simp))
  obtain ⟨M, hM⟩ : ∃ M, fieldsL (1 : Int).toNat [3] ++ fieldsL (6 : Int).toNat [n] = M := ⟨_, rfl⟩
  have hadd : ∀ u, (Op.stringOp .add ⟨(fieldsL (1 : Int).toNat [3]).toArray⟩ ⟨(fieldsL (6 : Int).toNat [n]).toArray⟩).run Tryz.prog u = .ok (.string ⟨M.toArray⟩) u :=
    add_run _ _ _ (by rw [← hM]; exact ba_app _ _) (by rw [ba_size, ba_size, fieldsL_len, fieldsL_len]; simp)
  have hadd2 : ∀ u, (Op.stringOp .add ⟨M.toArray⟩ ⟨(fieldsL (1 : Int).toNat [s]).toArray⟩).run Tryz.prog u = .ok (.string ⟨(commitL n s).toArray⟩) u :=
    add_run _ _ _ (by show (ByteArray.mk (commitL n s).toArray) = _; rw [← ba_app]; unfold commitL; rw [← hM]; rfl) (by rw [ba_size, ba_size, ← hM, List.length_append, fieldsL_len, fieldsL_len, fieldsL_len]; simp)
  generalize (ByteArray.mk (fieldsL (1 : Int).toNat [3]).toArray) = F1 at *
  generalize (ByteArray.mk (fieldsL (6 : Int).toNat [n]).toArray) = F2 at *
  generalize (ByteArray.mk (fieldsL (1 : Int).toNat [s]).toArray) = F4 at *
  generalize (ByteArray.mk (commitL n s).toArray) = F3 at *
  generalize (ByteArray.mk M.toArray) = F5 at *
  generalize layS (commitL n s) = R at *
  clear hM
  go_enter Tryz.func59, Tryz.ntmps59
  go_wp2_with fail
  refine (HE.out _).mono ?_
  rintro e w2 ⟨rfl, rfl⟩
  go_wp2_with fail
  refine (HP.out _).mono ?_
  rintro e w2 ⟨rfl, rfl⟩
  go_wp2_with fail
  refine (HF1.out _ _ (reads1_one (c_new rfl rfl) (by simp))).mono ?_
  rintro e w3 ⟨rfl, hb3⟩
  have hw3 := ((Below.refl w.heap.size w).alloc (Nat.le_refl _) (.cells #[.int .i64 3] 3)).trans (hb3.mono (by simp))
  clear hb3
  go_wp2_with fail
  refine (HF6.out _ _ (reads1_one (c_new rfl rfl) (by simp))).mono ?_
  rintro e w4 ⟨rfl, hb4⟩
  have hw4 := (hw3.alloc hw3.size (.cells #[.int .i64 n] 3)).trans (hb4.mono (by simp; have := hw3.size; omega))
  clear hb4 hw3
  go_wp2_with fail
  refine (HFS.out _ _ (reads1_one (c_new rfl rfl) (by simp))).mono ?_
  rintro e w5 ⟨rfl, hb5⟩
  have hw5 := (hw4.alloc hw4.size (.cells #[.int .i64 s] 3)).trans (hb5.mono (by simp; have := hw4.size; omega))
  clear hb5 hw4
  go_wp2_with fail
  refine (HS.out _).mono ?_
  rintro e w6 ⟨rfl, hb6⟩
  go_wp2_with fail
  go_ret2
  exact ⟨rfl, hw5.trans (hb6.mono hw5.size)⟩
set_option maxRecDepth 100000 in
theorem slotCommit_bad (n s : Int) (w : World) (h : ¬ ((1 ≤ n ∧ n ≤ 1099511627776) ∧ (0 ≤ s ∧ s < 6))) :
    Calls Tryz.prog 59 #[.int .i64 n, .int .i64 s] w fun e w' => e = .returned (.tuple #[.string ⟨#[]⟩, .int .i64 1]) ∧ Below w.heap.size w w' := by
  have HE := Lib.hid (fun u => slotEpoch_any n u)
  have HP := Lib.hid (fun u => slotPlace_any s u)
  by_cases h1 : 1 ≤ n ∧ n ≤ 1099511627776
  · have h2 : ¬ (0 ≤ s ∧ s < 6) := fun hh => h ⟨h1, hh⟩
    rw [decide_eq_true h1] at HE
    rw [decide_eq_false h2] at HP
    clear h h1 h2
    go_enter Tryz.func59, Tryz.ntmps59
    go_wp2_with fail
    refine (HE.out _).mono ?_
    rintro e w2 ⟨rfl, rfl⟩
    go_wp2_with fail
    refine (HP.out _).mono ?_
    rintro e w2 ⟨rfl, rfl⟩
    go_wp2_with fail
    go_ret2
    exact ⟨rfl, Below.refl _ _⟩
  · rw [decide_eq_false h1] at HE
    clear h h1 HP
    go_enter Tryz.func59, Tryz.ntmps59
    go_wp2_with fail
    refine (HE.out _).mono ?_
    rintro e w2 ⟨rfl, rfl⟩
    go_wp2_with fail
    go_ret2
    exact ⟨rfl, Below.refl _ _⟩
end SSlotW
section SSlotH
open Go.RowKit
set_option linter.unusedVariables false

theorem keepHd {w3 u : World} {g : Nat} {x y z : Value} {t : TypeId} {fr : Nat × Nat} (h : w3.heap[g]? = some (.cells #[x, y, z] t fr)) (hb : Below w3.heap.size w3 u) :
    Below w3.heap.size w3 u ∧ u.cell? ⟨g, 0, none⟩ = some x ∧ u.cell? ⟨g, 1, none⟩ = some y ∧ u.cell? ⟨g, 2, none⟩ = some z := ⟨hb, below_cell hb h 0 rfl, below_cell hb h 1 rfl, below_cell hb h 2 rfl⟩
def headOk (E S : Int) (l : List Int) : Bool := decide (1 ≤ E ∧ E ≤ 1099511627776) && (decide (0 ≤ S ∧ S < 6) && okT l)
theorem okT_fit (l : List Int) (h : okT l = true) : l.length ≤ 40 ∧ ∀ n ∈ l, 0 ≤ n ∧ n.toNat < 256 ^ (2 : Int).toNat := by
  obtain ⟨_, h2, h3, _⟩ := of_decide_eq_true h
  refine ⟨h2, fun n hn => ⟨by have := h3 n hn; omega, ?_⟩⟩
  have := h3 n hn
  have e : (256 : Nat) ^ (2 : Int).toNat = 65536 := by decide
  omega
theorem headL_len (E S : Int) (l : List Int) : (headL E S l).length = 9 + 2 * l.length := by
  unfold headL
  rw [List.length_append, List.length_append, List.length_append, fieldsL_len, fieldsL_len, fieldsL_len, fieldsL_len]
  simp
  omega
set_option maxRecDepth 100000 in
set_option maxHeartbeats 4000000 in
theorem slotHead_ok (E S : Int) (tv : Value) (l : List Int) (w : World) (hv : Reads1 encI w tv l) (h : headOk E S l = true) :
    Calls Tryz.prog 58 #[.agg #[.int .i64 E, .int .i64 S, tv]] w fun e w' => e = .returned (.tuple #[.string (layS (headL E S l)), .int .i64 0]) ∧ Below w.heap.size w w' := by
  obtain ⟨a, len, cap, rfl, hlen, hc1, hc2, hat⟩ := hv
  subst hlen
  have hv : Reads1 encI w (.slice a l.length cap) l := ⟨_, _, _, rfl, rfl, hc1, hc2, hat⟩
  unfold headOk at h
  rw [Bool.and_eq_true, Bool.and_eq_true] at h
  obtain ⟨h1, h2, h3⟩ := h
  obtain ⟨h4, h5⟩ := okT_fit l h3
  have hE := of_decide_eq_true h1
  have hS := of_decide_eq_true h2
  have HE := Lib.hid (fun u => slotEpoch_any E u)
  have HP := Lib.hid (fun u => slotPlace_any S u)
  have HT := Lib.hid (fun u hu => slotTargets_any (.slice a l.length cap) l u hu)
  rw [h1] at HE
  rw [h2] at HP
  rw [h3] at HT
  have HF1 := Lib.hid (fun v u hv => slotFields_ok 1 v [2] u hv (by omega) (by omega) (by simp) (by intro n hn; rw [List.mem_singleton.1 hn]; exact ⟨by omega, by decide⟩))
  have HF6 := Lib.hid (fun v u hv => slotFields_ok 6 v [E] u hv (by omega) (by omega) (by simp) (by intro m hm; rw [List.mem_singleton.1 hm]; exact ⟨by omega, pow6 E hE.1 hE.2⟩))
  have HF2 := Lib.hid (fun v u hv => slotFields_ok 1 v [S, (l.length : Int)] u hv (by omega) (by omega) (by simp) (by
    intro m hm
    simp only [List.mem_cons, List.not_mem_nil, or_false] at hm
    rcases hm with rfl | rfl
    · exact ⟨by omega, pow1 _ (by omega) (by omega)⟩
    · exact ⟨by omega, pow1 _ (by omega) (by omega)⟩))
  have HFL := Lib.hid (fun v u hv => slotFields_ok 2 v l u hv (by omega) (by omega) (by omega) h5)
  have HSE := Lib.hid (fun u => slotSealed_any (headL E S l) u (by rw [headL_len]; omega))
  obtain ⟨M, hM⟩ : ∃ M, fieldsL (1 : Int).toNat [2] ++ fieldsL (6 : Int).toNat [E] = M := ⟨_, rfl⟩
  obtain ⟨M', hM'⟩ : ∃ M', M ++ fieldsL (1 : Int).toNat [S, (l.length : Int)] = M' := ⟨_, rfl⟩
  have hadd : ∀ u, (Op.stringOp .add ⟨(fieldsL (1 : Int).toNat [2]).toArray⟩ ⟨(fieldsL (6 : Int).toNat [E]).toArray⟩).run Tryz.prog u = .ok (.string ⟨M.toArray⟩) u :=
    add_run _ _ _ (by rw [← hM]; exact ba_app _ _) (by rw [ba_size, ba_size, fieldsL_len, fieldsL_len]; simp)
  have hadd2 : ∀ u, (Op.stringOp .add ⟨M.toArray⟩ ⟨(fieldsL (1 : Int).toNat [S, (l.length : Int)]).toArray⟩).run Tryz.prog u = .ok (.string ⟨M'.toArray⟩) u :=
    add_run _ _ _ (by rw [← hM']; exact ba_app _ _) (by rw [ba_size, ba_size, ← hM, List.length_append, fieldsL_len, fieldsL_len, fieldsL_len]; simp)
  have hadd3 : ∀ u, (Op.stringOp .add ⟨M'.toArray⟩ ⟨(fieldsL (2 : Int).toNat l).toArray⟩).run Tryz.prog u = .ok (.string ⟨(headL E S l).toArray⟩) u :=
    add_run _ _ _ (by show (ByteArray.mk (headL E S l).toArray) = _; rw [← ba_app]; unfold headL; rw [← hM', ← hM]; rfl) (by rw [ba_size, ba_size, ← hM', ← hM, List.length_append, List.length_append, fieldsL_len, fieldsL_len, fieldsL_len, fieldsL_len]; simp; omega)
  generalize (ByteArray.mk (fieldsL (1 : Int).toNat [2]).toArray) = F1 at *
  generalize (ByteArray.mk (fieldsL (6 : Int).toNat [E]).toArray) = F2 at *
  generalize (ByteArray.mk (fieldsL (1 : Int).toNat [S, (l.length : Int)]).toArray) = F4 at *
  generalize (ByteArray.mk (fieldsL (2 : Int).toNat l).toArray) = F6 at *
  generalize (ByteArray.mk (headL E S l).toArray) = F3 at *
  generalize (ByteArray.mk M.toArray) = F5 at *
  generalize (ByteArray.mk M'.toArray) = F7 at *
  generalize layS (headL E S l) = R at *
  have hA := heap_alloc_new w (.cells #[.int .i64 E, .int .i64 S, .slice a l.length cap] 67)
  have hw := (Below.refl w.heap.size w).alloc (Nat.le_refl _) (.cells #[.int .i64 E, .int .i64 S, .slice a l.length cap] 67)
  have HV := Lib.hid hv
  clear hM hM' hat hv h1 h2 h3 h5
  have hlI : (l.length : Int) ≤ 40 := by omega
  go_enter Tryz.func58, Tryz.ntmps58
  go_wp2_with fail
  refine (HE.out _).mono ?_
  rintro e w2 ⟨rfl, rfl⟩
  go_wp2_with fail
  refine (HP.out _).mono ?_
  rintro e w2 ⟨rfl, rfl⟩
  go_wp2_with fail
  refine (HT.out _ (HV.out.below hw)).mono ?_
  rintro e w3 ⟨rfl, hb3⟩
  have hA3 := (hb3.block _ (Array.getElem?_eq_some_iff.1 hA).1).trans hA
  have hw3 := hw.trans (hb3.mono hw.size)
  clear hA hw hb3 HE HP HT
  have HA := Lib.hid hA3
  have HB := Lib.hid (fun u (R : Prop) (hu : Below w3.heap.size w3 u ∧ R) => HV.out.below (keepE hw3 hu))
  have x0 := below_cell (Below.refl _ w3) hA3 0 rfl
  have x1 := below_cell (Below.refl _ w3) hA3 1 rfl
  have x2 := below_cell (Below.refl _ w3) hA3 2 rfl
  go_upto_region 3 with fail
  clear x0 x1 x2
  go_cut [4] (fun sv wx => sv = .string F3 ∧ Below w3.heap.size w3 wx)
  case first =>
    go_region_held3 (fun u => Below w3.heap.size w3 u ∧ u.cell? ⟨w.heap.size, 0, none⟩ = some (.int .i64 E) ∧ u.cell? ⟨w.heap.size, 1, none⟩ = some (.int .i64 S) ∧ u.cell? ⟨w.heap.size, 2, none⟩ = some (.slice a l.length cap))
      ((refine keepHd HA.out ?_; first | assumption | exact (Below.refl _ _).drew | exact keepA (by assumption) _ | exact keepC (by assumption) (by assumption)))
      (first
      | (go_at_call_of 68 (Value.int .i64 1); refine (HF1.out _ _ ?_).mono ?_; refine reads1_one ?_ ?_; (focus (repeat (first | assumption | ((with_reducible refine c_new ?_ ?_) <;> (first | rfl | ((repeat (first | rw [drew_size] | rw [World.size_alloc])); done) | ((repeat (first | rw [drew_size] | rw [World.size_alloc])); rfl))) | with_reducible refine c_drew ?_ | ((with_reducible refine c_old ?_ ?_); ((repeat (first | rw [drew_size] | rw [World.size_alloc])); omega)) | ((with_reducible refine c_call (by assumption) ?_ ?_); ((repeat (first | rw [drew_size] | rw [World.size_alloc])); omega))))); ((repeat (first | rw [drew_size] | rw [World.size_alloc])); omega); rintro e w4 ⟨rfl, hbw4⟩; have hzw4 := hbw4.size; (repeat (first | rw [drew_size] at hzw4 | rw [World.size_alloc] at hzw4)))
      | (go_at_call_of 68 (Value.int .i64 6); refine (HF6.out _ _ ?_).mono ?_; refine reads1_one ?_ ?_; (focus (repeat (first | assumption | ((with_reducible refine c_new ?_ ?_) <;> (first | rfl | ((repeat (first | rw [drew_size] | rw [World.size_alloc])); done) | ((repeat (first | rw [drew_size] | rw [World.size_alloc])); rfl))) | with_reducible refine c_drew ?_ | ((with_reducible refine c_old ?_ ?_); ((repeat (first | rw [drew_size] | rw [World.size_alloc])); omega)) | ((with_reducible refine c_call (by assumption) ?_ ?_); ((repeat (first | rw [drew_size] | rw [World.size_alloc])); omega))))); ((repeat (first | rw [drew_size] | rw [World.size_alloc])); omega); rintro e w5 ⟨rfl, hbw5⟩; have hzw5 := hbw5.size; (repeat (first | rw [drew_size] at hzw5 | rw [World.size_alloc] at hzw5)))
      | (go_at_call_of 68 (Value.int .i64 1); refine (HF2.out _ _ ?_).mono ?_; refine reads1_two ?_ ?_ ?_; (focus (repeat (first | assumption | ((with_reducible refine c_new ?_ ?_) <;> (first | rfl | ((repeat (first | rw [drew_size] | rw [World.size_alloc])); done) | ((repeat (first | rw [drew_size] | rw [World.size_alloc])); rfl))) | with_reducible refine c_drew ?_ | ((with_reducible refine c_old ?_ ?_); ((repeat (first | rw [drew_size] | rw [World.size_alloc])); omega)) | ((with_reducible refine c_call (by assumption) ?_ ?_); ((repeat (first | rw [drew_size] | rw [World.size_alloc])); omega))))); (focus (repeat (first | assumption | ((with_reducible refine c_new ?_ ?_) <;> (first | rfl | ((repeat (first | rw [drew_size] | rw [World.size_alloc])); done) | ((repeat (first | rw [drew_size] | rw [World.size_alloc])); rfl))) | with_reducible refine c_drew ?_ | ((with_reducible refine c_old ?_ ?_); ((repeat (first | rw [drew_size] | rw [World.size_alloc])); omega)) | ((with_reducible refine c_call (by assumption) ?_ ?_); ((repeat (first | rw [drew_size] | rw [World.size_alloc])); omega))))); ((repeat (first | rw [drew_size] | rw [World.size_alloc])); omega); rintro e w7 ⟨rfl, hbw7⟩; have hzw7 := hbw7.size; (repeat (first | rw [drew_size] at hzw7 | rw [World.size_alloc] at hzw7)))
      | (go_at_call_of 68 (Value.int .i64 2); refine (HFL.out _ _ (HB.out _ _ (by assumption))).mono ?_; rintro e w9 ⟨rfl, hb9⟩))
    all_goals
      go_wp2_with fail
      go_meet
      exact ⟨rfl, And.left (by assumption)⟩
  case rest =>
  obtain ⟨rfl, hb4⟩ := hcut
  go_wp2_with fail
  refine (HSE.out _).mono ?_
  rintro e w6 ⟨rfl, hb6⟩
  go_wp2_with fail
  go_ret2
  have hw6 := hw3.trans (hb4.mono hw3.size)
  exact ⟨rfl, hw6.trans (hb6.mono hw6.size)⟩
set_option maxRecDepth 100000 in
set_option maxHeartbeats 1000000 in
theorem slotHead_bad (E S : Int) (tv : Value) (l : List Int) (w : World) (hv : Reads1 encI w tv l) (h : headOk E S l = false) :
    Calls Tryz.prog 58 #[.agg #[.int .i64 E, .int .i64 S, tv]] w fun e w' => e = .returned (.tuple #[.string ⟨#[]⟩, .int .i64 1]) ∧ Below w.heap.size w w' := by
  obtain ⟨a, len, cap, rfl, hlen, hc1, hc2, hat⟩ := hv
  subst hlen
  have hv : Reads1 encI w (.slice a l.length cap) l := ⟨_, _, _, rfl, rfl, hc1, hc2, hat⟩
  have HE := Lib.hid (fun u => slotEpoch_any E u)
  have HP := Lib.hid (fun u => slotPlace_any S u)
  have HT := Lib.hid (fun u hu => slotTargets_any (.slice a l.length cap) l u hu)
  have HV := Lib.hid hv
  have hw := (Below.refl w.heap.size w).alloc (Nat.le_refl _) (.cells #[.int .i64 E, .int .i64 S, .slice a l.length cap] 67)
  unfold headOk at h
  generalize decide (1 ≤ E ∧ E ≤ 1099511627776) = b1 at *
  generalize decide (0 ≤ S ∧ S < 6) = b2 at *
  generalize okT l = b3 at *
  clear hat hv
  cases b1 with
  | false =>
    go_enter Tryz.func58, Tryz.ntmps58
    go_wp2_with fail
    refine (HE.out _).mono ?_
    rintro e w2 ⟨rfl, rfl⟩
    go_wp2_with fail
    go_ret2
    exact ⟨rfl, hw⟩
  | true =>
    cases b2 with
    | false =>
      go_enter Tryz.func58, Tryz.ntmps58
      go_wp2_with fail
      refine (HE.out _).mono ?_
      rintro e w2 ⟨rfl, rfl⟩
      go_wp2_with fail
      refine (HP.out _).mono ?_
      rintro e w2 ⟨rfl, rfl⟩
      go_wp2_with fail
      go_ret2
      exact ⟨rfl, hw⟩
    | true =>
      cases b3 with
      | true => simp at h
      | false =>
        go_enter Tryz.func58, Tryz.ntmps58
        go_wp2_with fail
        refine (HE.out _).mono ?_
        rintro e w2 ⟨rfl, rfl⟩
        go_wp2_with fail
        refine (HP.out _).mono ?_
        rintro e w2 ⟨rfl, rfl⟩
        go_wp2_with fail
        refine (HT.out _ (HV.out.below hw)).mono ?_
        rintro e w3 ⟨rfl, hb3⟩
        go_wp2_with fail
        go_ret2
        exact ⟨rfl, hw.trans (hb3.mono hw.size)⟩
end SSlotH
end Go.Proofs.YthnmnnlbglpjaaaGreatDoor
