/- crc.Of. -/
import Derived.Test.YthnmnnlbglpjaaaDoorCrcPlain
import Derived.Test.YthnmnnlbglpjaaaDoorGen
import Derived.Test.YthnmnnlbglpjaaaDoorRows
namespace Go.Proofs.YthnmnnlbglpjaaaDoor
open Go.RowKit
set_option linter.unusedVariables false

theorem xorPoly (x : Nat) (h : x < 4294967296) : bits BinOp.xor IntKind.u32 ((x : Int) / 2) 3988292384 = ((x / 2 ^^^ 3988292384 : Nat) : Int) := by
  have := u32_xor_nat (x / 2) 3988292384 (by omega) (by omega)
  rw [← this]; congr 1
theorem stepB_odd {x : Nat} (h : x % 2 = 1) : stepB x = x / 2 ^^^ 3988292384 := by unfold stepB; rw [if_pos h]
theorem stepB_even {x : Nat} (h : ¬ x % 2 = 1) : stepB x = x / 2 := by unfold stepB; rw [if_neg h]

theorem fill_any (n B : Nat) (w : World) (u : Value) (hn : n < 16) (hc : w.cell? ⟨B, n, none⟩ = some u) (hf : w.frozen? ⟨B, n, none⟩ = false) :
    Calls Tryd.prog 88 #[.int .u32 n, .pointer (some ⟨B, 0, none⟩)] w fun e w' => e = .returned (.tuple #[]) ∧ w' = w.setCell ⟨B, n, none⟩ (.int .u32 (stepN 4 n : Nat)) := by
  go_enter Tryd.func88, Tryd.ntmps88
  go_wp2_with fail
  go_loop [3, 5] (fun s c => ∃ j : Nat, j ≤ 4 ∧ c = .int .i64 j ∧ s = .int .u32 (stepN j n : Nat)) (fun _ c => 4 - (intOf c).toNat)
  case atStart => exact ⟨0, by omega, rfl, rfl⟩
  case round =>
    obtain ⟨j, hj, rfl, rfl⟩ := hrel
    by_cases hlt : j < 4
    · have hx := stepN_lt j (show n < 4294967296 by omega)
      have HS := Lib.hid (stepN_succ j n)
      obtain ⟨x, hxe⟩ : ∃ x, x = stepN j n := ⟨_, rfl⟩
      rw [← hxe] at hx HS ⊢
      clear hxe
      by_cases ho : x % 2 = 1
      · have hod : ((x : Int) % 2 == 1) = true := beq_iff_eq.2 (by omega)
        have HX := Lib.hid (xorPoly x hx)
        have HB := Lib.hid (stepB_odd ho)
        have hxI : (x : Int) ≤ 4294967295 := by omega
        clear ho
        go_wp2
        go_round
        case rel => exact ⟨j + 1, by omega, by go_num, by rw [HX.out, ← HB.out, ← HS.out]⟩
        case measure => simp [intOf]; omega
      · have hod : ((x : Int) % 2 == 1) = false := beq_eq_false_iff_ne.2 (by omega)
        have HB := Lib.hid (stepB_even ho)
        have hxI : (x : Int) ≤ 4294967295 := by omega
        clear ho
        go_wp2
        go_round
        case rel => exact ⟨j + 1, by omega, by go_num, by rw [HS.out, HB.out]; simp⟩
        case measure => simp [intOf]; omega
    · obtain rfl : j = 4 := by omega
      go_wp2
      go_end0
      exact ⟨rfl, rfl⟩

def tabCells (i : Nat) : Array Value := (((List.range 16).map fun k => Value.int .u32 (if k < i then (stepN 4 k : Nat) else 0))).toArray
theorem tabCells_get (i k : Nat) (hk : k < 16) : (tabCells i)[k]? = some (.int .u32 (if k < i then (stepN 4 k : Nat) else 0)) := by
  simp [tabCells, hk]
theorem tabCells_set (i : Nat) (hi : i < 16) : (tabCells i).setIfInBounds i (.int .u32 (stepN 4 i : Nat)) = tabCells (i + 1) := by
  apply Array.ext
  · simp [tabCells]
  · intro k h1 h2
    simp only [tabCells, List.setIfInBounds_toArray, List.getElem_toArray, List.getElem_set, List.getElem_map, List.getElem_range]
    by_cases hk : i = k
    · subst hk; simp
    · simp [hk, show (k < i + 1) ↔ k < i from by omega]

theorem halves_any (w : World) : Calls Tryd.prog 80 #[] w fun e w' => e = .returned (.agg (tabCells 16)) ∧ Below w.heap.size w w' := by
  have hz : (tabCells 0) = #[.int .u32 0, .int .u32 0, .int .u32 0, .int .u32 0, .int .u32 0, .int .u32 0, .int .u32 0, .int .u32 0, .int .u32 0, .int .u32 0, .int .u32 0, .int .u32 0, .int .u32 0, .int .u32 0, .int .u32 0, .int .u32 0] := rfl
  have HZ := Lib.hid hz
  clear hz
  go_enter Tryd.func80, Tryd.ntmps80
  go_wp2_with fail
  rw [← HZ.out]
  go_loopw [5] (fun c wr => ∃ i : Nat, i ≤ 16 ∧ c = .int .u32 i ∧ wr = (w.alloc (.cells (tabCells 0) 127)).alloc (.cells (tabCells i) 127)) (fun c _ => 16 - (intOf c).toNat)
  case atStart => exact ⟨0, by omega, rfl, rfl⟩
  case round =>
    obtain ⟨i, hi, rfl, rfl⟩ := hrel
    by_cases hlt : i < 16
    · have HS := Lib.hid (tabCells_set i hlt)
      have HG := Lib.hid (tabCells_get i i hlt)
      go_wp2_with fail
      refine (fill_any i (w.heap.size + 1) _ _ hlt (by rw [World.cell?_alloc_at (hn := by simp)]; exact HG.out) (by rw [World.frozen?_alloc_at (hn := by simp)])).mono ?_
      rintro e w1 ⟨rfl, rfl⟩
      rw [World.setCell_alloc_at (hn := by simp), HS.out]
      go_wp2_with fail
      go_roundw
      case rel => exact ⟨i + 1, by omega, by go_num, rfl⟩
      case measure => simp [intOf]; omega
    · obtain rfl : i = 16 := by omega
      have hsz : (tabCells 16).size = 16 := by simp [tabCells]
      have h1 : ((w.alloc (.cells (tabCells 0) 127)).alloc (.cells (tabCells 16) 127)).heap[w.heap.size + 1]? = some (.cells (tabCells 16) 127 (0, 0)) := heap_alloc2_new w _ _
      have h0 : ((w.alloc (.cells (tabCells 0) 127)).alloc (.cells (tabCells 16) 127)).heap[w.heap.size]? = some (.cells (tabCells 0) 127 (0, 0)) := heap_alloc2_old w _ _
      have hone : (tabCells 16).all (·.oneCell') = true := by decide +kernel
      have H1 := Lib.hid h1; have H0 := Lib.hid h0
      clear h1 h0
      go_wp2_with (first | (refine wpList_load_row rfl 127 _ rfl (w.heap.size + 1) rfl 127 (tabCells 16) (0, 0) _ H1.out Tryd.underlying127 rfl (by kernel_rfl) ?_) | (refine wpList_store_row rfl 127 _ _ rfl w.heap.size (tabCells 16) rfl rfl 127 (tabCells 0) H0.out (by kernel_rfl) rfl hone ?_))
      have hh : (((w.alloc (.cells (tabCells 0) 127)).alloc (.cells (tabCells 16) 127)).setRow w.heap.size (tabCells 16)).heap[w.heap.size]? = some (.cells (tabCells 16) 127 (0, 0)) :=
        setRow_heap _ _ _ _ _ _ H0.out
      refine bodyPost_ret (v := .agg (tabCells 16)) (results_cell_row rfl _ _ w.heap.size 127 (tabCells 16) (0, 0) _ rfl hh Tryd.underlying127 rfl (by kernel_rfl)) rfl ⟨rfl, ?_⟩
      exact below_setRow (((Below.refl _ _).alloc (Nat.le_refl _) _).alloc (by simp) _) (Nat.le_refl _) _

/-- two halves of a byte, by the table -/
def nib (r : Nat) : Nat := stepN 4 (r % 16) ^^^ r / 16
theorem byte_nib (r b : Nat) : byteB r b = nib (nib (r ^^^ b)) := by
  unfold byteB nib
  rw [show (8 : Nat) = 4 + 4 from rfl, stepN_add, stepN_split 4 (r ^^^ b)]
  exact stepN_split 4 _
theorem nib_lt {r : Nat} (h : r < 4294967296) : nib r < 4294967296 := by
  have := stepN_lt 4 h
  rwa [stepN_split] at this
theorem nib_walk (r : Nat) (h : r < 4294967296) :
    bits BinOp.xor IntKind.u32 ((stepN 4 (r % 16) : Nat) : Int) ((r : Int) / 16) = (nib r : Nat) := by
  have h1 := stepN_lt 4 (show r % 16 < 4294967296 by omega)
  have := u32_xor_nat (stepN 4 (r % 16)) (r / 16) h1 (by omega)
  unfold nib
  rw [← this]; congr 1

theorem crcOf_any (s : ByteArray) (w : World) (hs : s.size ≤ 9223372036854775807) :
    Calls Tryd.prog 72 #[.string s] w fun e w' => e = .returned (.int .u32 (sumL s.data.toList : Nat)) ∧ Below w.heap.size w w' := by
  have hone : (tabCells 16).all (·.oneCell') = true := by decide +kernel
  go_enter Tryd.func72, Tryd.ntmps72
  go_wp2_with fail
  refine (halves_any _).mono ?_
  rintro e w1 ⟨rfl, hb1⟩
  go_wp2_with (first | (refine wpList_store_row rfl 127 _ _ rfl w1.heap.size (tabCells 16) rfl rfl 127 _ (heap_alloc_new w1 _) (by kernel_rfl) rfl hone ?_))
  have hW : ∀ k, k < 16 → ((w1.alloc (.cells (tabCells 0) 127)).setRow w1.heap.size (tabCells 16)).cell? ⟨w1.heap.size, k, none⟩ = some (.int .u32 (stepN 4 k : Nat)) := by
    intro k hk
    rw [cell_of_row _ _ k _ _ _ (setRow_heap _ _ _ _ _ _ (heap_alloc_new w1 _)), tabCells_get 16 k hk, if_pos hk]
  have hb2 : Below w.heap.size w ((w1.alloc (.cells (tabCells 0) 127)).setRow w1.heap.size (tabCells 16)) :=
    below_setRow (hb1.alloc hb1.size _) hb1.size _
  change Code.wp _ _ _ _ ((w1.alloc (.cells (tabCells 0) 127)).setRow w1.heap.size (tabCells 16))
  have HW := Lib.hid hW
  clear hW
  generalize (w1.alloc (.cells (tabCells 0) 127)).setRow w1.heap.size (tabCells 16) = W2 at *
  generalize w1.heap.size = B at *
  go_loop [4, 9] (fun x c => ∃ i : Nat, i ≤ s.size ∧ c = .int .i64 i ∧ x = .int .u32 (regL ones (s.data.toList.take i) : Nat)) (fun _ c => s.size - (intOf c).toNat)
  case atStart => exact ⟨0, by omega, rfl, rfl⟩
  case round =>
    obtain ⟨i, hi, rfl, rfl⟩ := hrel
    by_cases hlt : i < s.size
    · have hr := regL_lt ones_lt (s.data.toList.take i)
      have hsn : regL ones (s.data.toList.take (i + 1)) = byteB (regL ones (s.data.toList.take i)) s[i].toNat := by
        rw [List.take_succ_eq_append_getElem (by rw [ba_len]; exact hlt), regL_append]; rfl
      have hb : s[i].toNat < 256 := UInt8.toNat_lt _
      have hx := Nat.xor_lt_two_pow (n := 32) hr (show s[i].toNat < 2 ^ 32 by omega)
      have hxor := u32_xor_nat (regL ones (s.data.toList.take i)) s[i].toNat hr (by omega)
      obtain ⟨x0, e0⟩ : ∃ x0 : Nat, x0 = regL ones (s.data.toList.take i) ^^^ s[i].toNat := ⟨_, rfl⟩
      obtain ⟨x1, e1⟩ : ∃ x1 : Nat, x1 = nib x0 := ⟨_, rfl⟩
      rw [← e0] at hx hxor
      have hx1 := nib_lt hx
      have hn0 := nib_walk x0 hx
      have hn1 := nib_walk x1 (by rw [e1]; exact hx1)
      rw [← e1] at hn0 hx1
      have hlast : byteB (regL ones (s.data.toList.take i)) s[i].toNat = nib x1 := by rw [byte_nib, ← e0, e1]
      rw [hlast] at hsn
      have hc0 := HW.out (x0 % 16) (by omega)
      have hc1 := HW.out (x1 % 16) (by omega)
      obtain ⟨q0, f0⟩ : ∃ q : Nat, q = x0 % 16 := ⟨_, rfl⟩
      obtain ⟨q1, f1⟩ : ∃ q : Nat, q = x1 % 16 := ⟨_, rfl⟩
      rw [← f0] at hc0 hn0
      rw [← f1] at hc1 hn1
      have hq0 : (x0 : Int) % 16 = (q0 : Int) := by omega
      have hq1 : (x1 : Int) % 16 = (q1 : Int) := by omega
      have hq0l : (q0 : Int) < 16 := by omega
      have hq1l : (q1 : Int) < 16 := by omega
      have hx0I : (x0 : Int) ≤ 4294967295 := by omega
      have hx1I : (x1 : Int) ≤ 4294967295 := by omega
      have hbI : (s[i].toNat : Int) ≤ 255 := by omega
      have hrI : ((regL ones (s.data.toList.take i) : Nat) : Int) ≤ 4294967295 := by omega
      have HS := Lib.hid hsn
      clear hsn hlast e0 e1 f0 f1 hx hx1 hr hb
      generalize nib x1 = x2 at *
      go_wp2_with fail
      go_roundw
      case rel => exact ⟨i + 1, by omega, by go_num, by rw [HS.out]⟩
      case measure => simp [intOf]; omega
    · obtain rfl : i = s.size := by omega
      have hall : s.data.toList.take s.size = s.data.toList := List.take_of_length_le (by rw [ba_len]; omega)
      have hr := regL_lt ones_lt s.data.toList
      have hs : bits BinOp.xor IntKind.u32 IntKind.u32.max ((regL ones s.data.toList : Nat) : Int) = (sumL s.data.toList : Nat) := u32_xor_nat ones _ ones_lt hr
      rw [hall]
      have hrI : ((regL ones s.data.toList : Nat) : Int) ≤ 4294967295 := by omega
      have HS := Lib.hid hs
      clear hall hr hs
      go_wp2_with fail
      go_ret
      exact ⟨congrArg (fun n => Ending.returned (Value.int .u32 n)) HS.out, hb2⟩
/-- a text's sum, closed -/
def sumB (s : ByteArray) : Nat := sumL s.data.toList
theorem crcOf_b (s : ByteArray) (w : World) (hs : s.size ≤ 9223372036854775807) :
    Calls Tryd.prog 72 #[.string s] w fun e w' => e = .returned (.int .u32 (sumB s : Nat)) ∧ Below w.heap.size w w' := crcOf_any s w hs
end Go.Proofs.YthnmnnlbglpjaaaDoor
