/- The walk of CrcThree. -/
import Derived.Test.YtbndhegmfnfahaaCrcLaw
import Derived.Test.YtbndhegmfnfahaaCrcMore
import Derived.StillTailTactics
namespace Go.Proofs.Ytbndhegmfnfahaa.lawCrcThree
open Go.RowKit
set_option linter.unusedVariables false

theorem run_min4 {P : Program} (ts : Array TypeId) (t : TypeId) (a b c : Nat) (d : Int) (hd : 0 ≤ d) (w : World) :
    (Builtin.min_ ts t #[.int .i64 (a : Int), .int .i64 (b : Int), .int .i64 (c : Int), .int .i64 d]).run P w = .ok (.int .i64 ((min (min (min a b) c) d.toNat : Nat) : Int)) w := by
  have e : (if d < (if (c : Int) < (if (b : Int) < (a : Int) then (b : Int) else (a : Int)) then (c : Int) else (if (b : Int) < (a : Int) then (b : Int) else (a : Int))) then d
      else (if (c : Int) < (if (b : Int) < (a : Int) then (b : Int) else (a : Int)) then (c : Int) else (if (b : Int) < (a : Int) then (b : Int) else (a : Int)))) = ((min (min (min a b) c) d.toNat : Nat) : Int) := by
    by_cases h1 : (b : Int) < (a : Int)
    · rw [if_pos h1]
      by_cases h2 : (c : Int) < (b : Int)
      · rw [if_pos h2]; by_cases h3 : d < (c : Int)
        · rw [if_pos h3]; omega
        · rw [if_neg h3]; omega
      · rw [if_neg h2]; by_cases h3 : d < (b : Int)
        · rw [if_pos h3]; omega
        · rw [if_neg h3]; omega
    · rw [if_neg h1]
      by_cases h2 : (c : Int) < (a : Int)
      · rw [if_pos h2]; by_cases h3 : d < (c : Int)
        · rw [if_pos h3]; omega
        · rw [if_neg h3]; omega
      · rw [if_neg h2]; by_cases h3 : d < (a : Int)
        · rw [if_pos h3]; omega
        · rw [if_neg h3]; omega
  rw [← e]
  simp only [Builtin.min_, List.foldlM, Builtin.min2]
  simp

def three (a b c : ByteArray) (i : Nat) : List UInt8 := xor3 (a.data.toList.take i) (b.data.toList.take i) (c.data.toList.take i)
theorem take_len (a : ByteArray) (i : Nat) (h : i ≤ a.size) : (a.data.toList.take i).length = i := by
  rw [List.length_take, ba_len]; omega
theorem three_length (a b c : ByteArray) (i : Nat) (ha : i ≤ a.size) (hb : i ≤ b.size) (hc : i ≤ c.size) : (three a b c i).length = i := by
  rw [three, xor3_length _ _ _ (by rw [take_len a i ha, take_len b i hb]) (by rw [take_len b i hb, take_len c i hc]), take_len a i ha]
theorem xor3_append (a b c : List UInt8) (x y z : UInt8) (h1 : a.length = b.length) (h2 : b.length = c.length) : xor3 (a ++ [x]) (b ++ [y]) (c ++ [z]) = xor3 a b c ++ [x ^^^ y ^^^ z] := by
  unfold xor3
  rw [List.zip_append h2, List.zip_append (by rw [List.length_zip]; omega)]
  simp
theorem three_snoc (a b c : ByteArray) (i : Nat) (ha : i < a.size) (hb : i < b.size) (hc : i < c.size) : three a b c (i + 1) = three a b c i ++ [a[i] ^^^ b[i] ^^^ c[i]] := by
  unfold three
  rw [List.take_succ_eq_append_getElem (by rw [ba_len]; exact ha), List.take_succ_eq_append_getElem (by rw [ba_len]; exact hb), List.take_succ_eq_append_getElem (by rw [ba_len]; exact hc),
    xor3_append _ _ _ _ _ _ (by rw [take_len a i (by omega), take_len b i (by omega)]) (by rw [take_len b i (by omega), take_len c i (by omega)])]
  rfl
def bytesV (l : List UInt8) : List Value := l.map fun x => Value.int .u8 x.toNat
theorem sum_three_at (a b c : ByteArray) (n : Nat) (ha : n ≤ a.size) (hb : n ≤ b.size) (hc : n ≤ c.size) :
    sumB ⟨(three a b c n).toArray⟩ = sumB (a.extract 0 n) ^^^ sumB (b.extract 0 n) ^^^ sumB (c.extract 0 n) := by
  have h := sum_three (a.data.toList.take n) (b.data.toList.take n) (c.data.toList.take n) (by rw [take_len a n ha, take_len b n hb]) (by rw [take_len b n hb, take_len c n hc])
  simp only [sumB, ba_extract_list, List.drop_zero, Nat.sub_zero]
  exact h

theorem walk (a0 a1 a2 : ByteArray) (w : World) (w0 : a0.size ≤ maxLen) (w1 : a1.size ≤ maxLen) (w2 : a2.size ≤ maxLen) :
    Calls Try.prog 5 #[.string a0, .string a1, .string a2] w fun e w' => e = .returned (.bool true) ∧ Below w.heap.size w w' := by
  have hs0 : a0.size ≤ 9223372036854775807 := w0
  have hs1 : a1.size ≤ 9223372036854775807 := w1
  have hs2 : a2.size ≤ 9223372036854775807 := w2
  obtain ⟨i0, hi, hz0, hz1, hz2⟩ := info_parts infoU8
  have hm4 := fun u : World => run_min4 (P := Try.prog) #[3, 3, 3, 3] 3 a0.size a1.size a2.size 4000 (by omega) u
  obtain ⟨n, en⟩ : ∃ n, n = min (min (min a0.size a1.size) a2.size) (4000 : Int).toNat := ⟨_, rfl⟩
  rw [← en] at hm4
  have n0 : n ≤ a0.size := by omega
  have n1 : n ≤ a1.size := by omega
  have n2 : n ≤ a2.size := by omega
  have n3 : n ≤ 4000 := by omega
  clear w0 w1 w2 en
  have n0I : (n : Int) ≤ a0.size := by omega
  have n1I : (n : Int) ≤ a1.size := by omega
  have n2I : (n : Int) ≤ a2.size := by omega
  have n3I : (n : Int) ≤ 4000 := by omega
  have hmk : ∀ u : World, (Instr.makeSlice 32 (.int .i64 (n : Int)) (.int .i64 (n : Int))).run Try.prog u =
      .ok (.slice (some ⟨u.heap.size, 0, none⟩) n n) (u.alloc (.cells (madeCells #[.int .u8 0] n) 5)) := fun u => by
    have h := run_make (P := Try.prog) u 32 5 i0 (.int .u8 0) Try.underlying32 hi hz0 .i64 .i64 (n : Int) (n : Int) (by omega) (Int.le_refl _) (by rw [hz2]; omega) (by omega)
    simpa [hz1, Value.cells] using h
  go_enter Try.func5, Try.ntmps5
  go_wp2_with fail
  clear hm4 hmk
  go_loopw [21] (fun c wr => ∃ i : Nat, i ≤ n ∧ c = .int .i64 i ∧ wr.heap[w.heap.size]? = some (.cells (fill (bytesV (three a0 a1 a2 i)) (.int .u8 0) n) 5 (0, 0)) ∧ Below w.heap.size w wr) (fun c _ => n - (intOf c).toNat)
  case atStart => exact ⟨0, by omega, rfl, by rw [heap_alloc_new, fill_zero]; rfl, (Below.refl _ _).alloc (Nat.le_refl _) _⟩
  case round =>
    obtain ⟨i, hi, rfl, hblk, hbel⟩ := hrel
    by_cases hlt : i < n
    · have hl : (bytesV (three a0 a1 a2 i)).length = i := by simp [bytesV, three_length a0 a1 a2 i (by omega) (by omega) (by omega)]
      have hg := fill_get (bytesV (three a0 a1 a2 i)) (.int .u8 0) n (by omega)
      rw [hl] at hg
      have hcell : wr.cell? ⟨w.heap.size, i, none⟩ = some (.int .u8 0) := by rw [cell_of_row _ _ i _ _ _ hblk]; exact hg
      have hfro : wr.frozen? ⟨w.heap.size, i, none⟩ = false := frozen_of_row _ _ i _ _ hblk
      have i0 : i < a0.size := by omega
      have i1 : i < a1.size := by omega
      have i2 : i < a2.size := by omega
      have HB := Lib.hid hblk
      have hb0 := UInt8.toNat_lt a0[i]
      have hb1 := UInt8.toNat_lt a1[i]
      have hb2 := UInt8.toNat_lt a2[i]
      have hx1 := u8_xor_nat a0[i].toNat a1[i].toNat hb0 hb1
      have hx2 := u8_xor_nat (a0[i].toNat ^^^ a1[i].toNat) a2[i].toNat (Nat.xor_lt_two_pow (n := 8) hb0 hb1) hb2
      have hx3 : (a0[i] ^^^ a1[i] ^^^ a2[i]).toNat = a0[i].toNat ^^^ a1[i].toNat ^^^ a2[i].toNat := by simp [UInt8.toNat_xor]
      rw [← hx3] at hx2
      have hsn := three_snoc a0 a1 a2 i i0 i1 i2
      have hset := fill_set (bytesV (three a0 a1 a2 i)) (.int .u8 0) (.int .u8 (a0[i] ^^^ a1[i] ^^^ a2[i]).toNat) n (by omega)
      rw [hl] at hset
      have hbv : bytesV (three a0 a1 a2 i) ++ [.int .u8 (a0[i] ^^^ a1[i] ^^^ a2[i]).toNat] = bytesV (three a0 a1 a2 (i + 1)) := by rw [hsn]; simp [bytesV]
      rw [hbv] at hset
      have HSET := Lib.hid hset
      clear hblk hg hl hb0 hb1 hb2 hx3 hsn hset hbv
      generalize (a0[i] ^^^ a1[i] ^^^ a2[i]).toNat = q at *
      generalize a0[i].toNat ^^^ a1[i].toNat = p at *
      go_wp2_with fail
      go_still_tail 14, (by kernel_rfl)
      go_wp2_with fail
      go_roundw
      case rel =>
        refine ⟨i + 1, by omega, by go_num, ?_, ?_⟩
        · rw [heap_drew, heap_setCell_same _ _ _ _ _ _ HB.out, HSET.out]
        · exact (hbel.setCell (Nat.le_refl _) _).drew
      case measure => simp [intOf]; omega
    · obtain rfl : i = n := by omega
      have hl : (bytesV (three a0 a1 a2 i)).length = i := by simp [bytesV, three_length a0 a1 a2 i (by omega) (by omega) (by omega)]
      rw [fill_full _ _ _ hl] at hblk
      have hcv : ∀ x : KeepT wr, (convert 32 9 (.slice (some ⟨w.heap.size, 0, none⟩) i i)).run Try.prog x.val = .ok (.string ⟨(three a0 a1 a2 i).toArray⟩) x.val := fun x =>
        block_string (P := Try.prog) (three a0 a1 a2 i) i (by simpa [bytesV] using hl) (by rw [x.below.block _ (lt_of_block hblk)]; exact hblk) Try.underlying32 Try.underlying5 Try.underlying9
      have hsum := sum_three_at a0 a1 a2 i n0 n1 n2
      obtain ⟨X, eX⟩ : ∃ X, a0.extract 0 i = X := ⟨_, rfl⟩
      obtain ⟨Y, eY⟩ : ∃ Y, a1.extract 0 i = Y := ⟨_, rfl⟩
      obtain ⟨Z, eZ⟩ : ∃ Z, a2.extract 0 i = Z := ⟨_, rfl⟩
      rw [eX, eY, eZ] at hsum
      have zX : X.size ≤ 4000 := by rw [← eX, ByteArray.size_extract]; omega
      have zY : Y.size ≤ 4000 := by rw [← eY, ByteArray.size_extract]; omega
      have zZ : Z.size ≤ 4000 := by rw [← eZ, ByteArray.size_extract]; omega
      have zT : (ByteArray.mk (three a0 a1 a2 i).toArray).size ≤ 4000 := by rw [ba_size]; simp [bytesV] at hl; omega
      have hx1 := u32_xor_nat (sumB X) (sumB Y) (sumL_lt _) (sumL_lt _)
      have hx2 := u32_xor_nat (sumB X ^^^ sumB Y) (sumB Z) (Nat.xor_lt_two_pow (n := 32) (sumL_lt _) (sumL_lt _)) (sumL_lt _)
      have hbr := Below.refl wr.heap.size wr
      rw [← hsum] at hx2
      clear hl hblk hsum
      generalize ByteArray.mk (three a0 a1 a2 i).toArray = T at *
      generalize hq1 : sumB X ^^^ sumB Y = q1 at *
      clear hq1
      go_wp2_with fail
      refine wp_region_keep (w0 := wr) (by kernel_rfl) (by kernel_rfl) hbr ?_
      repeat (go_big_quiet_step ((first | (go_at_call 18; exact keepCall (crcAlive _)) | (go_at_call 19; exact keepCall (crcOf_b _ _ (by omega))))))
      refine wpQuiet_nil ?_
      intro _ hw'
      obtain ⟨x, rfl⟩ := hw'
      have hz := x.below
      clear hcv
      generalize x.val = wz at *
      go_wp2
      go_ret
      exact ⟨rfl, hbel.trans (hz.mono hbel.size)⟩
end Go.Proofs.Ytbndhegmfnfahaa.lawCrcThree
