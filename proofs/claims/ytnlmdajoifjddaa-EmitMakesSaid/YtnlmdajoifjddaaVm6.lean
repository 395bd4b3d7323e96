/- The machine's sums. -/
import Derived.Test.YtnlmdajoifjddaaVm5
import Derived.Laws.BitsAllLaws
namespace Go.Proofs.Ytnlmdajoifjddaa
open Go.RowKit
set_option linter.unusedVariables false

def sumV (c a v : Nat) : Nat :=
  if c = 4 then (a + v) % 4294967296 else if c = 20 then (a + (4294967296 - v)) % 4294967296 else if c = 36 then a * v % 4294967296
  else if c = 52 then a / v else if c = 68 then a ||| v else if c = 84 then a &&& v else if c = 164 then a ^^^ v
  else if c = 100 then a * 2 ^ (v % 32) % 4294967296 else if c = 116 then a / 2 ^ (v % 32) else (4294967296 - a) % 4294967296
def sumD (c a v : Nat) : Deed := if c = 52 ∧ v = 0 then .answer 0 else .setA (sumV c a v)
theorem e36 (a v : Nat) : (a : Int) * v % 4294967296 = ((a * v % 4294967296 : Nat) : Int) := by rw [Int.natCast_emod, Int.natCast_mul]; rfl
theorem e100 (a v : Nat) : (a : Int) * 2 ^ (v % 32) % 4294967296 = ((a * 2 ^ (v % 32) % 4294967296 : Nat) : Int) := by rw [Int.natCast_emod, Int.natCast_mul, Int.natCast_pow]; rfl
theorem e116 (a v : Nat) : (a : Int) / 2 ^ (v % 32) = ((a / 2 ^ (v % 32) : Nat) : Int) := by rw [Int.natCast_ediv, Int.natCast_pow]; rfl
theorem e52 (a v : Nat) (ha : a ≤ 4294967295) : (a : Int) / (v : Int) % 4294967296 = ((a / v : Nat) : Int) := by
  have h5 : a / v ≤ a := Nat.div_le_self a v
  rw [← Int.natCast_ediv]
  generalize a / v = q at *
  omega
set_option maxRecDepth 100000 in
theorem vm_sum4 (rec : ByteArray) (n : Nat) (m : Mach) (B v : Nat) (w : World) (hM : IsM w B rec n m) (ha : m.a ≤ 4294967295) (hv : v ≤ 4294967295) :
    Calls Try.prog 36 #[.pointer (some ⟨B, 0, none⟩), .int .i64 4, .int .u32 (v : Int)] w (Mk w B (sumD 4 m.a v)) := by
  have hD : sumD 4 m.a v = .setA ((m.a + v) % 4294967296) := rfl
  rw [hD]
  clear hD
  have hB : B < w.heap.size := (Array.getElem?_eq_some_iff.1 hM.blk).1
  obtain ⟨_, m1, m2, _⟩ := hM.facts
  have hvI : (v : Int) ≤ 4294967295 := by omega
  have haI : (m.a : Int) ≤ 4294967295 := by omega
  clear hM
  generalize m.a = a at *
  have hE := Lib.hid (show ((a : Int) + v) % 4294967296 = (((a + v) % 4294967296 : Nat) : Int) from by omega)
  go_enter Try.func36, Try.ntmps36
  go_wp2_with fail
  rw [hE.out]
  go_at_call 42
  refine (vm_toA B _ _ hB).mono ?_
  rintro e w5 ⟨⟨f, rfl, hf⟩, hb5⟩
  have HF := Lib.hid hf
  have HB5 := Lib.hid hb5
  clear hf hb5
  go_wp2_with fail
  go_ret
  exact ⟨⟨f, rfl, HF.out⟩, HB5.out⟩
set_option maxRecDepth 100000 in
theorem vm_sum20 (rec : ByteArray) (n : Nat) (m : Mach) (B v : Nat) (w : World) (hM : IsM w B rec n m) (ha : m.a ≤ 4294967295) (hv : v ≤ 4294967295) :
    Calls Try.prog 36 #[.pointer (some ⟨B, 0, none⟩), .int .i64 20, .int .u32 (v : Int)] w (Mk w B (sumD 20 m.a v)) := by
  have hD : sumD 20 m.a v = .setA ((m.a + (4294967296 - v)) % 4294967296) := rfl
  rw [hD]
  clear hD
  have hB : B < w.heap.size := (Array.getElem?_eq_some_iff.1 hM.blk).1
  obtain ⟨_, m1, m2, _⟩ := hM.facts
  have hvI : (v : Int) ≤ 4294967295 := by omega
  have haI : (m.a : Int) ≤ 4294967295 := by omega
  clear hM
  generalize m.a = a at *
  have hE := Lib.hid (show ((a : Int) - v) % 4294967296 = (((a + (4294967296 - v)) % 4294967296 : Nat) : Int) from by omega)
  go_enter Try.func36, Try.ntmps36
  go_wp2_with fail
  rw [hE.out]
  go_at_call 42
  refine (vm_toA B _ _ hB).mono ?_
  rintro e w5 ⟨⟨f, rfl, hf⟩, hb5⟩
  have HF := Lib.hid hf
  have HB5 := Lib.hid hb5
  clear hf hb5
  go_wp2_with fail
  go_ret
  exact ⟨⟨f, rfl, HF.out⟩, HB5.out⟩
set_option maxRecDepth 100000 in
theorem vm_sum36 (rec : ByteArray) (n : Nat) (m : Mach) (B v : Nat) (w : World) (hM : IsM w B rec n m) (ha : m.a ≤ 4294967295) (hv : v ≤ 4294967295) :
    Calls Try.prog 36 #[.pointer (some ⟨B, 0, none⟩), .int .i64 36, .int .u32 (v : Int)] w (Mk w B (sumD 36 m.a v)) := by
  have hD : sumD 36 m.a v = .setA (m.a * v % 4294967296) := rfl
  rw [hD]
  clear hD
  have hB : B < w.heap.size := (Array.getElem?_eq_some_iff.1 hM.blk).1
  obtain ⟨_, m1, m2, _⟩ := hM.facts
  have hvI : (v : Int) ≤ 4294967295 := by omega
  have haI : (m.a : Int) ≤ 4294967295 := by omega
  clear hM
  generalize m.a = a at *
  have hE := Lib.hid (show (a : Int) * v % 4294967296 = ((a * v % 4294967296 : Nat) : Int) from e36 a v)
  go_enter Try.func36, Try.ntmps36
  go_wp2_with fail
  rw [hE.out]
  go_at_call 42
  refine (vm_toA B _ _ hB).mono ?_
  rintro e w5 ⟨⟨f, rfl, hf⟩, hb5⟩
  have HF := Lib.hid hf
  have HB5 := Lib.hid hb5
  clear hf hb5
  go_wp2_with fail
  go_ret
  exact ⟨⟨f, rfl, HF.out⟩, HB5.out⟩
set_option maxRecDepth 100000 in
theorem vm_sum68 (rec : ByteArray) (n : Nat) (m : Mach) (B v : Nat) (w : World) (hM : IsM w B rec n m) (ha : m.a ≤ 4294967295) (hv : v ≤ 4294967295) :
    Calls Try.prog 36 #[.pointer (some ⟨B, 0, none⟩), .int .i64 68, .int .u32 (v : Int)] w (Mk w B (sumD 68 m.a v)) := by
  have hD : sumD 68 m.a v = .setA (m.a ||| v) := rfl
  rw [hD]
  clear hD
  have hB : B < w.heap.size := (Array.getElem?_eq_some_iff.1 hM.blk).1
  obtain ⟨_, m1, m2, _⟩ := hM.facts
  have hvI : (v : Int) ≤ 4294967295 := by omega
  have haI : (m.a : Int) ≤ 4294967295 := by omega
  clear hM
  generalize m.a = a at *
  have hE := Lib.hid (show bits BinOp.or IntKind.u32 (a : Int) (v : Int) = ((a ||| v : Nat) : Int) from u32_or_nat a v (by omega) (by omega))
  go_enter Try.func36, Try.ntmps36
  go_wp2_with fail
  rw [hE.out]
  go_at_call 42
  refine (vm_toA B _ _ hB).mono ?_
  rintro e w5 ⟨⟨f, rfl, hf⟩, hb5⟩
  have HF := Lib.hid hf
  have HB5 := Lib.hid hb5
  clear hf hb5
  go_wp2_with fail
  go_ret
  exact ⟨⟨f, rfl, HF.out⟩, HB5.out⟩
set_option maxRecDepth 100000 in
theorem vm_sum84 (rec : ByteArray) (n : Nat) (m : Mach) (B v : Nat) (w : World) (hM : IsM w B rec n m) (ha : m.a ≤ 4294967295) (hv : v ≤ 4294967295) :
    Calls Try.prog 36 #[.pointer (some ⟨B, 0, none⟩), .int .i64 84, .int .u32 (v : Int)] w (Mk w B (sumD 84 m.a v)) := by
  have hD : sumD 84 m.a v = .setA (m.a &&& v) := rfl
  rw [hD]
  clear hD
  have hB : B < w.heap.size := (Array.getElem?_eq_some_iff.1 hM.blk).1
  obtain ⟨_, m1, m2, _⟩ := hM.facts
  have hvI : (v : Int) ≤ 4294967295 := by omega
  have haI : (m.a : Int) ≤ 4294967295 := by omega
  clear hM
  generalize m.a = a at *
  have hE := Lib.hid (show bits BinOp.and IntKind.u32 (a : Int) (v : Int) = ((a &&& v : Nat) : Int) from u32_and_nat a v (by omega) (by omega))
  go_enter Try.func36, Try.ntmps36
  go_wp2_with fail
  rw [hE.out]
  go_at_call 42
  refine (vm_toA B _ _ hB).mono ?_
  rintro e w5 ⟨⟨f, rfl, hf⟩, hb5⟩
  have HF := Lib.hid hf
  have HB5 := Lib.hid hb5
  clear hf hb5
  go_wp2_with fail
  go_ret
  exact ⟨⟨f, rfl, HF.out⟩, HB5.out⟩
set_option maxRecDepth 100000 in
theorem vm_sum164 (rec : ByteArray) (n : Nat) (m : Mach) (B v : Nat) (w : World) (hM : IsM w B rec n m) (ha : m.a ≤ 4294967295) (hv : v ≤ 4294967295) :
    Calls Try.prog 36 #[.pointer (some ⟨B, 0, none⟩), .int .i64 164, .int .u32 (v : Int)] w (Mk w B (sumD 164 m.a v)) := by
  have hD : sumD 164 m.a v = .setA (m.a ^^^ v) := rfl
  rw [hD]
  clear hD
  have hB : B < w.heap.size := (Array.getElem?_eq_some_iff.1 hM.blk).1
  obtain ⟨_, m1, m2, _⟩ := hM.facts
  have hvI : (v : Int) ≤ 4294967295 := by omega
  have haI : (m.a : Int) ≤ 4294967295 := by omega
  clear hM
  generalize m.a = a at *
  have hE := Lib.hid (show bits BinOp.xor IntKind.u32 (a : Int) (v : Int) = ((a ^^^ v : Nat) : Int) from u32_xor_nat a v (by omega) (by omega))
  go_enter Try.func36, Try.ntmps36
  go_wp2_with fail
  rw [hE.out]
  go_at_call 42
  refine (vm_toA B _ _ hB).mono ?_
  rintro e w5 ⟨⟨f, rfl, hf⟩, hb5⟩
  have HF := Lib.hid hf
  have HB5 := Lib.hid hb5
  clear hf hb5
  go_wp2_with fail
  go_ret
  exact ⟨⟨f, rfl, HF.out⟩, HB5.out⟩
set_option maxRecDepth 100000 in
theorem vm_sum100 (rec : ByteArray) (n : Nat) (m : Mach) (B v : Nat) (w : World) (hM : IsM w B rec n m) (ha : m.a ≤ 4294967295) (hv : v ≤ 4294967295) :
    Calls Try.prog 36 #[.pointer (some ⟨B, 0, none⟩), .int .i64 100, .int .u32 (v : Int)] w (Mk w B (sumD 100 m.a v)) := by
  have hD : sumD 100 m.a v = .setA (m.a * 2 ^ (v % 32) % 4294967296) := rfl
  rw [hD]
  clear hD
  have hB : B < w.heap.size := (Array.getElem?_eq_some_iff.1 hM.blk).1
  obtain ⟨_, m1, m2, _⟩ := hM.facts
  have hvI : (v : Int) ≤ 4294967295 := by omega
  have haI : (m.a : Int) ≤ 4294967295 := by omega
  clear hM
  generalize m.a = a at *
  have hE := Lib.hid (show (a : Int) * 2 ^ (v % 32) % 4294967296 = ((a * 2 ^ (v % 32) % 4294967296 : Nat) : Int) from e100 a v)
  go_enter Try.func36, Try.ntmps36
  go_wp2_with fail
  rw [hE.out]
  go_at_call 42
  refine (vm_toA B _ _ hB).mono ?_
  rintro e w5 ⟨⟨f, rfl, hf⟩, hb5⟩
  have HF := Lib.hid hf
  have HB5 := Lib.hid hb5
  clear hf hb5
  go_wp2_with fail
  go_ret
  exact ⟨⟨f, rfl, HF.out⟩, HB5.out⟩
set_option maxRecDepth 100000 in
theorem vm_sum116 (rec : ByteArray) (n : Nat) (m : Mach) (B v : Nat) (w : World) (hM : IsM w B rec n m) (ha : m.a ≤ 4294967295) (hv : v ≤ 4294967295) :
    Calls Try.prog 36 #[.pointer (some ⟨B, 0, none⟩), .int .i64 116, .int .u32 (v : Int)] w (Mk w B (sumD 116 m.a v)) := by
  have hD : sumD 116 m.a v = .setA (m.a / 2 ^ (v % 32)) := rfl
  rw [hD]
  clear hD
  have hB : B < w.heap.size := (Array.getElem?_eq_some_iff.1 hM.blk).1
  obtain ⟨_, m1, m2, _⟩ := hM.facts
  have hvI : (v : Int) ≤ 4294967295 := by omega
  have haI : (m.a : Int) ≤ 4294967295 := by omega
  clear hM
  generalize m.a = a at *
  have hE := Lib.hid (show (a : Int) / 2 ^ (v % 32) = ((a / 2 ^ (v % 32) : Nat) : Int) from e116 a v)
  go_enter Try.func36, Try.ntmps36
  go_wp2_with fail
  rw [hE.out]
  go_at_call 42
  refine (vm_toA B _ _ hB).mono ?_
  rintro e w5 ⟨⟨f, rfl, hf⟩, hb5⟩
  have HF := Lib.hid hf
  have HB5 := Lib.hid hb5
  clear hf hb5
  go_wp2_with fail
  go_ret
  exact ⟨⟨f, rfl, HF.out⟩, HB5.out⟩
set_option maxRecDepth 100000 in
theorem vm_sum132 (rec : ByteArray) (n : Nat) (m : Mach) (B v : Nat) (w : World) (hM : IsM w B rec n m) (ha : m.a ≤ 4294967295) (hv : v ≤ 4294967295) :
    Calls Try.prog 36 #[.pointer (some ⟨B, 0, none⟩), .int .i64 132, .int .u32 (v : Int)] w (Mk w B (sumD 132 m.a v)) := by
  have hD : sumD 132 m.a v = .setA ((4294967296 - m.a) % 4294967296) := rfl
  rw [hD]
  clear hD
  have hB : B < w.heap.size := (Array.getElem?_eq_some_iff.1 hM.blk).1
  obtain ⟨_, m1, m2, _⟩ := hM.facts
  have hvI : (v : Int) ≤ 4294967295 := by omega
  have haI : (m.a : Int) ≤ 4294967295 := by omega
  clear hM
  generalize m.a = a at *
  have hE := Lib.hid (show -(a : Int) % 4294967296 = (((4294967296 - a) % 4294967296 : Nat) : Int) from by omega)
  go_enter Try.func36, Try.ntmps36
  go_wp2_with fail
  rw [hE.out]
  go_at_call 42
  refine (vm_toA B _ _ hB).mono ?_
  rintro e w5 ⟨⟨f, rfl, hf⟩, hb5⟩
  have HF := Lib.hid hf
  have HB5 := Lib.hid hb5
  clear hf hb5
  go_wp2_with fail
  go_ret
  exact ⟨⟨f, rfl, HF.out⟩, HB5.out⟩
set_option maxRecDepth 100000 in
theorem vm_sum52 (rec : ByteArray) (n : Nat) (m : Mach) (B v : Nat) (w : World) (hM : IsM w B rec n m) (ha : m.a ≤ 4294967295) (hv : v ≤ 4294967295) (h0 : v ≠ 0) :
    Calls Try.prog 36 #[.pointer (some ⟨B, 0, none⟩), .int .i64 52, .int .u32 (v : Int)] w (Mk w B (sumD 52 m.a v)) := by
  have hD : sumD 52 m.a v = .setA (m.a / v) := if_neg (fun h => h0 h.2)
  rw [hD]
  clear hD
  have hB : B < w.heap.size := (Array.getElem?_eq_some_iff.1 hM.blk).1
  obtain ⟨_, m1, m2, _⟩ := hM.facts
  have hvI : (v : Int) ≤ 4294967295 := by omega
  have haI : (m.a : Int) ≤ 4294967295 := by omega
  clear hM
  generalize m.a = a at *
  have hE := Lib.hid (show (a : Int) / (v : Int) % 4294967296 = ((a / v : Nat) : Int) from e52 a v ha)
  have h0I : (v : Int) ≠ 0 := by omega
  go_enter Try.func36, Try.ntmps36
  go_wp2_with fail
  rw [hE.out]
  go_at_call 42
  refine (vm_toA B _ _ hB).mono ?_
  rintro e w5 ⟨⟨f, rfl, hf⟩, hb5⟩
  have HF := Lib.hid hf
  have HB5 := Lib.hid hb5
  clear hf hb5
  go_wp2_with fail
  go_ret
  exact ⟨⟨f, rfl, HF.out⟩, HB5.out⟩
set_option maxRecDepth 100000 in
theorem vm_sum52z (rec : ByteArray) (n : Nat) (m : Mach) (B v : Nat) (w : World) (hM : IsM w B rec n m) (ha : m.a ≤ 4294967295) (hv : v ≤ 4294967295) (h0 : v = 0) :
    Calls Try.prog 36 #[.pointer (some ⟨B, 0, none⟩), .int .i64 52, .int .u32 (v : Int)] w (Mk w B (sumD 52 m.a v)) := by
  have hD : sumD 52 m.a v = .answer 0 := if_pos ⟨rfl, h0⟩
  rw [hD]
  clear hD
  have hB : B < w.heap.size := (Array.getElem?_eq_some_iff.1 hM.blk).1
  obtain ⟨_, m1, m2, _⟩ := hM.facts
  have hvI : (v : Int) ≤ 4294967295 := by omega
  have haI : (m.a : Int) ≤ 4294967295 := by omega
  clear hM
  generalize m.a = a at *
  subst h0
  go_enter Try.func36, Try.ntmps36
  go_wp2_with fail
  go_at_call 43
  refine (vm_answered B 0 _ hB).mono ?_
  rintro e w5 ⟨⟨f, rfl, hf⟩, hb5⟩
  have HF := Lib.hid hf
  have HB5 := Lib.hid hb5
  clear hf hb5
  go_wp2_with fail
  go_ret
  exact ⟨⟨f, rfl, HF.out⟩, HB5.out⟩
theorem vm_sum (c : Nat) (hc : c ∈ [4, 20, 36, 52, 68, 84, 100, 116, 132, 164]) (rec : ByteArray) (n : Nat) (m : Mach) (B v : Nat) (w : World) (hM : IsM w B rec n m) (ha : m.a ≤ 4294967295) (hv : v ≤ 4294967295) :
    Calls Try.prog 36 #[.pointer (some ⟨B, 0, none⟩), .int .i64 (c : Int), .int .u32 (v : Int)] w (Mk w B (sumD c m.a v)) := by
  simp only [List.mem_cons, List.not_mem_nil, or_false] at hc
  rcases hc with rfl | rfl | rfl | rfl | rfl | rfl | rfl | rfl | rfl | rfl
  · exact vm_sum4 rec n m B v w hM ha hv
  · exact vm_sum20 rec n m B v w hM ha hv
  · exact vm_sum36 rec n m B v w hM ha hv
  · by_cases h0 : v = 0
    · exact vm_sum52z rec n m B v w hM ha hv h0
    · exact vm_sum52 rec n m B v w hM ha hv h0
  · exact vm_sum68 rec n m B v w hM ha hv
  · exact vm_sum84 rec n m B v w hM ha hv
  · exact vm_sum100 rec n m B v w hM ha hv
  · exact vm_sum116 rec n m B v w hM ha hv
  · exact vm_sum132 rec n m B v w hM ha hv
  · exact vm_sum164 rec n m B v w hM ha hv
end Go.Proofs.Ytnlmdajoifjddaa
