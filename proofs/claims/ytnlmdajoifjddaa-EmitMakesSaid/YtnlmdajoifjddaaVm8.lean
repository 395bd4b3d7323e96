/- The machine's deed, of any code. -/
import Derived.Test.YtnlmdajoifjddaaVm7
namespace Go.Proofs.Ytnlmdajoifjddaa
open Go.RowKit
set_option linter.unusedVariables false

def sumL : List Nat := [4, 20, 36, 52, 68, 84, 100, 116, 132, 164]
def jumpL : List Nat := [5, 21, 37, 53, 69]
def moveL : List Nat := [32, 96, 97, 2, 3, 128, 129, 0, 1, 135, 7]
def deedD (m : Mach) (c k : Nat) (jt jf : Int) : Deed :=
  if c % 8 = 4 then sumD (if c / 8 % 2 = 1 then c - 8 else c) m.a (if c / 8 % 2 = 1 then m.x else k)
  else if c % 8 = 5 then jumpD (if c / 8 % 2 = 1 then c - 8 else c) m.a (if c / 8 % 2 = 1 then m.x else k) k jt jf
  else if c = 22 then .answer m.a else if c = 6 then .answer k else moveD m c k
theorem vm_jump (c : Nat) (hc : c ∈ jumpL) (rec : ByteArray) (n : Nat) (m : Mach) (B v k : Nat) (cc jt jf : Int) (w : World) (hM : IsM w B rec n m) (ha : m.a ≤ 4294967295) (hv : v ≤ 4294967295) (hk : k ≤ 4294967295) :
    Calls Try.prog 37 #[.pointer (some ⟨B, 0, none⟩), .int .i64 (c : Int), .int .u32 (v : Int), .agg #[.int .i64 cc, .int .i64 jt, .int .i64 jf, .int .u32 (k : Int)]] w (Mk w B (jumpD c m.a v k jt jf)) := by
  unfold jumpL at hc
  simp only [List.mem_cons, List.not_mem_nil, or_false] at hc
  rcases hc with rfl | rfl | rfl | rfl | rfl
  · exact vm_jump5 rec n m B v k cc jt jf w hM ha hv hk
  · exact vm_jump21 rec n m B v k cc jt jf w hM ha hv hk
  · exact vm_jump37 rec n m B v k cc jt jf w hM ha hv hk
  · exact vm_jump53 rec n m B v k cc jt jf w hM ha hv hk
  · exact vm_jump69 rec n m B v k cc jt jf w hM ha hv hk
theorem vm_move (c : Nat) (hc : c ∈ moveL) (rec : ByteArray) (n : Nat) (m : Mach) (B k : Nat) (jt jf : Int) (w : World) (hM : IsM w B rec n m) :
    Calls Try.prog 39 #[.pointer (some ⟨B, 0, none⟩), .agg #[.int .i64 (c : Int), .int .i64 jt, .int .i64 jf, .int .u32 (k : Int)]] w (Mk w B (moveD m c k)) := by
  unfold moveL at hc
  simp only [List.mem_cons, List.not_mem_nil, or_false] at hc
  rcases hc with rfl | rfl | rfl | rfl | rfl | rfl | rfl | rfl | rfl | rfl | rfl
  · exact vm_move32 rec n m B k jt jf w hM
  · exact vm_move96 rec n m B k jt jf w hM
  · exact vm_move97 rec n m B k jt jf w hM
  · exact vm_move2 rec n m B k jt jf w hM
  · exact vm_move3 rec n m B k jt jf w hM
  · exact vm_move128 rec n m B k jt jf w hM
  · exact vm_move129 rec n m B k jt jf w hM
  · exact vm_move0 rec n m B k jt jf w hM
  · exact vm_move1 rec n m B k jt jf w hM
  · exact vm_move135 rec n m B k jt jf w hM
  · exact vm_move7 rec n m B k jt jf w hM
set_option maxRecDepth 100000 in
theorem vm_deedSK (rec : ByteArray) (n : Nat) (m : Mach) (B c k : Nat) (jt jf : Int) (w : World) (hM : IsM w B rec n m) (ha : m.a ≤ 4294967295) (hx : m.x ≤ 4294967295) (hk : k ≤ 4294967295) (hc : c ∈ sumL) :
    Calls Try.prog 27 #[.pointer (some ⟨B, 0, none⟩), .agg #[.int .i64 ((c : Int)), .int .i64 jt, .int .i64 jf, .int .u32 (k : Int)]] w (Mk w B (sumD c m.a k)) := by
  have h7 : bits BinOp.and IntKind.i64 ((c : Int)) 7 = 4 := by
    unfold sumL at hc; simp only [List.mem_cons, List.not_mem_nil, or_false] at hc; rcases hc with rfl | rfl | rfl | rfl | rfl | rfl | rfl | rfl | rfl | rfl <;> rfl
  have h8 : bits BinOp.and IntKind.i64 ((c : Int)) 8 = 0 := by
    unfold sumL at hc; simp only [List.mem_cons, List.not_mem_nil, or_false] at hc; rcases hc with rfl | rfl | rfl | rfl | rfl | rfl | rfl | rfl | rfl | rfl <;> rfl
  have hn : bits BinOp.andNot IntKind.i64 ((c : Int)) 8 = (c : Int) := by
    unfold sumL at hc; simp only [List.mem_cons, List.not_mem_nil, or_false] at hc; rcases hc with rfl | rfl | rfl | rfl | rfl | rfl | rfl | rfl | rfl | rfl <;> rfl
  have hB : B < w.heap.size := (Array.getElem?_eq_some_iff.1 hM.blk).1
  obtain ⟨_, m1, m2, _⟩ := hM.facts
  have HM := Lib.hid (hM.below (alloc1 w (Obj.cells #[.int .i64 ((c : Int)), .int .i64 jt, .int .i64 jf, .int .u32 (k : Int)] 44)))
  have HA := Lib.hid ha
  have HX := Lib.hid hx
  have HK := Lib.hid hk
  have HC := Lib.hid hc
  clear hM ha hx hk hc
  go_enter Try.func27, Try.ntmps27
  go_wp2_with fail
  go_at_call 36
  refine (vm_sum c HC.out rec n m B k _ HM.out HA.out HK.out).mono ?_
  rintro e w5 ⟨⟨f, rfl, hf⟩, hb5⟩
  have HF := Lib.hid hf
  have HB5 := Lib.hid (tail1 hb5)
  clear hf hb5
  go_wp2_with fail
  go_ret
  exact ⟨⟨f, rfl, HF.out⟩, HB5.out⟩
set_option maxRecDepth 100000 in
theorem vm_deedSX (rec : ByteArray) (n : Nat) (m : Mach) (B c c8 k : Nat) (jt jf : Int) (w : World) (hM : IsM w B rec n m) (ha : m.a ≤ 4294967295) (hx : m.x ≤ 4294967295) (hk : k ≤ 4294967295) (hc : c ∈ sumL) (h8c : c8 = c + 8) :
    Calls Try.prog 27 #[.pointer (some ⟨B, 0, none⟩), .agg #[.int .i64 ((c8 : Int)), .int .i64 jt, .int .i64 jf, .int .u32 (k : Int)]] w (Mk w B (sumD c m.a m.x)) := by
  have h7 : bits BinOp.and IntKind.i64 ((c8 : Int)) 7 = 4 := by
    subst h8c; unfold sumL at hc; simp only [List.mem_cons, List.not_mem_nil, or_false] at hc; rcases hc with rfl | rfl | rfl | rfl | rfl | rfl | rfl | rfl | rfl | rfl <;> rfl
  have h8 : bits BinOp.and IntKind.i64 ((c8 : Int)) 8 = 8 := by
    subst h8c; unfold sumL at hc; simp only [List.mem_cons, List.not_mem_nil, or_false] at hc; rcases hc with rfl | rfl | rfl | rfl | rfl | rfl | rfl | rfl | rfl | rfl <;> rfl
  have hn : bits BinOp.andNot IntKind.i64 ((c8 : Int)) 8 = (c : Int) := by
    subst h8c; unfold sumL at hc; simp only [List.mem_cons, List.not_mem_nil, or_false] at hc; rcases hc with rfl | rfl | rfl | rfl | rfl | rfl | rfl | rfl | rfl | rfl <;> rfl
  have hB : B < w.heap.size := (Array.getElem?_eq_some_iff.1 hM.blk).1
  obtain ⟨_, m1, m2, _⟩ := hM.facts
  have HM := Lib.hid (hM.below (alloc1 w (Obj.cells #[.int .i64 ((c8 : Int)), .int .i64 jt, .int .i64 jf, .int .u32 (k : Int)] 44)))
  have HA := Lib.hid ha
  have HX := Lib.hid hx
  have HK := Lib.hid hk
  have HC := Lib.hid hc
  clear hM ha hx hk hc h8c
  go_enter Try.func27, Try.ntmps27
  go_wp2_with fail
  go_at_call 36
  refine (vm_sum c HC.out rec n m B m.x _ HM.out HA.out HX.out).mono ?_
  rintro e w5 ⟨⟨f, rfl, hf⟩, hb5⟩
  have HF := Lib.hid hf
  have HB5 := Lib.hid (tail1 hb5)
  clear hf hb5
  go_wp2_with fail
  go_ret
  exact ⟨⟨f, rfl, HF.out⟩, HB5.out⟩
set_option maxRecDepth 100000 in
theorem vm_deedJK (rec : ByteArray) (n : Nat) (m : Mach) (B c k : Nat) (jt jf : Int) (w : World) (hM : IsM w B rec n m) (ha : m.a ≤ 4294967295) (hx : m.x ≤ 4294967295) (hk : k ≤ 4294967295) (hc : c ∈ jumpL) :
    Calls Try.prog 27 #[.pointer (some ⟨B, 0, none⟩), .agg #[.int .i64 ((c : Int)), .int .i64 jt, .int .i64 jf, .int .u32 (k : Int)]] w (Mk w B (jumpD c m.a k k jt jf)) := by
  have h7 : bits BinOp.and IntKind.i64 ((c : Int)) 7 = 5 := by
    unfold jumpL at hc; simp only [List.mem_cons, List.not_mem_nil, or_false] at hc; rcases hc with rfl | rfl | rfl | rfl | rfl <;> rfl
  have h8 : bits BinOp.and IntKind.i64 ((c : Int)) 8 = 0 := by
    unfold jumpL at hc; simp only [List.mem_cons, List.not_mem_nil, or_false] at hc; rcases hc with rfl | rfl | rfl | rfl | rfl <;> rfl
  have hn : bits BinOp.andNot IntKind.i64 ((c : Int)) 8 = (c : Int) := by
    unfold jumpL at hc; simp only [List.mem_cons, List.not_mem_nil, or_false] at hc; rcases hc with rfl | rfl | rfl | rfl | rfl <;> rfl
  have hB : B < w.heap.size := (Array.getElem?_eq_some_iff.1 hM.blk).1
  obtain ⟨_, m1, m2, _⟩ := hM.facts
  have HM := Lib.hid (hM.below (alloc1 w (Obj.cells #[.int .i64 ((c : Int)), .int .i64 jt, .int .i64 jf, .int .u32 (k : Int)] 44)))
  have HA := Lib.hid ha
  have HX := Lib.hid hx
  have HK := Lib.hid hk
  have HC := Lib.hid hc
  clear hM ha hx hk hc
  go_enter Try.func27, Try.ntmps27
  go_wp2_with fail
  go_at_call 37
  refine (vm_jump c HC.out rec n m B k k _ jt jf _ HM.out HA.out HK.out HK.out).mono ?_
  rintro e w5 ⟨⟨f, rfl, hf⟩, hb5⟩
  have HF := Lib.hid hf
  have HB5 := Lib.hid (tail1 hb5)
  clear hf hb5
  go_wp2_with fail
  go_ret
  exact ⟨⟨f, rfl, HF.out⟩, HB5.out⟩
set_option maxRecDepth 100000 in
theorem vm_deedJX (rec : ByteArray) (n : Nat) (m : Mach) (B c c8 k : Nat) (jt jf : Int) (w : World) (hM : IsM w B rec n m) (ha : m.a ≤ 4294967295) (hx : m.x ≤ 4294967295) (hk : k ≤ 4294967295) (hc : c ∈ jumpL) (h8c : c8 = c + 8) :
    Calls Try.prog 27 #[.pointer (some ⟨B, 0, none⟩), .agg #[.int .i64 ((c8 : Int)), .int .i64 jt, .int .i64 jf, .int .u32 (k : Int)]] w (Mk w B (jumpD c m.a m.x k jt jf)) := by
  have h7 : bits BinOp.and IntKind.i64 ((c8 : Int)) 7 = 5 := by
    subst h8c; unfold jumpL at hc; simp only [List.mem_cons, List.not_mem_nil, or_false] at hc; rcases hc with rfl | rfl | rfl | rfl | rfl <;> rfl
  have h8 : bits BinOp.and IntKind.i64 ((c8 : Int)) 8 = 8 := by
    subst h8c; unfold jumpL at hc; simp only [List.mem_cons, List.not_mem_nil, or_false] at hc; rcases hc with rfl | rfl | rfl | rfl | rfl <;> rfl
  have hn : bits BinOp.andNot IntKind.i64 ((c8 : Int)) 8 = (c : Int) := by
    subst h8c; unfold jumpL at hc; simp only [List.mem_cons, List.not_mem_nil, or_false] at hc; rcases hc with rfl | rfl | rfl | rfl | rfl <;> rfl
  have hB : B < w.heap.size := (Array.getElem?_eq_some_iff.1 hM.blk).1
  obtain ⟨_, m1, m2, _⟩ := hM.facts
  have HM := Lib.hid (hM.below (alloc1 w (Obj.cells #[.int .i64 ((c8 : Int)), .int .i64 jt, .int .i64 jf, .int .u32 (k : Int)] 44)))
  have HA := Lib.hid ha
  have HX := Lib.hid hx
  have HK := Lib.hid hk
  have HC := Lib.hid hc
  clear hM ha hx hk hc h8c
  go_enter Try.func27, Try.ntmps27
  go_wp2_with fail
  go_at_call 37
  refine (vm_jump c HC.out rec n m B m.x k _ jt jf _ HM.out HA.out HX.out HK.out).mono ?_
  rintro e w5 ⟨⟨f, rfl, hf⟩, hb5⟩
  have HF := Lib.hid hf
  have HB5 := Lib.hid (tail1 hb5)
  clear hf hb5
  go_wp2_with fail
  go_ret
  exact ⟨⟨f, rfl, HF.out⟩, HB5.out⟩
set_option maxRecDepth 100000 in
theorem vm_deedM (rec : ByteArray) (n : Nat) (m : Mach) (B c k : Nat) (jt jf : Int) (w : World) (hM : IsM w B rec n m) (ha : m.a ≤ 4294967295) (hx : m.x ≤ 4294967295) (hk : k ≤ 4294967295) (hc : c ∈ moveL) :
    Calls Try.prog 27 #[.pointer (some ⟨B, 0, none⟩), .agg #[.int .i64 ((c : Int)), .int .i64 jt, .int .i64 jf, .int .u32 (k : Int)]] w (Mk w B (moveD m c k)) := by
  have h7 : ∃ q : Int, bits BinOp.and IntKind.i64 ((c : Int)) 7 = q ∧ q ≠ 4 ∧ q ≠ 5 ∧ q ≠ 6 := by
    unfold moveL at hc; simp only [List.mem_cons, List.not_mem_nil, or_false] at hc; rcases hc with rfl | rfl | rfl | rfl | rfl | rfl | rfl | rfl | rfl | rfl | rfl <;> exact ⟨_, rfl, by decide, by decide, by decide⟩
  obtain ⟨q7, h7, h74, h75, h76⟩ := h7
  have h8 : bits BinOp.and IntKind.i64 ((c : Int)) 8 = 0 := by
    unfold moveL at hc; simp only [List.mem_cons, List.not_mem_nil, or_false] at hc; rcases hc with rfl | rfl | rfl | rfl | rfl | rfl | rfl | rfl | rfl | rfl | rfl <;> rfl
  have hn : bits BinOp.andNot IntKind.i64 ((c : Int)) 8 = (c : Int) := by
    unfold moveL at hc; simp only [List.mem_cons, List.not_mem_nil, or_false] at hc; rcases hc with rfl | rfl | rfl | rfl | rfl | rfl | rfl | rfl | rfl | rfl | rfl <;> rfl
  have hB : B < w.heap.size := (Array.getElem?_eq_some_iff.1 hM.blk).1
  obtain ⟨_, m1, m2, _⟩ := hM.facts
  have HM := Lib.hid (hM.below (alloc1 w (Obj.cells #[.int .i64 ((c : Int)), .int .i64 jt, .int .i64 jf, .int .u32 (k : Int)] 44)))
  have HA := Lib.hid ha
  have HX := Lib.hid hx
  have HK := Lib.hid hk
  have HC := Lib.hid hc
  clear hM ha hx hk hc
  go_enter Try.func27, Try.ntmps27
  go_wp2_with fail
  go_at_call 39
  refine (vm_move c HC.out rec n m B k jt jf _ HM.out).mono ?_
  rintro e w5 ⟨⟨f, rfl, hf⟩, hb5⟩
  have HF := Lib.hid hf
  have HB5 := Lib.hid (tail1 hb5)
  clear hf hb5
  go_wp2_with fail
  go_ret
  exact ⟨⟨f, rfl, HF.out⟩, HB5.out⟩
set_option maxRecDepth 100000 in
theorem vm_deedR22 (rec : ByteArray) (n : Nat) (m : Mach) (B k : Nat) (jt jf : Int) (w : World) (hM : IsM w B rec n m) (ha : m.a ≤ 4294967295) (hx : m.x ≤ 4294967295) (hk : k ≤ 4294967295) :
    Calls Try.prog 27 #[.pointer (some ⟨B, 0, none⟩), .agg #[.int .i64 (22), .int .i64 jt, .int .i64 jf, .int .u32 (k : Int)]] w (Mk w B (.answer m.a)) := by
  have hB : B < w.heap.size := (Array.getElem?_eq_some_iff.1 hM.blk).1
  obtain ⟨_, m1, m2, _⟩ := hM.facts
  have HM := Lib.hid (hM.below (alloc1 w (Obj.cells #[.int .i64 (22), .int .i64 jt, .int .i64 jf, .int .u32 (k : Int)] 44)))
  have HA := Lib.hid ha
  have HX := Lib.hid hx
  have HK := Lib.hid hk

  clear hM ha hx hk
  go_enter Try.func27, Try.ntmps27
  go_wp2_with fail
  go_at_call 38
  refine (vm_ret22 rec n m B k jt jf _ HM.out).mono ?_
  rintro e w5 ⟨⟨f, rfl, hf⟩, hb5⟩
  have HF := Lib.hid hf
  have HB5 := Lib.hid (tail1 hb5)
  clear hf hb5
  go_wp2_with fail
  go_ret
  exact ⟨⟨f, rfl, HF.out⟩, HB5.out⟩
set_option maxRecDepth 100000 in
theorem vm_deedR6 (rec : ByteArray) (n : Nat) (m : Mach) (B k : Nat) (jt jf : Int) (w : World) (hM : IsM w B rec n m) (ha : m.a ≤ 4294967295) (hx : m.x ≤ 4294967295) (hk : k ≤ 4294967295) :
    Calls Try.prog 27 #[.pointer (some ⟨B, 0, none⟩), .agg #[.int .i64 (6), .int .i64 jt, .int .i64 jf, .int .u32 (k : Int)]] w (Mk w B (.answer k)) := by
  have hB : B < w.heap.size := (Array.getElem?_eq_some_iff.1 hM.blk).1
  obtain ⟨_, m1, m2, _⟩ := hM.facts
  have HM := Lib.hid (hM.below (alloc1 w (Obj.cells #[.int .i64 (6), .int .i64 jt, .int .i64 jf, .int .u32 (k : Int)] 44)))
  have HA := Lib.hid ha
  have HX := Lib.hid hx
  have HK := Lib.hid hk

  clear hM ha hx hk
  go_enter Try.func27, Try.ntmps27
  go_wp2_with fail
  go_at_call 38
  refine (vm_ret6 rec n m B k jt jf _ HM.out).mono ?_
  rintro e w5 ⟨⟨f, rfl, hf⟩, hb5⟩
  have HF := Lib.hid hf
  have HB5 := Lib.hid (tail1 hb5)
  clear hf hb5
  go_wp2_with fail
  go_ret
  exact ⟨⟨f, rfl, HF.out⟩, HB5.out⟩
end Go.Proofs.Ytnlmdajoifjddaa
