/- The walk of VmSums. -/
import Derived.Test.YtpdaenpcgcjmjaaVmC
namespace Go.Proofs.Ytpdaenpcgcjmjaa.lawVmSums
open Go.ChangeShapes Go.WideShapes Go.ChangeAt Go.RowKit Go.Joins Go.Deep
set_option linter.unusedVariables false

def nine : List Nat := [4, 20, 36, 52, 68, 84, 100, 116, 164]
theorem and244 (c : Int) : ∃ q : Nat, bits BinOp.and IntKind.i64 c 244 = (q : Int) ∧ q ≤ 244 := by
  refine ⟨(BitVec.ofInt 64 c &&& BitVec.ofInt 64 244).toNat, ?_, ?_⟩
  · have h : (BitVec.ofInt 64 c &&& BitVec.ofInt 64 244).toNat ≤ 244 := by
      rw [BitVec.toNat_and]
      exact Nat.and_le_right
    show IntKind.i64.wrap ((BitVec.ofInt 64 c &&& BitVec.ofInt 64 244).toNat : Int) = _
    exact IntWalk.i64_in _ (by omega)
  · rw [BitVec.toNat_and]
    exact Nat.and_le_right
theorem all256 : ∀ q : Fin 256, ∃ r : Fin 256, bits BinOp.andNot IntKind.i64 (q.val : Int) 8 = (r.val : Int) ∧
    ((insKnown (r.val : Int) = true ∧ bits BinOp.and IntKind.i64 (r.val : Int) 7 = 4 ∧ r.val ≠ 132) → r.val ∈ nine) := by decide +kernel
theorem or8 : ∀ c ∈ nine, bits BinOp.or IntKind.i64 (c : Int) 8 = ((c + 8 : Nat) : Int) ∧ insKnown (c : Int) = true ∧ insKnown ((c + 8 : Nat) : Int) = true := by decide +kernel
theorem dK (m : Mach) (c k : Nat) (jt jf : Int) (hc : c ∈ nine) : deedD m c k jt jf = sumD c m.a k := by
  unfold nine at hc
  simp only [List.mem_cons, List.not_mem_nil, or_false] at hc
  rcases hc with rfl | rfl | rfl | rfl | rfl | rfl | rfl | rfl | rfl <;> simp [deedD]
theorem dX (m : Mach) (c k : Nat) (jt jf : Int) (hc : c ∈ nine) : deedD m (c + 8) k jt jf = sumD c m.a m.x := by
  unfold nine at hc
  simp only [List.mem_cons, List.not_mem_nil, or_false] at hc
  rcases hc with rfl | rfl | rfl | rfl | rfl | rfl | rfl | rfl | rfl <;> simp [deedD]
def C0 : List Nat := List.replicate 16 0
def prog1 (a n c : Nat) : List Ins := [⟨0, 0, 0, a⟩, ⟨c, 0, 0, n⟩, ⟨22, 0, 0, 0⟩]
def prog2 (a n c : Nat) : List Ins := [⟨0, 0, 0, a⟩, ⟨1, 0, 0, n⟩, ⟨((c + 8 : Nat) : Int), 0, 0, 0⟩, ⟨22, 0, 0, 0⟩]
def prog3 (a n : Nat) : List Ins := [⟨0, 0, 0, a⟩, ⟨4, 0, 0, n⟩, ⟨20, 0, 0, n⟩, ⟨132, 0, 0, 0⟩, ⟨132, 0, 0, 0⟩, ⟨22, 0, 0, 0⟩]
theorem run1 (a n c : Nat) (hc : c ∈ nine) (s : ByteArray) (hs : s.size = 64) : ∃ st, runR (prog1 a n c) s = (if c = 52 ∧ n = 0 then 0 else sumV c a n, st, 0) := by
  have e : runR (prog1 a n c) s = runF (prog1 a n c) s 3 ⟨0, 0, C0, 0, 0, false⟩ 1 := by unfold runR; rw [if_pos hs]; rfl
  have e0 : runF (prog1 a n c) s 3 ⟨0, 0, C0, 0, 0, false⟩ 1 = runF (prog1 a n c) s 2 ⟨a, 0, C0, 1, 0, false⟩ 2 := runF_go (m' := ⟨a, 0, C0, 1, 0, false⟩) (show 0 < 3 by omega) (known0 0 (by decide)) (stepM_at rfl rfl rfl rfl (d0 _ _ _ _) rfl) rfl
  by_cases h : c = 52 ∧ n = 0
  · have e1 : runF (prog1 a n c) s 2 ⟨a, 0, C0, 1, 0, false⟩ 2 = (0, 2, 0) := runF_ret (m' := ⟨a, 0, C0, 2, 0, true⟩) (show 1 < 3 by omega) (or8 c hc).2.1 (stepM_at (i := ⟨c, 0, 0, n⟩) rfl rfl rfl rfl ((dK _ c n _ _ hc).trans (if_pos h)) rfl) rfl
    rw [if_pos h]
    exact ⟨2, e.trans (e0.trans e1)⟩
  · have e1 : runF (prog1 a n c) s 2 ⟨a, 0, C0, 1, 0, false⟩ 2 = runF (prog1 a n c) s 1 ⟨sumV c a n, 0, C0, 2, 0, false⟩ 3 := runF_go (m' := ⟨sumV c a n, 0, C0, 2, 0, false⟩) (show 1 < 3 by omega) (or8 c hc).2.1 (stepM_at (i := ⟨c, 0, 0, n⟩) rfl rfl rfl rfl ((dK _ c n _ _ hc).trans (if_neg h)) rfl) rfl
    have e2 : runF (prog1 a n c) s 1 ⟨sumV c a n, 0, C0, 2, 0, false⟩ 3 = (sumV c a n, 3, 0) := runF_ret (m' := ⟨sumV c a n, 0, C0, 3, sumV c a n, true⟩) (show 2 < 3 by omega) (known0 22 (by decide)) (stepM_at rfl rfl rfl rfl (d22 _ _ _ _) rfl) rfl
    rw [if_neg h]
    exact ⟨3, e.trans (e0.trans (e1.trans e2))⟩
theorem run2 (a n c : Nat) (hc : c ∈ nine) (s : ByteArray) (hs : s.size = 64) : ∃ st, runR (prog2 a n c) s = (if c = 52 ∧ n = 0 then 0 else sumV c a n, st, 0) := by
  have e : runR (prog2 a n c) s = runF (prog2 a n c) s 4 ⟨0, 0, C0, 0, 0, false⟩ 1 := by unfold runR; rw [if_pos hs]; rfl
  have e0 : runF (prog2 a n c) s 4 ⟨0, 0, C0, 0, 0, false⟩ 1 = runF (prog2 a n c) s 3 ⟨a, 0, C0, 1, 0, false⟩ 2 := runF_go (m' := ⟨a, 0, C0, 1, 0, false⟩) (show 0 < 4 by omega) (known0 0 (by decide)) (stepM_at rfl rfl rfl rfl (d0 _ _ _ _) rfl) rfl
  have e1 : runF (prog2 a n c) s 3 ⟨a, 0, C0, 1, 0, false⟩ 2 = runF (prog2 a n c) s 2 ⟨a, n, C0, 2, 0, false⟩ 3 := runF_go (m' := ⟨a, n, C0, 2, 0, false⟩) (show 1 < 4 by omega) (known0 1 (by decide)) (stepM_at rfl rfl rfl rfl (d1 _ _ _ _) rfl) rfl
  by_cases h : c = 52 ∧ n = 0
  · have e2 : runF (prog2 a n c) s 2 ⟨a, n, C0, 2, 0, false⟩ 3 = (0, 3, 0) := runF_ret (m' := ⟨a, n, C0, 3, 0, true⟩) (show 2 < 4 by omega) (or8 c hc).2.2 (stepM_at (i := ⟨((c + 8 : Nat) : Int), 0, 0, 0⟩) (c := c + 8) rfl rfl rfl rfl ((dX _ c 0 _ _ hc).trans (if_pos h)) rfl) rfl
    rw [if_pos h]
    exact ⟨3, e.trans (e0.trans (e1.trans e2))⟩
  · have e2 : runF (prog2 a n c) s 2 ⟨a, n, C0, 2, 0, false⟩ 3 = runF (prog2 a n c) s 1 ⟨sumV c a n, n, C0, 3, 0, false⟩ 4 := runF_go (m' := ⟨sumV c a n, n, C0, 3, 0, false⟩) (show 2 < 4 by omega) (or8 c hc).2.2 (stepM_at (i := ⟨((c + 8 : Nat) : Int), 0, 0, 0⟩) (c := c + 8) rfl rfl rfl rfl ((dX _ c 0 _ _ hc).trans (if_neg h)) rfl) rfl
    have e3 : runF (prog2 a n c) s 1 ⟨sumV c a n, n, C0, 3, 0, false⟩ 4 = (sumV c a n, 4, 0) := runF_ret (m' := ⟨sumV c a n, n, C0, 4, sumV c a n, true⟩) (show 3 < 4 by omega) (known0 22 (by decide)) (stepM_at rfl rfl rfl rfl (d22 _ _ _ _) rfl) rfl
    rw [if_neg h]
    exact ⟨4, e.trans (e0.trans (e1.trans (e2.trans e3)))⟩
theorem d4 (m : Mach) (k : Nat) (jt jf : Int) : deedD m 4 k jt jf = .setA ((m.a + k) % 4294967296) := by simp [deedD, sumD, sumV]
theorem d20 (m : Mach) (k : Nat) (jt jf : Int) : deedD m 20 k jt jf = .setA ((m.a + (4294967296 - k)) % 4294967296) := by simp [deedD, sumD, sumV]
theorem d132 (m : Mach) (k : Nat) (jt jf : Int) : deedD m 132 k jt jf = .setA ((4294967296 - m.a) % 4294967296) := by simp [deedD, sumD, sumV]
theorem run3 (a n : Nat) (ha : a ≤ 4294967295) (hn : n ≤ 4294967295) (s : ByteArray) (hs : s.size = 64) : runR (prog3 a n) s = (a, 6, 0) := by
  have e : runR (prog3 a n) s = runF (prog3 a n) s 6 ⟨0, 0, C0, 0, 0, false⟩ 1 := by unfold runR; rw [if_pos hs]; rfl
  obtain ⟨v1, h1⟩ : ∃ v, (a + n) % 4294967296 = v := ⟨_, rfl⟩
  obtain ⟨v2, h2⟩ : ∃ v, (v1 + (4294967296 - n)) % 4294967296 = v := ⟨_, rfl⟩
  obtain ⟨v3, h3⟩ : ∃ v, (4294967296 - v2) % 4294967296 = v := ⟨_, rfl⟩
  have h4 : (4294967296 - v3) % 4294967296 = a := by omega
  have e0 : runF (prog3 a n) s 6 ⟨0, 0, C0, 0, 0, false⟩ 1 = runF (prog3 a n) s 5 ⟨a, 0, C0, 1, 0, false⟩ 2 := runF_go (m' := ⟨a, 0, C0, 1, 0, false⟩) (show 0 < 6 by omega) (known0 0 (by decide)) (stepM_at rfl rfl rfl rfl (d0 _ _ _ _) rfl) rfl
  have e1 : runF (prog3 a n) s 5 ⟨a, 0, C0, 1, 0, false⟩ 2 = runF (prog3 a n) s 4 ⟨v1, 0, C0, 2, 0, false⟩ 3 := runF_go (m' := ⟨v1, 0, C0, 2, 0, false⟩) (show 1 < 6 by omega) (known0 4 (by decide)) (stepM_at rfl rfl rfl rfl ((d4 _ _ _ _).trans (congrArg Deed.setA h1)) rfl) rfl
  have e2 : runF (prog3 a n) s 4 ⟨v1, 0, C0, 2, 0, false⟩ 3 = runF (prog3 a n) s 3 ⟨v2, 0, C0, 3, 0, false⟩ 4 := runF_go (m' := ⟨v2, 0, C0, 3, 0, false⟩) (show 2 < 6 by omega) (known0 20 (by decide)) (stepM_at rfl rfl rfl rfl ((d20 _ _ _ _).trans (congrArg Deed.setA h2)) rfl) rfl
  have e3 : runF (prog3 a n) s 3 ⟨v2, 0, C0, 3, 0, false⟩ 4 = runF (prog3 a n) s 2 ⟨v3, 0, C0, 4, 0, false⟩ 5 := runF_go (m' := ⟨v3, 0, C0, 4, 0, false⟩) (show 3 < 6 by omega) (known0 132 (by decide)) (stepM_at rfl rfl rfl rfl ((d132 _ _ _ _).trans (congrArg Deed.setA h3)) rfl) rfl
  have e4 : runF (prog3 a n) s 2 ⟨v3, 0, C0, 4, 0, false⟩ 5 = runF (prog3 a n) s 1 ⟨a, 0, C0, 5, 0, false⟩ 6 := runF_go (m' := ⟨a, 0, C0, 5, 0, false⟩) (show 4 < 6 by omega) (known0 132 (by decide)) (stepM_at rfl rfl rfl rfl ((d132 _ _ _ _).trans (congrArg Deed.setA h4)) rfl) rfl
  have e5 : runF (prog3 a n) s 1 ⟨a, 0, C0, 5, 0, false⟩ 6 = (a, 6, 0) := runF_ret (m' := ⟨a, 0, C0, 6, a, true⟩) (show 5 < 6 by omega) (known0 22 (by decide)) (stepM_at rfl rfl rfl rfl (d22 _ _ _ _) rfl) rfl
  exact e.trans (e0.trans (e1.trans (e2.trans (e3.trans (e4.trans e5)))))
theorem bound1 (a n c : Nat) (ha : (a : Int) ≤ 4294967295) (hn : (n : Int) ≤ 4294967295) (hc : c ≤ 164) : ∀ i ∈ prog1 a n c, i.bounded := by
  intro i hi
  unfold prog1 at hi
  simp only [List.mem_cons, List.not_mem_nil, or_false] at hi
  rcases hi with rfl | rfl | rfl <;> (unfold Ins.bounded; simp only; omega)
theorem bound2 (a n c : Nat) (ha : (a : Int) ≤ 4294967295) (hn : (n : Int) ≤ 4294967295) (hc : c ≤ 164) : ∀ i ∈ prog2 a n c, i.bounded := by
  intro i hi
  unfold prog2 at hi
  simp only [List.mem_cons, List.not_mem_nil, or_false] at hi
  rcases hi with rfl | rfl | rfl | rfl <;> (unfold Ins.bounded; simp only; omega)
theorem bound3 (a n : Nat) (ha : (a : Int) ≤ 4294967295) (hn : (n : Int) ≤ 4294967295) : ∀ i ∈ prog3 a n, i.bounded := by
  intro i hi
  unfold prog3 at hi
  simp only [List.mem_cons, List.not_mem_nil, or_false] at hi
  rcases hi with rfl | rfl | rfl | rfl | rfl | rfl <;> (unfold Ins.bounded; simp only; omega)
theorem nine_le : ∀ c ∈ nine, c ≤ 164 := by decide
set_option maxRecDepth 100000 in
set_option maxHeartbeats 1000000 in
theorem walk (a0 a1 a2 : Int) (s0 : ByteArray) (w : World) (w0 : (Lit.int .i64 a0).wf = true) (w1 : (Lit.int .u32 a1).wf = true) (w2 : (Lit.int .u32 a2).wf = true) (w3 : s0.size ≤ maxLen) :
    Calls Try.prog 6 #[.int .i64 a0, .int .u32 a1, .int .u32 a2, .string s0] w fun e w' => e = .returned (.bool true) ∧ Below w.heap.size w w' := by
  obtain ⟨p1, q1⟩ := wf_u32 w1
  obtain ⟨p2, q2⟩ := wf_u32 w2
  clear w0 w1 w2 w3
  obtain ⟨a, rfl⟩ := Int.eq_ofNat_of_zero_le p1
  obtain ⟨n, rfl⟩ := Int.eq_ofNat_of_zero_le p2
  obtain ⟨q, hq, hq4⟩ := and244 a0
  obtain ⟨⟨r, hr8⟩, hr, hr9⟩ := all256 ⟨q, by omega⟩
  dsimp only at hr hr9
  have hK : (insKnown (r : Int) = false) ∨ (insKnown (r : Int) = true ∧ (bits BinOp.and IntKind.i64 (r : Int) 7 == 4) = false) ∨ (insKnown (r : Int) = true ∧ bits BinOp.and IntKind.i64 (r : Int) 7 = 4 ∧ r = 132) ∨ (insKnown (r : Int) = true ∧ bits BinOp.and IntKind.i64 (r : Int) 7 = 4 ∧ r ≠ 132) := by
    by_cases h1 : insKnown (r : Int) = true
    · by_cases h2 : bits BinOp.and IntKind.i64 (r : Int) 7 = 4
      · by_cases h3 : r = 132
        · exact .inr (.inr (.inl ⟨h1, h2, h3⟩))
        · exact .inr (.inr (.inr ⟨h1, h2, h3⟩))
      · exact .inr (.inl ⟨h1, by rw [beq_eq_false_iff_ne]; exact h2⟩)
    · exact .inl (Bool.eq_false_iff.2 h1)
  have HK := Lib.hid hK; have HR9 := Lib.hid hr9
  clear hK hr9 hq4
  go_enter Try.func6, Try.ntmps6
  go_wp2_with fail
  refine (vmRecord_any s0 w).mono ?_
  rintro e w1 ⟨rfl, rfl⟩
  generalize recOf s0 = s
  have hs5 : s.size = 64 ∨ s.size ≠ 64 := by omega
  rcases hs5 with hs | hs
  · have hsI : (s.size : Int) = 64 := by omega
    have hkn := fun u => insnKnown_any (r : Int) u
    have HKN := Lib.hid hkn
    clear hkn
    go_wp2_with fail
    refine (HKN.out _).mono ?_
    rintro e wk ⟨rfl, hkk⟩
    rcases HK.out with h1 | ⟨h1, h2⟩ | ⟨h1, h2, rfl⟩ | ⟨h1, h2, h3⟩
    · rw [h1]
      clear h1 HK
      go_upto_region 7 with fail
      obtain ⟨st1, r1⟩ := run1 a n 4 (by decide) s hs
      obtain ⟨st2, r2⟩ := run2 a n 4 (by decide) s hs
      have r3 := run3 a n (by omega) (by omega) s hs
      have hcb : 4 ≤ 164 := nine_le _ (by decide)
      have hW1 := alloc1 wk (.cells #[.int .i64 0, .int .i64 0, .int .i64 0, .int .u32 (a : Int), .int .i64 4, .int .i64 0, .int .i64 0, .int .u32 (n : Int), .int .i64 22, .int .i64 0, .int .i64 0, .int .u32 0] 35)
      have hW2 := alloc1 (wk.alloc (.cells #[.int .i64 0, .int .i64 0, .int .i64 0, .int .u32 (a : Int), .int .i64 4, .int .i64 0, .int .i64 0, .int .u32 (n : Int), .int .i64 22, .int .i64 0, .int .i64 0, .int .u32 0] 35)) (.cells #[.int .i64 0, .int .i64 0, .int .i64 0, .int .u32 (a : Int), .int .i64 1, .int .i64 0, .int .i64 0, .int .u32 (n : Int), .int .i64 12, .int .i64 0, .int .i64 0, .int .u32 0, .int .i64 22, .int .i64 0, .int .i64 0, .int .u32 0] 35)
      have hI1 := (OwnIns.reads (l := prog1 a n 4) (World.ownsRow_lit (base := w.heap.size) (e := 35) (size := 4) wk #[.int .i64 0, .int .i64 0, .int .i64 0, .int .u32 (a : Int), .int .i64 4, .int .i64 0, .int .i64 0, .int .u32 (n : Int), .int .i64 22, .int .i64 0, .int .i64 0, .int .u32 0] 3 hkk.size (by unfold maxLen; omega) rfl) (bound1 a n 4 (by omega) (by omega) hcb)).below hW2
      have hI2 := OwnIns.reads (l := prog2 a n 4) (World.ownsRow_lit (base := w.heap.size) (e := 35) (size := 4) (wk.alloc (.cells #[.int .i64 0, .int .i64 0, .int .i64 0, .int .u32 (a : Int), .int .i64 4, .int .i64 0, .int .i64 0, .int .u32 (n : Int), .int .i64 22, .int .i64 0, .int .i64 0, .int .u32 0] 35)) #[.int .i64 0, .int .i64 0, .int .i64 0, .int .u32 (a : Int), .int .i64 1, .int .i64 0, .int .i64 0, .int .u32 (n : Int), .int .i64 12, .int .i64 0, .int .i64 0, .int .u32 0, .int .i64 22, .int .i64 0, .int .i64 0, .int .u32 0] 4 (Nat.le_trans hkk.size hW1.size) (by unfold maxLen; omega) rfl) (bound2 a n 4 (by omega) (by omega) hcb)
      rw [World.size_alloc] at hI2
      generalize (if 4 = 52 ∧ n = 0 then 0 else sumV 4 a n) = rr at r1 r2
      have R1 := Lib.hid r1; have R2 := Lib.hid r2; have R3 := Lib.hid r3; have HI1 := Lib.hid hI1; have HI2 := Lib.hid hI2
      have HW2 := Lib.hid ((hkk.alloc hkk.size (.cells #[.int .i64 0, .int .i64 0, .int .i64 0, .int .u32 (a : Int), .int .i64 4, .int .i64 0, .int .i64 0, .int .u32 (n : Int), .int .i64 22, .int .i64 0, .int .i64 0, .int .u32 0] 35)).trans (hW2.mono (Nat.le_trans hkk.size hW1.size)))
      have HQ := Lib.hid q1; have HQ2 := Lib.hid q2
      clear r1 r2 r3 hI1 hI2 hW1 hW2 hkk
      go_wp2_with fail
      refine (vmRun_any _ _ s _ HI1.out (by show 3 ≤ 1000000; omega)).mono ?_
      rintro e w6 ⟨rfl, hb6⟩
      rw [R1.out]
      unfold resV
      have HI2' := Lib.hid (HI2.out.below hb6)
      have HW6 := Lib.hid (HW2.out.trans (hb6.mono HW2.out.size))
      clear hb6 HI1 HI2
      go_wp2_with fail
      refine (vmRun_any _ _ s _ HI2'.out (by show 4 ≤ 1000000; omega)).mono ?_
      rintro e w7 ⟨rfl, hb7⟩
      rw [R2.out]
      unfold resV
      have hw7 := HW6.out.trans (hb7.mono HW6.out.size)
      have hI3 := OwnIns.reads (l := prog3 a n) (World.ownsRow_lit (base := w.heap.size) (e := 35) (size := 4) w7 #[.int .i64 0, .int .i64 0, .int .i64 0, .int .u32 (a : Int), .int .i64 4, .int .i64 0, .int .i64 0, .int .u32 (n : Int), .int .i64 20, .int .i64 0, .int .i64 0, .int .u32 (n : Int), .int .i64 132, .int .i64 0, .int .i64 0, .int .u32 0, .int .i64 132, .int .i64 0, .int .i64 0, .int .u32 0, .int .i64 22, .int .i64 0, .int .i64 0, .int .u32 0] 6 hw7.size (by unfold maxLen; omega) rfl) (bound3 a n HQ.out HQ2.out)
      have HW7 := Lib.hid (hw7.alloc hw7.size (.cells #[.int .i64 0, .int .i64 0, .int .i64 0, .int .u32 (a : Int), .int .i64 4, .int .i64 0, .int .i64 0, .int .u32 (n : Int), .int .i64 20, .int .i64 0, .int .i64 0, .int .u32 (n : Int), .int .i64 132, .int .i64 0, .int .i64 0, .int .u32 0, .int .i64 132, .int .i64 0, .int .i64 0, .int .u32 0, .int .i64 22, .int .i64 0, .int .i64 0, .int .u32 0] 35))
      have HI3 := Lib.hid hI3
      clear hb7 hw7 hI3 HI2'
      go_wp2_with fail
      refine (vmRun_any _ _ s _ HI3.out (by show 6 ≤ 1000000; omega)).mono ?_
      rintro e w8 ⟨rfl, hb8⟩
      rw [R3.out]
      unfold resV
      have HW8 := Lib.hid (HW7.out.trans (hb8.mono HW7.out.size))
      clear hb8
      go_wp2_with fail
      refine (vmAlive _).mono ?_
      rintro e w9 ⟨rfl, hb9⟩
      have HW9 := Lib.hid (HW8.out.trans (hb9.mono HW8.out.size))
      clear hb9
      go_wp2_with fail
      go_ret
      exact ⟨rfl, HW9.out⟩
    · rw [h1]
      clear h1 HK
      have h2n : bits BinOp.and IntKind.i64 (r : Int) 7 ≠ 4 := by rwa [beq_eq_false_iff_ne] at h2
      have h2b : (bits BinOp.and IntKind.i64 (r : Int) 7 != 4) = true := by rw [bne, h2]; rfl
      go_upto_region 7 with fail
      obtain ⟨st1, r1⟩ := run1 a n 4 (by decide) s hs
      obtain ⟨st2, r2⟩ := run2 a n 4 (by decide) s hs
      have r3 := run3 a n (by omega) (by omega) s hs
      have hcb : 4 ≤ 164 := nine_le _ (by decide)
      have hW1 := alloc1 wk (.cells #[.int .i64 0, .int .i64 0, .int .i64 0, .int .u32 (a : Int), .int .i64 4, .int .i64 0, .int .i64 0, .int .u32 (n : Int), .int .i64 22, .int .i64 0, .int .i64 0, .int .u32 0] 35)
      have hW2 := alloc1 (wk.alloc (.cells #[.int .i64 0, .int .i64 0, .int .i64 0, .int .u32 (a : Int), .int .i64 4, .int .i64 0, .int .i64 0, .int .u32 (n : Int), .int .i64 22, .int .i64 0, .int .i64 0, .int .u32 0] 35)) (.cells #[.int .i64 0, .int .i64 0, .int .i64 0, .int .u32 (a : Int), .int .i64 1, .int .i64 0, .int .i64 0, .int .u32 (n : Int), .int .i64 12, .int .i64 0, .int .i64 0, .int .u32 0, .int .i64 22, .int .i64 0, .int .i64 0, .int .u32 0] 35)
      have hI1 := (OwnIns.reads (l := prog1 a n 4) (World.ownsRow_lit (base := w.heap.size) (e := 35) (size := 4) wk #[.int .i64 0, .int .i64 0, .int .i64 0, .int .u32 (a : Int), .int .i64 4, .int .i64 0, .int .i64 0, .int .u32 (n : Int), .int .i64 22, .int .i64 0, .int .i64 0, .int .u32 0] 3 hkk.size (by unfold maxLen; omega) rfl) (bound1 a n 4 (by omega) (by omega) hcb)).below hW2
      have hI2 := OwnIns.reads (l := prog2 a n 4) (World.ownsRow_lit (base := w.heap.size) (e := 35) (size := 4) (wk.alloc (.cells #[.int .i64 0, .int .i64 0, .int .i64 0, .int .u32 (a : Int), .int .i64 4, .int .i64 0, .int .i64 0, .int .u32 (n : Int), .int .i64 22, .int .i64 0, .int .i64 0, .int .u32 0] 35)) #[.int .i64 0, .int .i64 0, .int .i64 0, .int .u32 (a : Int), .int .i64 1, .int .i64 0, .int .i64 0, .int .u32 (n : Int), .int .i64 12, .int .i64 0, .int .i64 0, .int .u32 0, .int .i64 22, .int .i64 0, .int .i64 0, .int .u32 0] 4 (Nat.le_trans hkk.size hW1.size) (by unfold maxLen; omega) rfl) (bound2 a n 4 (by omega) (by omega) hcb)
      rw [World.size_alloc] at hI2
      generalize (if 4 = 52 ∧ n = 0 then 0 else sumV 4 a n) = rr at r1 r2
      have R1 := Lib.hid r1; have R2 := Lib.hid r2; have R3 := Lib.hid r3; have HI1 := Lib.hid hI1; have HI2 := Lib.hid hI2
      have HW2 := Lib.hid ((hkk.alloc hkk.size (.cells #[.int .i64 0, .int .i64 0, .int .i64 0, .int .u32 (a : Int), .int .i64 4, .int .i64 0, .int .i64 0, .int .u32 (n : Int), .int .i64 22, .int .i64 0, .int .i64 0, .int .u32 0] 35)).trans (hW2.mono (Nat.le_trans hkk.size hW1.size)))
      have HQ := Lib.hid q1; have HQ2 := Lib.hid q2
      clear r1 r2 r3 hI1 hI2 hW1 hW2 hkk
      go_wp2_with fail
      refine (vmRun_any _ _ s _ HI1.out (by show 3 ≤ 1000000; omega)).mono ?_
      rintro e w6 ⟨rfl, hb6⟩
      rw [R1.out]
      unfold resV
      have HI2' := Lib.hid (HI2.out.below hb6)
      have HW6 := Lib.hid (HW2.out.trans (hb6.mono HW2.out.size))
      clear hb6 HI1 HI2
      go_wp2_with fail
      refine (vmRun_any _ _ s _ HI2'.out (by show 4 ≤ 1000000; omega)).mono ?_
      rintro e w7 ⟨rfl, hb7⟩
      rw [R2.out]
      unfold resV
      have hw7 := HW6.out.trans (hb7.mono HW6.out.size)
      have hI3 := OwnIns.reads (l := prog3 a n) (World.ownsRow_lit (base := w.heap.size) (e := 35) (size := 4) w7 #[.int .i64 0, .int .i64 0, .int .i64 0, .int .u32 (a : Int), .int .i64 4, .int .i64 0, .int .i64 0, .int .u32 (n : Int), .int .i64 20, .int .i64 0, .int .i64 0, .int .u32 (n : Int), .int .i64 132, .int .i64 0, .int .i64 0, .int .u32 0, .int .i64 132, .int .i64 0, .int .i64 0, .int .u32 0, .int .i64 22, .int .i64 0, .int .i64 0, .int .u32 0] 6 hw7.size (by unfold maxLen; omega) rfl) (bound3 a n HQ.out HQ2.out)
      have HW7 := Lib.hid (hw7.alloc hw7.size (.cells #[.int .i64 0, .int .i64 0, .int .i64 0, .int .u32 (a : Int), .int .i64 4, .int .i64 0, .int .i64 0, .int .u32 (n : Int), .int .i64 20, .int .i64 0, .int .i64 0, .int .u32 (n : Int), .int .i64 132, .int .i64 0, .int .i64 0, .int .u32 0, .int .i64 132, .int .i64 0, .int .i64 0, .int .u32 0, .int .i64 22, .int .i64 0, .int .i64 0, .int .u32 0] 35))
      have HI3 := Lib.hid hI3
      clear hb7 hw7 hI3 HI2'
      go_wp2_with fail
      refine (vmRun_any _ _ s _ HI3.out (by show 6 ≤ 1000000; omega)).mono ?_
      rintro e w8 ⟨rfl, hb8⟩
      rw [R3.out]
      unfold resV
      have HW8 := Lib.hid (HW7.out.trans (hb8.mono HW7.out.size))
      clear hb8
      go_wp2_with fail
      refine (vmAlive _).mono ?_
      rintro e w9 ⟨rfl, hb9⟩
      have HW9 := Lib.hid (HW8.out.trans (hb9.mono HW8.out.size))
      clear hb9
      go_wp2_with fail
      go_ret
      exact ⟨rfl, HW9.out⟩
    · rw [h1]
      clear h1 HK
      go_upto_region 7 with fail
      obtain ⟨st1, r1⟩ := run1 a n 4 (by decide) s hs
      obtain ⟨st2, r2⟩ := run2 a n 4 (by decide) s hs
      have r3 := run3 a n (by omega) (by omega) s hs
      have hcb : 4 ≤ 164 := nine_le _ (by decide)
      have hW1 := alloc1 wk (.cells #[.int .i64 0, .int .i64 0, .int .i64 0, .int .u32 (a : Int), .int .i64 4, .int .i64 0, .int .i64 0, .int .u32 (n : Int), .int .i64 22, .int .i64 0, .int .i64 0, .int .u32 0] 35)
      have hW2 := alloc1 (wk.alloc (.cells #[.int .i64 0, .int .i64 0, .int .i64 0, .int .u32 (a : Int), .int .i64 4, .int .i64 0, .int .i64 0, .int .u32 (n : Int), .int .i64 22, .int .i64 0, .int .i64 0, .int .u32 0] 35)) (.cells #[.int .i64 0, .int .i64 0, .int .i64 0, .int .u32 (a : Int), .int .i64 1, .int .i64 0, .int .i64 0, .int .u32 (n : Int), .int .i64 12, .int .i64 0, .int .i64 0, .int .u32 0, .int .i64 22, .int .i64 0, .int .i64 0, .int .u32 0] 35)
      have hI1 := (OwnIns.reads (l := prog1 a n 4) (World.ownsRow_lit (base := w.heap.size) (e := 35) (size := 4) wk #[.int .i64 0, .int .i64 0, .int .i64 0, .int .u32 (a : Int), .int .i64 4, .int .i64 0, .int .i64 0, .int .u32 (n : Int), .int .i64 22, .int .i64 0, .int .i64 0, .int .u32 0] 3 hkk.size (by unfold maxLen; omega) rfl) (bound1 a n 4 (by omega) (by omega) hcb)).below hW2
      have hI2 := OwnIns.reads (l := prog2 a n 4) (World.ownsRow_lit (base := w.heap.size) (e := 35) (size := 4) (wk.alloc (.cells #[.int .i64 0, .int .i64 0, .int .i64 0, .int .u32 (a : Int), .int .i64 4, .int .i64 0, .int .i64 0, .int .u32 (n : Int), .int .i64 22, .int .i64 0, .int .i64 0, .int .u32 0] 35)) #[.int .i64 0, .int .i64 0, .int .i64 0, .int .u32 (a : Int), .int .i64 1, .int .i64 0, .int .i64 0, .int .u32 (n : Int), .int .i64 12, .int .i64 0, .int .i64 0, .int .u32 0, .int .i64 22, .int .i64 0, .int .i64 0, .int .u32 0] 4 (Nat.le_trans hkk.size hW1.size) (by unfold maxLen; omega) rfl) (bound2 a n 4 (by omega) (by omega) hcb)
      rw [World.size_alloc] at hI2
      generalize (if 4 = 52 ∧ n = 0 then 0 else sumV 4 a n) = rr at r1 r2
      have R1 := Lib.hid r1; have R2 := Lib.hid r2; have R3 := Lib.hid r3; have HI1 := Lib.hid hI1; have HI2 := Lib.hid hI2
      have HW2 := Lib.hid ((hkk.alloc hkk.size (.cells #[.int .i64 0, .int .i64 0, .int .i64 0, .int .u32 (a : Int), .int .i64 4, .int .i64 0, .int .i64 0, .int .u32 (n : Int), .int .i64 22, .int .i64 0, .int .i64 0, .int .u32 0] 35)).trans (hW2.mono (Nat.le_trans hkk.size hW1.size)))
      have HQ := Lib.hid q1; have HQ2 := Lib.hid q2
      clear r1 r2 r3 hI1 hI2 hW1 hW2 hkk
      go_wp2_with fail
      refine (vmRun_any _ _ s _ HI1.out (by show 3 ≤ 1000000; omega)).mono ?_
      rintro e w6 ⟨rfl, hb6⟩
      rw [R1.out]
      unfold resV
      have HI2' := Lib.hid (HI2.out.below hb6)
      have HW6 := Lib.hid (HW2.out.trans (hb6.mono HW2.out.size))
      clear hb6 HI1 HI2
      go_wp2_with fail
      refine (vmRun_any _ _ s _ HI2'.out (by show 4 ≤ 1000000; omega)).mono ?_
      rintro e w7 ⟨rfl, hb7⟩
      rw [R2.out]
      unfold resV
      have hw7 := HW6.out.trans (hb7.mono HW6.out.size)
      have hI3 := OwnIns.reads (l := prog3 a n) (World.ownsRow_lit (base := w.heap.size) (e := 35) (size := 4) w7 #[.int .i64 0, .int .i64 0, .int .i64 0, .int .u32 (a : Int), .int .i64 4, .int .i64 0, .int .i64 0, .int .u32 (n : Int), .int .i64 20, .int .i64 0, .int .i64 0, .int .u32 (n : Int), .int .i64 132, .int .i64 0, .int .i64 0, .int .u32 0, .int .i64 132, .int .i64 0, .int .i64 0, .int .u32 0, .int .i64 22, .int .i64 0, .int .i64 0, .int .u32 0] 6 hw7.size (by unfold maxLen; omega) rfl) (bound3 a n HQ.out HQ2.out)
      have HW7 := Lib.hid (hw7.alloc hw7.size (.cells #[.int .i64 0, .int .i64 0, .int .i64 0, .int .u32 (a : Int), .int .i64 4, .int .i64 0, .int .i64 0, .int .u32 (n : Int), .int .i64 20, .int .i64 0, .int .i64 0, .int .u32 (n : Int), .int .i64 132, .int .i64 0, .int .i64 0, .int .u32 0, .int .i64 132, .int .i64 0, .int .i64 0, .int .u32 0, .int .i64 22, .int .i64 0, .int .i64 0, .int .u32 0] 35))
      have HI3 := Lib.hid hI3
      clear hb7 hw7 hI3 HI2'
      go_wp2_with fail
      refine (vmRun_any _ _ s _ HI3.out (by show 6 ≤ 1000000; omega)).mono ?_
      rintro e w8 ⟨rfl, hb8⟩
      rw [R3.out]
      unfold resV
      have HW8 := Lib.hid (HW7.out.trans (hb8.mono HW7.out.size))
      clear hb8
      go_wp2_with fail
      refine (vmAlive _).mono ?_
      rintro e w9 ⟨rfl, hb9⟩
      have HW9 := Lib.hid (HW8.out.trans (hb9.mono HW8.out.size))
      clear hb9
      go_wp2_with fail
      go_ret
      exact ⟨rfl, HW9.out⟩
    · rw [h1]
      have hin := HR9.out ⟨h1, h2, h3⟩
      have h3I : (r : Int) ≠ 132 := by omega
      have h3B : ((r : Int) == 132) = false := by rw [beq_eq_false_iff_ne]; exact h3I
      have hor := (or8 r hin).1
      clear h1 HK
      go_upto_region 7 with fail
      obtain ⟨st1, r1⟩ := run1 a n r hin s hs
      obtain ⟨st2, r2⟩ := run2 a n r hin s hs
      have r3 := run3 a n (by omega) (by omega) s hs
      have hcb : r ≤ 164 := nine_le _ hin
      have hW1 := alloc1 wk (.cells #[.int .i64 0, .int .i64 0, .int .i64 0, .int .u32 (a : Int), .int .i64 (r : Int), .int .i64 0, .int .i64 0, .int .u32 (n : Int), .int .i64 22, .int .i64 0, .int .i64 0, .int .u32 0] 35)
      have hW2 := alloc1 (wk.alloc (.cells #[.int .i64 0, .int .i64 0, .int .i64 0, .int .u32 (a : Int), .int .i64 (r : Int), .int .i64 0, .int .i64 0, .int .u32 (n : Int), .int .i64 22, .int .i64 0, .int .i64 0, .int .u32 0] 35)) (.cells #[.int .i64 0, .int .i64 0, .int .i64 0, .int .u32 (a : Int), .int .i64 1, .int .i64 0, .int .i64 0, .int .u32 (n : Int), .int .i64 ((r + 8 : Nat) : Int), .int .i64 0, .int .i64 0, .int .u32 0, .int .i64 22, .int .i64 0, .int .i64 0, .int .u32 0] 35)
      have hI1 := (OwnIns.reads (l := prog1 a n r) (World.ownsRow_lit (base := w.heap.size) (e := 35) (size := 4) wk #[.int .i64 0, .int .i64 0, .int .i64 0, .int .u32 (a : Int), .int .i64 (r : Int), .int .i64 0, .int .i64 0, .int .u32 (n : Int), .int .i64 22, .int .i64 0, .int .i64 0, .int .u32 0] 3 hkk.size (by unfold maxLen; omega) rfl) (bound1 a n r (by omega) (by omega) hcb)).below hW2
      have hI2 := OwnIns.reads (l := prog2 a n r) (World.ownsRow_lit (base := w.heap.size) (e := 35) (size := 4) (wk.alloc (.cells #[.int .i64 0, .int .i64 0, .int .i64 0, .int .u32 (a : Int), .int .i64 (r : Int), .int .i64 0, .int .i64 0, .int .u32 (n : Int), .int .i64 22, .int .i64 0, .int .i64 0, .int .u32 0] 35)) #[.int .i64 0, .int .i64 0, .int .i64 0, .int .u32 (a : Int), .int .i64 1, .int .i64 0, .int .i64 0, .int .u32 (n : Int), .int .i64 ((r + 8 : Nat) : Int), .int .i64 0, .int .i64 0, .int .u32 0, .int .i64 22, .int .i64 0, .int .i64 0, .int .u32 0] 4 (Nat.le_trans hkk.size hW1.size) (by unfold maxLen; omega) rfl) (bound2 a n r (by omega) (by omega) hcb)
      rw [World.size_alloc] at hI2
      generalize (if r = 52 ∧ n = 0 then 0 else sumV r a n) = rr at r1 r2
      have R1 := Lib.hid r1; have R2 := Lib.hid r2; have R3 := Lib.hid r3; have HI1 := Lib.hid hI1; have HI2 := Lib.hid hI2
      have HW2 := Lib.hid ((hkk.alloc hkk.size (.cells #[.int .i64 0, .int .i64 0, .int .i64 0, .int .u32 (a : Int), .int .i64 (r : Int), .int .i64 0, .int .i64 0, .int .u32 (n : Int), .int .i64 22, .int .i64 0, .int .i64 0, .int .u32 0] 35)).trans (hW2.mono (Nat.le_trans hkk.size hW1.size)))
      have HQ := Lib.hid q1; have HQ2 := Lib.hid q2
      clear r1 r2 r3 hI1 hI2 hW1 hW2 hkk
      go_wp2_with fail
      refine (vmRun_any _ _ s _ HI1.out (by show 3 ≤ 1000000; omega)).mono ?_
      rintro e w6 ⟨rfl, hb6⟩
      rw [R1.out]
      unfold resV
      have HI2' := Lib.hid (HI2.out.below hb6)
      have HW6 := Lib.hid (HW2.out.trans (hb6.mono HW2.out.size))
      clear hb6 HI1 HI2
      go_wp2_with fail
      refine (vmRun_any _ _ s _ HI2'.out (by show 4 ≤ 1000000; omega)).mono ?_
      rintro e w7 ⟨rfl, hb7⟩
      rw [R2.out]
      unfold resV
      have hw7 := HW6.out.trans (hb7.mono HW6.out.size)
      have hI3 := OwnIns.reads (l := prog3 a n) (World.ownsRow_lit (base := w.heap.size) (e := 35) (size := 4) w7 #[.int .i64 0, .int .i64 0, .int .i64 0, .int .u32 (a : Int), .int .i64 4, .int .i64 0, .int .i64 0, .int .u32 (n : Int), .int .i64 20, .int .i64 0, .int .i64 0, .int .u32 (n : Int), .int .i64 132, .int .i64 0, .int .i64 0, .int .u32 0, .int .i64 132, .int .i64 0, .int .i64 0, .int .u32 0, .int .i64 22, .int .i64 0, .int .i64 0, .int .u32 0] 6 hw7.size (by unfold maxLen; omega) rfl) (bound3 a n HQ.out HQ2.out)
      have HW7 := Lib.hid (hw7.alloc hw7.size (.cells #[.int .i64 0, .int .i64 0, .int .i64 0, .int .u32 (a : Int), .int .i64 4, .int .i64 0, .int .i64 0, .int .u32 (n : Int), .int .i64 20, .int .i64 0, .int .i64 0, .int .u32 (n : Int), .int .i64 132, .int .i64 0, .int .i64 0, .int .u32 0, .int .i64 132, .int .i64 0, .int .i64 0, .int .u32 0, .int .i64 22, .int .i64 0, .int .i64 0, .int .u32 0] 35))
      have HI3 := Lib.hid hI3
      clear hb7 hw7 hI3 HI2'
      go_wp2_with fail
      refine (vmRun_any _ _ s _ HI3.out (by show 6 ≤ 1000000; omega)).mono ?_
      rintro e w8 ⟨rfl, hb8⟩
      rw [R3.out]
      unfold resV
      have HW8 := Lib.hid (HW7.out.trans (hb8.mono HW7.out.size))
      clear hb8
      go_wp2_with fail
      refine (vmAlive _).mono ?_
      rintro e w9 ⟨rfl, hb9⟩
      have HW9 := Lib.hid (HW8.out.trans (hb9.mono HW8.out.size))
      clear hb9
      go_wp2_with fail
      go_ret
      exact ⟨rfl, HW9.out⟩
  · have hsI : (s.size : Int) ≠ 64 := by omega
    go_wp2_with fail
    refine (vmAlive _).mono ?_
    rintro e w5 ⟨rfl, hb5⟩
    go_wp2_with fail
    go_ret
    exact ⟨rfl, hb5⟩
end Go.Proofs.Ytpdaenpcgcjmjaa.lawVmSums
