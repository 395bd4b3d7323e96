/- Which conditions hold: the plain side; and the reference's look at a condition of nothing. -/
import Derived.Test.YtcejhfpdajbdcaaCnd2
import Derived.Test.YtcejhfpdajbdcaaCnd5
import Derived.Test.YtcejhfpdajbdcaaRef16R
import Derived.Test.YtcejhfpdajbdcaaCal
namespace Go.Proofs.Ytcejhfpdajbdcaa
open Go.RowKit Go.ChangeShapes
set_option linter.unusedVariables false

/-- does a sign hold of an argument and a value? -/
def signV (s : ByteArray) (a v : Nat) : Bool :=
  if s = sGe then decide (v ≤ a) else if s = sGt then decide (v < a) else if s = sLe then decide (a ≤ v) else if s = sLt then decide (a < v) else if s = sNe then decide (a ≠ v) else decide (a = v)
mutual
def Cnd.holds (args : List Nat) : Cnd → Bool
  | .mk kind kids arg mask sign value => if kind = 1 then allH args kids else if kind = 2 then anyH args kids else if kind = 3 then !(anyH args kids) else signV sign (args.getD arg.toNat 0 &&& mask) value
def allH (args : List Nat) : List Cnd → Bool
  | [] => true
  | k :: ks => k.holds args && allH args ks
def anyH (args : List Nat) : List Cnd → Bool
  | [] => false
  | k :: ks => k.holds args || anyH args ks
end
theorem Cnd.holds_eq (args : List Nat) (c : Cnd) : c.holds args = if c.kind = 1 then allH args c.kids else if c.kind = 2 then anyH args c.kids else if c.kind = 3 then !(anyH args c.kids) else signV c.sign (args.getD c.arg.toNat 0 &&& c.mask) c.value := by
  cases c; rw [Cnd.holds]; rfl
def callV (nr arch ip a0 a1 a2 a3 a4 a5 : Nat) : Value := .agg #[.int .u32 (nr : Nat), .int .u32 (arch : Nat), .int .u64 (ip : Nat), .int .u64 (a0 : Nat), .int .u64 (a1 : Nat), .int .u64 (a2 : Nat), .int .u64 (a3 : Nat), .int .u64 (a4 : Nat), .int .u64 (a5 : Nat)]
def callO (nr arch ip a0 a1 a2 a3 a4 a5 : Nat) : Obj := .cells #[.int .u32 (nr : Nat), .int .u32 (arch : Nat), .int .u64 (ip : Nat), .int .u64 (a0 : Nat), .int .u64 (a1 : Nat), .int .u64 (a2 : Nat), .int .u64 (a3 : Nat), .int .u64 (a4 : Nat), .int .u64 (a5 : Nat)] 39
def zeroV (kind : Int) (n : Nat) (arg : Int) (mask : Nat) (sign : ByteArray) (value : Nat) : Bool := decide (kind = 0) && bareV arg mask sign value && decide (n = 0)
def Cnd.zero (c : Cnd) : Bool := zeroV c.kind c.kids.length c.arg c.mask c.sign c.value
theorem fines_get (l : List Cnd) (j : Nat) (h : j < l.length) (hf : fines l = true) : (l.getD j cndZ).fine = true := by
  induction l generalizing j with
  | nil => simp at h
  | cons a l ih =>
    rw [fines, Bool.and_eq_true] at hf
    cases j with
    | zero => exact hf.1
    | succ j => exact ih j (by simpa using h) hf.2
theorem any_holds (args : List Nat) (l : List Cnd) : (List.range l.length).any (fun j => (l.getD j cndZ).holds args) = anyH args l := by
  induction l with
  | nil => rfl
  | cons a l ih => rw [List.length_cons, List.range_succ_eq_map, List.any_cons, List.any_map, anyH, ← ih]; rfl
theorem any_nots (args : List Nat) (l : List Cnd) : (List.range l.length).any (fun j => !(l.getD j cndZ).holds args) = !allH args l := by
  induction l with
  | nil => rfl
  | cons a l ih =>
    rw [List.length_cons, List.range_succ_eq_map, List.any_cons, List.any_map, allH, Bool.not_and, ← ih]; rfl
theorem and_u64n (a b : Nat) (ha : a ≤ 18446744073709551615) (hb : b ≤ 18446744073709551615) : bits BinOp.and IntKind.u64 (a : Int) (b : Int) = ((a &&& b : Nat) : Int) := bits_and_u64_nat a b (by omega) (by omega)
theorem and_le64 (a b : Nat) (ha : a ≤ 18446744073709551615) : a &&& b ≤ 18446744073709551615 := Nat.le_trans Nat.and_le_left ha

set_option maxRecDepth 100000 in
theorem refNone16 (kind : Int) (ka : Option Addr) (kn kc : Nat) (arg : Int) (mask : Nat) (sign : ByteArray) (value : Nat) (w : World) : Calls Try.prog 25 #[.agg #[.int .i64 kind, .slice ka kn kc, .int .i64 arg, .int .u64 (mask : Nat), .string sign, .int .u64 (value : Nat)]] w fun e w' => e = .returned (.bool (zeroV kind kn arg mask sign value)) ∧ Below w.heap.size w w' := by
  by_cases h : kind = 0
  · subst h
    have hB := fun u => refBare_any 0 (.slice ka kn kc) arg mask sign value ⟨_, _, _, rfl⟩ u
    have hnw := heap_alloc_new w (.cells #[.int .i64 0, .slice ka kn kc, .int .i64 arg, .int .u64 (mask : Nat), .string sign, .int .u64 (value : Nat)] 31)
    have hw1 := (Below.refl w.heap.size w).alloc (Nat.le_refl _) (.cells #[.int .i64 0, .slice ka kn kc, .int .i64 arg, .int .u64 (mask : Nat), .string sign, .int .u64 (value : Nat)] 31)
    have hz : zeroV 0 kn arg mask sign value = (bareV arg mask sign value && decide (kn = 0)) := by unfold zeroV; simp
    have HB := Lib.hid hB; have HZ := Lib.hid hz; have HNW := Lib.hid hnw; have HW1 := Lib.hid hw1
    clear hB hz hnw hw1
    go_enter Try.func25, Try.ntmps25
    go_wp2_with fail
    refine (HB.out _).mono ?_
    rintro e w2 ⟨rfl, hb2⟩
    have q1 := below_cell hb2 HNW.out 1 rfl
    have HW2 := Lib.hid (HW1.out.trans (hb2.mono HW1.out.size))
    clear hb2 HB HNW HW1
    generalize bareV arg mask sign value = B at *
    by_cases hk : kn = 0
    · subst hk
      cases B
      · go_wp2_with fail
        go_ret
        exact ⟨by rw [HZ.out]; rfl, HW2.out⟩
      · go_wp2_with fail
        go_ret
        exact ⟨by rw [HZ.out]; rfl, HW2.out⟩
    · have e1 : ((kn : Int) == 0) = false := by rw [beq_eq_false_iff_ne]; omega
      have HK := Lib.hid hk
      clear hk
      cases B
      · go_wp2_with fail
        go_ret
        exact ⟨by rw [HZ.out]; rfl, HW2.out⟩
      · go_wp2_with fail
        go_ret
        exact ⟨by rw [HZ.out, decide_eq_false HK.out]; rfl, HW2.out⟩
  · have e : zeroV kind kn arg mask sign value = false := by unfold zeroV bareV; simp [h]
    have e1 : (kind == 0) = false := by rw [beq_eq_false_iff_ne]; exact h
    have E := Lib.hid e
    clear e h
    go_enter Try.func25, Try.ntmps25
    go_wp2_with fail
    go_ret
    exact ⟨by rw [E.out]; rfl, (Below.refl _ _).alloc (Nat.le_refl _) _⟩
/-- what a condition answers a call -/
def Cnd.does (c : Cnd) (args : List Nat) : Bool := c.zero || (c.right && c.holds args)
theorem two_at (w : World) (o0 o1 : Obj) : ∃ W, W = (w.alloc o0).alloc o1 ∧ W.heap[w.heap.size]? = some o0 ∧ W.heap[w.heap.size + 1]? = some o1 ∧ Below w.heap.size w W := by
  have h0 := heap_alloc_new w o0
  have h1 := heap_alloc_new (w.alloc o0) o1
  rw [World.size_alloc] at h1
  have b1 := (Below.refl (w.alloc o0).heap.size (w.alloc o0)).alloc (Nat.le_refl _) o1
  have b0 := (Below.refl w.heap.size w).alloc (Nat.le_refl _) o0
  exact ⟨_, rfl, (b1.block _ (lt_of_block h0)).trans h0, h1, b0.trans (b1.mono b0.size)⟩
theorem Cal.list6 {x : Cal} (h : x.ok) : ∃ nr arch ip a0 a1 a2 a3 a4 a5, x = ⟨nr, arch, ip, [a0, a1, a2, a3, a4, a5]⟩ := by
  obtain ⟨nr, arch, ip, args⟩ := x
  obtain ⟨x1, x2, x3, x4, x5⟩ := h
  dsimp only at x4
  match args, x4 with
  | [a0, a1, a2, a3, a4, a5], _ => exact ⟨nr, arch, ip, a0, a1, a2, a3, a4, a5, rfl⟩
theorem does_right (c : Cnd) (args : List Nat) (h : c.right = true) : c.does args = c.holds args := by
  have hz : c.zero = false := by
    cases hz : c.zero
    · rfl
    · exfalso
      unfold Cnd.right at h
      rw [Bool.and_eq_true, Cnd.fine_eq, Bool.and_eq_true] at h
      have ha := h.2.1
      unfold Cnd.zero zeroV at hz
      rw [Bool.and_eq_true, Bool.and_eq_true, decide_eq_true_iff] at hz
      unfold Cnd.alone at ha
      rw [if_neg (by omega), if_neg (by omega), if_neg (by omega)] at ha
      cases ha
  unfold Cnd.does
  rw [hz, h]; rfl
theorem alloc4_at (w : World) (o0 o1 o2 o3 : Obj) : let u := (((w.alloc o0).alloc o1).alloc o2).alloc o3
    u.heap[w.heap.size]? = some o0 ∧ u.heap[w.heap.size + 1]? = some o1 ∧ u.heap[w.heap.size + 1 + 1]? = some o2 ∧ u.heap[w.heap.size + 1 + 1 + 1]? = some o3 ∧ Below w.heap.size w u := by
  have h0 := heap_alloc_new w o0
  have h1 := heap_alloc_new (w.alloc o0) o1
  have h2 := heap_alloc_new ((w.alloc o0).alloc o1) o2
  have h3 := heap_alloc_new (((w.alloc o0).alloc o1).alloc o2) o3
  rw [World.size_alloc] at h1
  rw [World.size_alloc, World.size_alloc] at h2
  rw [World.size_alloc, World.size_alloc, World.size_alloc] at h3
  have b1 := (Below.refl (w.alloc o0).heap.size (w.alloc o0)).alloc (Nat.le_refl _) o1
  have b2 := (Below.refl ((w.alloc o0).alloc o1).heap.size ((w.alloc o0).alloc o1)).alloc (Nat.le_refl _) o2
  have b3 := (Below.refl (((w.alloc o0).alloc o1).alloc o2).heap.size (((w.alloc o0).alloc o1).alloc o2)).alloc (Nat.le_refl _) o3
  have b23 := b2.trans (b3.mono b2.size)
  have b123 := b1.trans (b23.mono b1.size)
  have b0 := (Below.refl w.heap.size w).alloc (Nat.le_refl _) o0
  exact ⟨(b123.block _ (lt_of_block h0)).trans h0, (b23.block _ (lt_of_block h1)).trans h1, (b3.block _ (lt_of_block h2)).trans h2, h3, b0.trans (b123.mono b0.size)⟩
theorem four (w : World) (o0 o1 o2 o3 : Obj) : ∃ W, W = (((w.alloc o0).alloc o1).alloc o2).alloc o3 ∧ W.heap[w.heap.size]? = some o0 ∧ W.heap[w.heap.size + 1]? = some o1 ∧ W.heap[w.heap.size + 1 + 1]? = some o2 ∧ W.heap[w.heap.size + 1 + 1 + 1]? = some o3 ∧ Below w.heap.size w W :=
  ⟨_, rfl, alloc4_at w o0 o1 o2 o3⟩
theorem cndV_slice {u : World} {c : Cnd} {k2 : Value} (h : IsCnd u (cndV c k2) c) : ∃ a n m, k2 = .slice a n m := by
  obtain ⟨_, k, hv, a, n, m, rfl, _⟩ := h
  unfold cndV Cnd.cells at hv
  injection hv with hv
  have := congrArg Array.toList hv
  simp only [List.cons.injEq, and_true, true_and] at this
  exact ⟨a, n, m, this⟩
theorem signs6 (s : ByteArray) (h : signOk s = true) :
    (s = sGe ∧ ∀ a v, signV s a v = decide (v ≤ a)) ∨ (s = sGt ∧ ∀ a v, signV s a v = decide (v < a)) ∨ (s = sLe ∧ ∀ a v, signV s a v = decide (a ≤ v)) ∨
    (s = sLt ∧ ∀ a v, signV s a v = decide (a < v)) ∨ (s = sNe ∧ ∀ a v, signV s a v = decide (a ≠ v)) ∨ (s = sEq ∧ ∀ a v, signV s a v = decide (a = v)) := by
  simp only [signOk, Bool.or_eq_true, decide_eq_true_eq] at h
  rcases h with ((((rfl | rfl) | rfl) | rfl) | rfl) | rfl
  · exact .inr (.inr (.inr (.inr (.inr ⟨rfl, fun _ _ => rfl⟩))))
  · exact .inr (.inr (.inr (.inr (.inl ⟨rfl, fun _ _ => rfl⟩))))
  · exact .inr (.inr (.inr (.inl ⟨rfl, fun _ _ => rfl⟩)))
  · exact .inr (.inr (.inl ⟨rfl, fun _ _ => rfl⟩))
  · exact .inr (.inl ⟨rfl, fun _ _ => rfl⟩)
  · exact .inl ⟨rfl, fun _ _ => rfl⟩
end Go.Proofs.Ytcejhfpdajbdcaa
