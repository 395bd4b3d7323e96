/- Two conditions under one: the closure of MeanAll. -/
import Derived.Test.YtgcngmlndijppaaMnAlive
namespace Go.Proofs.Ytgcngmlndijppaa
open Go.RowKit Go.ChangeShapes
set_option linter.unusedVariables false

def pairC (K : Int) (p q : Cnd) : Cnd := .mk K [p, q] 0 0 ⟨#[]⟩ 0
theorem right_pair (K : Int) (hK : K = 1 ∨ K = 2) (p q : Cnd) (hp : p.right = true) (hq : q.right = true) (sp : p.size ≤ 30) (sq : q.size ≤ 30) : (pairC K p q).right = true := by
  have hs : (pairC K p q).size ≤ 100 := by rw [Cnd.size_eq]; simp [pairC, Cnd.kids, sizes]; omega
  unfold Cnd.right at hp hq ⊢
  rw [Bool.and_eq_true] at hp hq
  rw [decide_eq_true hs, Bool.true_and, Cnd.fine_eq]
  have ha : (pairC K p q).alone = true := by
    rcases hK with rfl | rfl <;> rfl
  rw [ha]
  simp [pairC, Cnd.kids, fines, hp.2, hq.2]
theorem does_and (p q : Cnd) (args : List Nat) (hp : p.right = true) (hq : q.right = true) (sp : p.size ≤ 30) (sq : q.size ≤ 30) : (pairC 1 p q).does args = (p.does args && q.does args) := by
  rw [does_right _ _ (right_pair 1 (.inl rfl) p q hp hq sp sq), does_right _ _ hp, does_right _ _ hq, Cnd.holds_eq]
  simp [pairC, Cnd.kind, Cnd.kids, allH]
theorem does_or (p q : Cnd) (args : List Nat) (hp : p.right = true) (hq : q.right = true) (sp : p.size ≤ 30) (sq : q.size ≤ 30) : (pairC 2 p q).does args = (p.does args || q.does args) := by
  rw [does_right _ _ (right_pair 2 (.inr rfl) p q hp hq sp sq), does_right _ _ hp, does_right _ _ hq, Cnd.holds_eq]
  simp [pairC, Cnd.kind, Cnd.kids, anyH]
theorem pair_is {u : World} {B : Nat} {K : Int} {T : TypeId} (hK : K = 1 ∨ K = 2) {p q : Cnd} {k1 k2 : Value} (hp : IsCnd u (cndV p k1) p) (hq : IsCnd u (cndV q k2) q)
    (h : u.heap[B]? = some (.cells #[.int .i64 p.kind, k1, .int .i64 p.arg, .int .u64 (p.mask : Nat), .string p.sign, .int .u64 (p.value : Nat), .int .i64 q.kind, k2, .int .i64 q.arg, .int .u64 (q.mask : Nat), .string q.sign, .int .u64 (q.value : Nat)] T (0, 0))) :
    IsCnd u (cndV (pairC K p q) (.slice (some ⟨B, 0, none⟩) 2 2)) (pairC K p q) := by
  have hbt : (pairC K p q).bounded := by
    unfold Cnd.bounded pairC; simp only [Cnd.kind, Cnd.arg, Cnd.mask, Cnd.sign, Cnd.value]
    refine ⟨by omega, by omega, by omega, by decide, by omega⟩
  obtain ⟨hbp, kp, hvp, hkp⟩ := hp
  obtain ⟨hbq, kq, hvq, hkq⟩ := hq
  have e1 : k1 = kp := by
    unfold cndV Cnd.cells at hvp
    injection hvp with hvp
    have := congrArg Array.toList hvp
    simp only [List.cons.injEq, and_true, true_and] at this
    exact this
  have e2 : k2 = kq := by
    unfold cndV Cnd.cells at hvq
    injection hvq with hvq
    have := congrArg Array.toList hvq
    simp only [List.cons.injEq, and_true, true_and] at this
    exact this
  subst e1 e2
  refine ⟨hbt, _, rfl, ⟨_, 2, 2, rfl, rfl, by omega, by omega, fun h => (by cases h), .inr ⟨B, 0, rfl, lt_of_block h, ?_⟩⟩⟩
  show KidsAt _ [p, q] _ _
  rw [KidsAt, KidsAt, KidsAt]
  refine ⟨(cndAt_iff _ _ _ _).2 ⟨hbp, _, fun j x hx => ?_, hkp⟩, (cndAt_iff _ _ _ _).2 ⟨hbq, _, fun j x hx => ?_, hkq⟩, trivial⟩
  · have hj : j < 6 := (List.getElem?_eq_some_iff.1 hx).1
    rw [cell_of_row _ _ _ _ _ _ h]
    rcases (by omega : j = 0 ∨ j = 1 ∨ j = 2 ∨ j = 3 ∨ j = 4 ∨ j = 5) with rfl | rfl | rfl | rfl | rfl | rfl <;> exact hx
  · have hj : j < 6 := (List.getElem?_eq_some_iff.1 hx).1
    rw [cell_of_row _ _ _ _ _ _ h]
    rcases (by omega : j = 0 ∨ j = 1 ∨ j = 2 ∨ j = 3 ∨ j = 4 ∨ j = 5) with rfl | rfl | rfl | rfl | rfl | rfl <;> exact hx
set_option maxRecDepth 100000 in
set_option maxHeartbeats 1000000 in
theorem pairAsk (u : World) (b7 : Nat) (K : Int) (hK : K = 1 ∨ K = 2) (p q : Cnd) (pa qa : Option Addr) (pn pc qn qc nr arch ip a0 a1 a2 a3 a4 a5 : Nat)
    (hp : IsCnd u (cndV p (.slice pa pn pc)) p) (hq : IsCnd u (cndV q (.slice qa qn qc)) q)
    (hx : (Cal.mk nr arch ip [a0, a1, a2, a3, a4, a5]).ok) (h7 : u.heap[b7]? = some (callO nr arch ip a0 a1 a2 a3 a4 a5)) :
    Calls Try.prog 21 #[.int .i64 K, cndV p (.slice pa pn pc), cndV q (.slice qa qn qc), .pointer (some ⟨b7, 0, none⟩)] u fun e w' => e = .returned (.bool ((pairC K p q).does [a0, a1, a2, a3, a4, a5])) ∧ Below u.heap.size u w' := by
  obtain ⟨W, hW, f0, f1, hBW⟩ := two_at u (.cells #[.int .i64 p.kind, .slice pa pn pc, .int .i64 p.arg, .int .u64 (p.mask : Nat), .string p.sign, .int .u64 (p.value : Nat)] 25) (.cells #[.int .i64 q.kind, .slice qa qn qc, .int .i64 q.arg, .int .u64 (q.mask : Nat), .string q.sign, .int .u64 (q.value : Nat)] 25)
  have hb1 := (Below.refl W.heap.size W).alloc (Nat.le_refl _) (.cells #[.int .i64 p.kind, .slice pa pn pc, .int .i64 p.arg, .int .u64 (p.mask : Nat), .string p.sign, .int .u64 (p.value : Nat), .int .i64 q.kind, .slice qa qn qc, .int .i64 q.arg, .int .u64 (q.mask : Nat), .string q.sign, .int .u64 (q.value : Nat)] 25)
  have hn1 := heap_alloc_new W (.cells #[.int .i64 p.kind, .slice pa pn pc, .int .i64 p.arg, .int .u64 (p.mask : Nat), .string p.sign, .int .u64 (p.value : Nat), .int .i64 q.kind, .slice qa qn qc, .int .i64 q.arg, .int .u64 (q.mask : Nat), .string q.sign, .int .u64 (q.value : Nat)] 25)
  have hy1 := hBW.trans (hb1.mono hBW.size)
  have hI := pair_is hK (hp.below hy1) (hq.below hy1) hn1
  have hD := mnDoes _ _ _ _ hx hI
  change Calls _ _ #[.agg #[.int .i64 K, .slice (some ⟨W.heap.size, 0, none⟩) 2 2, .int .i64 0, .int .u64 0, .string ⟨#[]⟩, .int .u64 0], callV nr arch ip a0 a1 a2 a3 a4 a5] _ (fun e w' => e = .returned (.bool ((pairC K p q).does [a0, a1, a2, a3, a4, a5])) ∧ _) at hD
  unfold callV at hD
  unfold callO at h7
  generalize (pairC K p q).does _ = D at *
  unfold cndV
  have p0 := below_cell (Below.refl _ W) f0 0 rfl
  have p1 := below_cell (Below.refl _ W) f0 1 rfl
  have p2 := below_cell (Below.refl _ W) f0 2 rfl
  have p3 := below_cell (Below.refl _ W) f0 3 rfl
  have p4 := below_cell (Below.refl _ W) f0 4 rfl
  have p5 := below_cell (Below.refl _ W) f0 5 rfl
  have q0 := below_cell (Below.refl _ W) f1 0 rfl
  have q1 := below_cell (Below.refl _ W) f1 1 rfl
  have q2 := below_cell (Below.refl _ W) f1 2 rfl
  have q3 := below_cell (Below.refl _ W) f1 3 rfl
  have q4 := below_cell (Below.refl _ W) f1 4 rfl
  have q5 := below_cell (Below.refl _ W) f1 5 rfl
  have x0 := below_cell hy1 h7 0 rfl
  have x1 := below_cell hy1 h7 1 rfl
  have x2 := below_cell hy1 h7 2 rfl
  have x3 := below_cell hy1 h7 3 rfl
  have x4 := below_cell hy1 h7 4 rfl
  have x5 := below_cell hy1 h7 5 rfl
  have x6 := below_cell hy1 h7 6 rfl
  have x7 := below_cell hy1 h7 7 rfl
  have x8 := below_cell hy1 h7 8 rfl
  have HD := Lib.hid hD; have HY := Lib.hid hy1
  clear hD hI hn1 hb1 hy1 hBW f0 f1 h7 hx hp hq hK
  go_enter Try.func21, Try.ntmps21
  go_upto_region 1 with fail
  rw [← hW]
  clear hW
  go_wp2_with fail
  refine HD.out.mono ?_
  rintro e w2 ⟨rfl, hb2⟩
  have H2 := Lib.hid (HY.out.trans (hb2.mono HY.out.size))
  clear hb2 p0 p1 p2 p3 p4 p5 q0 q1 q2 q3 q4 q5 x0 x1 x2 x3 x4 x5 x6 x7 x8
  go_wp2_with fail
  go_ret
  exact ⟨rfl, H2.out⟩
end Go.Proofs.Ytgcngmlndijppaa
