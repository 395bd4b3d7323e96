/- The reference's calls. -/
import Derived.Test.YthnmnnlbglpjaaaDoorDiskNo
import Derived.Test.YthnmnnlbglpjaaaDoorRef03R
import Derived.Test.YthnmnnlbglpjaaaDoorRef03L
namespace Go.Proofs.YthnmnnlbglpjaaaDoor
open Go.RowKit
set_option linter.unusedVariables false

set_option maxRecDepth 100000 in
set_option maxHeartbeats 1000000 in
theorem refLikePower_any (va vb : Value) (x y : Dsk) (lx ly : Int) (w : World) (ha : IsPower w va x lx) (hb : IsPower w vb y ly) :
    Calls Tryd.prog 22 #[va, vb] w fun e w' => e = .returned (.bool (decide (lx = ly ∧ x = y))) ∧ Below w.heap.size w w' := by
  obtain ⟨a, cap, a', cap', rfl, hd⟩ := ha.form
  obtain ⟨b, bap, b', bap', rfl, hd'⟩ := hb.form
  have HL := Lib.hid (fun u h1 h2 => refLike_any (.agg #[.slice a x.secs.length cap, .slice a' x.pend.length cap']) (.agg #[.slice b y.secs.length bap, .slice b' y.pend.length bap']) x y u h1 h2)
  have HD := Lib.hid hd; have HD' := Lib.hid hd'
  generalize x.secs.length = m at *
  generalize x.pend.length = k at *
  generalize y.secs.length = m' at *
  generalize y.pend.length = k' at *
  clear ha hb hd hd'
  have hb2 : Below w.heap.size w ((w.alloc (.cells #[.slice a m cap, .slice a' k cap', .int .i64 lx] 27)).alloc (.cells #[.slice b m' bap, .slice b' k' bap', .int .i64 ly] 27)) := ((Below.refl _ w).alloc (Nat.le_refl _) _).alloc (by simp) _
  by_cases hl : lx = ly
  · have hl' : (lx == ly) = true := by rw [beq_iff_eq]; exact hl
    have hdd : decide (lx = ly ∧ x = y) = decide (x = y) := by simp [hl]
    rw [hdd]
    generalize decide (x = y) = B at *
    clear hl hdd
    go_enter Tryd.func22, Tryd.ntmps22
    go_wp2_with fail
    refine (HL.out _ (HD.out.below hb2) (HD'.out.below hb2)).mono ?_
    rintro e w2 ⟨rfl, hb3⟩
    go_wp2_with fail
    go_ret
    exact ⟨rfl, hb2.trans (hb3.mono hb2.size)⟩
  · have hl' : (lx == ly) = false := by rw [beq_eq_false_iff_ne]; exact hl
    have hdd : decide (lx = ly ∧ x = y) = false := by simp [hl]
    rw [hdd]
    clear hl hdd
    go_enter Tryd.func22, Tryd.ntmps22
    go_wp2_with fail
    go_ret
    exact ⟨rfl, hb2⟩
theorem heap3_new (w : World) (o o' o'' : Obj) : (((w.alloc o).alloc o').alloc o'').heap[w.heap.size + 2]? = some o'' := by
  have := heap_alloc_new ((w.alloc o).alloc o') o''
  rwa [World.size_alloc, World.size_alloc] at this
theorem heap3_mid (w : World) (o o' o'' : Obj) : (((w.alloc o).alloc o').alloc o'').heap[w.heap.size + 1]? = some o' := by
  have := heap_alloc_new (w.alloc o) o'
  rw [World.size_alloc] at this
  exact (heap_alloc_old _ _ (by simp)).trans this
theorem heap3_old (w : World) (o o' o'' : Obj) : (((w.alloc o).alloc o').alloc o'').heap[w.heap.size]? = some o :=
  (heap_alloc_old _ _ (by simp; omega)).trans ((heap_alloc_old _ _ (by simp)).trans (heap_alloc_new w o))
theorem disk_setT {w : World} {v : Value} {d : Dsk} (h : IsDisk w v d) {g : Nat} {t : TypeId} {fr : Nat × Nat} {cs : Array Value} (hg : w.heap[g]? = some (.cells cs t fr)) (hno : ∀ (j : Nat) (s : ByteArray), cs[j]? ≠ some (Value.string s)) (x y : Value) : IsDisk ((w.setCell ⟨g, 0, none⟩ x).setCell ⟨g, 1, none⟩ y) v d := by
  obtain ⟨sv, pv, rfl, h1, h2⟩ := h
  have hk : ∀ b, b ≠ g → ((w.setCell ⟨g, 0, none⟩ x).setCell ⟨g, 1, none⟩ y).heap[b]? = w.heap[b]? := fun b h => (Below.heap_setCell _ _ _ _ h).trans (Below.heap_setCell _ _ _ _ h)
  exact ⟨sv, pv, rfl, h1.apart hg hno (by simp) hk, h2.apart hg hno (by simp) hk⟩
theorem flushD_eq (d : Dsk) (h : rightD d = true) : (⟨crashL d (List.replicate d.pend.length true) d.pend.length, []⟩ : Dsk) = flushD d := (crash_eq d _ h).symm
theorem wpList_extend_none {P : Program} {ops : Array Oper} {rest : List Oper} {o : Oper} {a : Act} {Q : Exit → Act → World → Prop} {w : World}
    (s x : Operand) (t : TypeId) {c : Nat} (hgd : o.guard = none) (ho : o.op = .call { callee := .builtin .append, args := #[s, x], argTypes := #[t, t] })
    (e : TypeId) {i : TypeInfo} (ht : P.underlying t = some (.slice e)) (hi : P.info? e = some i)
    (hs : a.eval s = .slice none 0 0) (hx : a.eval x = .slice none 0 c) (h : wpList P ops Q rest (a.put o.dst (.slice none 0 0)) w) : wpList P ops Q (o :: rest) a w := by
  refine wpList_plain hgd fun K hK' => ?_
  have hrun : (Builtin.append_ #[t, t] o.type #[.slice none 0 0, .slice none 0 c]).run P w = .ok (.slice none 0 0) w := by
    simp [Builtin.append_, run_underlying ht, sizeOf, typeInfo, hi, Builtin.lenOf, Builtin.firstCells]
  unfold Oper.wp
  simp [execOp, ho, resolve, invoke, builtin, hs, hx, hrun, Result.andThen]
  exact hK' _ _ h
end Go.Proofs.YthnmnnlbglpjaaaDoor
