/- What a sector tells. -/
import Derived.Test.YtimiooiaohfelaaDoorBack
import Derived.Test.YtimiooiaohfelaaDoorDiskR
namespace Go.Proofs.YtimiooiaohfelaaDoor
open Go.RowKit Go.Shelf
attribute [local go_sem] Oper.semAt_some
set_option linter.unusedVariables false

/-- the last of the first k writes to a sector, else what it has -/
def tellsL (d : Dsk) (n : Nat) : Nat → ByteArray
  | 0 => d.secs.getD n ⟨#[]⟩
  | k + 1 => if (d.pend.getD k wrtZ).sector = n then (d.pend.getD k wrtZ).bytes else tellsL d n k
def tells (d : Dsk) (n : Nat) : ByteArray := tellsL d n d.pend.length
def readE (d : Dsk) (n : Int) : Int := if rightD d = true then (if 0 ≤ n ∧ n < d.secs.length then 0 else 20) else 1
def readS (d : Dsk) (n : Int) : ByteArray := if readE d n = 0 then tells d n.toNat else ⟨#[]⟩
theorem tells_none (d : Dsk) (n : Nat) : ∀ k, (∀ j, j < k → (d.pend.getD j wrtZ).sector ≠ n) → tellsL d n k = d.secs.getD n ⟨#[]⟩
  | 0, _ => rfl
  | k + 1, h => by rw [tellsL, if_neg (h k (by omega))]; exact tells_none d n k (fun j hj => h j (by omega))
theorem tells_hit (d : Dsk) (n j : Nat) (h : (d.pend.getD j wrtZ).sector = n) : ∀ k, j < k → (∀ i, j < i → i < k → (d.pend.getD i wrtZ).sector ≠ n) → tellsL d n k = (d.pend.getD j wrtZ).bytes
  | 0, hj, _ => by omega
  | k + 1, hj, hn => by
    rw [tellsL]
    by_cases e : j = k
    · subst e; rw [if_pos h]
    · rw [if_neg (hn k (by omega) (by omega))]
      exact tells_hit d n j h k (by omega) (fun i h1 h2 => hn i h1 (by omega))

set_option maxRecDepth 100000 in
set_option maxHeartbeats 2000000 in
theorem diskRead_in (n : Nat) (hn : 4 ≤ n) (v : Value) (d : Dsk) (s : Int) (w : World) (h : IsDisk w v d) (hlen : d.pend.length ≤ 1000000) :
    CallsIn Fence.wide n Tryd.prog 43 #[v, .int .i64 s] w fun e w' => e = .returned (.tuple #[.string (readS d s), .int .i64 (readE d s)]) ∧ Below w.heap.size w w' := by
  have hd := h
  obtain ⟨sv, pv, rfl, hs, hp⟩ := h
  have HR := Lib.hid (fun u hu => diskRight_any (.agg #[sv, pv]) d u hu)
  have HH := Lib.hid (fun u hu => diskHas_any (.agg #[sv, pv]) d s u hu)
  have HS := Lib.hid hs; have HP := Lib.hid hp; have HD := Lib.hid hd
  obtain ⟨a, len, cap, rfl, hl, hc1, hc2, hbs, hat⟩ := hs
  obtain ⟨a', len', cap', rfl, hl', hc1', hc2', hbp, hat'⟩ := hp
  have HA := Lib.hid hat
  clear hat hat' hbs hbp hd
  have h1 : 1 ≤ n := by omega
  refine callsIn_of_wp_marks Tryd.func43 rfl trivial ?_ rfl
  simp only [Tryd.ntmps43, List.size_toArray, List.length_cons, List.length_nil, Nat.reduceAdd, Nat.reduceSub, Array.replicate_succ, Array.replicate_zero, List.push_toArray, List.append_toArray, List.nil_append, List.cons_append]
  gi_wp2_with fail
  have hb4 : Below w.heap.size w ((((w.alloc (.cells #[.slice a len cap, .slice a' len' cap'] 25)).alloc (.cells #[.int .i64 s] 3)).alloc (.cells #[.string ⟨#[]⟩] 9)).alloc (.cells #[.int .i64 0] 32)) :=
    ((((Below.refl _ w).alloc (Nat.le_refl _) _).alloc (by simp) _).alloc (by simp; omega) _).alloc (by simp; omega) _
  have hB0 : ((((w.alloc (.cells #[.slice a len cap, .slice a' len' cap'] 25)).alloc (.cells #[.int .i64 s] 3)).alloc (.cells #[.string ⟨#[]⟩] 9)).alloc (.cells #[.int .i64 0] 32)).heap[w.heap.size]? = some (.cells #[.slice a len cap, .slice a' len' cap'] 25 (0, 0)) := by
    exact (Below.heap_alloc _ _ _ (by simp; omega)).trans ((Below.heap_alloc _ _ _ (by simp; omega)).trans ((Below.heap_alloc _ _ _ (by simp)).trans (heap_alloc_new w _)))
  have hB1 : Boxed ((((w.alloc (.cells #[.slice a len cap, .slice a' len' cap'] 25)).alloc (.cells #[.int .i64 s] 3)).alloc (.cells #[.string ⟨#[]⟩] 9)).alloc (.cells #[.int .i64 0] 32)) (w.heap.size + 1) 3 (.int .i64 s) := by
    have := ((Boxed.new (w.alloc (.cells #[.slice a len cap, .slice a' len' cap'] 25)) 3 (.int .i64 s)).alloc (.cells #[.string ⟨#[]⟩] 9)).alloc (.cells #[.int .i64 0] 32)
    simpa using this
  have hB2 : Boxed ((((w.alloc (.cells #[.slice a len cap, .slice a' len' cap'] 25)).alloc (.cells #[.int .i64 s] 3)).alloc (.cells #[.string ⟨#[]⟩] 9)).alloc (.cells #[.int .i64 0] 32)) (w.heap.size + 1 + 1) 9 (.string ⟨#[]⟩) := by
    have := (Boxed.new ((w.alloc (.cells #[.slice a len cap, .slice a' len' cap'] 25)).alloc (.cells #[.int .i64 s] 3)) 9 (.string ⟨#[]⟩)).alloc (.cells #[.int .i64 0] 32)
    simpa using this
  have hB3 : Boxed ((((w.alloc (.cells #[.slice a len cap, .slice a' len' cap'] 25)).alloc (.cells #[.int .i64 s] 3)).alloc (.cells #[.string ⟨#[]⟩] 9)).alloc (.cells #[.int .i64 0] 32)) (w.heap.size + 1 + 1 + 1) 32 (.int .i64 0) := by
    have := Boxed.new (((w.alloc (.cells #[.slice a len cap, .slice a' len' cap'] 25)).alloc (.cells #[.int .i64 s] 3)).alloc (.cells #[.string ⟨#[]⟩] 9)) 32 (.int .i64 0)
    simpa using this
  generalize ((((w.alloc (.cells #[.slice a len cap, .slice a' len' cap'] 25)).alloc (.cells #[.int .i64 s] 3)).alloc (.cells #[.string ⟨#[]⟩] 9)).alloc (.cells #[.int .i64 0] 32)) = w4 at *
  refine ⟨trivial, (callsIn_wide.2 (HR.out _ (HD.out.below hb4))).mono ?_⟩
  rintro e w5 ⟨rfl, hb5⟩
  have hC0 := (hb5.block _ (Array.getElem?_eq_some_iff.1 hB0).1).trans hB0
  have hC1 : Boxed w5 (w.heap.size + 1) 3 (.int .i64 s) := (hb5.block _ hB1.lt).trans hB1
  have hC2 : Boxed w5 (w.heap.size + 1 + 1) 9 (.string ⟨#[]⟩) := (hb5.block _ hB2.lt).trans hB2
  have hC3 : Boxed w5 (w.heap.size + 1 + 1 + 1) 32 (.int .i64 0) := (hb5.block _ hB3.lt).trans hB3
  have hw5 := hb4.trans (hb5.mono hb4.size)
  clear hb4 hb5 hB0 hB1 hB2 hB3
  cases hr : rightD d
  · have e1 : readE d s = 1 := by unfold readE; rw [hr]; rfl
    have e2 : readS d s = ⟨#[]⟩ := by unfold readS; rw [e1]; rfl
    have E1 := Lib.hid e1; have E2 := Lib.hid e2
    have r2 := hC2.cell; have r3 := hC3.cell; have f2 := hC2.frozen; have f3 := hC3.frozen
    clear e1 e2 hr
    gi_wp2_with fail
    have c2 : ((w5.setCell ⟨w.heap.size + 1 + 1, 0, none⟩ (.string ⟨#[]⟩)).setCell ⟨w.heap.size + 1 + 1 + 1, 0, none⟩ (.int .i64 1)).cell? ⟨w.heap.size + 1 + 1, 0, none⟩ = some (.string ⟨#[]⟩) := by
      rw [World.cell?_setCell_other _ _ _ _ (by intro h; injection h with h1; omega)]; exact World.cell?_setCell_same _ _ _ r2
    have c3 : ((w5.setCell ⟨w.heap.size + 1 + 1, 0, none⟩ (.string ⟨#[]⟩)).setCell ⟨w.heap.size + 1 + 1 + 1, 0, none⟩ (.int .i64 1)).cell? ⟨w.heap.size + 1 + 1 + 1, 0, none⟩ = some (.int .i64 1) :=
      World.cell?_setCell_same _ _ _ (by rw [World.cell?_setCell_other _ _ _ _ (by intro h; injection h with h1; omega)]; exact r3)
    refine ⟨.tuple #[.string ⟨#[]⟩, .int .i64 1], by simp [results, Tryd.f43, go_sem, c2, c3], by rw [E1.out, E2.out], (hw5.setCell (p := ⟨w.heap.size + 1 + 1, 0, none⟩) (by simp; omega) _).setCell (p := ⟨w.heap.size + 1 + 1 + 1, 0, none⟩) (by simp; omega) _⟩
  · have q0 : w5.cell? ⟨w.heap.size, 0, none⟩ = some (.slice a len cap) := by rw [cell_of_row _ _ 0 _ _ _ hC0]; rfl
    have q1 : w5.cell? ⟨w.heap.size, 1, none⟩ = some (.slice a' len' cap') := by rw [cell_of_row _ _ 1 _ _ _ hC0]; rfl
    have q2 := hC1.cell
    have HRT := Lib.hid hr
    clear hr
    gi_wp2_with fail
    refine ⟨trivial, (callsIn_wide.2 (HH.out _ (HD.out.below hw5))).mono ?_⟩
    rintro e w6 ⟨rfl, hb6⟩
    have hC0' := (hb6.block _ (Array.getElem?_eq_some_iff.1 hC0).1).trans hC0
    have hC1' : Boxed w6 (w.heap.size + 1) 3 (.int .i64 s) := (hb6.block _ hC1.lt).trans hC1
    have hC2' : Boxed w6 (w.heap.size + 1 + 1) 9 (.string ⟨#[]⟩) := (hb6.block _ hC2.lt).trans hC2
    have hC3' : Boxed w6 (w.heap.size + 1 + 1 + 1) 32 (.int .i64 0) := (hb6.block _ hC3.lt).trans hC3
    have hw6 := hw5.trans (hb6.mono hw5.size)
    clear hw5 hb6 hC0 hC1 hC2 hC3 q0 q1 q2
    by_cases hin : 0 ≤ s ∧ s < d.secs.length
    · rw [decide_eq_true hin]
      have e1 : readE d s = 0 := by unfold readE; rw [HRT.out, if_pos rfl, if_pos hin]
      have e2 : readS d s = tells d s.toNat := by unfold readS; rw [if_pos e1]
      obtain ⟨N, rfl⟩ := Int.eq_ofNat_of_zero_le hin.1
      rw [Int.toNat_natCast] at e2
      have hN : N < d.secs.length := by omega
      have E1 := Lib.hid e1; have E2 := Lib.hid e2
      have q1 : w6.cell? ⟨w.heap.size, 1, none⟩ = some (.slice a' len' cap') := by rw [cell_of_row _ _ 1 _ _ _ hC0']; rfl
      clear e1 e2 hin
      gi_wp2_with (first | (gi_at_call 60; refine ⟨trivial, (back_in Fence.wide (n - 1) trivial rfl _ _ _ _).mono ?_⟩; rintro e w' ⟨rfl, rfl⟩) | (refine ⟨trivial, ?_⟩; gi_at_call 60; refine (back_in Fence.wide (n - 1) trivial rfl _ _ _ _).mono ?_; rintro e w' ⟨rfl, rfl⟩))
      have hb7 : Below w.heap.size w (w6.alloc (.cells #[.slice a' len' cap'] 23)) := hw6.alloc hw6.size _
      have hC0 := (Below.heap_alloc w6 (.cells #[.slice a' len' cap'] 23) _ (Array.getElem?_eq_some_iff.1 hC0').1).trans hC0'
      have hC1 := hC1'.alloc (.cells #[.slice a' len' cap'] 23)
      have hC2 := hC2'.alloc (.cells #[.slice a' len' cap'] 23)
      have hC3 := hC3'.alloc (.cells #[.slice a' len' cap'] 23)
      have hBk := Boxed.new w6 23 (.slice a' len' cap')
      have hP7 := HP.out.below hb7
      have hS7 := HS.out.below hb7
      obtain ⟨w7, hW7⟩ : ∃ w7, w6.alloc (.cells #[.slice a' len' cap'] 23) = w7 := ⟨_, rfl⟩
      rw [hW7] at hb7 hC0 hC1 hC2 hC3 hBk hP7 hS7 ⊢
      clear hW7 hC0' hC1' hC2' hC3' hw6 q1
      refine wpIn_rangeFunc_ownH rfl h1 (gf := 72) (lb := #[.pointer (some ⟨w6.heap.size, 0, none⟩)]) rfl trivial (enters_of Tryd.func72 (by kernel_rfl) rfl)
        (back_stops Fence.wide (n - 1) trivial rfl (by omega) w6.heap.size d.pend _ w7 hP7 hlen hBk) belowK_t (belowK_b (Nat.le_refl _)) (Below.refl _ _) (fun _ => rfl)
        (fun (pre : List Nat) W => (∀ i ∈ pre, (d.pend.getD i wrtZ).sector ≠ (N : Nat)) ∧ Below w7.heap.size w7 W)
        (fun c pre W => (c = .ret ∧ ∃ ini last, pre = ini ++ [last] ∧ (∀ i ∈ ini, (d.pend.getD i wrtZ).sector ≠ (N : Nat)) ∧ (d.pend.getD last wrtZ).sector = (N : Nat) ∧ W.cell? ⟨w.heap.size + 1 + 1, 0, none⟩ = some (.string (d.pend.getD last wrtZ).bytes) ∧ W.cell? ⟨w.heap.size + 1 + 1 + 1, 0, none⟩ = some (.int .i64 0)) ∧ Below w.heap.size w W)
        (OwnFrom.and (fun _ _ _ _ hs _ _ => hs) (ownFrom_below (Nat.le_refl _) (Nat.le_refl _)))
        (fun c => OwnFrom.and (Own.from (fun s A B row hs hg hr => by obtain ⟨hc, ini, last, e1, e2, e3, e4, e5⟩ := hs; exact ⟨hc, ini, last, e1, e2, e3, cell_kept e4 hg hr, cell_kept e5 hg hr⟩) _) (ownFrom_below (Nat.le_refl _) hb7.size))
        ⟨(fun i hi => by cases hi), Below.refl _ _⟩
        (fun x ac W => ∃ Bx, w7.heap.size ≤ Bx ∧ W.heap[Bx]? = some (.cells #[.int .i64 (d.pend.getD x wrtZ).sector, .string (d.pend.getD x wrtZ).bytes] 49 (0, 0)) ∧ ac = { tmps := #[.agg #[.slice a len cap, .slice a' len' cap'], .int .i64 (N : Nat), .pointer (some ⟨w.heap.size, 0, none⟩), .pointer (some ⟨w.heap.size + 1, 0, none⟩), .pointer (some ⟨w.heap.size + 1 + 1, 0, none⟩), .pointer (some ⟨w.heap.size + 1 + 1 + 1, 0, none⟩), undef, .pointer (some ⟨Bx, 0, none⟩), .agg #[.slice a len cap, .slice a' len' cap'], .bool true, .bool false, .agg #[.slice a len cap, .slice a' len' cap'], .int .i64 (N : Nat), .bool true, .bool false, .pointer (some ⟨w.heap.size, 1, none⟩), .slice a' len' cap', .func (.func 72) #[] #[.pointer (some ⟨w6.heap.size, 0, none⟩)], .int .i64 (x : Nat), .agg #[.int .i64 (d.pend.getD x wrtZ).sector, .string (d.pend.getD x wrtZ).bytes], undef, undef, undef, undef, undef, undef, undef, undef, undef, undef, undef], defers := [] })
        (fun x ac _ X Y row hs hg hr => by
          obtain ⟨Bx, h1, h2, h3⟩ := hs
          exact ⟨Bx, h1, (hg.block Bx (Array.getElem?_eq_some_iff.1 h2).1 (fun e => by obtain ⟨_, o, ho, hc⟩ := hr Bx e.symm; rw [h2] at ho; cases ho; cases hc)).trans h2, h3⟩)
        ?assign ?body ?done ?stop
      case assign =>
        rintro l pre x W K ⟨hno, hB⟩ hK
        unfold wrtEnc
        obtain ⟨X, hX⟩ : ∃ X, d.pend.getD x wrtZ = X := ⟨_, rfl⟩
        rw [hX] at hK ⊢
        gi_wp2
        exact hK _ _ ((KeepsOthers.alloc _ _).from _) ((Below.refl _ W).alloc hB.size _) ⟨hno, hB.alloc hB.size _⟩ ⟨W.heap.size, hB.size, heap_alloc_new _ _, rfl⟩
      case body =>
        rintro l pre x ac W hl ⟨r, hr⟩ ⟨hno, hB⟩ ⟨Bx, hBx, bX, rfl⟩ hlt
        have x0 : W.cell? ⟨Bx, 0, none⟩ = some (.int .i64 (d.pend.getD x wrtZ).sector) := by rw [cell_of_row _ _ 0 _ _ _ bX]; rfl
        have x1 : W.cell? ⟨Bx, 1, none⟩ = some (.string (d.pend.getD x wrtZ).bytes) := by rw [cell_of_row _ _ 1 _ _ _ bX]; rfl
        have r1 : Boxed W _ _ _ := (hB.block _ hC1.lt).trans hC1
        have r2 : Boxed W _ _ _ := (hB.block _ hC2.lt).trans hC2
        have r3 : Boxed W _ _ _ := (hB.block _ hC3.lt).trans hC3
        have y1 := r1.cell; have y2 := r2.cell; have y3 := r3.cell; have f2 := r2.frozen; have f3 := r3.frozen
        obtain ⟨X, hX⟩ : ∃ X, d.pend.getD x wrtZ = X := ⟨_, rfl⟩
        rw [hX] at x0 x1 bX ⊢
        gi_wp2
        · have hx : X.sector = (N : Nat) := of_decide_eq_true (by assumption)
          refine ⟨((KeepsOthers.setCell _ _ _).from _).trans ((KeepsOthers.setCell _ _ _).from _), ⟨rfl, pre, x, rfl, hno, by rw [hX]; exact hx, ?_, ?_⟩, ((hb7.trans (hB.mono hb7.size)).setCell (p := ⟨w.heap.size + 1 + 1, 0, none⟩) (by simp; omega) _).setCell (p := ⟨w.heap.size + 1 + 1 + 1, 0, none⟩) (by simp; omega) _⟩
          · rw [hX, World.cell?_setCell_other _ _ _ _ (by intro h; injection h with h1; omega)]; exact World.cell?_setCell_same _ _ _ y2
          · exact World.cell?_setCell_same _ _ _ (by rw [World.cell?_setCell_other _ _ _ _ (by intro h; injection h with h1; omega)]; exact y3)
        · have hx : ¬ X.sector = (N : Nat) := of_decide_eq_false (by assumption)
          exact ⟨KeepsFrom.refl _ _, Below.refl _ _, fun i hi => (List.mem_append.1 hi).elim (hno i) (fun e => by simp at e; subst e; rw [hX]; exact hx), hB⟩
      case done =>
        rintro D ys W hD rfl ⟨hno, hB⟩ hK
        have r1 : Boxed W _ _ _ := (hB.block _ hC1.lt).trans hC1
        have r2 : Boxed W _ _ _ := (hB.block _ hC2.lt).trans hC2
        have r3 : Boxed W _ _ _ := (hB.block _ hC3.lt).trans hC3
        have b0 := (hB.block _ (Array.getElem?_eq_some_iff.1 hC0).1).trans hC0
        have q0 : W.cell? ⟨w.heap.size, 0, none⟩ = some (.slice a len cap) := by rw [cell_of_row _ _ 0 _ _ _ b0]; rfl
        have y1 := r1.cell; have y2 := r2.cell; have y3 := r3.cell; have f2 := r2.frozen; have f3 := r3.frozen
        have hbW := hb7.trans (hB.mono hb7.size)
        obtain ⟨b, off, rfl, hb, hat⟩ := HA.out.resolve_left (by omega)
        have z0 := (hbW.cell (p := ⟨b, off + N, none⟩) hb).trans (hat N (by omega))
        gi_wp2
        have hK' := ((KeepsOthers.setCell W ⟨w.heap.size + 1 + 1, 0, none⟩ (.string (d.secs[N]?.getD ByteArray.empty))).trans (KeepsOthers.setCell _ ⟨w.heap.size + 1 + 1 + 1, 0, none⟩ (.int .i64 0))).same D _ hK rfl
        refine ⟨by simp, .inl ⟨_, _, rfl, run_takeDeferred hK', ?_⟩⟩
        have c2 : ((W.setCell ⟨w.heap.size + 1 + 1, 0, none⟩ (.string (d.secs[N]?.getD ByteArray.empty))).setCell ⟨w.heap.size + 1 + 1 + 1, 0, none⟩ (.int .i64 0)).cell? ⟨w.heap.size + 1 + 1, 0, none⟩ = some (.string (d.secs[N]?.getD ByteArray.empty)) := by
          rw [World.cell?_setCell_other _ _ _ _ (by intro h; injection h with h1; omega)]; exact World.cell?_setCell_same _ _ _ y2
        have c3 : ((W.setCell ⟨w.heap.size + 1 + 1, 0, none⟩ (.string (d.secs[N]?.getD ByteArray.empty))).setCell ⟨w.heap.size + 1 + 1 + 1, 0, none⟩ (.int .i64 0)).cell? ⟨w.heap.size + 1 + 1 + 1, 0, none⟩ = some (.int .i64 0) :=
          World.cell?_setCell_same _ _ _ (by rw [World.cell?_setCell_other _ _ _ _ (by intro h; injection h with h1; omega)]; exact y3)
        have d2 := cell_kept c2 (grownBy_putObj' _ D (.deferred none)) (fun r e => by cases e; exact ⟨_, hK', rfl⟩)
        have d3 := cell_kept c3 (grownBy_putObj' _ D (.deferred none)) (fun r e => by cases e; exact ⟨_, hK', rfl⟩)
        have ht : tells d N = d.secs[N]?.getD ByteArray.empty := by
          unfold tells
          rw [tells_none d N _ (fun j hj => hno j (by unfold down; simp only [List.mem_map, List.mem_range]; exact ⟨d.pend.length - 1 - j, by omega, by omega⟩))]
          rw [List.getD_eq_getElem?_getD]; rfl
        refine ⟨.tuple #[.string (tells d N), .int .i64 0], ?_, by rw [E1.out, E2.out], ((hbW.setCell (p := ⟨w.heap.size + 1 + 1, 0, none⟩) (by simp; omega) _).setCell (p := ⟨w.heap.size + 1 + 1 + 1, 0, none⟩) (by simp; omega) _).trans (belowK_b (w := w) (Nat.le_refl _) _ D _ _ (by have := hb7.size; omega) hK' rfl rfl)⟩
        rw [ht]
        simp [results, Tryd.f43, go_sem, d2, d3]
      case stop =>
        rintro D c pre W hD ⟨k, hk, rfl⟩ ⟨⟨rfl, ini, last, e1, e2, e3, e4, e5⟩, hB⟩ hK
        gi_wp2
        refine ⟨by simp, .inl ⟨_, _, rfl, run_takeDeferred hK, ?_⟩⟩
        have c2 := cell_kept e4 (grownBy_putObj' _ D (.deferred none)) (fun r e => by cases e; exact ⟨_, hK, rfl⟩)
        have c3 := cell_kept e5 (grownBy_putObj' _ D (.deferred none)) (fun r e => by cases e; exact ⟨_, hK, rfl⟩)
        obtain ⟨k', rfl⟩ : ∃ k', k = k' + 1 := by
          cases k with
          | zero => simp [down] at e1
          | succ k' => exact ⟨k', rfl⟩
        rw [down_succ] at e1
        obtain ⟨rfl, e6⟩ := List.append_inj' e1 rfl
        obtain rfl : d.pend.length - 1 - k' = last := by simpa using e6
        have ht : tells d N = (d.pend.getD (d.pend.length - 1 - k') wrtZ).bytes :=
          tells_hit d N _ (by omega) _ (by omega) (fun i h2 h3 => by
            have := e2 i (by unfold down; simp only [List.mem_map, List.mem_range]; exact ⟨d.pend.length - 1 - i, by omega, by omega⟩)
            omega)
        refine ⟨.tuple #[.string (tells d N), .int .i64 0], ?_, by rw [E1.out, E2.out], hB.trans (belowK_b (w := w) (Nat.le_refl _) W D _ _ (by have := hb7.size; omega) hK rfl rfl)⟩
        rw [ht]
        simp [results, Tryd.f43, go_sem, c2, c3]
    · rw [decide_eq_false hin]
      have e1 : readE d s = 20 := by unfold readE; rw [HRT.out, if_pos rfl, if_neg hin]
      have e2 : readS d s = ⟨#[]⟩ := by unfold readS; rw [e1]; rfl
      have E1 := Lib.hid e1; have E2 := Lib.hid e2
      have r2 := hC2'.cell; have r3 := hC3'.cell; have f2 := hC2'.frozen; have f3 := hC3'.frozen
      clear e1 e2 hin
      gi_wp2_with fail
      have c2 : ((w6.setCell ⟨w.heap.size + 1 + 1, 0, none⟩ (.string ⟨#[]⟩)).setCell ⟨w.heap.size + 1 + 1 + 1, 0, none⟩ (.int .i64 20)).cell? ⟨w.heap.size + 1 + 1, 0, none⟩ = some (.string ⟨#[]⟩) := by
        rw [World.cell?_setCell_other _ _ _ _ (by intro h; injection h with h1; omega)]; exact World.cell?_setCell_same _ _ _ r2
      have c3 : ((w6.setCell ⟨w.heap.size + 1 + 1, 0, none⟩ (.string ⟨#[]⟩)).setCell ⟨w.heap.size + 1 + 1 + 1, 0, none⟩ (.int .i64 20)).cell? ⟨w.heap.size + 1 + 1 + 1, 0, none⟩ = some (.int .i64 20) :=
        World.cell?_setCell_same _ _ _ (by rw [World.cell?_setCell_other _ _ _ _ (by intro h; injection h with h1; omega)]; exact r3)
      refine ⟨.tuple #[.string ⟨#[]⟩, .int .i64 20], by simp [results, Tryd.f43, go_sem, c2, c3], by rw [E1.out, E2.out], (hw6.setCell (p := ⟨w.heap.size + 1 + 1, 0, none⟩) (by simp; omega) _).setCell (p := ⟨w.heap.size + 1 + 1 + 1, 0, none⟩) (by simp; omega) _⟩
theorem diskRead_any (v : Value) (d : Dsk) (s : Int) (w : World) (h : IsDisk w v d) (hlen : d.pend.length ≤ 1000000) :
    Calls Tryd.prog 43 #[v, .int .i64 s] w fun e w' => e = .returned (.tuple #[.string (readS d s), .int .i64 (readE d s)]) ∧ Below w.heap.size w w' :=
  callsIn_wide.1 (diskRead_in 4 (Nat.le_refl _) v d s w h hlen)
end Go.Proofs.YtimiooiaohfelaaDoor
