/- The walk of FrameKinds. -/
import Derived.Test.YtmanlogclbbgaaaFr14
import Derived.Test.YtmanlogclbbgaaaFr15
import Derived.Test.YtmanlogclbbgaaaLnF
import Derived.Test.YtmanlogclbbgaaaFr19
import Derived.Test.YtmanlogclbbgaaaFr20
import Derived.Deep.RegionWith
namespace Go.Proofs.Ytmanlogclbbgaaa.lawFrameKinds
open Go.RowKit
set_option linter.unusedVariables false
set_option linter.unusedSimpArgs false

def rpZ : Rp := ⟨0, 0, 0, ⟨#[]⟩, 0, 0, []⟩
theorem rpZ_ok : rpOk rpZ = true := by decide
theorem isZ (w : World) : IsRp w (.agg #[.int .i64 0, .int .i64 0, .int .i64 0, .string ⟨#[]⟩, .int .i64 0, .int .u32 0, .slice none 0 0]) rpZ :=
  ⟨⟨by unfold i64ok; decide, by unfold i64ok; decide, by unfold i64ok; decide, by decide, by unfold i64ok; decide, by decide⟩, _, rfl, none, 0, 0, rfl, rfl, Nat.le_refl _, by omega, fun _ => rfl, .inl rfl⟩
theorem rpZ_in : rpIn rpZ = List.replicate 15 0 := by decide
theorem readZ : readQ (rpB rpZ) = none := by
  rw [readQ_iff]
  unfold rpB
  obtain ⟨h1, h2⟩ := seal_open ⟨(rpIn rpZ).toArray⟩
  rw [if_pos h1, h2, rpZ_in]
  have hp : prAsk ⟨(List.replicate 15 0).toArray⟩ = some (asqZ, 15) := by decide +kernel
  rw [hp]
  have hk : askOk asqZ = false := by decide
  simp [hk]
def rpS (r : Rp) : ByteArray := if rpOk r = true then rpB r else ⟨#[]⟩
def rpE (r : Rp) : Int := if rpOk r = true then 0 else 1
theorem frReply_any (r : Rp) (v : Value) (w : World) (h : IsRp w v r) :
    Calls Try.prog 16 #[v] w fun e w' => e = .returned (.tuple #[.string (rpS r), .int .i64 (rpE r)]) ∧ Below w.heap.size w w' := by
  unfold rpS rpE
  cases hr : rpOk r with
  | true => exact frReply_ok r v w h hr
  | false => exact frReply_bad r v w h hr
theorem seal_ne (t : ByteArray) : (sealL t).toList.isEmpty = false := by
  rw [isE_iff, sealL_size]
  exact decide_eq_false (by omega)
theorem rp_case (r : Rp) : (rpOk r = true ∧ rpE r = 0 ∧ (rpS r).toList.isEmpty = false) ∨ (rpOk r = false ∧ rpE r = 1 ∧ rpS r = ⟨#[]⟩) := by
  unfold rpS rpE
  cases hr : rpOk r with
  | true => exact .inl ⟨rfl, rfl, seal_ne _⟩
  | false => exact .inr ⟨rfl, rfl, rfl⟩
theorem ask_case (q : Asq) : (rightA q = false ∧ askE q = 1 ∧ askS q = ⟨#[]⟩) ∨ (rightA q = true ∧ (q.record.size : Int) ≤ 100 ∧ askE q = 0 ∧ (askS q).toList.isEmpty = false) ∨ (rightA q = true ∧ (100 : Int) < q.record.size ∧ askE q = 1 ∧ askS q = ⟨#[]⟩) := by
  have ho : askOk q = (rightA q && decide (q.record.size ≤ 100)) := rfl
  unfold askE askS
  cases hr : rightA q with
  | false => rw [hr] at ho; rw [ho]; exact .inl ⟨rfl, rfl, rfl⟩
  | true =>
    by_cases hz : q.record.size ≤ 100
    · rw [hr, decide_eq_true hz] at ho; rw [ho]; exact .inr (.inl ⟨rfl, by omega, rfl, by rw [askB_in]; exact seal_ne _⟩)
    · rw [hr, decide_eq_false hz] at ho; rw [ho]; exact .inr (.inr ⟨rfl, by omega, rfl, rfl⟩)
theorem rpZ_size : (rpB rpZ).size ≤ 3000 := by unfold rpB; rw [sealL_size, ba_size, rpZ_in]; simp
theorem readZ_v : readV (rpB rpZ) = asqZ := by unfold readV; rw [readZ]; rfl
theorem readZ_x : readX (rpB rpZ) = 70 := by unfold readX; rw [readZ]; rfl
def s5 (y : World) (B : Nat) (v0 v1 v2 v3 v4 : Value) : World := ((((y.setCell ⟨B, 0, none⟩ v0).setCell ⟨B, 1, none⟩ v1).setCell ⟨B, 2, none⟩ v2).setCell ⟨B, 3, none⟩ v3).setCell ⟨B, 4, none⟩ v4
def s7 (y : World) (B : Nat) (v0 v1 v2 v3 v4 v5 v6 : Value) : World := ((s5 y B v0 v1 v2 v3 v4).setCell ⟨B, 5, none⟩ v5).setCell ⟨B, 6, none⟩ v6
theorem s5_block {y : World} {B : Nat} {x0 x1 x2 x3 x4 : Value} {T : TypeId} {fr : Nat × Nat} (h : y.heap[B]? = some (.cells #[x0, x1, x2, x3, x4] T fr)) (v0 v1 v2 v3 v4 : Value) : (s5 y B v0 v1 v2 v3 v4).heap[B]? = some (.cells #[v0, v1, v2, v3, v4] T fr) :=
  block_set (block_set (block_set (block_set (block_set h 0 v0) 1 v1) 2 v2) 3 v3) 4 v4
theorem s7_block {y : World} {B : Nat} {x0 x1 x2 x3 x4 x5 x6 : Value} {T : TypeId} {fr : Nat × Nat} (h : y.heap[B]? = some (.cells #[x0, x1, x2, x3, x4, x5, x6] T fr)) (v0 v1 v2 v3 v4 v5 v6 : Value) : (s7 y B v0 v1 v2 v3 v4 v5 v6).heap[B]? = some (.cells #[v0, v1, v2, v3, v4, v5, v6] T fr) := by
  unfold s7 s5
  have h0 : (y.setCell ⟨B, 0, none⟩ v0).heap[B]? = some (.cells #[v0, x1, x2, x3, x4, x5, x6] T fr) := block_set h 0 v0
  have h1 : ((y.setCell ⟨B, 0, none⟩ v0).setCell ⟨B, 1, none⟩ v1).heap[B]? = some (.cells #[v0, v1, x2, x3, x4, x5, x6] T fr) := block_set h0 1 v1
  have h2 : (((y.setCell ⟨B, 0, none⟩ v0).setCell ⟨B, 1, none⟩ v1).setCell ⟨B, 2, none⟩ v2).heap[B]? = some (.cells #[v0, v1, v2, x3, x4, x5, x6] T fr) := block_set h1 2 v2
  have h3 : ((((y.setCell ⟨B, 0, none⟩ v0).setCell ⟨B, 1, none⟩ v1).setCell ⟨B, 2, none⟩ v2).setCell ⟨B, 3, none⟩ v3).heap[B]? = some (.cells #[v0, v1, v2, v3, x4, x5, x6] T fr) := block_set h2 3 v3
  have h4 : (((((y.setCell ⟨B, 0, none⟩ v0).setCell ⟨B, 1, none⟩ v1).setCell ⟨B, 2, none⟩ v2).setCell ⟨B, 3, none⟩ v3).setCell ⟨B, 4, none⟩ v4).heap[B]? = some (.cells #[v0, v1, v2, v3, v4, x5, x6] T fr) := block_set h3 4 v4
  have h5 : ((((((y.setCell ⟨B, 0, none⟩ v0).setCell ⟨B, 1, none⟩ v1).setCell ⟨B, 2, none⟩ v2).setCell ⟨B, 3, none⟩ v3).setCell ⟨B, 4, none⟩ v4).setCell ⟨B, 5, none⟩ v5).heap[B]? = some (.cells #[v0, v1, v2, v3, v4, v5, x6] T fr) := block_set h4 5 v5
  have h6 : (((((((y.setCell ⟨B, 0, none⟩ v0).setCell ⟨B, 1, none⟩ v1).setCell ⟨B, 2, none⟩ v2).setCell ⟨B, 3, none⟩ v3).setCell ⟨B, 4, none⟩ v4).setCell ⟨B, 5, none⟩ v5).setCell ⟨B, 6, none⟩ v6).heap[B]? = some (.cells #[v0, v1, v2, v3, v4, v5, v6] T fr) := block_set h5 6 v6
  exact h6
theorem s5_other (y : World) (B k : Nat) (v0 v1 v2 v3 v4 : Value) (h : k ≠ B) : (s5 y B v0 v1 v2 v3 v4).heap[k]? = y.heap[k]? := by
  unfold s5
  rw [Below.heap_setCell _ _ _ _ h, Below.heap_setCell _ _ _ _ h, Below.heap_setCell _ _ _ _ h, Below.heap_setCell _ _ _ _ h, Below.heap_setCell _ _ _ _ h]
theorem s7_other (y : World) (B k : Nat) (v0 v1 v2 v3 v4 v5 v6 : Value) (h : k ≠ B) : (s7 y B v0 v1 v2 v3 v4 v5 v6).heap[k]? = y.heap[k]? := by
  unfold s7
  rw [Below.heap_setCell _ _ _ _ h, Below.heap_setCell _ _ _ _ h, s5_other _ _ _ _ _ _ _ _ h]
theorem s5_below {N : Nat} {w y : World} (h : Below N w y) {B : Nat} (hB : N ≤ B) (v0 v1 v2 v3 v4 : Value) : Below N w (s5 y B v0 v1 v2 v3 v4) :=
  ((((h.setCell (p := ⟨B, 0, none⟩) hB v0).setCell (p := ⟨B, 1, none⟩) hB v1).setCell (p := ⟨B, 2, none⟩) hB v2).setCell (p := ⟨B, 3, none⟩) hB v3).setCell (p := ⟨B, 4, none⟩) hB v4
theorem s7_below {N : Nat} {w y : World} (h : Below N w y) {B : Nat} (hB : N ≤ B) (v0 v1 v2 v3 v4 v5 v6 : Value) : Below N w (s7 y B v0 v1 v2 v3 v4 v5 v6) :=
  ((s5_below h hB v0 v1 v2 v3 v4).setCell (p := ⟨B, 5, none⟩) hB v5).setCell (p := ⟨B, 6, none⟩) hB v6
theorem s5_own {y : World} {base n : Nat} {e : TypeId} {size : Nat} {v : Value} {xs : List Value} (h : y.ownsRow base e size v n xs) {B : Nat} (hB : B < base) (v0 v1 v2 v3 v4 : Value) : (s5 y B v0 v1 v2 v3 v4).ownsRow base e size v n xs :=
  ownsRow_setCell_below (a := ⟨B, 4, none⟩) (ownsRow_setCell_below (a := ⟨B, 3, none⟩) (ownsRow_setCell_below (a := ⟨B, 2, none⟩) (ownsRow_setCell_below (a := ⟨B, 1, none⟩) (ownsRow_setCell_below (a := ⟨B, 0, none⟩) h hB v0) hB v1) hB v2) hB v3) hB v4
theorem s7_own {y : World} {base n : Nat} {e : TypeId} {size : Nat} {v : Value} {xs : List Value} (h : y.ownsRow base e size v n xs) {B : Nat} (hB : B < base) (v0 v1 v2 v3 v4 v5 v6 : Value) : (s7 y B v0 v1 v2 v3 v4 v5 v6).ownsRow base e size v n xs :=
  ownsRow_setCell_below (a := ⟨B, 6, none⟩) (ownsRow_setCell_below (a := ⟨B, 5, none⟩) (s5_own h hB v0 v1 v2 v3 v4) hB v5) hB v6
set_option maxRecDepth 100000 in
set_option maxHeartbeats 4000000 in
theorem walk (v0 : Value) (q : Asq) (v1 : Value) (r : Rp) (w : World) (w0 : IsAsk w v0 q) (w1 : IsRp w v1 r) :
    Calls Try.prog 7 #[v0, v1] w fun e w' => e = .returned (.bool true) ∧ Below w.heap.size w w' := by
  obtain ⟨rfl, hk, hn, l1, l2, l3⟩ := w0
  unfold maxLen at l1 l2 l3
  have HS := Lib.hid (fun u => frShort q u (by omega) (by omega) (by omega))
  have HAL := Lib.hid (fun u => frAlive u)
  have hfw := fun u (hu : Below w.heap.size w u) => frFewR r v1 w u w1 hu
  have hbdF : (fewR r).bounded := ⟨w1.1.1, w1.1.2.1, w1.1.2.2.1, (by have := cutR_size r.source 2100; show (cutR r.source 2100).size ≤ _; omega), w1.1.2.2.2.2⟩
  have hll : fewL r.lines = (fewR r).lines := rfl
  obtain ⟨F, hF⟩ : ∃ F, fewR r = F := ⟨_, rfl⟩
  rw [hll, hF] at hfw
  rw [hF] at hbdF
  obtain ⟨fw, fa, fn, fs, fi, fc, fl⟩ := F
  have HFW := Lib.hid (fun u (hu : Below w.heap.size w u) => (hfw u hu).mono (R' := fun e w' => ∃ A6 c6 xs, e = .returned (.agg #[.int .i64 fw, .int .i64 fa, .int .i64 fn, .string fs, .int .i64 fi, .int .u32 fc, .slice A6 fl.length c6]) ∧ RowL w xs fl ∧ w'.ownsRow (u.heap.size + 1 + 1) 66 3 (.slice A6 fl.length c6) fl.length xs ∧ Below u.heap.size u w') (fun e w' hh => by
    obtain ⟨A6, c6, xs, h1, h2, h3, h4⟩ := hh
    exact ⟨A6, c6, xs, by rw [h1]; rfl, h2, h3, h4⟩))
  have HBD := Lib.hid hbdF
  have HRP := Lib.hid (fun u (hu : IsRp u (.agg #[.int .i64 fw, .int .i64 fa, .int .i64 fn, .string fs, .int .i64 fi, .int .u32 fc, .slice none 0 0]) ⟨fw, fa, fn, fs, fi, fc, fl⟩) => hu)
  clear HRP hll hbdF
  clear hfw hF
  obtain ⟨hbd, kk, rfl, hkl⟩ := id w1
  obtain ⟨A, c, rfl, _, _⟩ := hkl.form
  clear hkl hbd
  obtain ⟨q', hq'⟩ : ∃ q', shortA q = q' := ⟨_, rfl⟩
  have z1 : q'.name.size ≤ 60 := by rw [← hq']; exact cut0_size _ _
  have z2 : q'.source.size ≤ 2100 := by rw [← hq']; exact cut0_size _ _
  have z3 : q'.record.size ≤ 150 := by rw [← hq']; exact cut0_size _ _
  have z4 : q'.no ≤ 9223372036854775807 := by rw [← hq']; exact hn.2
  rw [hq'] at HS
  have HA := Lib.hid (fun u => frAsk_any q' u (by omega) (by omega) (by omega) z4)
  have HRT := Lib.hid (fun u => dmRight q' u (by omega) (by omega) (by omega))
  have hAE : askOk q' = false → askE q' = 1 ∧ askS q' = ⟨#[]⟩ := fun h => by unfold askE askS; rw [h]; exact ⟨rfl, rfl⟩
  have hAO : askOk q' = true → askE q' = 0 ∧ askS q' = askB q' := fun h => by unfold askE askS; rw [h]; exact ⟨rfl, rfl⟩
  have HAE := Lib.hid hAE; have HAO := Lib.hid hAO
  have HOKD : Hid (askOk q' = (rightA q' && decide (q'.record.size ≤ 100))) := Lib.hid rfl
  have z3I : (q'.record.size : Int) ≤ 150 := by omega
  clear hAE hAO z1 z2 z4 hq' hk hn l1 l2 l3
  obtain ⟨k0, n0, o0, s0, r0⟩ := q
  obtain ⟨k, nm, no, so, re⟩ := q'
  obtain ⟨why, at_, rno, source, insns, action, lines⟩ := r
  simp only [Rp.val] at *
  unfold Asq.value at *
  simp only at HS HA HRT
  obtain ⟨n, hnn⟩ : ∃ n, lines.length = n := ⟨_, rfl⟩
  rw [hnn] at HFW ⊢
  have b0 := heap_alloc_new w (.cells #[.int .i64 k0, .string n0, .int .i64 o0, .string s0, .string r0] 23)
  have HX : Hid (∀ u : World, u = (w.alloc (.cells #[.int .i64 k0, .string n0, .int .i64 o0, .string s0, .string r0] 23)).alloc (.cells #[.int .i64 why, .int .i64 at_, .int .i64 rno, .string source, .int .i64 insns, .int .u32 action, .slice A n c] 37) →
      u.heap[w.heap.size]? = some (.cells #[.int .i64 k0, .string n0, .int .i64 o0, .string s0, .string r0] 23 (0, 0)) ∧ u.heap[w.heap.size + 1]? = some (.cells #[.int .i64 why, .int .i64 at_, .int .i64 rno, .string source, .int .i64 insns, .int .u32 action, .slice A n c] 37 (0, 0)) ∧ Below w.heap.size w u ∧ w.heap.size + 1 < u.heap.size) := Lib.hid (by
    rintro u rfl
    have e1 := heap_alloc_new (w.alloc (.cells #[.int .i64 k0, .string n0, .int .i64 o0, .string s0, .string r0] 23)) (.cells #[.int .i64 why, .int .i64 at_, .int .i64 rno, .string source, .int .i64 insns, .int .u32 action, .slice A n c] 37)
    rw [World.size_alloc] at e1
    exact ⟨(heap_alloc_old _ _ (lt_of_block b0)).trans b0, e1, ((Below.refl w.heap.size w).alloc (Nat.le_refl _) _).alloc (by simp) _, by rw [World.size_alloc, World.size_alloc]; omega⟩)
  clear b0 hnn w1
  go_enter Try.func7, Try.ntmps7
  go_upto_region 1 with fail
  obtain ⟨u, hW⟩ : ∃ u, (w.alloc (.cells #[.int .i64 k0, .string n0, .int .i64 o0, .string s0, .string r0] 23)).alloc (.cells #[.int .i64 why, .int .i64 at_, .int .i64 rno, .string source, .int .i64 insns, .int .u32 action, .slice A n c] 37) = u := ⟨_, rfl⟩
  rw [hW]
  obtain ⟨hA, hR, hb, hz⟩ := HX.out u hW.symm
  clear hW HX
  have c0 := below_cell (Below.refl _ _) hA 0 rfl
  have c1 := below_cell (Below.refl _ _) hA 1 rfl
  have c2 := below_cell (Below.refl _ _) hA 2 rfl
  have c3 := below_cell (Below.refl _ _) hA 3 rfl
  have c4 := below_cell (Below.refl _ _) hA 4 rfl
  have e0 := below_cell (Below.refl _ _) hR 0 rfl
  have e1 := below_cell (Below.refl _ _) hR 1 rfl
  have e2 := below_cell (Below.refl _ _) hR 2 rfl
  have e3 := below_cell (Below.refl _ _) hR 3 rfl
  have e4 := below_cell (Below.refl _ _) hR 4 rfl
  have e5 := below_cell (Below.refl _ _) hR 5 rfl
  have e6 := below_cell (Below.refl _ _) hR 6 rfl
  have HA1 := Lib.hid hA; have HR1 := Lib.hid hR; have HB1 := Lib.hid hb.drew
  clear hA hR hb
  go_region_with (first
    | (go_at_call 8; refine (HS.out _).mono ?_; rintro e w5 ⟨rfl, hb5⟩; have hR5 := (hb5.block _ (lt_of_block HR1.out)).trans HR1.out; have hA5 := (hb5.block _ (lt_of_block HA1.out)).trans HA1.out; have hB5 := HB1.out.trans (hb5.mono HB1.out.size); have e0 := below_cell (Below.refl _ w5) hR5 0 rfl; have e1 := below_cell (Below.refl _ w5) hR5 1 rfl; have e2 := below_cell (Below.refl _ w5) hR5 2 rfl; have e3 := below_cell (Below.refl _ w5) hR5 3 rfl; have e4 := below_cell (Below.refl _ w5) hR5 4 rfl; have e5 := below_cell (Below.refl _ w5) hR5 5 rfl; have e6 := below_cell (Below.refl _ w5) hR5 6 rfl)
    | (go_at_call 15; refine (HFW.out _ hB5).mono ?_; rintro e w6 ⟨A6, c6, xs, rfl, hrow6, hown6, hb6⟩; have hz5 : w.heap.size + 1 < w5.heap.size := Nat.lt_of_lt_of_le hz hb5.size; have hR6 := (hb6.block _ (lt_of_block hR5)).trans hR5; have hA6 := (hb6.block _ (lt_of_block hA5)).trans hA5; have hB6 := hB5.trans (hb6.mono hB5.size); have a0 := below_cell (Below.refl _ w6) hA6 0 rfl; have fa0 := block_frozen hA6 0; have a1 := below_cell (Below.refl _ w6) hA6 1 rfl; have fa1 := block_frozen hA6 1; have a2 := below_cell (Below.refl _ w6) hA6 2 rfl; have fa2 := block_frozen hA6 2; have a3 := below_cell (Below.refl _ w6) hA6 3 rfl; have fa3 := block_frozen hA6 3; have a4 := below_cell (Below.refl _ w6) hA6 4 rfl; have fa4 := block_frozen hA6 4; have r0 := below_cell (Below.refl _ w6) hR6 0 rfl; have fr0 := block_frozen hR6 0; have r1 := below_cell (Below.refl _ w6) hR6 1 rfl; have fr1 := block_frozen hR6 1; have r2 := below_cell (Below.refl _ w6) hR6 2 rfl; have fr2 := block_frozen hR6 2; have r3 := below_cell (Below.refl _ w6) hR6 3 rfl; have fr3 := block_frozen hR6 3; have r4 := below_cell (Below.refl _ w6) hR6 4 rfl; have fr4 := block_frozen hR6 4; have r5 := below_cell (Below.refl _ w6) hR6 5 rfl; have fr5 := block_frozen hR6 5; have r6 := below_cell (Below.refl _ w6) hR6 6 rfl; have fr6 := block_frozen hR6 6)
    | fail)
  all_goals
    have hAZ := (s7_other (s5 w6 w.heap.size (.int .i64 k) (.string nm) (.int .i64 no) (.string so) (.string re)) (w.heap.size + 1) w.heap.size (.int .i64 fw) (.int .i64 fa) (.int .i64 fn) (.string fs) (.int .i64 fi) (.int .u32 fc) (.slice A6 fl.length c6) (by omega)).trans (s5_block hA6 (.int .i64 k) (.string nm) (.int .i64 no) (.string so) (.string re))
    have hRZ := s7_block ((s5_other w6 w.heap.size (w.heap.size + 1) (.int .i64 k) (.string nm) (.int .i64 no) (.string so) (.string re) (by omega)).trans hR6) (.int .i64 fw) (.int .i64 fa) (.int .i64 fn) (.string fs) (.int .i64 fi) (.int .u32 fc) (.slice A6 fl.length c6)
    have hBZ := s7_below (s5_below hB6 (Nat.le_refl _) (.int .i64 k) (.string nm) (.int .i64 no) (.string so) (.string re)) (show w.heap.size ≤ w.heap.size + 1 by omega) (.int .i64 fw) (.int .i64 fa) (.int .i64 fn) (.string fs) (.int .i64 fi) (.int .u32 fc) (.slice A6 fl.length c6)
    have hOZ := s7_own (s5_own hown6 (show w.heap.size < w5.heap.size + 1 + 1 by omega) (.int .i64 k) (.string nm) (.int .i64 no) (.string so) (.string re)) (show w.heap.size + 1 < w5.heap.size + 1 + 1 by omega) (.int .i64 fw) (.int .i64 fa) (.int .i64 fn) (.string fs) (.int .i64 fi) (.int .u32 fc) (.slice A6 fl.length c6)
    have hLZ : IsRp _ _ _ := ⟨HBD.out, _, rfl, hrow6.reads hOZ rfl hBZ⟩
    clear hrow6 hown6 hOZ hA6 hR6 hB6 hA5 hR5 hB5 hb5 hb6 a0 a1 a2 a3 a4 fa0 fa1 fa2 fa3 fa4 r0 r1 r2 r3 r4 r5 r6 fr0 fr1 fr2 fr3 fr4 fr5 fr6 e0 e1 e2 e3 e4 e5 e6 c0 c1 c2 c3 c4
    unfold s7 s5 at hAZ hRZ hBZ hLZ
    go_upto_region 2 with fail
    obtain ⟨z, hzz⟩ : ∃ z, ((((((((((((w6.setCell ⟨w.heap.size, 0, none⟩ (.int .i64 k)).setCell ⟨w.heap.size, 1, none⟩ (.string nm)).setCell ⟨w.heap.size, 2, none⟩ (.int .i64 no)).setCell ⟨w.heap.size, 3, none⟩ (.string so)).setCell ⟨w.heap.size, 4, none⟩ (.string re)).setCell ⟨w.heap.size + 1, 0, none⟩ (.int .i64 fw)).setCell ⟨w.heap.size + 1, 1, none⟩ (.int .i64 fa)).setCell ⟨w.heap.size + 1, 2, none⟩ (.int .i64 fn)).setCell ⟨w.heap.size + 1, 3, none⟩ (.string fs)).setCell ⟨w.heap.size + 1, 4, none⟩ (.int .i64 fi)).setCell ⟨w.heap.size + 1, 5, none⟩ (.int .u32 fc)).setCell ⟨w.heap.size + 1, 6, none⟩ (.slice A6 fl.length c6)) = z := ⟨_, rfl⟩
    rw [hzz] at hAZ hRZ hBZ hLZ ⊢
    clear hzz
    have d0 := below_cell (Below.refl _ _) hAZ 0 rfl
    have d1 := below_cell (Below.refl _ _) hAZ 1 rfl
    have d2 := below_cell (Below.refl _ _) hAZ 2 rfl
    have d3 := below_cell (Below.refl _ _) hAZ 3 rfl
    have d4 := below_cell (Below.refl _ _) hAZ 4 rfl
    go_upto_region 3 with (first | (go_at_call 9; refine (HA.out _).mono ?_; rintro e w7 ⟨rfl, hb7⟩))
    have hA7 := (hb7.block _ (lt_of_block hAZ)).trans hAZ
    have hR7 := (hb7.block _ (lt_of_block hRZ)).trans hRZ
    have hL7 := hLZ.below hb7
    have hB7 := hBZ.trans (hb7.mono hBZ.size)
    clear d0 d1 d2 d3 d4 hAZ hRZ hLZ hBZ hb7
    have e0 := below_cell (Below.refl _ _) hR7 0 rfl
    have e1 := below_cell (Below.refl _ _) hR7 1 rfl
    have e2 := below_cell (Below.refl _ _) hR7 2 rfl
    have e3 := below_cell (Below.refl _ _) hR7 3 rfl
    have e4 := below_cell (Below.refl _ _) hR7 4 rfl
    have e5 := below_cell (Below.refl _ _) hR7 5 rfl
    have e6 := below_cell (Below.refl _ _) hR7 6 rfl
    have hRC := frReply_any ⟨fw, fa, fn, fs, fi, fc, fl⟩ _ w7 hL7
    have HRC := Lib.hid hRC
    have hRcase := rp_case ⟨fw, fa, fn, fs, fi, fc, fl⟩
    have HISR := Lib.hid (fun u (hu : Below w7.heap.size w7 u) => rfIsReply ⟨fw, fa, fn, fs, fi, fc, fl⟩ _ u (hL7.below hu))
    obtain ⟨oR, hoR⟩ : ∃ x, rpOk ⟨fw, fa, fn, fs, fi, fc, fl⟩ = x := ⟨_, rfl⟩
    obtain ⟨rE, hrE⟩ : ∃ x, rpE ⟨fw, fa, fn, fs, fi, fc, fl⟩ = x := ⟨_, rfl⟩
    obtain ⟨rS, hrS⟩ : ∃ x, rpS ⟨fw, fa, fn, fs, fi, fc, fl⟩ = x := ⟨_, rfl⟩
    rw [hrE, hrS] at HRC
    rw [hoR, hrE, hrS] at hRcase
    rw [hoR] at HISR
    clear hoR hrE hrS hRC
    go_upto_region 4 with (first | (go_at_call 16; refine HRC.out.mono ?_; rintro e w8 ⟨rfl, hb8⟩))
    have hA8 := (hb8.block _ (lt_of_block hA7)).trans hA7
    have hR8 := (hb8.block _ (lt_of_block hR7)).trans hR7
    have HIS8 := Lib.hid (fun u (hu : Below w8.heap.size w8 u) => HISR.out u (hb8.trans (hu.mono hb8.size)))
    have hB8 := hB7.trans (hb8.mono hB7.size)
    have HA8 := Lib.hid hA8; have HR8 := Lib.hid hR8; have HB8 := Lib.hid hB8
    clear e0 e1 e2 e3 e4 e5 e6 hA7 hR7 hL7 hB7 HRC HISR hb8 hA8 hR8 hB8
    have d0 := below_cell (Below.refl _ _) HA8.out 0 rfl
    have d1 := below_cell (Below.refl _ _) HA8.out 1 rfl
    have d2 := below_cell (Below.refl _ _) HA8.out 2 rfl
    have d3 := below_cell (Below.refl _ _) HA8.out 3 rfl
    have d4 := below_cell (Below.refl _ _) HA8.out 4 rfl
    have hAcase := ask_case ⟨k, nm, no, so, re⟩
    have HZR := Lib.hid (fun u => frReply_ok rpZ _ u (isZ u) rpZ_ok)
    have HRZ := Lib.hid (fun u => frReadAsk (rpB rpZ) u rpZ_size)
    rw [readZ_v, readZ_x] at HRZ
    unfold asqZ noB Asq.value at HRZ
    simp only at HRZ
    obtain ⟨rA, hrA⟩ : ∃ x, rightA ⟨k, nm, no, so, re⟩ = x := ⟨_, rfl⟩
    obtain ⟨aE, haE⟩ : ∃ x, askE ⟨k, nm, no, so, re⟩ = x := ⟨_, rfl⟩
    obtain ⟨aS, haS⟩ : ∃ x, askS ⟨k, nm, no, so, re⟩ = x := ⟨_, rfl⟩
    rw [hrA] at HRT
    rw [hrA, haE, haS] at hAcase
    rw [haE, haS]
    generalize rpB rpZ = ZB at *
    clear hrA haE haS HAE HAO HOKD HA HS HFW
    rcases hAcase with ⟨rfl, rfl, rfl⟩ | ⟨rfl, hz1, rfl, hne⟩ | ⟨rfl, hz1, rfl, rfl⟩ <;> rcases hRcase with ⟨rfl, rfl, hnr⟩ | ⟨rfl, rfl, rfl⟩
    all_goals
      go_wp2_with (first
        | (go_at_call 23; refine (HRT.out _).mono ?_; rintro e w9 ⟨rfl, hb9⟩; have g4 := below_cell hb9 HA8.out 4 rfl; have q0 := below_cell hb9 HR8.out 0 rfl; have q1 := below_cell hb9 HR8.out 1 rfl; have q2 := below_cell hb9 HR8.out 2 rfl; have q3 := below_cell hb9 HR8.out 3 rfl; have q4 := below_cell hb9 HR8.out 4 rfl; have q5 := below_cell hb9 HR8.out 5 rfl; have q6 := below_cell hb9 HR8.out 6 rfl; have hB9 := HB8.out.trans (hb9.mono HB8.out.size))
        | (go_at_call 20; refine (HIS8.out _ hb9).mono ?_; rintro e w10 ⟨rfl, hb10⟩; have hB10 := hB9.trans (hb10.mono hB9.size))
        | (go_at_call 12; refine (HAL.out _).mono ?_; rintro e w11 ⟨rfl, hb11⟩; have hB11 := hB10.trans (hb11.mono hB10.size))
        | (go_at_call 16; refine (HZR.out _).mono ?_; rintro e w12 ⟨rfl, hb12⟩; have hB12 := hB11.trans (hb12.mono hB11.size))
        | (go_at_call 10; refine (HRZ.out _).mono ?_; rintro e w13 ⟨rfl, hb13⟩; have hB13 := hB12.trans (hb13.mono hB12.size)))
      go_ret
      exact ⟨rfl, hB13.alloc hB13.size _⟩
end Go.Proofs.Ytmanlogclbbgaaa.lawFrameKinds
