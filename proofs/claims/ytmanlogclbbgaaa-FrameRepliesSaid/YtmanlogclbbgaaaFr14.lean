/- What the laws of layer 24 try: short, alive. -/
import Derived.Test.YtmanlogclbbgaaaFr13
import Derived.Test.YtmanlogclbbgaaaOrdL
import Derived.Deep.RegionHeld3
namespace Go.Proofs.Ytmanlogclbbgaaa
open Go.RowKit
set_option linter.unusedVariables false
set_option linter.unusedSimpArgs false

def cut0 (s : ByteArray) (n : Nat) : ByteArray := s.extract 0 (min s.size n)
theorem cut0_size (s : ByteArray) (n : Nat) : (cut0 s n).size ≤ n := by
  unfold cut0; rw [ByteArray.size_extract]; omega
def shortA (q : Asq) : Asq := ⟨q.kind, cut0 q.name 60, q.no, cut0 q.source 2100, cut0 q.record 150⟩
set_option maxRecDepth 100000 in
set_option maxHeartbeats 2000000 in
theorem frShort (q : Asq) (w : World) (h1 : q.name.size ≤ 9223372036854775807) (h2 : q.source.size ≤ 9223372036854775807) (h3 : q.record.size ≤ 9223372036854775807) :
    Calls Try.prog 8 #[q.value] w fun e w' => e = .returned (shortA q).value ∧ Below w.heap.size w w' := by
  have hsh : (shortA q).value = .agg #[.int .i64 q.kind, .string (cut0 q.name 60), .int .i64 q.no, .string (cut0 q.source 2100), .string (cut0 q.record 150)] := rfl
  rw [hsh]
  obtain ⟨kind, name, no, source, record⟩ := q
  unfold cut0
  simp only at *
  have m1 : min name.size 60 ≤ name.size := Nat.min_le_left _ _
  have m2 : min source.size 2100 ≤ source.size := Nat.min_le_left _ _
  have m3 : min record.size 150 ≤ record.size := Nat.min_le_left _ _
  have i1 : min (name.size : Int) 60 = ((min name.size 60 : Nat) : Int) := by omega
  have i2 : min (source.size : Int) 2100 = ((min source.size 2100 : Nat) : Int) := by omega
  have i3 : min (record.size : Int) 150 = ((min record.size 150 : Nat) : Int) := by omega
  have j1 : (if (60 : Int) < name.size then (60 : Int) else name.size) = ((min name.size 60 : Nat) : Int) := by split <;> omega
  have j2 : (if (2100 : Int) < source.size then (2100 : Int) else source.size) = ((min source.size 2100 : Nat) : Int) := by split <;> omega
  have j3 : (if (150 : Int) < record.size then (150 : Int) else record.size) = ((min record.size 150 : Nat) : Int) := by split <;> omega
  generalize min name.size 60 = n1 at *
  generalize min source.size 2100 = n2 at *
  generalize min record.size 150 = n3 at *
  have b0 := heap_alloc_new w (.cells #[.int .i64 kind, .string name, .int .i64 no, .string source, .string record] 23)
  go_enter Try.func8, Try.ntmps8
  unfold Asq.value
  go_upto_region 1 with fail
  have HX : Hid (∀ u : World, u = (w.alloc (.cells #[.int .i64 kind, .string name, .int .i64 no, .string source, .string record] 23)).alloc (.cells #[.int .i64 0, .string ⟨#[]⟩, .int .i64 0, .string ⟨#[]⟩, .string ⟨#[]⟩] 23) →
      u.heap[w.heap.size]? = some (.cells #[.int .i64 kind, .string name, .int .i64 no, .string source, .string record] 23 (0, 0)) ∧ u.heap[w.heap.size + 1]? = some (.cells #[.int .i64 0, .string ⟨#[]⟩, .int .i64 0, .string ⟨#[]⟩, .string ⟨#[]⟩] 23 (0, 0)) ∧ Below w.heap.size w u) := Lib.hid (by
    rintro u rfl
    have e1 := heap_alloc_new (w.alloc (.cells #[.int .i64 kind, .string name, .int .i64 no, .string source, .string record] 23)) (.cells #[.int .i64 0, .string ⟨#[]⟩, .int .i64 0, .string ⟨#[]⟩, .string ⟨#[]⟩] 23)
    rw [World.size_alloc] at e1
    exact ⟨(heap_alloc_old _ _ (lt_of_block b0)).trans b0, e1, ((Below.refl w.heap.size w).alloc (Nat.le_refl _) _).alloc (by simp) _⟩)
  obtain ⟨u, hW⟩ : ∃ u, (w.alloc (.cells #[.int .i64 kind, .string name, .int .i64 no, .string source, .string record] 23)).alloc (.cells #[.int .i64 0, .string ⟨#[]⟩, .int .i64 0, .string ⟨#[]⟩, .string ⟨#[]⟩] 23) = u := ⟨_, rfl⟩
  rw [hW]
  obtain ⟨hA, hZ, hb⟩ := HX.out u hW.symm
  clear hW HX b0
  have c1 := keep_at hA 1 rfl
  have c3 := keep_at hA 3 rfl
  have c4 := keep_at hA 4 rfl
  have HA := Lib.hid hA; have HZ := Lib.hid hZ; have HB := Lib.hid hb
  clear hA hZ hb
  refine wp_region_ordL (fun i => decide (21 ≤ i)) (fun w' => ∃ x : KeepT u, w' = x.val) (by kernel_rfl) ⟨⟨_, (Below.refl _ u).drew⟩, rfl⟩ ?_
  refine ordL_load (i := 0) (v := .pointer (some ⟨w.heap.size, 1, none⟩)) rfl (by kernel_rfl) (by rfl) (by kernel_rfl) (by kernel_rfl) (by kernel_rfl) (fun _ _ _ h => h) (by rfl) (fun w hw => ?_) ?_
  · obtain ⟨x, rfl⟩ := hw
    go_simp
  try simp only [Act.put, List.setIfInBounds_toArray, List.set_cons_zero, List.set_cons_succ]
  refine ordL_load (i := 1) (v := .string name) rfl (by kernel_rfl) (by rfl) (by kernel_rfl) (by kernel_rfl) (by kernel_rfl) (fun _ _ _ h => h) (by rfl) (fun w hw => ?_) ?_
  · obtain ⟨x, rfl⟩ := hw
    go_simp
  try simp only [Act.put, List.setIfInBounds_toArray, List.set_cons_zero, List.set_cons_succ]
  refine ordL_load (i := 2) (v := .pointer (some ⟨w.heap.size, 1, none⟩)) rfl (by kernel_rfl) (by rfl) (by kernel_rfl) (by kernel_rfl) (by kernel_rfl) (fun _ _ _ h => h) (by rfl) (fun w hw => ?_) ?_
  · obtain ⟨x, rfl⟩ := hw
    go_simp
  try simp only [Act.put, List.setIfInBounds_toArray, List.set_cons_zero, List.set_cons_succ]
  refine ordL_load (i := 3) (v := .string name) rfl (by kernel_rfl) (by rfl) (by kernel_rfl) (by kernel_rfl) (by kernel_rfl) (fun _ _ _ h => h) (by rfl) (fun w hw => ?_) ?_
  · obtain ⟨x, rfl⟩ := hw
    go_simp
  try simp only [Act.put, List.setIfInBounds_toArray, List.set_cons_zero, List.set_cons_succ]
  refine ordL_load (i := 4) (v := .int .i64 (name.size : Nat)) rfl (by kernel_rfl) (by rfl) (by kernel_rfl) (by kernel_rfl) (by kernel_rfl) (fun _ _ _ h => h) (by rfl) (fun w hw => ?_) ?_
  · obtain ⟨x, rfl⟩ := hw
    go_simp
  try simp only [Act.put, List.setIfInBounds_toArray, List.set_cons_zero, List.set_cons_succ]
  refine ordL_load (i := 5) (v := .int .i64 (n1 : Nat)) rfl (by kernel_rfl) (by rfl) (by kernel_rfl) (by kernel_rfl) (by kernel_rfl) (fun _ _ _ h => h) (by rfl) (fun w hw => ?_) ?_
  · obtain ⟨x, rfl⟩ := hw
    go_simp
  try simp only [Act.put, List.setIfInBounds_toArray, List.set_cons_zero, List.set_cons_succ]
  refine ordL_load (i := 6) (v := .string (name.extract 0 n1)) rfl (by kernel_rfl) (by rfl) (by kernel_rfl) (by kernel_rfl) (by kernel_rfl) (fun _ _ _ h => h) (by rfl) (fun w hw => ?_) ?_
  · obtain ⟨x, rfl⟩ := hw
    go_simp
  try simp only [Act.put, List.setIfInBounds_toArray, List.set_cons_zero, List.set_cons_succ]
  refine ordL_load (i := 7) (v := .pointer (some ⟨w.heap.size, 3, none⟩)) rfl (by kernel_rfl) (by rfl) (by kernel_rfl) (by kernel_rfl) (by kernel_rfl) (fun _ _ _ h => h) (by rfl) (fun w hw => ?_) ?_
  · obtain ⟨x, rfl⟩ := hw
    go_simp
  try simp only [Act.put, List.setIfInBounds_toArray, List.set_cons_zero, List.set_cons_succ]
  refine ordL_load (i := 8) (v := .string source) rfl (by kernel_rfl) (by rfl) (by kernel_rfl) (by kernel_rfl) (by kernel_rfl) (fun _ _ _ h => h) (by rfl) (fun w hw => ?_) ?_
  · obtain ⟨x, rfl⟩ := hw
    go_simp
  try simp only [Act.put, List.setIfInBounds_toArray, List.set_cons_zero, List.set_cons_succ]
  refine ordL_load (i := 9) (v := .pointer (some ⟨w.heap.size, 3, none⟩)) rfl (by kernel_rfl) (by rfl) (by kernel_rfl) (by kernel_rfl) (by kernel_rfl) (fun _ _ _ h => h) (by rfl) (fun w hw => ?_) ?_
  · obtain ⟨x, rfl⟩ := hw
    go_simp
  try simp only [Act.put, List.setIfInBounds_toArray, List.set_cons_zero, List.set_cons_succ]
  refine ordL_load (i := 10) (v := .string source) rfl (by kernel_rfl) (by rfl) (by kernel_rfl) (by kernel_rfl) (by kernel_rfl) (fun _ _ _ h => h) (by rfl) (fun w hw => ?_) ?_
  · obtain ⟨x, rfl⟩ := hw
    go_simp
  try simp only [Act.put, List.setIfInBounds_toArray, List.set_cons_zero, List.set_cons_succ]
  refine ordL_pure (i := 11) (v := .int .i64 (source.size : Nat)) rfl (by kernel_rfl) (by rfl) (by kernel_rfl) (by kernel_rfl) (fun _ _ _ h => h) (by rfl) (fun w => ?_) ?_
  · go_simp
  try simp only [Act.put, List.setIfInBounds_toArray, List.set_cons_zero, List.set_cons_succ]
  refine ordL_pure (i := 12) (v := .int .i64 (n2 : Nat)) rfl (by kernel_rfl) (by rfl) (by kernel_rfl) (by kernel_rfl) (fun _ _ _ h => h) (by rfl) (fun w => ?_) ?_
  · go_simp
  try simp only [Act.put, List.setIfInBounds_toArray, List.set_cons_zero, List.set_cons_succ]
  refine ordL_pure (i := 13) (v := .string (source.extract 0 n2)) rfl (by kernel_rfl) (by rfl) (by kernel_rfl) (by kernel_rfl) (fun _ _ _ h => h) (by rfl) (fun w => ?_) ?_
  · go_simp
  try simp only [Act.put, List.setIfInBounds_toArray, List.set_cons_zero, List.set_cons_succ]
  refine ordL_load (i := 14) (v := .pointer (some ⟨w.heap.size, 4, none⟩)) rfl (by kernel_rfl) (by rfl) (by kernel_rfl) (by kernel_rfl) (by kernel_rfl) (fun _ _ _ h => h) (by rfl) (fun w hw => ?_) ?_
  · obtain ⟨x, rfl⟩ := hw
    go_simp
  try simp only [Act.put, List.setIfInBounds_toArray, List.set_cons_zero, List.set_cons_succ]
  refine ordL_load (i := 15) (v := .string record) rfl (by kernel_rfl) (by rfl) (by kernel_rfl) (by kernel_rfl) (by kernel_rfl) (fun _ _ _ h => h) (by rfl) (fun w hw => ?_) ?_
  · obtain ⟨x, rfl⟩ := hw
    go_simp
  try simp only [Act.put, List.setIfInBounds_toArray, List.set_cons_zero, List.set_cons_succ]
  refine ordL_load (i := 16) (v := .pointer (some ⟨w.heap.size, 4, none⟩)) rfl (by kernel_rfl) (by rfl) (by kernel_rfl) (by kernel_rfl) (by kernel_rfl) (fun _ _ _ h => h) (by rfl) (fun w hw => ?_) ?_
  · obtain ⟨x, rfl⟩ := hw
    go_simp
  try simp only [Act.put, List.setIfInBounds_toArray, List.set_cons_zero, List.set_cons_succ]
  refine ordL_load (i := 17) (v := .string record) rfl (by kernel_rfl) (by rfl) (by kernel_rfl) (by kernel_rfl) (by kernel_rfl) (fun _ _ _ h => h) (by rfl) (fun w hw => ?_) ?_
  · obtain ⟨x, rfl⟩ := hw
    go_simp
  try simp only [Act.put, List.setIfInBounds_toArray, List.set_cons_zero, List.set_cons_succ]
  refine ordL_pure (i := 18) (v := .int .i64 (record.size : Nat)) rfl (by kernel_rfl) (by rfl) (by kernel_rfl) (by kernel_rfl) (fun _ _ _ h => h) (by rfl) (fun w => ?_) ?_
  · go_simp
  try simp only [Act.put, List.setIfInBounds_toArray, List.set_cons_zero, List.set_cons_succ]
  refine ordL_pure (i := 19) (v := .int .i64 (n3 : Nat)) rfl (by kernel_rfl) (by rfl) (by kernel_rfl) (by kernel_rfl) (fun _ _ _ h => h) (by rfl) (fun w => ?_) ?_
  · go_simp
  try simp only [Act.put, List.setIfInBounds_toArray, List.set_cons_zero, List.set_cons_succ]
  refine ordL_pure (i := 20) (v := .string (record.extract 0 n3)) rfl (by kernel_rfl) (by rfl) (by kernel_rfl) (by kernel_rfl) (fun _ _ _ h => h) (by rfl) (fun w => ?_) ?_
  · go_simp
  try simp only [Act.put, List.setIfInBounds_toArray, List.set_cons_zero, List.set_cons_succ]
  refine ordL_seq 21 (by kernel_rfl) (by kernel_rfl) (by kernel_rfl) (by kernel_rfl) ?_
  intro y hy
  have hAx := (show y.heap[w.heap.size]? = _ from by obtain ⟨x, rfl⟩ := hy; exact (x.below.block _ (lt_of_block HA.out)).trans HA.out)
  have hZx := (show y.heap[w.heap.size + 1]? = _ from by obtain ⟨x, rfl⟩ := hy; exact (x.below.block _ (lt_of_block HZ.out)).trans HZ.out)
  have HBx := Lib.hid (show Below w.heap.size w y from by obtain ⟨x, rfl⟩ := hy; exact HB.out.trans (x.below.mono HB.out.size))
  clear hy c1 c3 c4 HA HZ HB
  simp only [List.drop_succ_cons, List.drop_zero]
  have f1 := block_frozen hAx 1
  have e1 := below_cell (Below.refl _ _) hAx 1 rfl
  have b1 := block_set hAx 1 (.string (name.extract 0 n1))
  have f2 := block_frozen b1 3
  have e2 := below_cell (Below.refl _ _) b1 3 rfl
  have b2 := block_set b1 3 (.string (source.extract 0 n2))
  have f3 := block_frozen b2 4
  have e3 := below_cell (Below.refl _ _) b2 4 rfl
  have b3 := block_set b2 4 (.string (record.extract 0 n3))
  have hZ3 : (((y.setCell ⟨w.heap.size, 1, none⟩ (.string (name.extract 0 n1))).setCell ⟨w.heap.size, 3, none⟩ (.string (source.extract 0 n2))).setCell ⟨w.heap.size, 4, none⟩ (.string (record.extract 0 n3))).heap[w.heap.size + 1]? = some (.cells #[.int .i64 0, .string ⟨#[]⟩, .int .i64 0, .string ⟨#[]⟩, .string ⟨#[]⟩] 23 (0, 0)) := by
    rw [Below.heap_setCell _ _ _ _ (by show w.heap.size + 1 ≠ w.heap.size; omega), Below.heap_setCell _ _ _ _ (by show w.heap.size + 1 ≠ w.heap.size; omega), Below.heap_setCell _ _ _ _ (by show w.heap.size + 1 ≠ w.heap.size; omega)]
    exact hZx
  have hB3 := (((HBx.out.setCell (p := ⟨w.heap.size, 1, none⟩) (Nat.le_refl _) (.string (name.extract 0 n1))).setCell (p := ⟨w.heap.size, 3, none⟩) (Nat.le_refl _) (.string (source.extract 0 n2))).setCell (p := ⟨w.heap.size, 4, none⟩) (Nat.le_refl _) (.string (record.extract 0 n3)))
  go_upto_region 2 with fail
  obtain ⟨z, hz⟩ : ∃ z, (((y.setCell ⟨w.heap.size, 1, none⟩ (.string (name.extract 0 n1))).setCell ⟨w.heap.size, 3, none⟩ (.string (source.extract 0 n2))).setCell ⟨w.heap.size, 4, none⟩ (.string (record.extract 0 n3))) = z := ⟨_, rfl⟩
  rw [hz] at b3 hZ3 hB3 ⊢
  clear hz f1 e1 b1 f2 e2 b2 f3 e3 hAx hZx HBx
  have d0 := below_cell (Below.refl _ _) b3 0 rfl
  have d1 := below_cell (Below.refl _ _) b3 1 rfl
  have d2 := below_cell (Below.refl _ _) b3 2 rfl
  have d3 := below_cell (Below.refl _ _) b3 3 rfl
  have d4 := below_cell (Below.refl _ _) b3 4 rfl
  have HS := Lib.hid (setRow_heap z (w.heap.size + 1) _ #[.int .i64 kind, .string (name.extract 0 n1), .int .i64 no, .string (source.extract 0 n2), .string (record.extract 0 n3)] _ _ hZ3)
  have HF := Lib.hid (below_setRow hB3 (show w.heap.size ≤ w.heap.size + 1 by omega) #[.int .i64 kind, .string (name.extract 0 n1), .int .i64 no, .string (source.extract 0 n2), .string (record.extract 0 n3)])
  clear b3 hB3
  go_wp2_with (first | (refine wpList_store_row rfl 23 _ _ rfl (w.heap.size + 1) #[.int .i64 kind, .string (name.extract 0 n1), .int .i64 no, .string (source.extract 0 n2), .string (record.extract 0 n3)] rfl rfl 23 _ hZ3 (by kernel_rfl) rfl (by simp [Value.oneCell']) ?_))
  refine bodyPost_ret (results_cell_row rfl _ _ (w.heap.size + 1) _ _ _ _ rfl HS.out Try.underlying23 rfl (by kernel_rfl)) rfl ⟨rfl, HF.out⟩
set_option maxRecDepth 100000 in
set_option maxHeartbeats 2000000 in
theorem frAlive (w : World) : Calls Try.prog 12 #[] w fun e w' => e = .returned (.bool true) ∧ Below w.heap.size w w' := by
  have hok : askOk ⟨5, noB, 0, noB, noB⟩ = true := by decide
  have hb := readQ_back ⟨5, noB, 0, noB, noB⟩ hok (by show (0 : Int) ≤ _; omega)
  have hv : readV (askB ⟨5, noB, 0, noB, noB⟩) = ⟨5, noB, 0, noB, noB⟩ := by unfold readV; rw [hb]; rfl
  have hx : readX (askB ⟨5, noB, 0, noB, noB⟩) = 0 := by unfold readX; rw [hb]; rfl
  have hz : (askB ⟨5, noB, 0, noB, noB⟩).size ≤ 3000 := by
    rw [askB_in, sealL_size]
    have : (askIn ⟨5, noB, 0, noB, noB⟩).size = 15 := by decide
    omega
  have HA := Lib.hid (fun u => frAsk_ok ⟨5, noB, 0, noB, noB⟩ u (by decide) (by decide) (by show (0 : Int) ≤ _; omega))
  have HR := Lib.hid (fun u => frReadAsk (askB ⟨5, noB, 0, noB, noB⟩) u hz)
  rw [hv, hx] at HR
  have heq := fun u => eqAsq ⟨5, noB, 0, noB, noB⟩ ⟨5, noB, 0, noB, noB⟩ u
  rw [decide_eq_true rfl] at heq
  generalize askB ⟨5, noB, 0, noB, noB⟩ = S at *
  unfold Asq.value noB at *
  clear hok hb hv hx hz
  go_enter Try.func12, Try.ntmps12
  go_wp2_with (first | (go_at_call 9; refine (HA.out _).mono ?_; rintro e w1 ⟨rfl, hb1⟩) | (go_at_call 10; refine (HR.out _).mono ?_; rintro e w2 ⟨rfl, hb2⟩))
  go_ret
  exact ⟨rfl, (hb1.trans (hb2.mono hb1.size)).alloc (hb1.trans (hb2.mono hb1.size)).size _⟩
end Go.Proofs.Ytmanlogclbbgaaa
