/- A part of all truths; what is written behind an instruction. -/
import Derived.Test.YtpdfahlglalebaaChk3
import Derived.Laws.CopyOwn
import Derived.Deep.WholeRow
namespace Go.Proofs.Ytpdfahlglalebaa
open Go.RowKit Go.ChangeShapes
set_option linter.unusedVariables false

set_option maxRecDepth 100000 in
theorem chkRow_any (g N at' : Nat) (w : World) (h : 16 * at' + 16 ≤ N) (hN : N ≤ 70000) :
    Calls Try.prog 24 #[.slice (some ⟨g, 0, none⟩) N N, .int .i64 (at' : Int)] w fun e w' => e = .returned (.slice (some ⟨g, 16 * at', none⟩) 16 16) ∧ w = w' := by
  have hNI : (N : Int) ≤ 70000 := by omega
  have hI : 16 * (at' : Int) + 16 ≤ N := by omega
  have e1 : 16 * ((at' : Int) + 1) = 16 * (at' : Int) + 16 := by omega
  have e2 : (16 * (at' : Int) + 16).toNat = 16 * at' + 16 := by omega
  have e3 : (16 * (at' : Int)).toNat = 16 * at' := by omega
  go_enter Try.func24, Try.ntmps24
  go_wp2_with fail
  go_ret
  exact ⟨rfl, rfl⟩
def bits16 (b : Nat → Bool) : List Value := (List.range 16).map fun j => .bool (b j)
theorem bits16_len (b : Nat → Bool) : (bits16 b).length = 16 := rfl
theorem bits16_get (b : Nat → Bool) (j : Nat) (h : j < 16) : (bits16 b)[j]? = some (.bool (b j)) := by simp [bits16, h]
theorem bits16_one (b : Nat → Bool) : ∀ v ∈ bits16 b, v.oneCell' = true := by
  intro v hv
  obtain ⟨j, _, rfl⟩ := List.mem_map.1 hv
  rfl
theorem bits16_set (b : Nat → Bool) (k : Nat) (h : k < 16) (x : Bool) : (bits16 b).toArray.setIfInBounds k (.bool x) = (bits16 fun j => if j = k then x else b j).toArray := by
  apply Array.toList_inj.1
  rw [List.setIfInBounds_toArray]
  apply List.ext_getElem?
  intro j
  by_cases hj : j < 16
  · by_cases e : j = k
    · subst e
      rw [bits16_get _ _ hj, List.getElem?_set_self (by rw [bits16_len]; exact hj), if_pos rfl]
    · rw [bits16_get _ _ hj, List.getElem?_set_ne (fun h => e h.symm), bits16_get _ _ hj, if_neg e]
  · rw [List.getElem?_eq_none (by simp [bits16_len]; omega), List.getElem?_eq_none (by simp [bits16_len]; omega)]
/-- the cells that are written behind an instruction -/
def wrB (b : Nat → Bool) (i : Ins) (j : Nat) : Bool := if i.code = 2 ∨ i.code = 3 then (if j = i.k.toNat then true else b j) else b j
theorem info16 : (Try.prog.info? 56).map (fun i => (i.zero, i.size)) = some (some (.agg (bits16 fun _ => false).toArray), 16) := by kernel_rfl
theorem infoBool : (Try.prog.info? 4).map (fun i => (i.zero, i.size, i.bytes)) = some (some (.bool false), 1, 1) := by kernel_rfl
theorem splice16 (L cs : List Value) (h1 : L.length = 16) (h2 : cs.length = 16) : splice L 0 cs = cs := by
  unfold splice
  rw [List.drop_of_length_le (by omega)]
  simp
set_option maxRecDepth 100000 in
set_option maxHeartbeats 1000000 in
theorem chkWritten_any (b : Nat → Bool) (g o : Nat) (i : Ins) (w : World) (hf : fitsB i = true) (hbd : i.bounded) (hg : ∀ j, j < 16 → w.cell? ⟨g, o + j, none⟩ = some (.bool (b j))) :
    Calls Try.prog 25 #[.slice (some ⟨g, o, none⟩) 16 16, i.value] w fun e w' => e = .returned (.agg (bits16 (wrB b i)).toArray) ∧ Below w.heap.size w w' := by
  have hglt : g < w.heap.size := World.block_lt_of_cell? _ _ (hg 0 (by omega))
  have hk16 : (i.code = 2 ∨ i.code = 3) → i.k < 16 := fun h => by
    have := (fits_parts hf).2.2
    unfold fitsK at this
    rw [if_neg (by omega), if_pos (by omega)] at this
    exact of_decide_eq_true this
  obtain ⟨c, jt, jf, k⟩ := i
  obtain ⟨_, _, _, bk, bk1⟩ := hbd
  dsimp only at bk bk1 hk16
  obtain ⟨k, rfl⟩ := Int.eq_ofNat_of_zero_le bk
  unfold Ins.value
  dsimp only
  obtain ⟨R, hR⟩ : ∃ R, (bits16 (wrB b ⟨c, jt, jf, k⟩)).toArray = R := ⟨_, rfl⟩
  rw [hR]
  have hsz : R.size = 16 := by rw [← hR, List.size_toArray]; rfl
  have hI : (Try.prog.info? 56).map (fun i => i.size) = some R.size := by rw [hsz]; kernel_rfl
  have hone : R.all (·.oneCell') = true := by rw [← hR, List.all_toArray]; exact List.all_eq_true.2 (bits16_one _)
  have H1 := Lib.hid hI; have H2 := Lib.hid hone; have HRS := Lib.hid hsz; have HR := Lib.hid hR
  clear hsz hI hone hR
  have hz := (zero_of_info info16).1
  obtain ⟨Z, hZ⟩ : ∃ Z, Z = bits16 fun _ => false := ⟨_, rfl⟩
  have hZl : Z.length = 16 := by rw [hZ]; rfl
  have hZZ : (bits16 fun _ => false) = Z := hZ.symm
  obtain ⟨X, hX⟩ : ∃ X, X = bits16 b := ⟨_, rfl⟩
  have hXl : X.length = 16 := by rw [hX]; rfl
  have hsrc : ∀ (u : World), Below w.heap.size w u → ∀ j v, X[j]? = some v → u.cell? ((⟨g, o, none⟩ : Addr).add j) = some v := by
    intro u hu j v hv
    have hj : j < 16 := by have := (List.getElem?_eq_some_iff.1 hv).1; omega
    rw [hX, bits16_get _ _ hj] at hv
    injection hv with hv
    subst hv
    rw [addr_add]
    exact (hu.cell (p := ⟨g, o + j, none⟩) hglt).trans (hg j hj)
  have HX1 : Hid (∀ v ∈ X, v.oneCell' = true) := by rw [hX]; exact bits16_one b
  have HXl := Lib.hid hXl; have HZl := Lib.hid hZl; have HS := Lib.hid hsrc; have HXe := Lib.hid hX
  rw [hZZ] at hz
  clear hsrc hX hXl hZl hg hZ hZZ
  go_enter Try.func25, Try.ntmps25
  go_upto_region 2 with fail
  generalize hwA : ((w.alloc (Obj.cells #[Value.int .i64 c, .int .i64 jt, .int .i64 jf, .int .u32 (k : Int)] 38)).alloc (Obj.cells Z.toArray 56)).alloc (Obj.cells Z.toArray 56) = wA
  have hbA : Below w.heap.size w wA := by
    rw [← hwA]
    exact ((((Below.refl _ _).alloc (Nat.le_refl _) _).alloc (by simp) _).alloc (by simp; omega) _)
  have hiA : wA.heap[w.heap.size]? = some (.cells #[Value.int .i64 c, .int .i64 jt, .int .i64 jf, .int .u32 (k : Int)] 38 (0, 0)) := by
    rw [← hwA]
    exact (heap_alloc_old _ _ (by simp; omega)).trans ((heap_alloc_old _ _ (by simp)).trans (heap_alloc_new w _))
  have hrA : wA.heap[w.heap.size + 1]? = some (.cells Z.toArray 56 (0, 0)) := by
    rw [← hwA]
    refine (heap_alloc_old _ _ (by simp)).trans ?_
    have := heap_alloc_new (w.alloc (Obj.cells #[Value.int .i64 c, .int .i64 jt, .int .i64 jf, .int .u32 (k : Int)] 38)) (Obj.cells Z.toArray 56)
    rwa [World.size_alloc] at this
  have hbehA : wA.heap[w.heap.size + 1 + 1]? = some (.cells Z.toArray 56 (0, 0)) := by
    rw [← hwA]
    have := heap_alloc_new ((w.alloc (Obj.cells #[Value.int .i64 c, .int .i64 jt, .int .i64 jf, .int .u32 (k : Int)] 38)).alloc (Obj.cells Z.toArray 56)) (Obj.cells Z.toArray 56)
    rwa [World.size_alloc, World.size_alloc] at this
  have HBA := Lib.hid hbA; have HIA := Lib.hid hiA; have HRA := Lib.hid hrA; have HBEH := Lib.hid hbehA
  have HSRC := Lib.hid (HS.out wA hbA)
  have HN := Lib.hid (show X.length = Nat.min 16 16 by rw [HXl.out]; rfl)
  have HFIT := Lib.hid (show 0 + X.length ≤ Z.length by rw [HXl.out, HZl.out]; decide)
  clear hwA hbA hiA hrA hbehA hz
  go_wp2_with (with_reducible refine wpList_copy_splice rfl (.tmp 6) (.tmp 7) 44 44 rfl 4 Try.underlying44 (by kernel_rfl) _ _ _ _ _ _ rfl rfl (w.heap.size + 1 + 1) 0 Z 56 HBEH.out X HN.out (fun _ => ⟨rfl, _, rfl, HSRC.out⟩) HFIT.out HX1.out (w.heap.size + 1 + 1) wA (Below.refl _ _) (Nat.le_refl _) ?_)
  intro wB hgB hbB
  have hB : wB.heap[w.heap.size + 1 + 1]? = some (.cells (bits16 b).toArray 56 (0, 0)) := by
    have := hgB
    unfold Hid at this
    rw [splice16 _ _ HZl.out HXl.out, HXe.out] at this
    exact this
  have hiB := (hbB.block _ (by omega)).trans HIA.out
  have hrB := (hbB.block _ (by omega)).trans HRA.out
  have hbBw := HBA.out.trans (hbB.mono (by omega))
  have i0 := below_cell (Below.refl _ wB) hiB 0 rfl
  have i3 := below_cell (Below.refl _ wB) hiB 3 rfl
  have HB := Lib.hid hB; have HIB := Lib.hid hiB; have HRB := Lib.hid hrB; have HWB := Lib.hid hbBw
  clear hgB hbB hiB hrB hbBw HXe HXl
  by_cases hst : c = 2 ∨ c = 3
  · have hk := hk16 hst
    have hkn : k < 16 := by omega
    have hkI : (k : Int) ≤ 15 := by omega
    have hold := below_cell (Below.refl _ wB) hB k (v := .bool (b k)) (by rw [List.getElem?_toArray]; exact bits16_get b k hkn)
    have hfz := block_frozen hB k
    have hset := block_set hB k (.bool true)
    rw [bits16_set b k hkn true] at hset
    have hwr : (fun j => if j = k then true else b j) = wrB b ⟨c, jt, jf, k⟩ := by
      funext j
      unfold wrB
      rw [if_pos hst]
      rfl
    rw [hwr, HR.out] at hset
    have HBC := Lib.hid hset
    have HRC := Lib.hid ((Below.heap_setCell wB ⟨w.heap.size + 1 + 1, k, none⟩ (.bool true) (w.heap.size + 1) (by show w.heap.size + 1 ≠ w.heap.size + 1 + 1; omega)).trans HRB.out)
    have HWC := Lib.hid (HWB.out.setCell (p := ⟨w.heap.size + 1 + 1, k, none⟩) (by show w.heap.size ≤ w.heap.size + 1 + 1; omega) (.bool true))
    have hst2 := hst
    rcases hst2 with rfl | rfl
    all_goals
      clear hset hwr hst hk hkn hk16 hf hB
      go_upto_region 5 with fail
      generalize wB.setCell ⟨w.heap.size + 1 + 1, k, none⟩ (.bool true) = wC at *
      clear hold hfz i0 i3
      have hso : Z.toArray.size = R.size := by rw [HRS.out, List.size_toArray]; exact HZl.out
      have H3 := Lib.hid hso
      clear hso
      go_wp2_with (first | (refine wpList_load_row rfl 56 _ rfl (w.heap.size + 1 + 1) rfl 56 R (0, 0) _ HBC.out Try.underlying56 rfl H1.out ?_) | (refine wpList_store_row rfl 56 _ _ rfl (w.heap.size + 1) R rfl rfl 56 Z.toArray HRC.out H1.out H3.out H2.out ?_))
      refine bodyPost_ret (v := .agg R) (results_cell_row rfl _ _ (w.heap.size + 1) 56 R (0, 0) _ rfl (setRow_heap _ _ _ _ _ _ HRC.out) Try.underlying56 rfl H1.out) rfl ⟨rfl, ?_⟩
      exact below_setRow HWC.out (by omega) _
  · have n2 : (c == 2) = false := by rw [beq_eq_false_iff_ne]; omega
    have n3 : (c == 3) = false := by rw [beq_eq_false_iff_ne]; omega
    have hwr : wrB b ⟨c, jt, jf, k⟩ = b := by
      funext j
      unfold wrB
      rw [if_neg hst]
    have HBC : Hid (wB.heap[w.heap.size + 1 + 1]? = some (.cells R 56 (0, 0))) := by rw [← HR.out, hwr]; exact hB
    have HRC := HRB
    have HWC := HWB
    clear hwr hst hk16 hf hB
    have hso : Z.toArray.size = R.size := by rw [HRS.out, List.size_toArray]; exact HZl.out
    have H3 := Lib.hid hso
    clear hso
    go_wp2_with (first | (refine wpList_load_row rfl 56 _ rfl (w.heap.size + 1 + 1) rfl 56 R (0, 0) _ HBC.out Try.underlying56 rfl H1.out ?_) | (refine wpList_store_row rfl 56 _ _ rfl (w.heap.size + 1) R rfl rfl 56 Z.toArray HRC.out H1.out H3.out H2.out ?_))
    refine bodyPost_ret (v := .agg R) (results_cell_row rfl _ _ (w.heap.size + 1) 56 R (0, 0) _ rfl (setRow_heap _ _ _ _ _ _ HRC.out) Try.underlying56 rfl H1.out) rfl ⟨rfl, ?_⟩
    exact below_setRow HWC.out (by omega) _
end Go.Proofs.Ytpdfahlglalebaa
