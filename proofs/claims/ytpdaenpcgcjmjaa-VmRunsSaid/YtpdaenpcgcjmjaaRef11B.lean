/- The reference's moves. -/
import Derived.Test.YtpdaenpcgcjmjaaRef11A
namespace Go.Proofs.Ytpdaenpcgcjmjaa
open Go.RowKit
set_option linter.unusedVariables false

theorem infoRM : (Try.prog.info? 45).map (fun i => i.size) = some 22 := by kernel_rfl
def rm0 : RM := ⟨0, 0, List.replicate 16 0, 0, 0, false, false⟩
/-- what stands ahead of a call of 'moves' -/
structure Moves (w wA : World) (r : RM) (c jt jf k : Int) : Prop where
  m : IsR wA w.heap.size r
  i : wA.heap[w.heap.size + 1]? = some (.cells #[.int .i64 c, .int .i64 jt, .int .i64 jf, .int .u32 k] 35 (0, 0))
  o : wA.heap[w.heap.size + 1 + 1]? = some (.cells rm0.arr 45 (0, 0))
  b : Below w.heap.size w wA
theorem moves_of (w : World) (r : RM) (c jt jf k : Int) (h : r.cells.length = 16) : Moves w (((w.alloc (Obj.cells r.arr 45)).alloc (Obj.cells #[.int .i64 c, .int .i64 jt, .int .i64 jf, .int .u32 k] 35)).alloc (Obj.cells #[.int .u32 0, .int .u32 0, .int .u32 0, .int .u32 0, .int .u32 0, .int .u32 0, .int .u32 0, .int .u32 0, .int .u32 0, .int .u32 0, .int .u32 0, .int .u32 0, .int .u32 0, .int .u32 0, .int .u32 0, .int .u32 0, .int .u32 0, .int .u32 0, .int .i64 0, .int .u32 0, .bool false, .bool false] 45)) r c jt jf k := by
  refine ⟨⟨?_, h⟩, ?_, ?_, alloc3 w _ _ _⟩
  · exact (heap_alloc_old _ _ (by simp; omega)).trans ((heap_alloc_old _ _ (by simp)).trans (heap_alloc_new w _))
  · refine (heap_alloc_old _ _ (by simp)).trans ?_
    have := heap_alloc_new (w.alloc (Obj.cells r.arr 45)) (Obj.cells #[.int .i64 c, .int .i64 jt, .int .i64 jf, .int .u32 k] 35)
    rwa [World.size_alloc] at this
  · have := heap_alloc_new ((w.alloc (Obj.cells r.arr 45)).alloc (Obj.cells #[.int .i64 c, .int .i64 jt, .int .i64 jf, .int .u32 k] 35)) (Obj.cells rm0.arr 45)
    rwa [World.size_alloc, World.size_alloc] at this
/-- the reference's word of a record -/
theorem wordL4 (s : ByteArray) (k : Nat) (h : k + 4 ≤ s.size) : (s.extract k (k + 4)).data.toList = cutL s k 4 := by
  rw [ba_extract_list, show k + 4 - k = 4 by omega]; rfl
set_option maxRecDepth 100000 in
theorem refWord_any (s : ByteArray) (at' : Int) (w : World) (hs : s.size = 64) : Calls Try.prog 12 #[.string s, .int .i64 at'] w fun e w' => e = .returned (wordV s at') ∧ w = w' := by
  have hsI : (s.size : Int) = 64 := by omega
  have hV : wordV s at' = if 0 ≤ at' ∧ at' ≤ 60 ∧ at' % 4 = 0 then .tuple #[.int .u32 (getL (cutL s at'.toNat 4) : Nat), .int .i64 0] else .tuple #[.int .u32 0, .int .i64 51] := by
    unfold wordV wordV4
    rw [if_pos hs]
    by_cases h : 0 ≤ at' ∧ at' ≤ 4294967295
    · rw [if_pos h]
      by_cases h2 : at' ≤ 60 ∧ at' % 4 = 0
      · rw [if_pos ((wordOk_iff _).2 (by omega)), if_pos (by omega)]
      · rw [if_neg (fun h3 => h2 (by have := (wordOk_iff _).1 h3; omega)), if_neg (by omega)]
    · rw [if_neg h, if_neg (by omega)]
  rw [hV]
  clear hV
  by_cases h0 : at' < 0
  · rw [if_neg (by omega)]
    go_enter Try.func12, Try.ntmps12
    go_wp2_with fail
    go_ret2
    exact ⟨rfl, rfl⟩
  · by_cases h60 : 60 < at'
    · rw [if_neg (by omega)]
      go_enter Try.func12, Try.ntmps12
      go_wp2_with fail
      go_ret2
      exact ⟨rfl, rfl⟩
    · obtain ⟨k, rfl⟩ := Int.eq_ofNat_of_zero_le (show 0 ≤ at' by omega)
      have hkI : (k : Int) ≤ 60 := by omega
      by_cases h4 : (k : Int) % 4 = 0
      · rw [if_pos (by omega), Int.toNat_natCast]
        have hx := wordL_le s k (by omega)
        have HC := Lib.hid (fun u => refNumber_any (s.extract k (k + 4)) u (by rw [ByteArray.size_extract]; omega))
        have hL := wordL4 s k (by omega)
        rw [hL] at HC
        generalize getL (cutL s k 4) = x at *
        have hxI : (x : Int) ≤ 4294967295 := by omega
        have h4b : ((k : Int) % 4 != 0) = false := by rw [bne_eq_false_iff_eq]; omega
        clear hx h4 hL h0 h60
        go_enter Try.func12, Try.ntmps12
        go_wp2_with fail
        refine (HC.out _).mono ?_
        rintro e w' ⟨rfl, rfl⟩
        go_wp2_with fail
        go_ret2
        exact ⟨rfl, rfl⟩
      · rw [if_neg (by omega)]
        have h4b : ((k : Int) % 4 != 0) = true := by rw [bne_iff_ne]; omega
        clear h4 h0 h60
        go_enter Try.func12, Try.ntmps12
        go_wp2_with fail
        go_ret2
        exact ⟨rfl, rfl⟩
/-- what stands ahead of its end -/
structure MovesE (w wB : World) (r : RM) : Prop where
  m : IsR wB w.heap.size r
  o : wB.heap[w.heap.size + 1 + 1]? = some (.cells rm0.arr 45 (0, 0))
  b : Below w.heap.size w wB
theorem Moves.last {w wA : World} {r : RM} {c jt jf k : Int} (h : Moves w wA r c jt jf k) : MovesE w wA r := ⟨h.m, h.o, h.b⟩
theorem MovesE.set {w wA : World} {r r' : RM} (h : MovesE w wA r) (j : Nat) (v : Value) (h2 : IsR (wA.setCell ⟨w.heap.size, j, none⟩ v) w.heap.size r') : MovesE w (wA.setCell ⟨w.heap.size, j, none⟩ v) r' :=
  ⟨h2, (Below.heap_setCell wA ⟨w.heap.size, j, none⟩ v (w.heap.size + 1 + 1) (by show w.heap.size + 1 + 1 ≠ w.heap.size; omega)).trans h.o, h.b.setCell (p := ⟨w.heap.size, j, none⟩) (Nat.le_refl _) v⟩

set_option maxRecDepth 100000 in
set_option maxHeartbeats 1000000 in
theorem ref_moves128 (r : RM) (k : Nat) (jt jf : Int) (rec : ByteArray) (w : World) (hr : r.cells.length = 16) (hk : k ≤ 4294967295) (hs : rec.size = 64) :
    Calls Try.prog 30 #[.agg r.arr, .agg #[.int .i64 128, .int .i64 jt, .int .i64 jf, .int .u32 (k : Int)], .string rec] w fun e w' => e = .returned (.agg ((moveD r.mach 128 k).runR rec r).arr) ∧ Below w.heap.size w w' := by
  have hD : (moveD r.mach 128 k).runR rec r = { r with a := 64 } := rfl
  rw [hD]
  clear hD
  have hkI : (k : Int) ≤ 4294967295 := by omega
  have hP := moves_of w r 128 jt jf k hr
  go_enter Try.func30, Try.ntmps30
  go_upto_region 1 with fail
  generalize (((w.alloc (Obj.cells r.arr 45)).alloc (Obj.cells #[.int .i64 128, .int .i64 jt, .int .i64 jf, .int .u32 (k : Int)] 35)).alloc (Obj.cells #[.int .u32 0, .int .u32 0, .int .u32 0, .int .u32 0, .int .u32 0, .int .u32 0, .int .u32 0, .int .u32 0, .int .u32 0, .int .u32 0, .int .u32 0, .int .u32 0, .int .u32 0, .int .u32 0, .int .u32 0, .int .u32 0, .int .u32 0, .int .u32 0, .int .i64 0, .int .u32 0, .bool false, .bool false] 45)) = wA at *
  have HP := Lib.hid hP
  clear hP
  have i0 := below_cell (Below.refl _ wA) HP.out.i 0 rfl
  have i3 := below_cell (Below.refl _ wA) HP.out.i 3 rfl
  obtain ⟨r0, r1, r18, r19, r20, r21⟩ := HP.out.m.facts
  have fz := block_frozen HP.out.m.blk (0)
  have hE : MovesE w (wA.setCell ⟨w.heap.size, 0, none⟩ (.int .u32 64)) { r with a := 64 } := HP.out.last.set (0) _ (HP.out.m.setA 64)
  have HE := Lib.hid hE
  clear hE
  go_upto_region 31 with fail
  generalize wA.setCell ⟨w.heap.size, 0, none⟩ (.int .u32 64) = wB at *
  clear r0 r1 r18 r19 r20 r21 i0 i3 fz
  have hsz := rarr_size { r with a := 64 } HE.out.m.len
  have hI : (Try.prog.info? 45).map (fun i => i.size) = some (RM.arr { r with a := 64 }).size := by rw [hsz]; exact infoRM
  have H1 := Lib.hid hI
  have H2 := Lib.hid (rarr_one { r with a := 64 })
  have hso : rm0.arr.size = (RM.arr { r with a := 64 }).size := by rw [hsz]; rfl
  have H3 := Lib.hid hso
  clear hsz hI hso
  generalize hRR : RM.arr { r with a := 64 } = R at *
  have HB := Lib.hid HE.out.m.blk
  rw [hRR] at HB
  have HRR := Lib.hid hRR
  clear hRR
  go_wp2_with (first | (refine wpList_load_row rfl 45 _ rfl w.heap.size rfl 45 R (0, 0) _ HB.out Try.underlying45 rfl H1.out ?_) | (refine wpList_store_row rfl 45 _ _ rfl (w.heap.size + 1 + 1) R rfl rfl 45 rm0.arr HE.out.o H1.out H3.out H2.out ?_))
  refine bodyPost_ret (v := .agg R) (results_cell_row rfl _ _ (w.heap.size + 1 + 1) 45 R (0, 0) _ rfl (setRow_heap _ _ _ _ _ _ HE.out.o) Try.underlying45 rfl H1.out) rfl ⟨by rw [← HRR.out], ?_⟩
  exact below_setRow HE.out.b (by omega) _

set_option maxRecDepth 100000 in
set_option maxHeartbeats 1000000 in
theorem ref_moves129 (r : RM) (k : Nat) (jt jf : Int) (rec : ByteArray) (w : World) (hr : r.cells.length = 16) (hk : k ≤ 4294967295) (hs : rec.size = 64) :
    Calls Try.prog 30 #[.agg r.arr, .agg #[.int .i64 129, .int .i64 jt, .int .i64 jf, .int .u32 (k : Int)], .string rec] w fun e w' => e = .returned (.agg ((moveD r.mach 129 k).runR rec r).arr) ∧ Below w.heap.size w w' := by
  have hD : (moveD r.mach 129 k).runR rec r = { r with x := 64 } := rfl
  rw [hD]
  clear hD
  have hkI : (k : Int) ≤ 4294967295 := by omega
  have hP := moves_of w r 129 jt jf k hr
  go_enter Try.func30, Try.ntmps30
  go_upto_region 1 with fail
  generalize (((w.alloc (Obj.cells r.arr 45)).alloc (Obj.cells #[.int .i64 129, .int .i64 jt, .int .i64 jf, .int .u32 (k : Int)] 35)).alloc (Obj.cells #[.int .u32 0, .int .u32 0, .int .u32 0, .int .u32 0, .int .u32 0, .int .u32 0, .int .u32 0, .int .u32 0, .int .u32 0, .int .u32 0, .int .u32 0, .int .u32 0, .int .u32 0, .int .u32 0, .int .u32 0, .int .u32 0, .int .u32 0, .int .u32 0, .int .i64 0, .int .u32 0, .bool false, .bool false] 45)) = wA at *
  have HP := Lib.hid hP
  clear hP
  have i0 := below_cell (Below.refl _ wA) HP.out.i 0 rfl
  have i3 := below_cell (Below.refl _ wA) HP.out.i 3 rfl
  obtain ⟨r0, r1, r18, r19, r20, r21⟩ := HP.out.m.facts
  have fz := block_frozen HP.out.m.blk (1)
  have hE : MovesE w (wA.setCell ⟨w.heap.size, 1, none⟩ (.int .u32 64)) { r with x := 64 } := HP.out.last.set (1) _ (HP.out.m.setX 64)
  have HE := Lib.hid hE
  clear hE
  go_upto_region 31 with fail
  generalize wA.setCell ⟨w.heap.size, 1, none⟩ (.int .u32 64) = wB at *
  clear r0 r1 r18 r19 r20 r21 i0 i3 fz
  have hsz := rarr_size { r with x := 64 } HE.out.m.len
  have hI : (Try.prog.info? 45).map (fun i => i.size) = some (RM.arr { r with x := 64 }).size := by rw [hsz]; exact infoRM
  have H1 := Lib.hid hI
  have H2 := Lib.hid (rarr_one { r with x := 64 })
  have hso : rm0.arr.size = (RM.arr { r with x := 64 }).size := by rw [hsz]; rfl
  have H3 := Lib.hid hso
  clear hsz hI hso
  generalize hRR : RM.arr { r with x := 64 } = R at *
  have HB := Lib.hid HE.out.m.blk
  rw [hRR] at HB
  have HRR := Lib.hid hRR
  clear hRR
  go_wp2_with (first | (refine wpList_load_row rfl 45 _ rfl w.heap.size rfl 45 R (0, 0) _ HB.out Try.underlying45 rfl H1.out ?_) | (refine wpList_store_row rfl 45 _ _ rfl (w.heap.size + 1 + 1) R rfl rfl 45 rm0.arr HE.out.o H1.out H3.out H2.out ?_))
  refine bodyPost_ret (v := .agg R) (results_cell_row rfl _ _ (w.heap.size + 1 + 1) 45 R (0, 0) _ rfl (setRow_heap _ _ _ _ _ _ HE.out.o) Try.underlying45 rfl H1.out) rfl ⟨by rw [← HRR.out], ?_⟩
  exact below_setRow HE.out.b (by omega) _

set_option maxRecDepth 100000 in
set_option maxHeartbeats 1000000 in
theorem ref_moves0 (r : RM) (k : Nat) (jt jf : Int) (rec : ByteArray) (w : World) (hr : r.cells.length = 16) (hk : k ≤ 4294967295) (hs : rec.size = 64) :
    Calls Try.prog 30 #[.agg r.arr, .agg #[.int .i64 0, .int .i64 jt, .int .i64 jf, .int .u32 (k : Int)], .string rec] w fun e w' => e = .returned (.agg ((moveD r.mach 0 k).runR rec r).arr) ∧ Below w.heap.size w w' := by
  have hD : (moveD r.mach 0 k).runR rec r = { r with a := k } := rfl
  rw [hD]
  clear hD
  have hkI : (k : Int) ≤ 4294967295 := by omega
  have hP := moves_of w r 0 jt jf k hr
  go_enter Try.func30, Try.ntmps30
  go_upto_region 1 with fail
  generalize (((w.alloc (Obj.cells r.arr 45)).alloc (Obj.cells #[.int .i64 0, .int .i64 jt, .int .i64 jf, .int .u32 (k : Int)] 35)).alloc (Obj.cells #[.int .u32 0, .int .u32 0, .int .u32 0, .int .u32 0, .int .u32 0, .int .u32 0, .int .u32 0, .int .u32 0, .int .u32 0, .int .u32 0, .int .u32 0, .int .u32 0, .int .u32 0, .int .u32 0, .int .u32 0, .int .u32 0, .int .u32 0, .int .u32 0, .int .i64 0, .int .u32 0, .bool false, .bool false] 45)) = wA at *
  have HP := Lib.hid hP
  clear hP
  have i0 := below_cell (Below.refl _ wA) HP.out.i 0 rfl
  have i3 := below_cell (Below.refl _ wA) HP.out.i 3 rfl
  obtain ⟨r0, r1, r18, r19, r20, r21⟩ := HP.out.m.facts
  have fz := block_frozen HP.out.m.blk (0)
  have hE : MovesE w (wA.setCell ⟨w.heap.size, 0, none⟩ (.int .u32 (k : Int))) { r with a := k } := HP.out.last.set (0) _ (HP.out.m.setA k)
  have HE := Lib.hid hE
  clear hE
  go_upto_region 31 with fail
  generalize wA.setCell ⟨w.heap.size, 0, none⟩ (.int .u32 (k : Int)) = wB at *
  clear r0 r1 r18 r19 r20 r21 i0 i3 fz
  have hsz := rarr_size { r with a := k } HE.out.m.len
  have hI : (Try.prog.info? 45).map (fun i => i.size) = some (RM.arr { r with a := k }).size := by rw [hsz]; exact infoRM
  have H1 := Lib.hid hI
  have H2 := Lib.hid (rarr_one { r with a := k })
  have hso : rm0.arr.size = (RM.arr { r with a := k }).size := by rw [hsz]; rfl
  have H3 := Lib.hid hso
  clear hsz hI hso
  generalize hRR : RM.arr { r with a := k } = R at *
  have HB := Lib.hid HE.out.m.blk
  rw [hRR] at HB
  have HRR := Lib.hid hRR
  clear hRR
  go_wp2_with (first | (refine wpList_load_row rfl 45 _ rfl w.heap.size rfl 45 R (0, 0) _ HB.out Try.underlying45 rfl H1.out ?_) | (refine wpList_store_row rfl 45 _ _ rfl (w.heap.size + 1 + 1) R rfl rfl 45 rm0.arr HE.out.o H1.out H3.out H2.out ?_))
  refine bodyPost_ret (v := .agg R) (results_cell_row rfl _ _ (w.heap.size + 1 + 1) 45 R (0, 0) _ rfl (setRow_heap _ _ _ _ _ _ HE.out.o) Try.underlying45 rfl H1.out) rfl ⟨by rw [← HRR.out], ?_⟩
  exact below_setRow HE.out.b (by omega) _

set_option maxRecDepth 100000 in
set_option maxHeartbeats 1000000 in
theorem ref_moves1 (r : RM) (k : Nat) (jt jf : Int) (rec : ByteArray) (w : World) (hr : r.cells.length = 16) (hk : k ≤ 4294967295) (hs : rec.size = 64) :
    Calls Try.prog 30 #[.agg r.arr, .agg #[.int .i64 1, .int .i64 jt, .int .i64 jf, .int .u32 (k : Int)], .string rec] w fun e w' => e = .returned (.agg ((moveD r.mach 1 k).runR rec r).arr) ∧ Below w.heap.size w w' := by
  have hD : (moveD r.mach 1 k).runR rec r = { r with x := k } := rfl
  rw [hD]
  clear hD
  have hkI : (k : Int) ≤ 4294967295 := by omega
  have hP := moves_of w r 1 jt jf k hr
  go_enter Try.func30, Try.ntmps30
  go_upto_region 1 with fail
  generalize (((w.alloc (Obj.cells r.arr 45)).alloc (Obj.cells #[.int .i64 1, .int .i64 jt, .int .i64 jf, .int .u32 (k : Int)] 35)).alloc (Obj.cells #[.int .u32 0, .int .u32 0, .int .u32 0, .int .u32 0, .int .u32 0, .int .u32 0, .int .u32 0, .int .u32 0, .int .u32 0, .int .u32 0, .int .u32 0, .int .u32 0, .int .u32 0, .int .u32 0, .int .u32 0, .int .u32 0, .int .u32 0, .int .u32 0, .int .i64 0, .int .u32 0, .bool false, .bool false] 45)) = wA at *
  have HP := Lib.hid hP
  clear hP
  have i0 := below_cell (Below.refl _ wA) HP.out.i 0 rfl
  have i3 := below_cell (Below.refl _ wA) HP.out.i 3 rfl
  obtain ⟨r0, r1, r18, r19, r20, r21⟩ := HP.out.m.facts
  have fz := block_frozen HP.out.m.blk (1)
  have hE : MovesE w (wA.setCell ⟨w.heap.size, 1, none⟩ (.int .u32 (k : Int))) { r with x := k } := HP.out.last.set (1) _ (HP.out.m.setX k)
  have HE := Lib.hid hE
  clear hE
  go_upto_region 31 with fail
  generalize wA.setCell ⟨w.heap.size, 1, none⟩ (.int .u32 (k : Int)) = wB at *
  clear r0 r1 r18 r19 r20 r21 i0 i3 fz
  have hsz := rarr_size { r with x := k } HE.out.m.len
  have hI : (Try.prog.info? 45).map (fun i => i.size) = some (RM.arr { r with x := k }).size := by rw [hsz]; exact infoRM
  have H1 := Lib.hid hI
  have H2 := Lib.hid (rarr_one { r with x := k })
  have hso : rm0.arr.size = (RM.arr { r with x := k }).size := by rw [hsz]; rfl
  have H3 := Lib.hid hso
  clear hsz hI hso
  generalize hRR : RM.arr { r with x := k } = R at *
  have HB := Lib.hid HE.out.m.blk
  rw [hRR] at HB
  have HRR := Lib.hid hRR
  clear hRR
  go_wp2_with (first | (refine wpList_load_row rfl 45 _ rfl w.heap.size rfl 45 R (0, 0) _ HB.out Try.underlying45 rfl H1.out ?_) | (refine wpList_store_row rfl 45 _ _ rfl (w.heap.size + 1 + 1) R rfl rfl 45 rm0.arr HE.out.o H1.out H3.out H2.out ?_))
  refine bodyPost_ret (v := .agg R) (results_cell_row rfl _ _ (w.heap.size + 1 + 1) 45 R (0, 0) _ rfl (setRow_heap _ _ _ _ _ _ HE.out.o) Try.underlying45 rfl H1.out) rfl ⟨by rw [← HRR.out], ?_⟩
  exact below_setRow HE.out.b (by omega) _

set_option maxRecDepth 100000 in
set_option maxHeartbeats 1000000 in
theorem ref_moves7 (r : RM) (k : Nat) (jt jf : Int) (rec : ByteArray) (w : World) (hr : r.cells.length = 16) (hk : k ≤ 4294967295) (hs : rec.size = 64) :
    Calls Try.prog 30 #[.agg r.arr, .agg #[.int .i64 7, .int .i64 jt, .int .i64 jf, .int .u32 (k : Int)], .string rec] w fun e w' => e = .returned (.agg ((moveD r.mach 7 k).runR rec r).arr) ∧ Below w.heap.size w w' := by
  have hD : (moveD r.mach 7 k).runR rec r = { r with x := r.a } := rfl
  rw [hD]
  clear hD
  have hkI : (k : Int) ≤ 4294967295 := by omega
  have hP := moves_of w r 7 jt jf k hr
  go_enter Try.func30, Try.ntmps30
  go_upto_region 1 with fail
  generalize (((w.alloc (Obj.cells r.arr 45)).alloc (Obj.cells #[.int .i64 7, .int .i64 jt, .int .i64 jf, .int .u32 (k : Int)] 35)).alloc (Obj.cells #[.int .u32 0, .int .u32 0, .int .u32 0, .int .u32 0, .int .u32 0, .int .u32 0, .int .u32 0, .int .u32 0, .int .u32 0, .int .u32 0, .int .u32 0, .int .u32 0, .int .u32 0, .int .u32 0, .int .u32 0, .int .u32 0, .int .u32 0, .int .u32 0, .int .i64 0, .int .u32 0, .bool false, .bool false] 45)) = wA at *
  have HP := Lib.hid hP
  clear hP
  have i0 := below_cell (Below.refl _ wA) HP.out.i 0 rfl
  have i3 := below_cell (Below.refl _ wA) HP.out.i 3 rfl
  obtain ⟨r0, r1, r18, r19, r20, r21⟩ := HP.out.m.facts
  have fz := block_frozen HP.out.m.blk (1)
  have hE : MovesE w (wA.setCell ⟨w.heap.size, 1, none⟩ (.int .u32 (r.a : Int))) { r with x := r.a } := HP.out.last.set (1) _ (HP.out.m.setX r.a)
  have HE := Lib.hid hE
  clear hE
  go_upto_region 31 with fail
  generalize wA.setCell ⟨w.heap.size, 1, none⟩ (.int .u32 (r.a : Int)) = wB at *
  clear r0 r1 r18 r19 r20 r21 i0 i3 fz
  have hsz := rarr_size { r with x := r.a } HE.out.m.len
  have hI : (Try.prog.info? 45).map (fun i => i.size) = some (RM.arr { r with x := r.a }).size := by rw [hsz]; exact infoRM
  have H1 := Lib.hid hI
  have H2 := Lib.hid (rarr_one { r with x := r.a })
  have hso : rm0.arr.size = (RM.arr { r with x := r.a }).size := by rw [hsz]; rfl
  have H3 := Lib.hid hso
  clear hsz hI hso
  generalize hRR : RM.arr { r with x := r.a } = R at *
  have HB := Lib.hid HE.out.m.blk
  rw [hRR] at HB
  have HRR := Lib.hid hRR
  clear hRR
  go_wp2_with (first | (refine wpList_load_row rfl 45 _ rfl w.heap.size rfl 45 R (0, 0) _ HB.out Try.underlying45 rfl H1.out ?_) | (refine wpList_store_row rfl 45 _ _ rfl (w.heap.size + 1 + 1) R rfl rfl 45 rm0.arr HE.out.o H1.out H3.out H2.out ?_))
  refine bodyPost_ret (v := .agg R) (results_cell_row rfl _ _ (w.heap.size + 1 + 1) 45 R (0, 0) _ rfl (setRow_heap _ _ _ _ _ _ HE.out.o) Try.underlying45 rfl H1.out) rfl ⟨by rw [← HRR.out], ?_⟩
  exact below_setRow HE.out.b (by omega) _

set_option maxRecDepth 100000 in
set_option maxHeartbeats 1000000 in
theorem ref_moves135 (r : RM) (k : Nat) (jt jf : Int) (rec : ByteArray) (w : World) (hr : r.cells.length = 16) (hk : k ≤ 4294967295) (hs : rec.size = 64) :
    Calls Try.prog 30 #[.agg r.arr, .agg #[.int .i64 135, .int .i64 jt, .int .i64 jf, .int .u32 (k : Int)], .string rec] w fun e w' => e = .returned (.agg ((moveD r.mach 135 k).runR rec r).arr) ∧ Below w.heap.size w w' := by
  have hD : (moveD r.mach 135 k).runR rec r = { r with a := r.x } := rfl
  rw [hD]
  clear hD
  have hkI : (k : Int) ≤ 4294967295 := by omega
  have hP := moves_of w r 135 jt jf k hr
  go_enter Try.func30, Try.ntmps30
  go_upto_region 1 with fail
  generalize (((w.alloc (Obj.cells r.arr 45)).alloc (Obj.cells #[.int .i64 135, .int .i64 jt, .int .i64 jf, .int .u32 (k : Int)] 35)).alloc (Obj.cells #[.int .u32 0, .int .u32 0, .int .u32 0, .int .u32 0, .int .u32 0, .int .u32 0, .int .u32 0, .int .u32 0, .int .u32 0, .int .u32 0, .int .u32 0, .int .u32 0, .int .u32 0, .int .u32 0, .int .u32 0, .int .u32 0, .int .u32 0, .int .u32 0, .int .i64 0, .int .u32 0, .bool false, .bool false] 45)) = wA at *
  have HP := Lib.hid hP
  clear hP
  have i0 := below_cell (Below.refl _ wA) HP.out.i 0 rfl
  have i3 := below_cell (Below.refl _ wA) HP.out.i 3 rfl
  obtain ⟨r0, r1, r18, r19, r20, r21⟩ := HP.out.m.facts
  have fz := block_frozen HP.out.m.blk (0)
  have hE : MovesE w (wA.setCell ⟨w.heap.size, 0, none⟩ (.int .u32 (r.x : Int))) { r with a := r.x } := HP.out.last.set (0) _ (HP.out.m.setA r.x)
  have HE := Lib.hid hE
  clear hE
  go_upto_region 31 with fail
  generalize wA.setCell ⟨w.heap.size, 0, none⟩ (.int .u32 (r.x : Int)) = wB at *
  clear r0 r1 r18 r19 r20 r21 i0 i3 fz
  have hsz := rarr_size { r with a := r.x } HE.out.m.len
  have hI : (Try.prog.info? 45).map (fun i => i.size) = some (RM.arr { r with a := r.x }).size := by rw [hsz]; exact infoRM
  have H1 := Lib.hid hI
  have H2 := Lib.hid (rarr_one { r with a := r.x })
  have hso : rm0.arr.size = (RM.arr { r with a := r.x }).size := by rw [hsz]; rfl
  have H3 := Lib.hid hso
  clear hsz hI hso
  generalize hRR : RM.arr { r with a := r.x } = R at *
  have HB := Lib.hid HE.out.m.blk
  rw [hRR] at HB
  have HRR := Lib.hid hRR
  clear hRR
  go_wp2_with (first | (refine wpList_load_row rfl 45 _ rfl w.heap.size rfl 45 R (0, 0) _ HB.out Try.underlying45 rfl H1.out ?_) | (refine wpList_store_row rfl 45 _ _ rfl (w.heap.size + 1 + 1) R rfl rfl 45 rm0.arr HE.out.o H1.out H3.out H2.out ?_))
  refine bodyPost_ret (v := .agg R) (results_cell_row rfl _ _ (w.heap.size + 1 + 1) 45 R (0, 0) _ rfl (setRow_heap _ _ _ _ _ _ HE.out.o) Try.underlying45 rfl H1.out) rfl ⟨by rw [← HRR.out], ?_⟩
  exact below_setRow HE.out.b (by omega) _

set_option maxRecDepth 100000 in
set_option maxHeartbeats 1000000 in
theorem ref_moves96i (r : RM) (k : Nat) (jt jf : Int) (rec : ByteArray) (w : World) (hr : r.cells.length = 16) (hk : k ≤ 4294967295) (hs : rec.size = 64) (hlt : k < 16) (q : Nat) (hq : r.cells.getD k 0 = q) :
    Calls Try.prog 30 #[.agg r.arr, .agg #[.int .i64 96, .int .i64 jt, .int .i64 jf, .int .u32 (k : Int)], .string rec] w fun e w' => e = .returned (.agg ((moveD r.mach 96 k).runR rec r).arr) ∧ Below w.heap.size w w' := by
  have hD : (moveD r.mach 96 k).runR rec r = { r with a := q } := (by rw [← hq]; exact if_pos hlt)
  rw [hD]
  clear hD
  have hkI : (k : Int) ≤ 4294967295 := by omega
  have h15 : (k : Int) ≤ 15 := by omega
  have hP := moves_of w r 96 jt jf k hr
  go_enter Try.func30, Try.ntmps30
  go_upto_region 1 with fail
  generalize (((w.alloc (Obj.cells r.arr 45)).alloc (Obj.cells #[.int .i64 96, .int .i64 jt, .int .i64 jf, .int .u32 (k : Int)] 35)).alloc (Obj.cells #[.int .u32 0, .int .u32 0, .int .u32 0, .int .u32 0, .int .u32 0, .int .u32 0, .int .u32 0, .int .u32 0, .int .u32 0, .int .u32 0, .int .u32 0, .int .u32 0, .int .u32 0, .int .u32 0, .int .u32 0, .int .u32 0, .int .u32 0, .int .u32 0, .int .i64 0, .int .u32 0, .bool false, .bool false] 45)) = wA at *
  have HP := Lib.hid hP
  clear hP
  have i0 := below_cell (Below.refl _ wA) HP.out.i 0 rfl
  have i3 := below_cell (Below.refl _ wA) HP.out.i 3 rfl
  obtain ⟨r0, r1, r18, r19, r20, r21⟩ := HP.out.m.facts
  have rk := HP.out.m.cell k hlt
  rw [hq] at rk
  clear hq
  have fz := block_frozen HP.out.m.blk (0)
  have hE : MovesE w (wA.setCell ⟨w.heap.size, 0, none⟩ (.int .u32 (q : Int))) { r with a := q } := HP.out.last.set (0) _ (HP.out.m.setA q)
  have HE := Lib.hid hE
  clear hE
  go_upto_region 31 with fail
  generalize wA.setCell ⟨w.heap.size, 0, none⟩ (.int .u32 (q : Int)) = wB at *
  clear r0 r1 r18 r19 r20 r21 i0 i3 fz
  have hsz := rarr_size { r with a := q } HE.out.m.len
  have hI : (Try.prog.info? 45).map (fun i => i.size) = some (RM.arr { r with a := q }).size := by rw [hsz]; exact infoRM
  have H1 := Lib.hid hI
  have H2 := Lib.hid (rarr_one { r with a := q })
  have hso : rm0.arr.size = (RM.arr { r with a := q }).size := by rw [hsz]; rfl
  have H3 := Lib.hid hso
  clear hsz hI hso
  generalize hRR : RM.arr { r with a := q } = R at *
  have HB := Lib.hid HE.out.m.blk
  rw [hRR] at HB
  have HRR := Lib.hid hRR
  clear hRR
  go_wp2_with (first | (refine wpList_load_row rfl 45 _ rfl w.heap.size rfl 45 R (0, 0) _ HB.out Try.underlying45 rfl H1.out ?_) | (refine wpList_store_row rfl 45 _ _ rfl (w.heap.size + 1 + 1) R rfl rfl 45 rm0.arr HE.out.o H1.out H3.out H2.out ?_))
  refine bodyPost_ret (v := .agg R) (results_cell_row rfl _ _ (w.heap.size + 1 + 1) 45 R (0, 0) _ rfl (setRow_heap _ _ _ _ _ _ HE.out.o) Try.underlying45 rfl H1.out) rfl ⟨by rw [← HRR.out], ?_⟩
  exact below_setRow HE.out.b (by omega) _

set_option maxRecDepth 100000 in
set_option maxHeartbeats 1000000 in
theorem ref_moves96o (r : RM) (k : Nat) (jt jf : Int) (rec : ByteArray) (w : World) (hr : r.cells.length = 16) (hk : k ≤ 4294967295) (hs : rec.size = 64) (hlt : ¬ k < 16) :
    Calls Try.prog 30 #[.agg r.arr, .agg #[.int .i64 96, .int .i64 jt, .int .i64 jf, .int .u32 (k : Int)], .string rec] w fun e w' => e = .returned (.agg ((moveD r.mach 96 k).runR rec r).arr) ∧ Below w.heap.size w w' := by
  have hD : (moveD r.mach 96 k).runR rec r = { r with wrong := true } := if_neg hlt
  rw [hD]
  clear hD
  have hkI : (k : Int) ≤ 4294967295 := by omega
  have h15 : (15 : Int) < k := by omega
  have hP := moves_of w r 96 jt jf k hr
  go_enter Try.func30, Try.ntmps30
  go_upto_region 1 with fail
  generalize (((w.alloc (Obj.cells r.arr 45)).alloc (Obj.cells #[.int .i64 96, .int .i64 jt, .int .i64 jf, .int .u32 (k : Int)] 35)).alloc (Obj.cells #[.int .u32 0, .int .u32 0, .int .u32 0, .int .u32 0, .int .u32 0, .int .u32 0, .int .u32 0, .int .u32 0, .int .u32 0, .int .u32 0, .int .u32 0, .int .u32 0, .int .u32 0, .int .u32 0, .int .u32 0, .int .u32 0, .int .u32 0, .int .u32 0, .int .i64 0, .int .u32 0, .bool false, .bool false] 45)) = wA at *
  have HP := Lib.hid hP
  clear hP
  have i0 := below_cell (Below.refl _ wA) HP.out.i 0 rfl
  have i3 := below_cell (Below.refl _ wA) HP.out.i 3 rfl
  obtain ⟨r0, r1, r18, r19, r20, r21⟩ := HP.out.m.facts
  have fz := block_frozen HP.out.m.blk (21)
  have hE : MovesE w (wA.setCell ⟨w.heap.size, 21, none⟩ (.bool true)) { r with wrong := true } := HP.out.last.set (21) _ (HP.out.m.setWrong true)
  have HE := Lib.hid hE
  clear hE
  go_upto_region 5 with fail
  generalize wA.setCell ⟨w.heap.size, 21, none⟩ (.bool true) = wB at *
  clear r0 r1 r18 r19 r20 r21 i0 i3 fz
  have hsz := rarr_size { r with wrong := true } HE.out.m.len
  have hI : (Try.prog.info? 45).map (fun i => i.size) = some (RM.arr { r with wrong := true }).size := by rw [hsz]; exact infoRM
  have H1 := Lib.hid hI
  have H2 := Lib.hid (rarr_one { r with wrong := true })
  have hso : rm0.arr.size = (RM.arr { r with wrong := true }).size := by rw [hsz]; rfl
  have H3 := Lib.hid hso
  clear hsz hI hso
  generalize hRR : RM.arr { r with wrong := true } = R at *
  have HB := Lib.hid HE.out.m.blk
  rw [hRR] at HB
  have HRR := Lib.hid hRR
  clear hRR
  go_wp2_with (first | (refine wpList_load_row rfl 45 _ rfl w.heap.size rfl 45 R (0, 0) _ HB.out Try.underlying45 rfl H1.out ?_) | (refine wpList_store_row rfl 45 _ _ rfl (w.heap.size + 1 + 1) R rfl rfl 45 rm0.arr HE.out.o H1.out H3.out H2.out ?_))
  refine bodyPost_ret (v := .agg R) (results_cell_row rfl _ _ (w.heap.size + 1 + 1) 45 R (0, 0) _ rfl (setRow_heap _ _ _ _ _ _ HE.out.o) Try.underlying45 rfl H1.out) rfl ⟨by rw [← HRR.out], ?_⟩
  exact below_setRow HE.out.b (by omega) _

set_option maxRecDepth 100000 in
set_option maxHeartbeats 1000000 in
theorem ref_moves97i (r : RM) (k : Nat) (jt jf : Int) (rec : ByteArray) (w : World) (hr : r.cells.length = 16) (hk : k ≤ 4294967295) (hs : rec.size = 64) (hlt : k < 16) (q : Nat) (hq : r.cells.getD k 0 = q) :
    Calls Try.prog 30 #[.agg r.arr, .agg #[.int .i64 97, .int .i64 jt, .int .i64 jf, .int .u32 (k : Int)], .string rec] w fun e w' => e = .returned (.agg ((moveD r.mach 97 k).runR rec r).arr) ∧ Below w.heap.size w w' := by
  have hD : (moveD r.mach 97 k).runR rec r = { r with x := q } := (by rw [← hq]; exact if_pos hlt)
  rw [hD]
  clear hD
  have hkI : (k : Int) ≤ 4294967295 := by omega
  have h15 : (k : Int) ≤ 15 := by omega
  have hP := moves_of w r 97 jt jf k hr
  go_enter Try.func30, Try.ntmps30
  go_upto_region 1 with fail
  generalize (((w.alloc (Obj.cells r.arr 45)).alloc (Obj.cells #[.int .i64 97, .int .i64 jt, .int .i64 jf, .int .u32 (k : Int)] 35)).alloc (Obj.cells #[.int .u32 0, .int .u32 0, .int .u32 0, .int .u32 0, .int .u32 0, .int .u32 0, .int .u32 0, .int .u32 0, .int .u32 0, .int .u32 0, .int .u32 0, .int .u32 0, .int .u32 0, .int .u32 0, .int .u32 0, .int .u32 0, .int .u32 0, .int .u32 0, .int .i64 0, .int .u32 0, .bool false, .bool false] 45)) = wA at *
  have HP := Lib.hid hP
  clear hP
  have i0 := below_cell (Below.refl _ wA) HP.out.i 0 rfl
  have i3 := below_cell (Below.refl _ wA) HP.out.i 3 rfl
  obtain ⟨r0, r1, r18, r19, r20, r21⟩ := HP.out.m.facts
  have rk := HP.out.m.cell k hlt
  rw [hq] at rk
  clear hq
  have fz := block_frozen HP.out.m.blk (1)
  have hE : MovesE w (wA.setCell ⟨w.heap.size, 1, none⟩ (.int .u32 (q : Int))) { r with x := q } := HP.out.last.set (1) _ (HP.out.m.setX q)
  have HE := Lib.hid hE
  clear hE
  go_upto_region 31 with fail
  generalize wA.setCell ⟨w.heap.size, 1, none⟩ (.int .u32 (q : Int)) = wB at *
  clear r0 r1 r18 r19 r20 r21 i0 i3 fz
  have hsz := rarr_size { r with x := q } HE.out.m.len
  have hI : (Try.prog.info? 45).map (fun i => i.size) = some (RM.arr { r with x := q }).size := by rw [hsz]; exact infoRM
  have H1 := Lib.hid hI
  have H2 := Lib.hid (rarr_one { r with x := q })
  have hso : rm0.arr.size = (RM.arr { r with x := q }).size := by rw [hsz]; rfl
  have H3 := Lib.hid hso
  clear hsz hI hso
  generalize hRR : RM.arr { r with x := q } = R at *
  have HB := Lib.hid HE.out.m.blk
  rw [hRR] at HB
  have HRR := Lib.hid hRR
  clear hRR
  go_wp2_with (first | (refine wpList_load_row rfl 45 _ rfl w.heap.size rfl 45 R (0, 0) _ HB.out Try.underlying45 rfl H1.out ?_) | (refine wpList_store_row rfl 45 _ _ rfl (w.heap.size + 1 + 1) R rfl rfl 45 rm0.arr HE.out.o H1.out H3.out H2.out ?_))
  refine bodyPost_ret (v := .agg R) (results_cell_row rfl _ _ (w.heap.size + 1 + 1) 45 R (0, 0) _ rfl (setRow_heap _ _ _ _ _ _ HE.out.o) Try.underlying45 rfl H1.out) rfl ⟨by rw [← HRR.out], ?_⟩
  exact below_setRow HE.out.b (by omega) _

set_option maxRecDepth 100000 in
set_option maxHeartbeats 1000000 in
theorem ref_moves97o (r : RM) (k : Nat) (jt jf : Int) (rec : ByteArray) (w : World) (hr : r.cells.length = 16) (hk : k ≤ 4294967295) (hs : rec.size = 64) (hlt : ¬ k < 16) :
    Calls Try.prog 30 #[.agg r.arr, .agg #[.int .i64 97, .int .i64 jt, .int .i64 jf, .int .u32 (k : Int)], .string rec] w fun e w' => e = .returned (.agg ((moveD r.mach 97 k).runR rec r).arr) ∧ Below w.heap.size w w' := by
  have hD : (moveD r.mach 97 k).runR rec r = { r with wrong := true } := if_neg hlt
  rw [hD]
  clear hD
  have hkI : (k : Int) ≤ 4294967295 := by omega
  have h15 : (15 : Int) < k := by omega
  have hP := moves_of w r 97 jt jf k hr
  go_enter Try.func30, Try.ntmps30
  go_upto_region 1 with fail
  generalize (((w.alloc (Obj.cells r.arr 45)).alloc (Obj.cells #[.int .i64 97, .int .i64 jt, .int .i64 jf, .int .u32 (k : Int)] 35)).alloc (Obj.cells #[.int .u32 0, .int .u32 0, .int .u32 0, .int .u32 0, .int .u32 0, .int .u32 0, .int .u32 0, .int .u32 0, .int .u32 0, .int .u32 0, .int .u32 0, .int .u32 0, .int .u32 0, .int .u32 0, .int .u32 0, .int .u32 0, .int .u32 0, .int .u32 0, .int .i64 0, .int .u32 0, .bool false, .bool false] 45)) = wA at *
  have HP := Lib.hid hP
  clear hP
  have i0 := below_cell (Below.refl _ wA) HP.out.i 0 rfl
  have i3 := below_cell (Below.refl _ wA) HP.out.i 3 rfl
  obtain ⟨r0, r1, r18, r19, r20, r21⟩ := HP.out.m.facts
  have fz := block_frozen HP.out.m.blk (21)
  have hE : MovesE w (wA.setCell ⟨w.heap.size, 21, none⟩ (.bool true)) { r with wrong := true } := HP.out.last.set (21) _ (HP.out.m.setWrong true)
  have HE := Lib.hid hE
  clear hE
  go_upto_region 5 with fail
  generalize wA.setCell ⟨w.heap.size, 21, none⟩ (.bool true) = wB at *
  clear r0 r1 r18 r19 r20 r21 i0 i3 fz
  have hsz := rarr_size { r with wrong := true } HE.out.m.len
  have hI : (Try.prog.info? 45).map (fun i => i.size) = some (RM.arr { r with wrong := true }).size := by rw [hsz]; exact infoRM
  have H1 := Lib.hid hI
  have H2 := Lib.hid (rarr_one { r with wrong := true })
  have hso : rm0.arr.size = (RM.arr { r with wrong := true }).size := by rw [hsz]; rfl
  have H3 := Lib.hid hso
  clear hsz hI hso
  generalize hRR : RM.arr { r with wrong := true } = R at *
  have HB := Lib.hid HE.out.m.blk
  rw [hRR] at HB
  have HRR := Lib.hid hRR
  clear hRR
  go_wp2_with (first | (refine wpList_load_row rfl 45 _ rfl w.heap.size rfl 45 R (0, 0) _ HB.out Try.underlying45 rfl H1.out ?_) | (refine wpList_store_row rfl 45 _ _ rfl (w.heap.size + 1 + 1) R rfl rfl 45 rm0.arr HE.out.o H1.out H3.out H2.out ?_))
  refine bodyPost_ret (v := .agg R) (results_cell_row rfl _ _ (w.heap.size + 1 + 1) 45 R (0, 0) _ rfl (setRow_heap _ _ _ _ _ _ HE.out.o) Try.underlying45 rfl H1.out) rfl ⟨by rw [← HRR.out], ?_⟩
  exact below_setRow HE.out.b (by omega) _

set_option maxRecDepth 100000 in
set_option maxHeartbeats 1000000 in
theorem ref_moves2i (r : RM) (k : Nat) (jt jf : Int) (rec : ByteArray) (w : World) (hr : r.cells.length = 16) (hk : k ≤ 4294967295) (hs : rec.size = 64) (hlt : k < 16) :
    Calls Try.prog 30 #[.agg r.arr, .agg #[.int .i64 2, .int .i64 jt, .int .i64 jf, .int .u32 (k : Int)], .string rec] w fun e w' => e = .returned (.agg ((moveD r.mach 2 k).runR rec r).arr) ∧ Below w.heap.size w w' := by
  have hD : (moveD r.mach 2 k).runR rec r = { r with cells := r.cells.set k r.a } := if_pos hlt
  rw [hD]
  clear hD
  have hkI : (k : Int) ≤ 4294967295 := by omega
  have h15 : (k : Int) ≤ 15 := by omega
  have hP := moves_of w r 2 jt jf k hr
  go_enter Try.func30, Try.ntmps30
  go_upto_region 1 with fail
  generalize (((w.alloc (Obj.cells r.arr 45)).alloc (Obj.cells #[.int .i64 2, .int .i64 jt, .int .i64 jf, .int .u32 (k : Int)] 35)).alloc (Obj.cells #[.int .u32 0, .int .u32 0, .int .u32 0, .int .u32 0, .int .u32 0, .int .u32 0, .int .u32 0, .int .u32 0, .int .u32 0, .int .u32 0, .int .u32 0, .int .u32 0, .int .u32 0, .int .u32 0, .int .u32 0, .int .u32 0, .int .u32 0, .int .u32 0, .int .i64 0, .int .u32 0, .bool false, .bool false] 45)) = wA at *
  have HP := Lib.hid hP
  clear hP
  have i0 := below_cell (Below.refl _ wA) HP.out.i 0 rfl
  have i3 := below_cell (Below.refl _ wA) HP.out.i 3 rfl
  obtain ⟨r0, r1, r18, r19, r20, r21⟩ := HP.out.m.facts
  obtain ⟨q, hq⟩ : ∃ q, r.cells.getD k 0 = q := ⟨_, rfl⟩
  have rk := HP.out.m.cell k hlt
  rw [hq] at rk
  clear hq
  have fz := block_frozen HP.out.m.blk (2 + k)
  have hE : MovesE w (wA.setCell ⟨w.heap.size, 2 + k, none⟩ (.int .u32 (r.a : Int))) { r with cells := r.cells.set k r.a } := HP.out.last.set (2 + k) _ (HP.out.m.setCellK k hlt r.a)
  have HE := Lib.hid hE
  clear hE
  go_upto_region 31 with fail
  generalize wA.setCell ⟨w.heap.size, 2 + k, none⟩ (.int .u32 (r.a : Int)) = wB at *
  clear r0 r1 r18 r19 r20 r21 i0 i3 fz
  have hsz := rarr_size { r with cells := r.cells.set k r.a } HE.out.m.len
  have hI : (Try.prog.info? 45).map (fun i => i.size) = some (RM.arr { r with cells := r.cells.set k r.a }).size := by rw [hsz]; exact infoRM
  have H1 := Lib.hid hI
  have H2 := Lib.hid (rarr_one { r with cells := r.cells.set k r.a })
  have hso : rm0.arr.size = (RM.arr { r with cells := r.cells.set k r.a }).size := by rw [hsz]; rfl
  have H3 := Lib.hid hso
  clear hsz hI hso
  generalize hRR : RM.arr { r with cells := r.cells.set k r.a } = R at *
  have HB := Lib.hid HE.out.m.blk
  rw [hRR] at HB
  have HRR := Lib.hid hRR
  clear hRR
  go_wp2_with (first | (refine wpList_load_row rfl 45 _ rfl w.heap.size rfl 45 R (0, 0) _ HB.out Try.underlying45 rfl H1.out ?_) | (refine wpList_store_row rfl 45 _ _ rfl (w.heap.size + 1 + 1) R rfl rfl 45 rm0.arr HE.out.o H1.out H3.out H2.out ?_))
  refine bodyPost_ret (v := .agg R) (results_cell_row rfl _ _ (w.heap.size + 1 + 1) 45 R (0, 0) _ rfl (setRow_heap _ _ _ _ _ _ HE.out.o) Try.underlying45 rfl H1.out) rfl ⟨by rw [← HRR.out], ?_⟩
  exact below_setRow HE.out.b (by omega) _

set_option maxRecDepth 100000 in
set_option maxHeartbeats 1000000 in
theorem ref_moves2o (r : RM) (k : Nat) (jt jf : Int) (rec : ByteArray) (w : World) (hr : r.cells.length = 16) (hk : k ≤ 4294967295) (hs : rec.size = 64) (hlt : ¬ k < 16) :
    Calls Try.prog 30 #[.agg r.arr, .agg #[.int .i64 2, .int .i64 jt, .int .i64 jf, .int .u32 (k : Int)], .string rec] w fun e w' => e = .returned (.agg ((moveD r.mach 2 k).runR rec r).arr) ∧ Below w.heap.size w w' := by
  have hD : (moveD r.mach 2 k).runR rec r = { r with wrong := true } := if_neg hlt
  rw [hD]
  clear hD
  have hkI : (k : Int) ≤ 4294967295 := by omega
  have h15 : (15 : Int) < k := by omega
  have hP := moves_of w r 2 jt jf k hr
  go_enter Try.func30, Try.ntmps30
  go_upto_region 1 with fail
  generalize (((w.alloc (Obj.cells r.arr 45)).alloc (Obj.cells #[.int .i64 2, .int .i64 jt, .int .i64 jf, .int .u32 (k : Int)] 35)).alloc (Obj.cells #[.int .u32 0, .int .u32 0, .int .u32 0, .int .u32 0, .int .u32 0, .int .u32 0, .int .u32 0, .int .u32 0, .int .u32 0, .int .u32 0, .int .u32 0, .int .u32 0, .int .u32 0, .int .u32 0, .int .u32 0, .int .u32 0, .int .u32 0, .int .u32 0, .int .i64 0, .int .u32 0, .bool false, .bool false] 45)) = wA at *
  have HP := Lib.hid hP
  clear hP
  have i0 := below_cell (Below.refl _ wA) HP.out.i 0 rfl
  have i3 := below_cell (Below.refl _ wA) HP.out.i 3 rfl
  obtain ⟨r0, r1, r18, r19, r20, r21⟩ := HP.out.m.facts
  have fz := block_frozen HP.out.m.blk (21)
  have hE : MovesE w (wA.setCell ⟨w.heap.size, 21, none⟩ (.bool true)) { r with wrong := true } := HP.out.last.set (21) _ (HP.out.m.setWrong true)
  have HE := Lib.hid hE
  clear hE
  go_upto_region 5 with fail
  generalize wA.setCell ⟨w.heap.size, 21, none⟩ (.bool true) = wB at *
  clear r0 r1 r18 r19 r20 r21 i0 i3 fz
  have hsz := rarr_size { r with wrong := true } HE.out.m.len
  have hI : (Try.prog.info? 45).map (fun i => i.size) = some (RM.arr { r with wrong := true }).size := by rw [hsz]; exact infoRM
  have H1 := Lib.hid hI
  have H2 := Lib.hid (rarr_one { r with wrong := true })
  have hso : rm0.arr.size = (RM.arr { r with wrong := true }).size := by rw [hsz]; rfl
  have H3 := Lib.hid hso
  clear hsz hI hso
  generalize hRR : RM.arr { r with wrong := true } = R at *
  have HB := Lib.hid HE.out.m.blk
  rw [hRR] at HB
  have HRR := Lib.hid hRR
  clear hRR
  go_wp2_with (first | (refine wpList_load_row rfl 45 _ rfl w.heap.size rfl 45 R (0, 0) _ HB.out Try.underlying45 rfl H1.out ?_) | (refine wpList_store_row rfl 45 _ _ rfl (w.heap.size + 1 + 1) R rfl rfl 45 rm0.arr HE.out.o H1.out H3.out H2.out ?_))
  refine bodyPost_ret (v := .agg R) (results_cell_row rfl _ _ (w.heap.size + 1 + 1) 45 R (0, 0) _ rfl (setRow_heap _ _ _ _ _ _ HE.out.o) Try.underlying45 rfl H1.out) rfl ⟨by rw [← HRR.out], ?_⟩
  exact below_setRow HE.out.b (by omega) _

set_option maxRecDepth 100000 in
set_option maxHeartbeats 1000000 in
theorem ref_moves3i (r : RM) (k : Nat) (jt jf : Int) (rec : ByteArray) (w : World) (hr : r.cells.length = 16) (hk : k ≤ 4294967295) (hs : rec.size = 64) (hlt : k < 16) :
    Calls Try.prog 30 #[.agg r.arr, .agg #[.int .i64 3, .int .i64 jt, .int .i64 jf, .int .u32 (k : Int)], .string rec] w fun e w' => e = .returned (.agg ((moveD r.mach 3 k).runR rec r).arr) ∧ Below w.heap.size w w' := by
  have hD : (moveD r.mach 3 k).runR rec r = { r with cells := r.cells.set k r.x } := if_pos hlt
  rw [hD]
  clear hD
  have hkI : (k : Int) ≤ 4294967295 := by omega
  have h15 : (k : Int) ≤ 15 := by omega
  have hP := moves_of w r 3 jt jf k hr
  go_enter Try.func30, Try.ntmps30
  go_upto_region 1 with fail
  generalize (((w.alloc (Obj.cells r.arr 45)).alloc (Obj.cells #[.int .i64 3, .int .i64 jt, .int .i64 jf, .int .u32 (k : Int)] 35)).alloc (Obj.cells #[.int .u32 0, .int .u32 0, .int .u32 0, .int .u32 0, .int .u32 0, .int .u32 0, .int .u32 0, .int .u32 0, .int .u32 0, .int .u32 0, .int .u32 0, .int .u32 0, .int .u32 0, .int .u32 0, .int .u32 0, .int .u32 0, .int .u32 0, .int .u32 0, .int .i64 0, .int .u32 0, .bool false, .bool false] 45)) = wA at *
  have HP := Lib.hid hP
  clear hP
  have i0 := below_cell (Below.refl _ wA) HP.out.i 0 rfl
  have i3 := below_cell (Below.refl _ wA) HP.out.i 3 rfl
  obtain ⟨r0, r1, r18, r19, r20, r21⟩ := HP.out.m.facts
  obtain ⟨q, hq⟩ : ∃ q, r.cells.getD k 0 = q := ⟨_, rfl⟩
  have rk := HP.out.m.cell k hlt
  rw [hq] at rk
  clear hq
  have fz := block_frozen HP.out.m.blk (2 + k)
  have hE : MovesE w (wA.setCell ⟨w.heap.size, 2 + k, none⟩ (.int .u32 (r.x : Int))) { r with cells := r.cells.set k r.x } := HP.out.last.set (2 + k) _ (HP.out.m.setCellK k hlt r.x)
  have HE := Lib.hid hE
  clear hE
  go_upto_region 31 with fail
  generalize wA.setCell ⟨w.heap.size, 2 + k, none⟩ (.int .u32 (r.x : Int)) = wB at *
  clear r0 r1 r18 r19 r20 r21 i0 i3 fz
  have hsz := rarr_size { r with cells := r.cells.set k r.x } HE.out.m.len
  have hI : (Try.prog.info? 45).map (fun i => i.size) = some (RM.arr { r with cells := r.cells.set k r.x }).size := by rw [hsz]; exact infoRM
  have H1 := Lib.hid hI
  have H2 := Lib.hid (rarr_one { r with cells := r.cells.set k r.x })
  have hso : rm0.arr.size = (RM.arr { r with cells := r.cells.set k r.x }).size := by rw [hsz]; rfl
  have H3 := Lib.hid hso
  clear hsz hI hso
  generalize hRR : RM.arr { r with cells := r.cells.set k r.x } = R at *
  have HB := Lib.hid HE.out.m.blk
  rw [hRR] at HB
  have HRR := Lib.hid hRR
  clear hRR
  go_wp2_with (first | (refine wpList_load_row rfl 45 _ rfl w.heap.size rfl 45 R (0, 0) _ HB.out Try.underlying45 rfl H1.out ?_) | (refine wpList_store_row rfl 45 _ _ rfl (w.heap.size + 1 + 1) R rfl rfl 45 rm0.arr HE.out.o H1.out H3.out H2.out ?_))
  refine bodyPost_ret (v := .agg R) (results_cell_row rfl _ _ (w.heap.size + 1 + 1) 45 R (0, 0) _ rfl (setRow_heap _ _ _ _ _ _ HE.out.o) Try.underlying45 rfl H1.out) rfl ⟨by rw [← HRR.out], ?_⟩
  exact below_setRow HE.out.b (by omega) _

set_option maxRecDepth 100000 in
set_option maxHeartbeats 1000000 in
theorem ref_moves3o (r : RM) (k : Nat) (jt jf : Int) (rec : ByteArray) (w : World) (hr : r.cells.length = 16) (hk : k ≤ 4294967295) (hs : rec.size = 64) (hlt : ¬ k < 16) :
    Calls Try.prog 30 #[.agg r.arr, .agg #[.int .i64 3, .int .i64 jt, .int .i64 jf, .int .u32 (k : Int)], .string rec] w fun e w' => e = .returned (.agg ((moveD r.mach 3 k).runR rec r).arr) ∧ Below w.heap.size w w' := by
  have hD : (moveD r.mach 3 k).runR rec r = { r with wrong := true } := if_neg hlt
  rw [hD]
  clear hD
  have hkI : (k : Int) ≤ 4294967295 := by omega
  have h15 : (15 : Int) < k := by omega
  have hP := moves_of w r 3 jt jf k hr
  go_enter Try.func30, Try.ntmps30
  go_upto_region 1 with fail
  generalize (((w.alloc (Obj.cells r.arr 45)).alloc (Obj.cells #[.int .i64 3, .int .i64 jt, .int .i64 jf, .int .u32 (k : Int)] 35)).alloc (Obj.cells #[.int .u32 0, .int .u32 0, .int .u32 0, .int .u32 0, .int .u32 0, .int .u32 0, .int .u32 0, .int .u32 0, .int .u32 0, .int .u32 0, .int .u32 0, .int .u32 0, .int .u32 0, .int .u32 0, .int .u32 0, .int .u32 0, .int .u32 0, .int .u32 0, .int .i64 0, .int .u32 0, .bool false, .bool false] 45)) = wA at *
  have HP := Lib.hid hP
  clear hP
  have i0 := below_cell (Below.refl _ wA) HP.out.i 0 rfl
  have i3 := below_cell (Below.refl _ wA) HP.out.i 3 rfl
  obtain ⟨r0, r1, r18, r19, r20, r21⟩ := HP.out.m.facts
  have fz := block_frozen HP.out.m.blk (21)
  have hE : MovesE w (wA.setCell ⟨w.heap.size, 21, none⟩ (.bool true)) { r with wrong := true } := HP.out.last.set (21) _ (HP.out.m.setWrong true)
  have HE := Lib.hid hE
  clear hE
  go_upto_region 5 with fail
  generalize wA.setCell ⟨w.heap.size, 21, none⟩ (.bool true) = wB at *
  clear r0 r1 r18 r19 r20 r21 i0 i3 fz
  have hsz := rarr_size { r with wrong := true } HE.out.m.len
  have hI : (Try.prog.info? 45).map (fun i => i.size) = some (RM.arr { r with wrong := true }).size := by rw [hsz]; exact infoRM
  have H1 := Lib.hid hI
  have H2 := Lib.hid (rarr_one { r with wrong := true })
  have hso : rm0.arr.size = (RM.arr { r with wrong := true }).size := by rw [hsz]; rfl
  have H3 := Lib.hid hso
  clear hsz hI hso
  generalize hRR : RM.arr { r with wrong := true } = R at *
  have HB := Lib.hid HE.out.m.blk
  rw [hRR] at HB
  have HRR := Lib.hid hRR
  clear hRR
  go_wp2_with (first | (refine wpList_load_row rfl 45 _ rfl w.heap.size rfl 45 R (0, 0) _ HB.out Try.underlying45 rfl H1.out ?_) | (refine wpList_store_row rfl 45 _ _ rfl (w.heap.size + 1 + 1) R rfl rfl 45 rm0.arr HE.out.o H1.out H3.out H2.out ?_))
  refine bodyPost_ret (v := .agg R) (results_cell_row rfl _ _ (w.heap.size + 1 + 1) 45 R (0, 0) _ rfl (setRow_heap _ _ _ _ _ _ HE.out.o) Try.underlying45 rfl H1.out) rfl ⟨by rw [← HRR.out], ?_⟩
  exact below_setRow HE.out.b (by omega) _

set_option maxRecDepth 100000 in
set_option maxHeartbeats 1000000 in
theorem ref_moves32i (r : RM) (k : Nat) (jt jf : Int) (rec : ByteArray) (w : World) (hr : r.cells.length = 16) (hk : k ≤ 4294967295) (hs : rec.size = 64) (hok : wordOk k = true) (q : Nat) (hq : getL (cutL rec k 4) = q) :
    Calls Try.prog 30 #[.agg r.arr, .agg #[.int .i64 32, .int .i64 jt, .int .i64 jf, .int .u32 (k : Int)], .string rec] w fun e w' => e = .returned (.agg ((moveD r.mach 32 k).runR rec r).arr) ∧ Below w.heap.size w w' := by
  have hD : (moveD r.mach 32 k).runR rec r = { r with a := q, wrong := false } := (by rw [← hq]; exact if_pos hok)
  rw [hD]
  clear hD
  have hkI : (k : Int) ≤ 4294967295 := by omega
  have hW := fun u => refWord_any rec (k : Int) u hs
  rw [show wordV rec (k : Int) = .tuple #[.int .u32 (q : Int), .int .i64 0] from by unfold wordV wordV4; rw [if_pos hs, if_pos (by omega), Int.toNat_natCast, if_pos hok, hq]] at hW
  have HW := Lib.hid hW
  clear hW
  have hP := moves_of w r 32 jt jf k hr
  go_enter Try.func30, Try.ntmps30
  go_upto_region 1 with fail
  generalize (((w.alloc (Obj.cells r.arr 45)).alloc (Obj.cells #[.int .i64 32, .int .i64 jt, .int .i64 jf, .int .u32 (k : Int)] 35)).alloc (Obj.cells #[.int .u32 0, .int .u32 0, .int .u32 0, .int .u32 0, .int .u32 0, .int .u32 0, .int .u32 0, .int .u32 0, .int .u32 0, .int .u32 0, .int .u32 0, .int .u32 0, .int .u32 0, .int .u32 0, .int .u32 0, .int .u32 0, .int .u32 0, .int .u32 0, .int .i64 0, .int .u32 0, .bool false, .bool false] 45)) = wA at *
  have HP := Lib.hid hP
  clear hP
  have i0 := below_cell (Below.refl _ wA) HP.out.i 0 rfl
  have i3 := below_cell (Below.refl _ wA) HP.out.i 3 rfl
  obtain ⟨r0, r1, r18, r19, r20, r21⟩ := HP.out.m.facts
  have fz := block_frozen HP.out.m.blk 0
  have hE : MovesE w (wA.setCell ⟨w.heap.size, 0, none⟩ (.int .u32 (q : Int))) { r with a := q } := HP.out.last.set 0 _ (HP.out.m.setA q)
  have HE0 := Lib.hid hE
  clear hE
  go_wp2_with fail
  refine (HW.out _).mono ?_
  rintro e w5 ⟨rfl, rfl⟩
  go_upto_region 10 with fail
  generalize wA.setCell ⟨w.heap.size, 0, none⟩ (.int .u32 (q : Int)) = wC at *
  clear fz r0 r1 r18 r19 r20 r21
  have fz := block_frozen HE0.out.m.blk 21
  obtain ⟨_, _, _, _, _, q21⟩ := HE0.out.m.facts
  dsimp only at q21
  have hE : MovesE w (wC.setCell ⟨w.heap.size, 21, none⟩ (.bool false)) { r with a := q, wrong := false } := HE0.out.set 21 _ (HE0.out.m.setWrong false)
  have HE := Lib.hid hE
  clear hE i0 i3
  go_upto_region 31 with fail
  generalize wC.setCell ⟨w.heap.size, 21, none⟩ (.bool false) = wB at *
  clear fz q21
  have hsz := rarr_size { r with a := q, wrong := false } HE.out.m.len
  have hI : (Try.prog.info? 45).map (fun i => i.size) = some (RM.arr { r with a := q, wrong := false }).size := by rw [hsz]; exact infoRM
  have H1 := Lib.hid hI
  have H2 := Lib.hid (rarr_one { r with a := q, wrong := false })
  have hso : rm0.arr.size = (RM.arr { r with a := q, wrong := false }).size := by rw [hsz]; rfl
  have H3 := Lib.hid hso
  clear hsz hI hso
  generalize hRR : RM.arr { r with a := q, wrong := false } = R at *
  have HB := Lib.hid HE.out.m.blk
  rw [hRR] at HB
  have HRR := Lib.hid hRR
  clear hRR
  go_wp2_with (first | (refine wpList_load_row rfl 45 _ rfl w.heap.size rfl 45 R (0, 0) _ HB.out Try.underlying45 rfl H1.out ?_) | (refine wpList_store_row rfl 45 _ _ rfl (w.heap.size + 1 + 1) R rfl rfl 45 rm0.arr HE.out.o H1.out H3.out H2.out ?_))
  refine bodyPost_ret (v := .agg R) (results_cell_row rfl _ _ (w.heap.size + 1 + 1) 45 R (0, 0) _ rfl (setRow_heap _ _ _ _ _ _ HE.out.o) Try.underlying45 rfl H1.out) rfl ⟨by rw [← HRR.out], ?_⟩
  exact below_setRow HE.out.b (by omega) _

set_option maxRecDepth 100000 in
set_option maxHeartbeats 1000000 in
theorem ref_moves32o (r : RM) (k : Nat) (jt jf : Int) (rec : ByteArray) (w : World) (hr : r.cells.length = 16) (hk : k ≤ 4294967295) (hs : rec.size = 64) (hok : ¬ wordOk k = true) :
    Calls Try.prog 30 #[.agg r.arr, .agg #[.int .i64 32, .int .i64 jt, .int .i64 jf, .int .u32 (k : Int)], .string rec] w fun e w' => e = .returned (.agg ((moveD r.mach 32 k).runR rec r).arr) ∧ Below w.heap.size w w' := by
  have hD : (moveD r.mach 32 k).runR rec r = { r with a := 0, wrong := true } := if_neg hok
  rw [hD]
  clear hD
  have hkI : (k : Int) ≤ 4294967295 := by omega
  have hW := fun u => refWord_any rec (k : Int) u hs
  rw [show wordV rec (k : Int) = .tuple #[.int .u32 0, .int .i64 51] from by unfold wordV wordV4; rw [if_pos hs, if_pos (by omega), Int.toNat_natCast, if_neg hok]] at hW
  have HW := Lib.hid hW
  clear hW
  have hP := moves_of w r 32 jt jf k hr
  go_enter Try.func30, Try.ntmps30
  go_upto_region 1 with fail
  generalize (((w.alloc (Obj.cells r.arr 45)).alloc (Obj.cells #[.int .i64 32, .int .i64 jt, .int .i64 jf, .int .u32 (k : Int)] 35)).alloc (Obj.cells #[.int .u32 0, .int .u32 0, .int .u32 0, .int .u32 0, .int .u32 0, .int .u32 0, .int .u32 0, .int .u32 0, .int .u32 0, .int .u32 0, .int .u32 0, .int .u32 0, .int .u32 0, .int .u32 0, .int .u32 0, .int .u32 0, .int .u32 0, .int .u32 0, .int .i64 0, .int .u32 0, .bool false, .bool false] 45)) = wA at *
  have HP := Lib.hid hP
  clear hP
  have i0 := below_cell (Below.refl _ wA) HP.out.i 0 rfl
  have i3 := below_cell (Below.refl _ wA) HP.out.i 3 rfl
  obtain ⟨r0, r1, r18, r19, r20, r21⟩ := HP.out.m.facts
  have fz := block_frozen HP.out.m.blk 0
  have hE : MovesE w (wA.setCell ⟨w.heap.size, 0, none⟩ (.int .u32 0)) { r with a := 0 } := HP.out.last.set 0 _ (HP.out.m.setA 0)
  have HE0 := Lib.hid hE
  clear hE
  go_wp2_with fail
  refine (HW.out _).mono ?_
  rintro e w5 ⟨rfl, rfl⟩
  go_upto_region 10 with fail
  generalize wA.setCell ⟨w.heap.size, 0, none⟩ (.int .u32 0) = wC at *
  clear fz r0 r1 r18 r19 r20 r21
  have fz := block_frozen HE0.out.m.blk 21
  obtain ⟨_, _, _, _, _, q21⟩ := HE0.out.m.facts
  dsimp only at q21
  have hE : MovesE w (wC.setCell ⟨w.heap.size, 21, none⟩ (.bool true)) { r with a := 0, wrong := true } := HE0.out.set 21 _ (HE0.out.m.setWrong true)
  have HE := Lib.hid hE
  clear hE i0 i3
  go_upto_region 31 with fail
  generalize wC.setCell ⟨w.heap.size, 21, none⟩ (.bool true) = wB at *
  clear fz q21
  have hsz := rarr_size { r with a := 0, wrong := true } HE.out.m.len
  have hI : (Try.prog.info? 45).map (fun i => i.size) = some (RM.arr { r with a := 0, wrong := true }).size := by rw [hsz]; exact infoRM
  have H1 := Lib.hid hI
  have H2 := Lib.hid (rarr_one { r with a := 0, wrong := true })
  have hso : rm0.arr.size = (RM.arr { r with a := 0, wrong := true }).size := by rw [hsz]; rfl
  have H3 := Lib.hid hso
  clear hsz hI hso
  generalize hRR : RM.arr { r with a := 0, wrong := true } = R at *
  have HB := Lib.hid HE.out.m.blk
  rw [hRR] at HB
  have HRR := Lib.hid hRR
  clear hRR
  go_wp2_with (first | (refine wpList_load_row rfl 45 _ rfl w.heap.size rfl 45 R (0, 0) _ HB.out Try.underlying45 rfl H1.out ?_) | (refine wpList_store_row rfl 45 _ _ rfl (w.heap.size + 1 + 1) R rfl rfl 45 rm0.arr HE.out.o H1.out H3.out H2.out ?_))
  refine bodyPost_ret (v := .agg R) (results_cell_row rfl _ _ (w.heap.size + 1 + 1) 45 R (0, 0) _ rfl (setRow_heap _ _ _ _ _ _ HE.out.o) Try.underlying45 rfl H1.out) rfl ⟨by rw [← HRR.out], ?_⟩
  exact below_setRow HE.out.b (by omega) _

end Go.Proofs.Ytpdaenpcgcjmjaa
