/- The reference's step: jumps and ends. -/
import Derived.Test.YtpdaenpcgcjmjaaRef11C
import Derived.StillTailTactics
namespace Go.Proofs.Ytpdaenpcgcjmjaa
open Go.RowKit
set_option linter.unusedVariables false

set_option maxRecDepth 100000 in
set_option maxHeartbeats 1000000 in
theorem ref_step6 (r : RM) (A : Option Addr) (len cap : Nat) (b off i k : Nat) (jt jf : Int) (rec : ByteArray) (w : World) (hr : r.cells.length = 16) (hrs : r.mach.small) (hs : rec.size = 64) (hat : r.at' = (i : Int)) (hlt : i < len) (hlen : len ≤ 1000000)
    (hb : b < w.heap.size) (hi : InsAt w b (off + i * 4) ⟨6, jt, jf, k⟩) (hk : k ≤ 4294967295) (ht : -9223372036854775808 ≤ jt ∧ jt ≤ 9223372036854775807) (hf : -9223372036854775808 ≤ jf ∧ jf ≤ 9223372036854775807) :
    Calls Try.prog 17 #[.agg r.arr, .slice (some ⟨b, off, none⟩) len cap, .string rec] w fun e w' => e = .returned (.agg ((deedD r.mach 6 k jt jf).runR rec { r with at' := r.at' + 1 }).arr) ∧ Below w.heap.size w w' := by
  have hD : (deedD r.mach 6 k jt jf).runR rec { r with at' := r.at' + 1 } = { r with at' := (i : Int) + 1, done := true, out := k } := by rw [hat]; rfl
  rw [hD]
  clear hD
  have hkI : (k : Int) ≤ 4294967295 := by omega
  have haI : (r.a : Int) ≤ 4294967295 := by have : r.a ≤ 4294967295 := hrs.1; omega
  have hxI : (r.x : Int) ≤ 4294967295 := by have : r.x ≤ 4294967295 := hrs.2.1; omega
  have hiI : (i : Int) ≤ 1000000 := by omega
  have hltI : (i : Int) < len := by omega
  have HK := Lib.hid (fun u => refKnown_any 6 u)
  rw [show insKnown 6 = true from known0 6 (by decide)] at HK
  have hP := steps_of w r 6 jt jf k hr
  have a1 : Below w.heap.size w ((w.alloc (Obj.cells r.arr 45)).alloc (Obj.cells #[.int .u32 0, .int .u32 0, .int .u32 0, .int .u32 0, .int .u32 0, .int .u32 0, .int .u32 0, .int .u32 0, .int .u32 0, .int .u32 0, .int .u32 0, .int .u32 0, .int .u32 0, .int .u32 0, .int .u32 0, .int .u32 0, .int .u32 0, .int .u32 0, .int .i64 0, .int .u32 0, .bool false, .bool false] 45)) := alloc2 w _ _
  obtain ⟨c0, c1, c2, c3⟩ := hi.below a1 hb
  dsimp only at c0 c1 c2 c3
  have hm : IsR ((w.alloc (Obj.cells r.arr 45)).alloc (Obj.cells #[.int .u32 0, .int .u32 0, .int .u32 0, .int .u32 0, .int .u32 0, .int .u32 0, .int .u32 0, .int .u32 0, .int .u32 0, .int .u32 0, .int .u32 0, .int .u32 0, .int .u32 0, .int .u32 0, .int .u32 0, .int .u32 0, .int .u32 0, .int .u32 0, .int .i64 0, .int .u32 0, .bool false, .bool false] 45)) w.heap.size r := ⟨(heap_alloc_old _ _ (by simp)).trans (heap_alloc_new w _), hr⟩
  obtain ⟨_, _, q18, _⟩ := hm.facts
  rw [hat] at q18
  have HAT := Lib.hid hat
  clear hm hat hi a1
  go_enter Try.func17, Try.ntmps17
  go_wp2_with fail
  refine (HK.out _).mono ?_
  rintro e w5 ⟨rfl, rfl⟩
  go_upto_region 5 with fail
  generalize (((w.alloc (Obj.cells r.arr 45)).alloc (Obj.cells #[.int .u32 0, .int .u32 0, .int .u32 0, .int .u32 0, .int .u32 0, .int .u32 0, .int .u32 0, .int .u32 0, .int .u32 0, .int .u32 0, .int .u32 0, .int .u32 0, .int .u32 0, .int .u32 0, .int .u32 0, .int .u32 0, .int .u32 0, .int .u32 0, .int .i64 0, .int .u32 0, .bool false, .bool false] 45)).alloc (Obj.cells #[.int .i64 6, .int .i64 jt, .int .i64 jf, .int .u32 (k : Int)] 35)) = w3 at *
  clear c0 c1 c2 c3 q18
  obtain ⟨_, _, q18, _⟩ := hP.m.facts
  rw [HAT.out] at q18
  have fz := block_frozen hP.m.blk 18
  have HP := Lib.hid (hP.setAt (i + 1))
  clear hP
  go_upto_region 6 with fail
  generalize w3.setCell ⟨w.heap.size, 18, none⟩ (.int .i64 ((i : Int) + 1)) = wA at *
  clear q18 fz
  have i0 := below_cell (Below.refl _ wA) HP.out.i 0 rfl
  have i1 := below_cell (Below.refl _ wA) HP.out.i 1 rfl
  have i2 := below_cell (Below.refl _ wA) HP.out.i 2 rfl
  have i3 := below_cell (Below.refl _ wA) HP.out.i 3 rfl
  obtain ⟨r0, r1, r18, r19, r20, r21⟩ := HP.out.m.facts
  dsimp only at r0 r1 r18 r19 r20 r21
  have fz := block_frozen HP.out.m.blk 20
  have hE : StepsE w (wA.setCell ⟨w.heap.size, 20, none⟩ (.bool true)) { r with at' := (i : Int) + 1, done := true } := HP.out.last.set 20 _ (HP.out.m.setDone true)
  have hI2 := (Below.heap_setCell wA ⟨w.heap.size, 20, none⟩ (.bool true) (w.heap.size + 1 + 1) (by show w.heap.size + 1 + 1 ≠ w.heap.size; omega)).trans HP.out.i
  have HE0 := Lib.hid hE
  have HI2 := Lib.hid hI2
  clear hE hI2
  go_upto_region 13 with fail
  generalize wA.setCell ⟨w.heap.size, 20, none⟩ (.bool true) = wC at *
  clear fz r0 r1 r18 r19 r20 r21 i0 i1 i2 i3
  have i0 := below_cell (Below.refl _ wC) HI2.out 0 rfl
  have i1 := below_cell (Below.refl _ wC) HI2.out 1 rfl
  have i2 := below_cell (Below.refl _ wC) HI2.out 2 rfl
  have i3 := below_cell (Below.refl _ wC) HI2.out 3 rfl
  obtain ⟨r0, r1, r18, r19, r20, r21⟩ := HE0.out.m.facts
  dsimp only at r0 r1 r18 r19 r20 r21
  have fz := block_frozen HE0.out.m.blk 19
  have hE : StepsE w (wC.setCell ⟨w.heap.size, 19, none⟩ (.int .u32 (k : Int))) { r with at' := (i : Int) + 1, done := true, out := k } := HE0.out.set 19 _ (HE0.out.m.setOut k)
  have hI2 := (Below.heap_setCell wC ⟨w.heap.size, 19, none⟩ (.int .u32 (k : Int)) (w.heap.size + 1 + 1) (by show w.heap.size + 1 + 1 ≠ w.heap.size; omega)).trans HI2.out
  have HE1 := Lib.hid hE
  have HI3 := Lib.hid hI2
  clear hE hI2
  go_upto_region 14 with fail
  generalize wC.setCell ⟨w.heap.size, 19, none⟩ (.int .u32 (k : Int)) = wD at *
  clear fz r0 r1 r18 r19 r20 r21 i0 i1 i2 i3
  have i0 := below_cell (Below.refl _ wD) HI3.out 0 rfl
  have i1 := below_cell (Below.refl _ wD) HI3.out 1 rfl
  have i2 := below_cell (Below.refl _ wD) HI3.out 2 rfl
  have i3 := below_cell (Below.refl _ wD) HI3.out 3 rfl
  obtain ⟨r0, r1, r18, r19, r20, r21⟩ := HE1.out.m.facts
  dsimp only at r0 r1 r18 r19 r20 r21
  have HE := HE1
  go_upto_region 16 with fail
  clear r0 r1 r18 r19 r20 r21 i0 i1 i2 i3
  have hsz := rarr_size { r with at' := (i : Int) + 1, done := true, out := k } HE.out.m.len
  have hI : (Try.prog.info? 45).map (fun i => i.size) = some (RM.arr { r with at' := (i : Int) + 1, done := true, out := k }).size := by rw [hsz]; exact infoRM
  have H1 := Lib.hid hI
  have H2 := Lib.hid (rarr_one { r with at' := (i : Int) + 1, done := true, out := k })
  have hso : rm0.arr.size = (RM.arr { r with at' := (i : Int) + 1, done := true, out := k }).size := by rw [hsz]; rfl
  have H3 := Lib.hid hso
  clear hsz hI hso
  generalize hRR : RM.arr { r with at' := (i : Int) + 1, done := true, out := k } = R at *
  have HB := Lib.hid HE.out.m.blk
  rw [hRR] at HB
  have HRR := Lib.hid hRR
  clear hRR
  go_wp2_with (first | (refine wpList_load_row rfl 45 _ rfl w.heap.size rfl 45 R (0, 0) _ HB.out Try.underlying45 rfl H1.out ?_) | (refine wpList_store_row rfl 45 _ _ rfl (w.heap.size + 1) R rfl rfl 45 rm0.arr HE.out.o H1.out H3.out H2.out ?_))
  refine bodyPost_ret (v := .agg R) (results_cell_row rfl _ _ (w.heap.size + 1) 45 R (0, 0) _ rfl (setRow_heap _ _ _ _ _ _ HE.out.o) Try.underlying45 rfl H1.out) rfl ⟨by rw [← HRR.out], ?_⟩
  exact below_setRow HE.out.b (by omega) _

set_option maxRecDepth 100000 in
set_option maxHeartbeats 1000000 in
theorem ref_step22 (r : RM) (A : Option Addr) (len cap : Nat) (b off i k : Nat) (jt jf : Int) (rec : ByteArray) (w : World) (hr : r.cells.length = 16) (hrs : r.mach.small) (hs : rec.size = 64) (hat : r.at' = (i : Int)) (hlt : i < len) (hlen : len ≤ 1000000)
    (hb : b < w.heap.size) (hi : InsAt w b (off + i * 4) ⟨22, jt, jf, k⟩) (hk : k ≤ 4294967295) (ht : -9223372036854775808 ≤ jt ∧ jt ≤ 9223372036854775807) (hf : -9223372036854775808 ≤ jf ∧ jf ≤ 9223372036854775807) :
    Calls Try.prog 17 #[.agg r.arr, .slice (some ⟨b, off, none⟩) len cap, .string rec] w fun e w' => e = .returned (.agg ((deedD r.mach 22 k jt jf).runR rec { r with at' := r.at' + 1 }).arr) ∧ Below w.heap.size w w' := by
  have hD : (deedD r.mach 22 k jt jf).runR rec { r with at' := r.at' + 1 } = { r with at' := (i : Int) + 1, done := true, out := r.a } := by rw [hat]; rfl
  rw [hD]
  clear hD
  have hkI : (k : Int) ≤ 4294967295 := by omega
  have haI : (r.a : Int) ≤ 4294967295 := by have : r.a ≤ 4294967295 := hrs.1; omega
  have hxI : (r.x : Int) ≤ 4294967295 := by have : r.x ≤ 4294967295 := hrs.2.1; omega
  have hiI : (i : Int) ≤ 1000000 := by omega
  have hltI : (i : Int) < len := by omega
  have HK := Lib.hid (fun u => refKnown_any 22 u)
  rw [show insKnown 22 = true from known0 22 (by decide)] at HK
  have hP := steps_of w r 22 jt jf k hr
  have a1 : Below w.heap.size w ((w.alloc (Obj.cells r.arr 45)).alloc (Obj.cells #[.int .u32 0, .int .u32 0, .int .u32 0, .int .u32 0, .int .u32 0, .int .u32 0, .int .u32 0, .int .u32 0, .int .u32 0, .int .u32 0, .int .u32 0, .int .u32 0, .int .u32 0, .int .u32 0, .int .u32 0, .int .u32 0, .int .u32 0, .int .u32 0, .int .i64 0, .int .u32 0, .bool false, .bool false] 45)) := alloc2 w _ _
  obtain ⟨c0, c1, c2, c3⟩ := hi.below a1 hb
  dsimp only at c0 c1 c2 c3
  have hm : IsR ((w.alloc (Obj.cells r.arr 45)).alloc (Obj.cells #[.int .u32 0, .int .u32 0, .int .u32 0, .int .u32 0, .int .u32 0, .int .u32 0, .int .u32 0, .int .u32 0, .int .u32 0, .int .u32 0, .int .u32 0, .int .u32 0, .int .u32 0, .int .u32 0, .int .u32 0, .int .u32 0, .int .u32 0, .int .u32 0, .int .i64 0, .int .u32 0, .bool false, .bool false] 45)) w.heap.size r := ⟨(heap_alloc_old _ _ (by simp)).trans (heap_alloc_new w _), hr⟩
  obtain ⟨_, _, q18, _⟩ := hm.facts
  rw [hat] at q18
  have HAT := Lib.hid hat
  clear hm hat hi a1
  go_enter Try.func17, Try.ntmps17
  go_wp2_with fail
  refine (HK.out _).mono ?_
  rintro e w5 ⟨rfl, rfl⟩
  go_upto_region 5 with fail
  generalize (((w.alloc (Obj.cells r.arr 45)).alloc (Obj.cells #[.int .u32 0, .int .u32 0, .int .u32 0, .int .u32 0, .int .u32 0, .int .u32 0, .int .u32 0, .int .u32 0, .int .u32 0, .int .u32 0, .int .u32 0, .int .u32 0, .int .u32 0, .int .u32 0, .int .u32 0, .int .u32 0, .int .u32 0, .int .u32 0, .int .i64 0, .int .u32 0, .bool false, .bool false] 45)).alloc (Obj.cells #[.int .i64 22, .int .i64 jt, .int .i64 jf, .int .u32 (k : Int)] 35)) = w3 at *
  clear c0 c1 c2 c3 q18
  obtain ⟨_, _, q18, _⟩ := hP.m.facts
  rw [HAT.out] at q18
  have fz := block_frozen hP.m.blk 18
  have HP := Lib.hid (hP.setAt (i + 1))
  clear hP
  go_upto_region 6 with fail
  generalize w3.setCell ⟨w.heap.size, 18, none⟩ (.int .i64 ((i : Int) + 1)) = wA at *
  clear q18 fz
  have i0 := below_cell (Below.refl _ wA) HP.out.i 0 rfl
  have i1 := below_cell (Below.refl _ wA) HP.out.i 1 rfl
  have i2 := below_cell (Below.refl _ wA) HP.out.i 2 rfl
  have i3 := below_cell (Below.refl _ wA) HP.out.i 3 rfl
  obtain ⟨r0, r1, r18, r19, r20, r21⟩ := HP.out.m.facts
  dsimp only at r0 r1 r18 r19 r20 r21
  have fz := block_frozen HP.out.m.blk 20
  have hE : StepsE w (wA.setCell ⟨w.heap.size, 20, none⟩ (.bool true)) { r with at' := (i : Int) + 1, done := true } := HP.out.last.set 20 _ (HP.out.m.setDone true)
  have hI2 := (Below.heap_setCell wA ⟨w.heap.size, 20, none⟩ (.bool true) (w.heap.size + 1 + 1) (by show w.heap.size + 1 + 1 ≠ w.heap.size; omega)).trans HP.out.i
  have HE0 := Lib.hid hE
  have HI2 := Lib.hid hI2
  clear hE hI2
  go_upto_region 13 with fail
  generalize wA.setCell ⟨w.heap.size, 20, none⟩ (.bool true) = wC at *
  clear fz r0 r1 r18 r19 r20 r21 i0 i1 i2 i3
  have i0 := below_cell (Below.refl _ wC) HI2.out 0 rfl
  have i1 := below_cell (Below.refl _ wC) HI2.out 1 rfl
  have i2 := below_cell (Below.refl _ wC) HI2.out 2 rfl
  have i3 := below_cell (Below.refl _ wC) HI2.out 3 rfl
  obtain ⟨r0, r1, r18, r19, r20, r21⟩ := HE0.out.m.facts
  dsimp only at r0 r1 r18 r19 r20 r21
  have fz := block_frozen HE0.out.m.blk 19
  have hE : StepsE w (wC.setCell ⟨w.heap.size, 19, none⟩ (.int .u32 (k : Int))) { r with at' := (i : Int) + 1, done := true, out := k } := HE0.out.set 19 _ (HE0.out.m.setOut k)
  have hI2 := (Below.heap_setCell wC ⟨w.heap.size, 19, none⟩ (.int .u32 (k : Int)) (w.heap.size + 1 + 1) (by show w.heap.size + 1 + 1 ≠ w.heap.size; omega)).trans HI2.out
  have HE1 := Lib.hid hE
  have HI3 := Lib.hid hI2
  clear hE hI2
  go_upto_region 14 with fail
  generalize wC.setCell ⟨w.heap.size, 19, none⟩ (.int .u32 (k : Int)) = wD at *
  clear fz r0 r1 r18 r19 r20 r21 i0 i1 i2 i3
  have i0 := below_cell (Below.refl _ wD) HI3.out 0 rfl
  have i1 := below_cell (Below.refl _ wD) HI3.out 1 rfl
  have i2 := below_cell (Below.refl _ wD) HI3.out 2 rfl
  have i3 := below_cell (Below.refl _ wD) HI3.out 3 rfl
  obtain ⟨r0, r1, r18, r19, r20, r21⟩ := HE1.out.m.facts
  dsimp only at r0 r1 r18 r19 r20 r21
  have fz := block_frozen HE1.out.m.blk 19
  have hE : StepsE w (wD.setCell ⟨w.heap.size, 19, none⟩ (.int .u32 (r.a : Int))) { r with at' := (i : Int) + 1, done := true, out := r.a } := HE1.out.set (19) _ (HE1.out.m.setOut r.a)
  have HE := Lib.hid hE
  clear hE
  go_upto_region 16 with fail
  generalize wD.setCell ⟨w.heap.size, 19, none⟩ (.int .u32 (r.a : Int)) = wB at *
  clear fz
  clear r0 r1 r18 r19 r20 r21 i0 i1 i2 i3
  have hsz := rarr_size { r with at' := (i : Int) + 1, done := true, out := r.a } HE.out.m.len
  have hI : (Try.prog.info? 45).map (fun i => i.size) = some (RM.arr { r with at' := (i : Int) + 1, done := true, out := r.a }).size := by rw [hsz]; exact infoRM
  have H1 := Lib.hid hI
  have H2 := Lib.hid (rarr_one { r with at' := (i : Int) + 1, done := true, out := r.a })
  have hso : rm0.arr.size = (RM.arr { r with at' := (i : Int) + 1, done := true, out := r.a }).size := by rw [hsz]; rfl
  have H3 := Lib.hid hso
  clear hsz hI hso
  generalize hRR : RM.arr { r with at' := (i : Int) + 1, done := true, out := r.a } = R at *
  have HB := Lib.hid HE.out.m.blk
  rw [hRR] at HB
  have HRR := Lib.hid hRR
  clear hRR
  go_wp2_with (first | (refine wpList_load_row rfl 45 _ rfl w.heap.size rfl 45 R (0, 0) _ HB.out Try.underlying45 rfl H1.out ?_) | (refine wpList_store_row rfl 45 _ _ rfl (w.heap.size + 1) R rfl rfl 45 rm0.arr HE.out.o H1.out H3.out H2.out ?_))
  refine bodyPost_ret (v := .agg R) (results_cell_row rfl _ _ (w.heap.size + 1) 45 R (0, 0) _ rfl (setRow_heap _ _ _ _ _ _ HE.out.o) Try.underlying45 rfl H1.out) rfl ⟨by rw [← HRR.out], ?_⟩
  exact below_setRow HE.out.b (by omega) _

set_option maxRecDepth 100000 in
set_option maxHeartbeats 1000000 in
theorem ref_step5 (r : RM) (A : Option Addr) (len cap : Nat) (b off i k : Nat) (jt jf : Int) (rec : ByteArray) (w : World) (hr : r.cells.length = 16) (hrs : r.mach.small) (hs : rec.size = 64) (hat : r.at' = (i : Int)) (hlt : i < len) (hlen : len ≤ 1000000)
    (hb : b < w.heap.size) (hi : InsAt w b (off + i * 4) ⟨5, jt, jf, k⟩) (hk : k ≤ 4294967295) (ht : -9223372036854775808 ≤ jt ∧ jt ≤ 9223372036854775807) (hf : -9223372036854775808 ≤ jf ∧ jf ≤ 9223372036854775807) :
    Calls Try.prog 17 #[.agg r.arr, .slice (some ⟨b, off, none⟩) len cap, .string rec] w fun e w' => e = .returned (.agg ((deedD r.mach 5 k jt jf).runR rec { r with at' := r.at' + 1 }).arr) ∧ Below w.heap.size w w' := by
  have hD : (deedD r.mach 5 k jt jf).runR rec { r with at' := r.at' + 1 } = { r with at' := (i : Int) + 1 + k } := by
    rw [hat]
    show Deed.runR rec { r with at' := (i : Int) + 1 } (.over k) = _
    have : wrap64 ((i : Int) + 1 + max (k : Int) 0) = (i : Int) + 1 + k := by unfold wrap64; omega
    show ({ r with at' := wrap64 ((i : Int) + 1 + max (k : Int) 0) } : RM) = _
    rw [this]
  rw [hD]
  clear hD
  have hkI : (k : Int) ≤ 4294967295 := by omega
  have haI : (r.a : Int) ≤ 4294967295 := by have : r.a ≤ 4294967295 := hrs.1; omega
  have hxI : (r.x : Int) ≤ 4294967295 := by have : r.x ≤ 4294967295 := hrs.2.1; omega
  have hiI : (i : Int) ≤ 1000000 := by omega
  have hltI : (i : Int) < len := by omega
  have HK := Lib.hid (fun u => refKnown_any 5 u)
  rw [show insKnown 5 = true from known0 5 (by decide)] at HK
  have hP := steps_of w r 5 jt jf k hr
  have a1 : Below w.heap.size w ((w.alloc (Obj.cells r.arr 45)).alloc (Obj.cells #[.int .u32 0, .int .u32 0, .int .u32 0, .int .u32 0, .int .u32 0, .int .u32 0, .int .u32 0, .int .u32 0, .int .u32 0, .int .u32 0, .int .u32 0, .int .u32 0, .int .u32 0, .int .u32 0, .int .u32 0, .int .u32 0, .int .u32 0, .int .u32 0, .int .i64 0, .int .u32 0, .bool false, .bool false] 45)) := alloc2 w _ _
  obtain ⟨c0, c1, c2, c3⟩ := hi.below a1 hb
  dsimp only at c0 c1 c2 c3
  have hm : IsR ((w.alloc (Obj.cells r.arr 45)).alloc (Obj.cells #[.int .u32 0, .int .u32 0, .int .u32 0, .int .u32 0, .int .u32 0, .int .u32 0, .int .u32 0, .int .u32 0, .int .u32 0, .int .u32 0, .int .u32 0, .int .u32 0, .int .u32 0, .int .u32 0, .int .u32 0, .int .u32 0, .int .u32 0, .int .u32 0, .int .i64 0, .int .u32 0, .bool false, .bool false] 45)) w.heap.size r := ⟨(heap_alloc_old _ _ (by simp)).trans (heap_alloc_new w _), hr⟩
  obtain ⟨_, _, q18, _⟩ := hm.facts
  rw [hat] at q18
  have HAT := Lib.hid hat
  clear hm hat hi a1
  go_enter Try.func17, Try.ntmps17
  go_wp2_with fail
  refine (HK.out _).mono ?_
  rintro e w5 ⟨rfl, rfl⟩
  go_upto_region 5 with fail
  generalize (((w.alloc (Obj.cells r.arr 45)).alloc (Obj.cells #[.int .u32 0, .int .u32 0, .int .u32 0, .int .u32 0, .int .u32 0, .int .u32 0, .int .u32 0, .int .u32 0, .int .u32 0, .int .u32 0, .int .u32 0, .int .u32 0, .int .u32 0, .int .u32 0, .int .u32 0, .int .u32 0, .int .u32 0, .int .u32 0, .int .i64 0, .int .u32 0, .bool false, .bool false] 45)).alloc (Obj.cells #[.int .i64 5, .int .i64 jt, .int .i64 jf, .int .u32 (k : Int)] 35)) = w3 at *
  clear c0 c1 c2 c3 q18
  obtain ⟨_, _, q18, _⟩ := hP.m.facts
  rw [HAT.out] at q18
  have fz := block_frozen hP.m.blk 18
  have HP := Lib.hid (hP.setAt (i + 1))
  clear hP
  go_upto_region 6 with fail
  generalize w3.setCell ⟨w.heap.size, 18, none⟩ (.int .i64 ((i : Int) + 1)) = wA at *
  clear q18 fz
  have i0 := below_cell (Below.refl _ wA) HP.out.i 0 rfl
  have i1 := below_cell (Below.refl _ wA) HP.out.i 1 rfl
  have i2 := below_cell (Below.refl _ wA) HP.out.i 2 rfl
  have i3 := below_cell (Below.refl _ wA) HP.out.i 3 rfl
  obtain ⟨r0, r1, r18, r19, r20, r21⟩ := HP.out.m.facts
  dsimp only at r0 r1 r18 r19 r20 r21
  have fz := block_frozen HP.out.last.m.blk 18
  have hE : StepsE w (wA.setCell ⟨w.heap.size, 18, none⟩ (.int .i64 ((i : Int) + 1 + k))) { r with at' := (i : Int) + 1 + k } := HP.out.last.set (18) _ (HP.out.m.setAt ((i : Int) + 1 + k))
  have HE := Lib.hid hE
  clear hE
  go_upto_region 32 with fail
  generalize wA.setCell ⟨w.heap.size, 18, none⟩ (.int .i64 ((i : Int) + 1 + k)) = wB at *
  clear fz
  clear r0 r1 r18 r19 r20 r21 i0 i1 i2 i3
  have hsz := rarr_size { r with at' := (i : Int) + 1 + k } HE.out.m.len
  have hI : (Try.prog.info? 45).map (fun i => i.size) = some (RM.arr { r with at' := (i : Int) + 1 + k }).size := by rw [hsz]; exact infoRM
  have H1 := Lib.hid hI
  have H2 := Lib.hid (rarr_one { r with at' := (i : Int) + 1 + k })
  have hso : rm0.arr.size = (RM.arr { r with at' := (i : Int) + 1 + k }).size := by rw [hsz]; rfl
  have H3 := Lib.hid hso
  clear hsz hI hso
  generalize hRR : RM.arr { r with at' := (i : Int) + 1 + k } = R at *
  have HB := Lib.hid HE.out.m.blk
  rw [hRR] at HB
  have HRR := Lib.hid hRR
  clear hRR
  go_wp2_with (first | (refine wpList_load_row rfl 45 _ rfl w.heap.size rfl 45 R (0, 0) _ HB.out Try.underlying45 rfl H1.out ?_) | (refine wpList_store_row rfl 45 _ _ rfl (w.heap.size + 1) R rfl rfl 45 rm0.arr HE.out.o H1.out H3.out H2.out ?_))
  refine bodyPost_ret (v := .agg R) (results_cell_row rfl _ _ (w.heap.size + 1) 45 R (0, 0) _ rfl (setRow_heap _ _ _ _ _ _ HE.out.o) Try.underlying45 rfl H1.out) rfl ⟨by rw [← HRR.out], ?_⟩
  exact below_setRow HE.out.b (by omega) _

set_option maxRecDepth 100000 in
set_option maxHeartbeats 1000000 in
theorem ref_step21t (r : RM) (A : Option Addr) (len cap : Nat) (b off i k : Nat) (jt jf : Int) (rec : ByteArray) (w : World) (hr : r.cells.length = 16) (hrs : r.mach.small) (hs : rec.size = 64) (hat : r.at' = (i : Int)) (hlt : i < len) (hlen : len ≤ 1000000)
    (hb : b < w.heap.size) (hi : InsAt w b (off + i * 4) ⟨21, jt, jf, k⟩) (hk : k ≤ 4294967295) (ht : -9223372036854775808 ≤ jt ∧ jt ≤ 9223372036854775807) (hf : -9223372036854775808 ≤ jf ∧ jf ≤ 9223372036854775807) (hB : jumpB 21 r.a k = true) (q : Int) (hq : wrap64 ((i : Int) + 1 + max jt 0) = q) :
    Calls Try.prog 17 #[.agg r.arr, .slice (some ⟨b, off, none⟩) len cap, .string rec] w fun e w' => e = .returned (.agg ((deedD r.mach 21 k jt jf).runR rec { r with at' := r.at' + 1 }).arr) ∧ Below w.heap.size w w' := by
  have hD : (deedD r.mach 21 k jt jf).runR rec { r with at' := r.at' + 1 } = { r with at' := q } := by
    rw [hat]
    show Deed.runR rec { r with at' := (i : Int) + 1 } (.over (if jumpB 21 r.a k then jt else jf)) = _
    rw [hB]
    show ({ r with at' := wrap64 ((i : Int) + 1 + max jt 0) } : RM) = _
    rw [hq]
  rw [hD]
  clear hD
  have hkI : (k : Int) ≤ 4294967295 := by omega
  have haI : (r.a : Int) ≤ 4294967295 := by have : r.a ≤ 4294967295 := hrs.1; omega
  have hxI : (r.x : Int) ≤ 4294967295 := by have : r.x ≤ 4294967295 := hrs.2.1; omega
  have hiI : (i : Int) ≤ 1000000 := by omega
  have hltI : (i : Int) < len := by omega
  have HK := Lib.hid (fun u => refKnown_any 21 u)
  rw [show insKnown 21 = true from known0 21 (by decide)] at HK
  have hT := fun u => ref_holds21 r.a k u hrs.1 (by first | exact hk | exact hrs.2.1)
  rw [hB] at hT
  have HT := Lib.hid hT
  have HL := Lib.hid (fun u => ref_least jt u)
  have hw1 : IntKind.i64.wrap ((i : Int) + 1 + max jt 0) = q := by rw [← hq]; exact IntWalk.i64_left _
  clear hT hB hq
  generalize max jt 0 = M at *
  have hP := steps_of w r 21 jt jf k hr
  have a1 : Below w.heap.size w ((w.alloc (Obj.cells r.arr 45)).alloc (Obj.cells #[.int .u32 0, .int .u32 0, .int .u32 0, .int .u32 0, .int .u32 0, .int .u32 0, .int .u32 0, .int .u32 0, .int .u32 0, .int .u32 0, .int .u32 0, .int .u32 0, .int .u32 0, .int .u32 0, .int .u32 0, .int .u32 0, .int .u32 0, .int .u32 0, .int .i64 0, .int .u32 0, .bool false, .bool false] 45)) := alloc2 w _ _
  obtain ⟨c0, c1, c2, c3⟩ := hi.below a1 hb
  dsimp only at c0 c1 c2 c3
  have hm : IsR ((w.alloc (Obj.cells r.arr 45)).alloc (Obj.cells #[.int .u32 0, .int .u32 0, .int .u32 0, .int .u32 0, .int .u32 0, .int .u32 0, .int .u32 0, .int .u32 0, .int .u32 0, .int .u32 0, .int .u32 0, .int .u32 0, .int .u32 0, .int .u32 0, .int .u32 0, .int .u32 0, .int .u32 0, .int .u32 0, .int .i64 0, .int .u32 0, .bool false, .bool false] 45)) w.heap.size r := ⟨(heap_alloc_old _ _ (by simp)).trans (heap_alloc_new w _), hr⟩
  obtain ⟨_, _, q18, _⟩ := hm.facts
  rw [hat] at q18
  have HAT := Lib.hid hat
  clear hm hat hi a1
  go_enter Try.func17, Try.ntmps17
  go_wp2_with fail
  refine (HK.out _).mono ?_
  rintro e w5 ⟨rfl, rfl⟩
  go_upto_region 5 with fail
  generalize (((w.alloc (Obj.cells r.arr 45)).alloc (Obj.cells #[.int .u32 0, .int .u32 0, .int .u32 0, .int .u32 0, .int .u32 0, .int .u32 0, .int .u32 0, .int .u32 0, .int .u32 0, .int .u32 0, .int .u32 0, .int .u32 0, .int .u32 0, .int .u32 0, .int .u32 0, .int .u32 0, .int .u32 0, .int .u32 0, .int .i64 0, .int .u32 0, .bool false, .bool false] 45)).alloc (Obj.cells #[.int .i64 21, .int .i64 jt, .int .i64 jf, .int .u32 (k : Int)] 35)) = w3 at *
  clear c0 c1 c2 c3 q18
  obtain ⟨_, _, q18, _⟩ := hP.m.facts
  rw [HAT.out] at q18
  have fz := block_frozen hP.m.blk 18
  have HP := Lib.hid (hP.setAt (i + 1))
  clear hP
  go_upto_region 6 with fail
  generalize w3.setCell ⟨w.heap.size, 18, none⟩ (.int .i64 ((i : Int) + 1)) = wA at *
  clear q18 fz
  have i0 := below_cell (Below.refl _ wA) HP.out.i 0 rfl
  have i1 := below_cell (Below.refl _ wA) HP.out.i 1 rfl
  have i2 := below_cell (Below.refl _ wA) HP.out.i 2 rfl
  have i3 := below_cell (Below.refl _ wA) HP.out.i 3 rfl
  obtain ⟨r0, r1, r18, r19, r20, r21⟩ := HP.out.m.facts
  dsimp only at r0 r1 r18 r19 r20 r21
  go_wp2_with fail
  refine (HT.out _).mono ?_
  rintro e w5 ⟨rfl, rfl⟩
  have fz := block_frozen HP.out.m.blk 18
  have hE : StepsE w (wA.setCell ⟨w.heap.size, 18, none⟩ (.int .i64 q)).drew { r with at' := q } := (HP.out.last.set 18 _ (HP.out.m.setAt q)).drew
  have HE := Lib.hid hE
  clear hE
  go_upto_region 30 with fail
  go_region_with (go_at_call 29; refine (HL.out _).mono ?_; rintro e w1 ⟨rfl, rfl⟩)
  all_goals
    generalize (wA.setCell ⟨w.heap.size, 18, none⟩ (.int .i64 q)).drew = wB at *
    clear fz
    clear r0 r1 r18 r19 r20 r21 i0 i1 i2 i3
    have hsz := rarr_size { r with at' := q } HE.out.m.len
    have hI : (Try.prog.info? 45).map (fun i => i.size) = some (RM.arr { r with at' := q }).size := by rw [hsz]; exact infoRM
    have H1 := Lib.hid hI
    have H2 := Lib.hid (rarr_one { r with at' := q })
    have hso : rm0.arr.size = (RM.arr { r with at' := q }).size := by rw [hsz]; rfl
    have H3 := Lib.hid hso
    clear hsz hI hso
    generalize hRR : RM.arr { r with at' := q } = R at *
    have HB := Lib.hid HE.out.m.blk
    rw [hRR] at HB
    have HRR := Lib.hid hRR
    clear hRR
    go_wp2_with (first | (refine wpList_load_row rfl 45 _ rfl w.heap.size rfl 45 R (0, 0) _ HB.out Try.underlying45 rfl H1.out ?_) | (refine wpList_store_row rfl 45 _ _ rfl (w.heap.size + 1) R rfl rfl 45 rm0.arr HE.out.o H1.out H3.out H2.out ?_))
    refine bodyPost_ret (v := .agg R) (results_cell_row rfl _ _ (w.heap.size + 1) 45 R (0, 0) _ rfl (setRow_heap _ _ _ _ _ _ HE.out.o) Try.underlying45 rfl H1.out) rfl ⟨by rw [← HRR.out], ?_⟩
    exact below_setRow HE.out.b (by omega) _

set_option maxRecDepth 100000 in
set_option maxHeartbeats 1000000 in
theorem ref_step21f (r : RM) (A : Option Addr) (len cap : Nat) (b off i k : Nat) (jt jf : Int) (rec : ByteArray) (w : World) (hr : r.cells.length = 16) (hrs : r.mach.small) (hs : rec.size = 64) (hat : r.at' = (i : Int)) (hlt : i < len) (hlen : len ≤ 1000000)
    (hb : b < w.heap.size) (hi : InsAt w b (off + i * 4) ⟨21, jt, jf, k⟩) (hk : k ≤ 4294967295) (ht : -9223372036854775808 ≤ jt ∧ jt ≤ 9223372036854775807) (hf : -9223372036854775808 ≤ jf ∧ jf ≤ 9223372036854775807) (hB : jumpB 21 r.a k = false) (q : Int) (hq : wrap64 ((i : Int) + 1 + max jf 0) = q) :
    Calls Try.prog 17 #[.agg r.arr, .slice (some ⟨b, off, none⟩) len cap, .string rec] w fun e w' => e = .returned (.agg ((deedD r.mach 21 k jt jf).runR rec { r with at' := r.at' + 1 }).arr) ∧ Below w.heap.size w w' := by
  have hD : (deedD r.mach 21 k jt jf).runR rec { r with at' := r.at' + 1 } = { r with at' := q } := by
    rw [hat]
    show Deed.runR rec { r with at' := (i : Int) + 1 } (.over (if jumpB 21 r.a k then jt else jf)) = _
    rw [hB]
    show ({ r with at' := wrap64 ((i : Int) + 1 + max jf 0) } : RM) = _
    rw [hq]
  rw [hD]
  clear hD
  have hkI : (k : Int) ≤ 4294967295 := by omega
  have haI : (r.a : Int) ≤ 4294967295 := by have : r.a ≤ 4294967295 := hrs.1; omega
  have hxI : (r.x : Int) ≤ 4294967295 := by have : r.x ≤ 4294967295 := hrs.2.1; omega
  have hiI : (i : Int) ≤ 1000000 := by omega
  have hltI : (i : Int) < len := by omega
  have HK := Lib.hid (fun u => refKnown_any 21 u)
  rw [show insKnown 21 = true from known0 21 (by decide)] at HK
  have hT := fun u => ref_holds21 r.a k u hrs.1 (by first | exact hk | exact hrs.2.1)
  rw [hB] at hT
  have HT := Lib.hid hT
  have HL := Lib.hid (fun u => ref_least jf u)
  have hw1 : IntKind.i64.wrap ((i : Int) + 1 + max jf 0) = q := by rw [← hq]; exact IntWalk.i64_left _
  clear hT hB hq
  generalize max jf 0 = M at *
  have hP := steps_of w r 21 jt jf k hr
  have a1 : Below w.heap.size w ((w.alloc (Obj.cells r.arr 45)).alloc (Obj.cells #[.int .u32 0, .int .u32 0, .int .u32 0, .int .u32 0, .int .u32 0, .int .u32 0, .int .u32 0, .int .u32 0, .int .u32 0, .int .u32 0, .int .u32 0, .int .u32 0, .int .u32 0, .int .u32 0, .int .u32 0, .int .u32 0, .int .u32 0, .int .u32 0, .int .i64 0, .int .u32 0, .bool false, .bool false] 45)) := alloc2 w _ _
  obtain ⟨c0, c1, c2, c3⟩ := hi.below a1 hb
  dsimp only at c0 c1 c2 c3
  have hm : IsR ((w.alloc (Obj.cells r.arr 45)).alloc (Obj.cells #[.int .u32 0, .int .u32 0, .int .u32 0, .int .u32 0, .int .u32 0, .int .u32 0, .int .u32 0, .int .u32 0, .int .u32 0, .int .u32 0, .int .u32 0, .int .u32 0, .int .u32 0, .int .u32 0, .int .u32 0, .int .u32 0, .int .u32 0, .int .u32 0, .int .i64 0, .int .u32 0, .bool false, .bool false] 45)) w.heap.size r := ⟨(heap_alloc_old _ _ (by simp)).trans (heap_alloc_new w _), hr⟩
  obtain ⟨_, _, q18, _⟩ := hm.facts
  rw [hat] at q18
  have HAT := Lib.hid hat
  clear hm hat hi a1
  go_enter Try.func17, Try.ntmps17
  go_wp2_with fail
  refine (HK.out _).mono ?_
  rintro e w5 ⟨rfl, rfl⟩
  go_upto_region 5 with fail
  generalize (((w.alloc (Obj.cells r.arr 45)).alloc (Obj.cells #[.int .u32 0, .int .u32 0, .int .u32 0, .int .u32 0, .int .u32 0, .int .u32 0, .int .u32 0, .int .u32 0, .int .u32 0, .int .u32 0, .int .u32 0, .int .u32 0, .int .u32 0, .int .u32 0, .int .u32 0, .int .u32 0, .int .u32 0, .int .u32 0, .int .i64 0, .int .u32 0, .bool false, .bool false] 45)).alloc (Obj.cells #[.int .i64 21, .int .i64 jt, .int .i64 jf, .int .u32 (k : Int)] 35)) = w3 at *
  clear c0 c1 c2 c3 q18
  obtain ⟨_, _, q18, _⟩ := hP.m.facts
  rw [HAT.out] at q18
  have fz := block_frozen hP.m.blk 18
  have HP := Lib.hid (hP.setAt (i + 1))
  clear hP
  go_upto_region 6 with fail
  generalize w3.setCell ⟨w.heap.size, 18, none⟩ (.int .i64 ((i : Int) + 1)) = wA at *
  clear q18 fz
  have i0 := below_cell (Below.refl _ wA) HP.out.i 0 rfl
  have i1 := below_cell (Below.refl _ wA) HP.out.i 1 rfl
  have i2 := below_cell (Below.refl _ wA) HP.out.i 2 rfl
  have i3 := below_cell (Below.refl _ wA) HP.out.i 3 rfl
  obtain ⟨r0, r1, r18, r19, r20, r21⟩ := HP.out.m.facts
  dsimp only at r0 r1 r18 r19 r20 r21
  go_wp2_with fail
  refine (HT.out _).mono ?_
  rintro e w5 ⟨rfl, rfl⟩
  have fz := block_frozen HP.out.m.blk 18
  have hE : StepsE w (wA.setCell ⟨w.heap.size, 18, none⟩ (.int .i64 q)).drew { r with at' := q } := (HP.out.last.set 18 _ (HP.out.m.setAt q)).drew
  have HE := Lib.hid hE
  clear hE
  go_upto_region 31 with fail
  go_region_with (go_at_call 29; refine (HL.out _).mono ?_; rintro e w1 ⟨rfl, rfl⟩)
  all_goals
    generalize (wA.setCell ⟨w.heap.size, 18, none⟩ (.int .i64 q)).drew = wB at *
    clear fz
    clear r0 r1 r18 r19 r20 r21 i0 i1 i2 i3
    have hsz := rarr_size { r with at' := q } HE.out.m.len
    have hI : (Try.prog.info? 45).map (fun i => i.size) = some (RM.arr { r with at' := q }).size := by rw [hsz]; exact infoRM
    have H1 := Lib.hid hI
    have H2 := Lib.hid (rarr_one { r with at' := q })
    have hso : rm0.arr.size = (RM.arr { r with at' := q }).size := by rw [hsz]; rfl
    have H3 := Lib.hid hso
    clear hsz hI hso
    generalize hRR : RM.arr { r with at' := q } = R at *
    have HB := Lib.hid HE.out.m.blk
    rw [hRR] at HB
    have HRR := Lib.hid hRR
    clear hRR
    go_wp2_with (first | (refine wpList_load_row rfl 45 _ rfl w.heap.size rfl 45 R (0, 0) _ HB.out Try.underlying45 rfl H1.out ?_) | (refine wpList_store_row rfl 45 _ _ rfl (w.heap.size + 1) R rfl rfl 45 rm0.arr HE.out.o H1.out H3.out H2.out ?_))
    refine bodyPost_ret (v := .agg R) (results_cell_row rfl _ _ (w.heap.size + 1) 45 R (0, 0) _ rfl (setRow_heap _ _ _ _ _ _ HE.out.o) Try.underlying45 rfl H1.out) rfl ⟨by rw [← HRR.out], ?_⟩
    exact below_setRow HE.out.b (by omega) _

set_option maxRecDepth 100000 in
set_option maxHeartbeats 1000000 in
theorem ref_step29t (r : RM) (A : Option Addr) (len cap : Nat) (b off i k : Nat) (jt jf : Int) (rec : ByteArray) (w : World) (hr : r.cells.length = 16) (hrs : r.mach.small) (hs : rec.size = 64) (hat : r.at' = (i : Int)) (hlt : i < len) (hlen : len ≤ 1000000)
    (hb : b < w.heap.size) (hi : InsAt w b (off + i * 4) ⟨29, jt, jf, k⟩) (hk : k ≤ 4294967295) (ht : -9223372036854775808 ≤ jt ∧ jt ≤ 9223372036854775807) (hf : -9223372036854775808 ≤ jf ∧ jf ≤ 9223372036854775807) (hB : jumpB 21 r.a r.x = true) (q : Int) (hq : wrap64 ((i : Int) + 1 + max jt 0) = q) :
    Calls Try.prog 17 #[.agg r.arr, .slice (some ⟨b, off, none⟩) len cap, .string rec] w fun e w' => e = .returned (.agg ((deedD r.mach 29 k jt jf).runR rec { r with at' := r.at' + 1 }).arr) ∧ Below w.heap.size w w' := by
  have hD : (deedD r.mach 29 k jt jf).runR rec { r with at' := r.at' + 1 } = { r with at' := q } := by
    rw [hat]
    show Deed.runR rec { r with at' := (i : Int) + 1 } (.over (if jumpB 21 r.a r.x then jt else jf)) = _
    rw [hB]
    show ({ r with at' := wrap64 ((i : Int) + 1 + max jt 0) } : RM) = _
    rw [hq]
  rw [hD]
  clear hD
  have hkI : (k : Int) ≤ 4294967295 := by omega
  have haI : (r.a : Int) ≤ 4294967295 := by have : r.a ≤ 4294967295 := hrs.1; omega
  have hxI : (r.x : Int) ≤ 4294967295 := by have : r.x ≤ 4294967295 := hrs.2.1; omega
  have hiI : (i : Int) ≤ 1000000 := by omega
  have hltI : (i : Int) < len := by omega
  have HK := Lib.hid (fun u => refKnown_any 29 u)
  rw [show insKnown 29 = true from known0 29 (by decide)] at HK
  have hT := fun u => ref_holds21 r.a r.x u hrs.1 (by first | exact hk | exact hrs.2.1)
  rw [hB] at hT
  have HT := Lib.hid hT
  have HL := Lib.hid (fun u => ref_least jt u)
  have hw1 : IntKind.i64.wrap ((i : Int) + 1 + max jt 0) = q := by rw [← hq]; exact IntWalk.i64_left _
  clear hT hB hq
  generalize max jt 0 = M at *
  have hP := steps_of w r 29 jt jf k hr
  have a1 : Below w.heap.size w ((w.alloc (Obj.cells r.arr 45)).alloc (Obj.cells #[.int .u32 0, .int .u32 0, .int .u32 0, .int .u32 0, .int .u32 0, .int .u32 0, .int .u32 0, .int .u32 0, .int .u32 0, .int .u32 0, .int .u32 0, .int .u32 0, .int .u32 0, .int .u32 0, .int .u32 0, .int .u32 0, .int .u32 0, .int .u32 0, .int .i64 0, .int .u32 0, .bool false, .bool false] 45)) := alloc2 w _ _
  obtain ⟨c0, c1, c2, c3⟩ := hi.below a1 hb
  dsimp only at c0 c1 c2 c3
  have hm : IsR ((w.alloc (Obj.cells r.arr 45)).alloc (Obj.cells #[.int .u32 0, .int .u32 0, .int .u32 0, .int .u32 0, .int .u32 0, .int .u32 0, .int .u32 0, .int .u32 0, .int .u32 0, .int .u32 0, .int .u32 0, .int .u32 0, .int .u32 0, .int .u32 0, .int .u32 0, .int .u32 0, .int .u32 0, .int .u32 0, .int .i64 0, .int .u32 0, .bool false, .bool false] 45)) w.heap.size r := ⟨(heap_alloc_old _ _ (by simp)).trans (heap_alloc_new w _), hr⟩
  obtain ⟨_, _, q18, _⟩ := hm.facts
  rw [hat] at q18
  have HAT := Lib.hid hat
  clear hm hat hi a1
  go_enter Try.func17, Try.ntmps17
  go_wp2_with fail
  refine (HK.out _).mono ?_
  rintro e w5 ⟨rfl, rfl⟩
  go_upto_region 5 with fail
  generalize (((w.alloc (Obj.cells r.arr 45)).alloc (Obj.cells #[.int .u32 0, .int .u32 0, .int .u32 0, .int .u32 0, .int .u32 0, .int .u32 0, .int .u32 0, .int .u32 0, .int .u32 0, .int .u32 0, .int .u32 0, .int .u32 0, .int .u32 0, .int .u32 0, .int .u32 0, .int .u32 0, .int .u32 0, .int .u32 0, .int .i64 0, .int .u32 0, .bool false, .bool false] 45)).alloc (Obj.cells #[.int .i64 29, .int .i64 jt, .int .i64 jf, .int .u32 (k : Int)] 35)) = w3 at *
  clear c0 c1 c2 c3 q18
  obtain ⟨_, _, q18, _⟩ := hP.m.facts
  rw [HAT.out] at q18
  have fz := block_frozen hP.m.blk 18
  have HP := Lib.hid (hP.setAt (i + 1))
  clear hP
  go_upto_region 6 with fail
  generalize w3.setCell ⟨w.heap.size, 18, none⟩ (.int .i64 ((i : Int) + 1)) = wA at *
  clear q18 fz
  have i0 := below_cell (Below.refl _ wA) HP.out.i 0 rfl
  have i1 := below_cell (Below.refl _ wA) HP.out.i 1 rfl
  have i2 := below_cell (Below.refl _ wA) HP.out.i 2 rfl
  have i3 := below_cell (Below.refl _ wA) HP.out.i 3 rfl
  obtain ⟨r0, r1, r18, r19, r20, r21⟩ := HP.out.m.facts
  dsimp only at r0 r1 r18 r19 r20 r21
  go_wp2_with fail
  refine (HT.out _).mono ?_
  rintro e w5 ⟨rfl, rfl⟩
  have fz := block_frozen HP.out.m.blk 18
  have hE : StepsE w (wA.setCell ⟨w.heap.size, 18, none⟩ (.int .i64 q)).drew { r with at' := q } := (HP.out.last.set 18 _ (HP.out.m.setAt q)).drew
  have HE := Lib.hid hE
  clear hE
  go_upto_region 30 with fail
  go_region_with (go_at_call 29; refine (HL.out _).mono ?_; rintro e w1 ⟨rfl, rfl⟩)
  all_goals
    generalize (wA.setCell ⟨w.heap.size, 18, none⟩ (.int .i64 q)).drew = wB at *
    clear fz
    clear r0 r1 r18 r19 r20 r21 i0 i1 i2 i3
    have hsz := rarr_size { r with at' := q } HE.out.m.len
    have hI : (Try.prog.info? 45).map (fun i => i.size) = some (RM.arr { r with at' := q }).size := by rw [hsz]; exact infoRM
    have H1 := Lib.hid hI
    have H2 := Lib.hid (rarr_one { r with at' := q })
    have hso : rm0.arr.size = (RM.arr { r with at' := q }).size := by rw [hsz]; rfl
    have H3 := Lib.hid hso
    clear hsz hI hso
    generalize hRR : RM.arr { r with at' := q } = R at *
    have HB := Lib.hid HE.out.m.blk
    rw [hRR] at HB
    have HRR := Lib.hid hRR
    clear hRR
    go_wp2_with (first | (refine wpList_load_row rfl 45 _ rfl w.heap.size rfl 45 R (0, 0) _ HB.out Try.underlying45 rfl H1.out ?_) | (refine wpList_store_row rfl 45 _ _ rfl (w.heap.size + 1) R rfl rfl 45 rm0.arr HE.out.o H1.out H3.out H2.out ?_))
    refine bodyPost_ret (v := .agg R) (results_cell_row rfl _ _ (w.heap.size + 1) 45 R (0, 0) _ rfl (setRow_heap _ _ _ _ _ _ HE.out.o) Try.underlying45 rfl H1.out) rfl ⟨by rw [← HRR.out], ?_⟩
    exact below_setRow HE.out.b (by omega) _

set_option maxRecDepth 100000 in
set_option maxHeartbeats 1000000 in
theorem ref_step29f (r : RM) (A : Option Addr) (len cap : Nat) (b off i k : Nat) (jt jf : Int) (rec : ByteArray) (w : World) (hr : r.cells.length = 16) (hrs : r.mach.small) (hs : rec.size = 64) (hat : r.at' = (i : Int)) (hlt : i < len) (hlen : len ≤ 1000000)
    (hb : b < w.heap.size) (hi : InsAt w b (off + i * 4) ⟨29, jt, jf, k⟩) (hk : k ≤ 4294967295) (ht : -9223372036854775808 ≤ jt ∧ jt ≤ 9223372036854775807) (hf : -9223372036854775808 ≤ jf ∧ jf ≤ 9223372036854775807) (hB : jumpB 21 r.a r.x = false) (q : Int) (hq : wrap64 ((i : Int) + 1 + max jf 0) = q) :
    Calls Try.prog 17 #[.agg r.arr, .slice (some ⟨b, off, none⟩) len cap, .string rec] w fun e w' => e = .returned (.agg ((deedD r.mach 29 k jt jf).runR rec { r with at' := r.at' + 1 }).arr) ∧ Below w.heap.size w w' := by
  have hD : (deedD r.mach 29 k jt jf).runR rec { r with at' := r.at' + 1 } = { r with at' := q } := by
    rw [hat]
    show Deed.runR rec { r with at' := (i : Int) + 1 } (.over (if jumpB 21 r.a r.x then jt else jf)) = _
    rw [hB]
    show ({ r with at' := wrap64 ((i : Int) + 1 + max jf 0) } : RM) = _
    rw [hq]
  rw [hD]
  clear hD
  have hkI : (k : Int) ≤ 4294967295 := by omega
  have haI : (r.a : Int) ≤ 4294967295 := by have : r.a ≤ 4294967295 := hrs.1; omega
  have hxI : (r.x : Int) ≤ 4294967295 := by have : r.x ≤ 4294967295 := hrs.2.1; omega
  have hiI : (i : Int) ≤ 1000000 := by omega
  have hltI : (i : Int) < len := by omega
  have HK := Lib.hid (fun u => refKnown_any 29 u)
  rw [show insKnown 29 = true from known0 29 (by decide)] at HK
  have hT := fun u => ref_holds21 r.a r.x u hrs.1 (by first | exact hk | exact hrs.2.1)
  rw [hB] at hT
  have HT := Lib.hid hT
  have HL := Lib.hid (fun u => ref_least jf u)
  have hw1 : IntKind.i64.wrap ((i : Int) + 1 + max jf 0) = q := by rw [← hq]; exact IntWalk.i64_left _
  clear hT hB hq
  generalize max jf 0 = M at *
  have hP := steps_of w r 29 jt jf k hr
  have a1 : Below w.heap.size w ((w.alloc (Obj.cells r.arr 45)).alloc (Obj.cells #[.int .u32 0, .int .u32 0, .int .u32 0, .int .u32 0, .int .u32 0, .int .u32 0, .int .u32 0, .int .u32 0, .int .u32 0, .int .u32 0, .int .u32 0, .int .u32 0, .int .u32 0, .int .u32 0, .int .u32 0, .int .u32 0, .int .u32 0, .int .u32 0, .int .i64 0, .int .u32 0, .bool false, .bool false] 45)) := alloc2 w _ _
  obtain ⟨c0, c1, c2, c3⟩ := hi.below a1 hb
  dsimp only at c0 c1 c2 c3
  have hm : IsR ((w.alloc (Obj.cells r.arr 45)).alloc (Obj.cells #[.int .u32 0, .int .u32 0, .int .u32 0, .int .u32 0, .int .u32 0, .int .u32 0, .int .u32 0, .int .u32 0, .int .u32 0, .int .u32 0, .int .u32 0, .int .u32 0, .int .u32 0, .int .u32 0, .int .u32 0, .int .u32 0, .int .u32 0, .int .u32 0, .int .i64 0, .int .u32 0, .bool false, .bool false] 45)) w.heap.size r := ⟨(heap_alloc_old _ _ (by simp)).trans (heap_alloc_new w _), hr⟩
  obtain ⟨_, _, q18, _⟩ := hm.facts
  rw [hat] at q18
  have HAT := Lib.hid hat
  clear hm hat hi a1
  go_enter Try.func17, Try.ntmps17
  go_wp2_with fail
  refine (HK.out _).mono ?_
  rintro e w5 ⟨rfl, rfl⟩
  go_upto_region 5 with fail
  generalize (((w.alloc (Obj.cells r.arr 45)).alloc (Obj.cells #[.int .u32 0, .int .u32 0, .int .u32 0, .int .u32 0, .int .u32 0, .int .u32 0, .int .u32 0, .int .u32 0, .int .u32 0, .int .u32 0, .int .u32 0, .int .u32 0, .int .u32 0, .int .u32 0, .int .u32 0, .int .u32 0, .int .u32 0, .int .u32 0, .int .i64 0, .int .u32 0, .bool false, .bool false] 45)).alloc (Obj.cells #[.int .i64 29, .int .i64 jt, .int .i64 jf, .int .u32 (k : Int)] 35)) = w3 at *
  clear c0 c1 c2 c3 q18
  obtain ⟨_, _, q18, _⟩ := hP.m.facts
  rw [HAT.out] at q18
  have fz := block_frozen hP.m.blk 18
  have HP := Lib.hid (hP.setAt (i + 1))
  clear hP
  go_upto_region 6 with fail
  generalize w3.setCell ⟨w.heap.size, 18, none⟩ (.int .i64 ((i : Int) + 1)) = wA at *
  clear q18 fz
  have i0 := below_cell (Below.refl _ wA) HP.out.i 0 rfl
  have i1 := below_cell (Below.refl _ wA) HP.out.i 1 rfl
  have i2 := below_cell (Below.refl _ wA) HP.out.i 2 rfl
  have i3 := below_cell (Below.refl _ wA) HP.out.i 3 rfl
  obtain ⟨r0, r1, r18, r19, r20, r21⟩ := HP.out.m.facts
  dsimp only at r0 r1 r18 r19 r20 r21
  go_wp2_with fail
  refine (HT.out _).mono ?_
  rintro e w5 ⟨rfl, rfl⟩
  have fz := block_frozen HP.out.m.blk 18
  have hE : StepsE w (wA.setCell ⟨w.heap.size, 18, none⟩ (.int .i64 q)).drew { r with at' := q } := (HP.out.last.set 18 _ (HP.out.m.setAt q)).drew
  have HE := Lib.hid hE
  clear hE
  go_upto_region 31 with fail
  go_region_with (go_at_call 29; refine (HL.out _).mono ?_; rintro e w1 ⟨rfl, rfl⟩)
  all_goals
    generalize (wA.setCell ⟨w.heap.size, 18, none⟩ (.int .i64 q)).drew = wB at *
    clear fz
    clear r0 r1 r18 r19 r20 r21 i0 i1 i2 i3
    have hsz := rarr_size { r with at' := q } HE.out.m.len
    have hI : (Try.prog.info? 45).map (fun i => i.size) = some (RM.arr { r with at' := q }).size := by rw [hsz]; exact infoRM
    have H1 := Lib.hid hI
    have H2 := Lib.hid (rarr_one { r with at' := q })
    have hso : rm0.arr.size = (RM.arr { r with at' := q }).size := by rw [hsz]; rfl
    have H3 := Lib.hid hso
    clear hsz hI hso
    generalize hRR : RM.arr { r with at' := q } = R at *
    have HB := Lib.hid HE.out.m.blk
    rw [hRR] at HB
    have HRR := Lib.hid hRR
    clear hRR
    go_wp2_with (first | (refine wpList_load_row rfl 45 _ rfl w.heap.size rfl 45 R (0, 0) _ HB.out Try.underlying45 rfl H1.out ?_) | (refine wpList_store_row rfl 45 _ _ rfl (w.heap.size + 1) R rfl rfl 45 rm0.arr HE.out.o H1.out H3.out H2.out ?_))
    refine bodyPost_ret (v := .agg R) (results_cell_row rfl _ _ (w.heap.size + 1) 45 R (0, 0) _ rfl (setRow_heap _ _ _ _ _ _ HE.out.o) Try.underlying45 rfl H1.out) rfl ⟨by rw [← HRR.out], ?_⟩
    exact below_setRow HE.out.b (by omega) _

set_option maxRecDepth 100000 in
set_option maxHeartbeats 1000000 in
theorem ref_step37t (r : RM) (A : Option Addr) (len cap : Nat) (b off i k : Nat) (jt jf : Int) (rec : ByteArray) (w : World) (hr : r.cells.length = 16) (hrs : r.mach.small) (hs : rec.size = 64) (hat : r.at' = (i : Int)) (hlt : i < len) (hlen : len ≤ 1000000)
    (hb : b < w.heap.size) (hi : InsAt w b (off + i * 4) ⟨37, jt, jf, k⟩) (hk : k ≤ 4294967295) (ht : -9223372036854775808 ≤ jt ∧ jt ≤ 9223372036854775807) (hf : -9223372036854775808 ≤ jf ∧ jf ≤ 9223372036854775807) (hB : jumpB 37 r.a k = true) (q : Int) (hq : wrap64 ((i : Int) + 1 + max jt 0) = q) :
    Calls Try.prog 17 #[.agg r.arr, .slice (some ⟨b, off, none⟩) len cap, .string rec] w fun e w' => e = .returned (.agg ((deedD r.mach 37 k jt jf).runR rec { r with at' := r.at' + 1 }).arr) ∧ Below w.heap.size w w' := by
  have hD : (deedD r.mach 37 k jt jf).runR rec { r with at' := r.at' + 1 } = { r with at' := q } := by
    rw [hat]
    show Deed.runR rec { r with at' := (i : Int) + 1 } (.over (if jumpB 37 r.a k then jt else jf)) = _
    rw [hB]
    show ({ r with at' := wrap64 ((i : Int) + 1 + max jt 0) } : RM) = _
    rw [hq]
  rw [hD]
  clear hD
  have hkI : (k : Int) ≤ 4294967295 := by omega
  have haI : (r.a : Int) ≤ 4294967295 := by have : r.a ≤ 4294967295 := hrs.1; omega
  have hxI : (r.x : Int) ≤ 4294967295 := by have : r.x ≤ 4294967295 := hrs.2.1; omega
  have hiI : (i : Int) ≤ 1000000 := by omega
  have hltI : (i : Int) < len := by omega
  have HK := Lib.hid (fun u => refKnown_any 37 u)
  rw [show insKnown 37 = true from known0 37 (by decide)] at HK
  have hT := fun u => ref_holds37 r.a k u hrs.1 (by first | exact hk | exact hrs.2.1)
  rw [hB] at hT
  have HT := Lib.hid hT
  have HL := Lib.hid (fun u => ref_least jt u)
  have hw1 : IntKind.i64.wrap ((i : Int) + 1 + max jt 0) = q := by rw [← hq]; exact IntWalk.i64_left _
  clear hT hB hq
  generalize max jt 0 = M at *
  have hP := steps_of w r 37 jt jf k hr
  have a1 : Below w.heap.size w ((w.alloc (Obj.cells r.arr 45)).alloc (Obj.cells #[.int .u32 0, .int .u32 0, .int .u32 0, .int .u32 0, .int .u32 0, .int .u32 0, .int .u32 0, .int .u32 0, .int .u32 0, .int .u32 0, .int .u32 0, .int .u32 0, .int .u32 0, .int .u32 0, .int .u32 0, .int .u32 0, .int .u32 0, .int .u32 0, .int .i64 0, .int .u32 0, .bool false, .bool false] 45)) := alloc2 w _ _
  obtain ⟨c0, c1, c2, c3⟩ := hi.below a1 hb
  dsimp only at c0 c1 c2 c3
  have hm : IsR ((w.alloc (Obj.cells r.arr 45)).alloc (Obj.cells #[.int .u32 0, .int .u32 0, .int .u32 0, .int .u32 0, .int .u32 0, .int .u32 0, .int .u32 0, .int .u32 0, .int .u32 0, .int .u32 0, .int .u32 0, .int .u32 0, .int .u32 0, .int .u32 0, .int .u32 0, .int .u32 0, .int .u32 0, .int .u32 0, .int .i64 0, .int .u32 0, .bool false, .bool false] 45)) w.heap.size r := ⟨(heap_alloc_old _ _ (by simp)).trans (heap_alloc_new w _), hr⟩
  obtain ⟨_, _, q18, _⟩ := hm.facts
  rw [hat] at q18
  have HAT := Lib.hid hat
  clear hm hat hi a1
  go_enter Try.func17, Try.ntmps17
  go_wp2_with fail
  refine (HK.out _).mono ?_
  rintro e w5 ⟨rfl, rfl⟩
  go_upto_region 5 with fail
  generalize (((w.alloc (Obj.cells r.arr 45)).alloc (Obj.cells #[.int .u32 0, .int .u32 0, .int .u32 0, .int .u32 0, .int .u32 0, .int .u32 0, .int .u32 0, .int .u32 0, .int .u32 0, .int .u32 0, .int .u32 0, .int .u32 0, .int .u32 0, .int .u32 0, .int .u32 0, .int .u32 0, .int .u32 0, .int .u32 0, .int .i64 0, .int .u32 0, .bool false, .bool false] 45)).alloc (Obj.cells #[.int .i64 37, .int .i64 jt, .int .i64 jf, .int .u32 (k : Int)] 35)) = w3 at *
  clear c0 c1 c2 c3 q18
  obtain ⟨_, _, q18, _⟩ := hP.m.facts
  rw [HAT.out] at q18
  have fz := block_frozen hP.m.blk 18
  have HP := Lib.hid (hP.setAt (i + 1))
  clear hP
  go_upto_region 6 with fail
  generalize w3.setCell ⟨w.heap.size, 18, none⟩ (.int .i64 ((i : Int) + 1)) = wA at *
  clear q18 fz
  have i0 := below_cell (Below.refl _ wA) HP.out.i 0 rfl
  have i1 := below_cell (Below.refl _ wA) HP.out.i 1 rfl
  have i2 := below_cell (Below.refl _ wA) HP.out.i 2 rfl
  have i3 := below_cell (Below.refl _ wA) HP.out.i 3 rfl
  obtain ⟨r0, r1, r18, r19, r20, r21⟩ := HP.out.m.facts
  dsimp only at r0 r1 r18 r19 r20 r21
  go_wp2_with fail
  refine (HT.out _).mono ?_
  rintro e w5 ⟨rfl, rfl⟩
  have fz := block_frozen HP.out.m.blk 18
  have hE : StepsE w (wA.setCell ⟨w.heap.size, 18, none⟩ (.int .i64 q)).drew { r with at' := q } := (HP.out.last.set 18 _ (HP.out.m.setAt q)).drew
  have HE := Lib.hid hE
  clear hE
  go_upto_region 30 with fail
  go_region_with (go_at_call 29; refine (HL.out _).mono ?_; rintro e w1 ⟨rfl, rfl⟩)
  all_goals
    generalize (wA.setCell ⟨w.heap.size, 18, none⟩ (.int .i64 q)).drew = wB at *
    clear fz
    clear r0 r1 r18 r19 r20 r21 i0 i1 i2 i3
    have hsz := rarr_size { r with at' := q } HE.out.m.len
    have hI : (Try.prog.info? 45).map (fun i => i.size) = some (RM.arr { r with at' := q }).size := by rw [hsz]; exact infoRM
    have H1 := Lib.hid hI
    have H2 := Lib.hid (rarr_one { r with at' := q })
    have hso : rm0.arr.size = (RM.arr { r with at' := q }).size := by rw [hsz]; rfl
    have H3 := Lib.hid hso
    clear hsz hI hso
    generalize hRR : RM.arr { r with at' := q } = R at *
    have HB := Lib.hid HE.out.m.blk
    rw [hRR] at HB
    have HRR := Lib.hid hRR
    clear hRR
    go_wp2_with (first | (refine wpList_load_row rfl 45 _ rfl w.heap.size rfl 45 R (0, 0) _ HB.out Try.underlying45 rfl H1.out ?_) | (refine wpList_store_row rfl 45 _ _ rfl (w.heap.size + 1) R rfl rfl 45 rm0.arr HE.out.o H1.out H3.out H2.out ?_))
    refine bodyPost_ret (v := .agg R) (results_cell_row rfl _ _ (w.heap.size + 1) 45 R (0, 0) _ rfl (setRow_heap _ _ _ _ _ _ HE.out.o) Try.underlying45 rfl H1.out) rfl ⟨by rw [← HRR.out], ?_⟩
    exact below_setRow HE.out.b (by omega) _

set_option maxRecDepth 100000 in
set_option maxHeartbeats 1000000 in
theorem ref_step37f (r : RM) (A : Option Addr) (len cap : Nat) (b off i k : Nat) (jt jf : Int) (rec : ByteArray) (w : World) (hr : r.cells.length = 16) (hrs : r.mach.small) (hs : rec.size = 64) (hat : r.at' = (i : Int)) (hlt : i < len) (hlen : len ≤ 1000000)
    (hb : b < w.heap.size) (hi : InsAt w b (off + i * 4) ⟨37, jt, jf, k⟩) (hk : k ≤ 4294967295) (ht : -9223372036854775808 ≤ jt ∧ jt ≤ 9223372036854775807) (hf : -9223372036854775808 ≤ jf ∧ jf ≤ 9223372036854775807) (hB : jumpB 37 r.a k = false) (q : Int) (hq : wrap64 ((i : Int) + 1 + max jf 0) = q) :
    Calls Try.prog 17 #[.agg r.arr, .slice (some ⟨b, off, none⟩) len cap, .string rec] w fun e w' => e = .returned (.agg ((deedD r.mach 37 k jt jf).runR rec { r with at' := r.at' + 1 }).arr) ∧ Below w.heap.size w w' := by
  have hD : (deedD r.mach 37 k jt jf).runR rec { r with at' := r.at' + 1 } = { r with at' := q } := by
    rw [hat]
    show Deed.runR rec { r with at' := (i : Int) + 1 } (.over (if jumpB 37 r.a k then jt else jf)) = _
    rw [hB]
    show ({ r with at' := wrap64 ((i : Int) + 1 + max jf 0) } : RM) = _
    rw [hq]
  rw [hD]
  clear hD
  have hkI : (k : Int) ≤ 4294967295 := by omega
  have haI : (r.a : Int) ≤ 4294967295 := by have : r.a ≤ 4294967295 := hrs.1; omega
  have hxI : (r.x : Int) ≤ 4294967295 := by have : r.x ≤ 4294967295 := hrs.2.1; omega
  have hiI : (i : Int) ≤ 1000000 := by omega
  have hltI : (i : Int) < len := by omega
  have HK := Lib.hid (fun u => refKnown_any 37 u)
  rw [show insKnown 37 = true from known0 37 (by decide)] at HK
  have hT := fun u => ref_holds37 r.a k u hrs.1 (by first | exact hk | exact hrs.2.1)
  rw [hB] at hT
  have HT := Lib.hid hT
  have HL := Lib.hid (fun u => ref_least jf u)
  have hw1 : IntKind.i64.wrap ((i : Int) + 1 + max jf 0) = q := by rw [← hq]; exact IntWalk.i64_left _
  clear hT hB hq
  generalize max jf 0 = M at *
  have hP := steps_of w r 37 jt jf k hr
  have a1 : Below w.heap.size w ((w.alloc (Obj.cells r.arr 45)).alloc (Obj.cells #[.int .u32 0, .int .u32 0, .int .u32 0, .int .u32 0, .int .u32 0, .int .u32 0, .int .u32 0, .int .u32 0, .int .u32 0, .int .u32 0, .int .u32 0, .int .u32 0, .int .u32 0, .int .u32 0, .int .u32 0, .int .u32 0, .int .u32 0, .int .u32 0, .int .i64 0, .int .u32 0, .bool false, .bool false] 45)) := alloc2 w _ _
  obtain ⟨c0, c1, c2, c3⟩ := hi.below a1 hb
  dsimp only at c0 c1 c2 c3
  have hm : IsR ((w.alloc (Obj.cells r.arr 45)).alloc (Obj.cells #[.int .u32 0, .int .u32 0, .int .u32 0, .int .u32 0, .int .u32 0, .int .u32 0, .int .u32 0, .int .u32 0, .int .u32 0, .int .u32 0, .int .u32 0, .int .u32 0, .int .u32 0, .int .u32 0, .int .u32 0, .int .u32 0, .int .u32 0, .int .u32 0, .int .i64 0, .int .u32 0, .bool false, .bool false] 45)) w.heap.size r := ⟨(heap_alloc_old _ _ (by simp)).trans (heap_alloc_new w _), hr⟩
  obtain ⟨_, _, q18, _⟩ := hm.facts
  rw [hat] at q18
  have HAT := Lib.hid hat
  clear hm hat hi a1
  go_enter Try.func17, Try.ntmps17
  go_wp2_with fail
  refine (HK.out _).mono ?_
  rintro e w5 ⟨rfl, rfl⟩
  go_upto_region 5 with fail
  generalize (((w.alloc (Obj.cells r.arr 45)).alloc (Obj.cells #[.int .u32 0, .int .u32 0, .int .u32 0, .int .u32 0, .int .u32 0, .int .u32 0, .int .u32 0, .int .u32 0, .int .u32 0, .int .u32 0, .int .u32 0, .int .u32 0, .int .u32 0, .int .u32 0, .int .u32 0, .int .u32 0, .int .u32 0, .int .u32 0, .int .i64 0, .int .u32 0, .bool false, .bool false] 45)).alloc (Obj.cells #[.int .i64 37, .int .i64 jt, .int .i64 jf, .int .u32 (k : Int)] 35)) = w3 at *
  clear c0 c1 c2 c3 q18
  obtain ⟨_, _, q18, _⟩ := hP.m.facts
  rw [HAT.out] at q18
  have fz := block_frozen hP.m.blk 18
  have HP := Lib.hid (hP.setAt (i + 1))
  clear hP
  go_upto_region 6 with fail
  generalize w3.setCell ⟨w.heap.size, 18, none⟩ (.int .i64 ((i : Int) + 1)) = wA at *
  clear q18 fz
  have i0 := below_cell (Below.refl _ wA) HP.out.i 0 rfl
  have i1 := below_cell (Below.refl _ wA) HP.out.i 1 rfl
  have i2 := below_cell (Below.refl _ wA) HP.out.i 2 rfl
  have i3 := below_cell (Below.refl _ wA) HP.out.i 3 rfl
  obtain ⟨r0, r1, r18, r19, r20, r21⟩ := HP.out.m.facts
  dsimp only at r0 r1 r18 r19 r20 r21
  go_wp2_with fail
  refine (HT.out _).mono ?_
  rintro e w5 ⟨rfl, rfl⟩
  have fz := block_frozen HP.out.m.blk 18
  have hE : StepsE w (wA.setCell ⟨w.heap.size, 18, none⟩ (.int .i64 q)).drew { r with at' := q } := (HP.out.last.set 18 _ (HP.out.m.setAt q)).drew
  have HE := Lib.hid hE
  clear hE
  go_upto_region 31 with fail
  go_region_with (go_at_call 29; refine (HL.out _).mono ?_; rintro e w1 ⟨rfl, rfl⟩)
  all_goals
    generalize (wA.setCell ⟨w.heap.size, 18, none⟩ (.int .i64 q)).drew = wB at *
    clear fz
    clear r0 r1 r18 r19 r20 r21 i0 i1 i2 i3
    have hsz := rarr_size { r with at' := q } HE.out.m.len
    have hI : (Try.prog.info? 45).map (fun i => i.size) = some (RM.arr { r with at' := q }).size := by rw [hsz]; exact infoRM
    have H1 := Lib.hid hI
    have H2 := Lib.hid (rarr_one { r with at' := q })
    have hso : rm0.arr.size = (RM.arr { r with at' := q }).size := by rw [hsz]; rfl
    have H3 := Lib.hid hso
    clear hsz hI hso
    generalize hRR : RM.arr { r with at' := q } = R at *
    have HB := Lib.hid HE.out.m.blk
    rw [hRR] at HB
    have HRR := Lib.hid hRR
    clear hRR
    go_wp2_with (first | (refine wpList_load_row rfl 45 _ rfl w.heap.size rfl 45 R (0, 0) _ HB.out Try.underlying45 rfl H1.out ?_) | (refine wpList_store_row rfl 45 _ _ rfl (w.heap.size + 1) R rfl rfl 45 rm0.arr HE.out.o H1.out H3.out H2.out ?_))
    refine bodyPost_ret (v := .agg R) (results_cell_row rfl _ _ (w.heap.size + 1) 45 R (0, 0) _ rfl (setRow_heap _ _ _ _ _ _ HE.out.o) Try.underlying45 rfl H1.out) rfl ⟨by rw [← HRR.out], ?_⟩
    exact below_setRow HE.out.b (by omega) _

set_option maxRecDepth 100000 in
set_option maxHeartbeats 1000000 in
theorem ref_step45t (r : RM) (A : Option Addr) (len cap : Nat) (b off i k : Nat) (jt jf : Int) (rec : ByteArray) (w : World) (hr : r.cells.length = 16) (hrs : r.mach.small) (hs : rec.size = 64) (hat : r.at' = (i : Int)) (hlt : i < len) (hlen : len ≤ 1000000)
    (hb : b < w.heap.size) (hi : InsAt w b (off + i * 4) ⟨45, jt, jf, k⟩) (hk : k ≤ 4294967295) (ht : -9223372036854775808 ≤ jt ∧ jt ≤ 9223372036854775807) (hf : -9223372036854775808 ≤ jf ∧ jf ≤ 9223372036854775807) (hB : jumpB 37 r.a r.x = true) (q : Int) (hq : wrap64 ((i : Int) + 1 + max jt 0) = q) :
    Calls Try.prog 17 #[.agg r.arr, .slice (some ⟨b, off, none⟩) len cap, .string rec] w fun e w' => e = .returned (.agg ((deedD r.mach 45 k jt jf).runR rec { r with at' := r.at' + 1 }).arr) ∧ Below w.heap.size w w' := by
  have hD : (deedD r.mach 45 k jt jf).runR rec { r with at' := r.at' + 1 } = { r with at' := q } := by
    rw [hat]
    show Deed.runR rec { r with at' := (i : Int) + 1 } (.over (if jumpB 37 r.a r.x then jt else jf)) = _
    rw [hB]
    show ({ r with at' := wrap64 ((i : Int) + 1 + max jt 0) } : RM) = _
    rw [hq]
  rw [hD]
  clear hD
  have hkI : (k : Int) ≤ 4294967295 := by omega
  have haI : (r.a : Int) ≤ 4294967295 := by have : r.a ≤ 4294967295 := hrs.1; omega
  have hxI : (r.x : Int) ≤ 4294967295 := by have : r.x ≤ 4294967295 := hrs.2.1; omega
  have hiI : (i : Int) ≤ 1000000 := by omega
  have hltI : (i : Int) < len := by omega
  have HK := Lib.hid (fun u => refKnown_any 45 u)
  rw [show insKnown 45 = true from known0 45 (by decide)] at HK
  have hT := fun u => ref_holds37 r.a r.x u hrs.1 (by first | exact hk | exact hrs.2.1)
  rw [hB] at hT
  have HT := Lib.hid hT
  have HL := Lib.hid (fun u => ref_least jt u)
  have hw1 : IntKind.i64.wrap ((i : Int) + 1 + max jt 0) = q := by rw [← hq]; exact IntWalk.i64_left _
  clear hT hB hq
  generalize max jt 0 = M at *
  have hP := steps_of w r 45 jt jf k hr
  have a1 : Below w.heap.size w ((w.alloc (Obj.cells r.arr 45)).alloc (Obj.cells #[.int .u32 0, .int .u32 0, .int .u32 0, .int .u32 0, .int .u32 0, .int .u32 0, .int .u32 0, .int .u32 0, .int .u32 0, .int .u32 0, .int .u32 0, .int .u32 0, .int .u32 0, .int .u32 0, .int .u32 0, .int .u32 0, .int .u32 0, .int .u32 0, .int .i64 0, .int .u32 0, .bool false, .bool false] 45)) := alloc2 w _ _
  obtain ⟨c0, c1, c2, c3⟩ := hi.below a1 hb
  dsimp only at c0 c1 c2 c3
  have hm : IsR ((w.alloc (Obj.cells r.arr 45)).alloc (Obj.cells #[.int .u32 0, .int .u32 0, .int .u32 0, .int .u32 0, .int .u32 0, .int .u32 0, .int .u32 0, .int .u32 0, .int .u32 0, .int .u32 0, .int .u32 0, .int .u32 0, .int .u32 0, .int .u32 0, .int .u32 0, .int .u32 0, .int .u32 0, .int .u32 0, .int .i64 0, .int .u32 0, .bool false, .bool false] 45)) w.heap.size r := ⟨(heap_alloc_old _ _ (by simp)).trans (heap_alloc_new w _), hr⟩
  obtain ⟨_, _, q18, _⟩ := hm.facts
  rw [hat] at q18
  have HAT := Lib.hid hat
  clear hm hat hi a1
  go_enter Try.func17, Try.ntmps17
  go_wp2_with fail
  refine (HK.out _).mono ?_
  rintro e w5 ⟨rfl, rfl⟩
  go_upto_region 5 with fail
  generalize (((w.alloc (Obj.cells r.arr 45)).alloc (Obj.cells #[.int .u32 0, .int .u32 0, .int .u32 0, .int .u32 0, .int .u32 0, .int .u32 0, .int .u32 0, .int .u32 0, .int .u32 0, .int .u32 0, .int .u32 0, .int .u32 0, .int .u32 0, .int .u32 0, .int .u32 0, .int .u32 0, .int .u32 0, .int .u32 0, .int .i64 0, .int .u32 0, .bool false, .bool false] 45)).alloc (Obj.cells #[.int .i64 45, .int .i64 jt, .int .i64 jf, .int .u32 (k : Int)] 35)) = w3 at *
  clear c0 c1 c2 c3 q18
  obtain ⟨_, _, q18, _⟩ := hP.m.facts
  rw [HAT.out] at q18
  have fz := block_frozen hP.m.blk 18
  have HP := Lib.hid (hP.setAt (i + 1))
  clear hP
  go_upto_region 6 with fail
  generalize w3.setCell ⟨w.heap.size, 18, none⟩ (.int .i64 ((i : Int) + 1)) = wA at *
  clear q18 fz
  have i0 := below_cell (Below.refl _ wA) HP.out.i 0 rfl
  have i1 := below_cell (Below.refl _ wA) HP.out.i 1 rfl
  have i2 := below_cell (Below.refl _ wA) HP.out.i 2 rfl
  have i3 := below_cell (Below.refl _ wA) HP.out.i 3 rfl
  obtain ⟨r0, r1, r18, r19, r20, r21⟩ := HP.out.m.facts
  dsimp only at r0 r1 r18 r19 r20 r21
  go_wp2_with fail
  refine (HT.out _).mono ?_
  rintro e w5 ⟨rfl, rfl⟩
  have fz := block_frozen HP.out.m.blk 18
  have hE : StepsE w (wA.setCell ⟨w.heap.size, 18, none⟩ (.int .i64 q)).drew { r with at' := q } := (HP.out.last.set 18 _ (HP.out.m.setAt q)).drew
  have HE := Lib.hid hE
  clear hE
  go_upto_region 30 with fail
  go_region_with (go_at_call 29; refine (HL.out _).mono ?_; rintro e w1 ⟨rfl, rfl⟩)
  all_goals
    generalize (wA.setCell ⟨w.heap.size, 18, none⟩ (.int .i64 q)).drew = wB at *
    clear fz
    clear r0 r1 r18 r19 r20 r21 i0 i1 i2 i3
    have hsz := rarr_size { r with at' := q } HE.out.m.len
    have hI : (Try.prog.info? 45).map (fun i => i.size) = some (RM.arr { r with at' := q }).size := by rw [hsz]; exact infoRM
    have H1 := Lib.hid hI
    have H2 := Lib.hid (rarr_one { r with at' := q })
    have hso : rm0.arr.size = (RM.arr { r with at' := q }).size := by rw [hsz]; rfl
    have H3 := Lib.hid hso
    clear hsz hI hso
    generalize hRR : RM.arr { r with at' := q } = R at *
    have HB := Lib.hid HE.out.m.blk
    rw [hRR] at HB
    have HRR := Lib.hid hRR
    clear hRR
    go_wp2_with (first | (refine wpList_load_row rfl 45 _ rfl w.heap.size rfl 45 R (0, 0) _ HB.out Try.underlying45 rfl H1.out ?_) | (refine wpList_store_row rfl 45 _ _ rfl (w.heap.size + 1) R rfl rfl 45 rm0.arr HE.out.o H1.out H3.out H2.out ?_))
    refine bodyPost_ret (v := .agg R) (results_cell_row rfl _ _ (w.heap.size + 1) 45 R (0, 0) _ rfl (setRow_heap _ _ _ _ _ _ HE.out.o) Try.underlying45 rfl H1.out) rfl ⟨by rw [← HRR.out], ?_⟩
    exact below_setRow HE.out.b (by omega) _

set_option maxRecDepth 100000 in
set_option maxHeartbeats 1000000 in
theorem ref_step45f (r : RM) (A : Option Addr) (len cap : Nat) (b off i k : Nat) (jt jf : Int) (rec : ByteArray) (w : World) (hr : r.cells.length = 16) (hrs : r.mach.small) (hs : rec.size = 64) (hat : r.at' = (i : Int)) (hlt : i < len) (hlen : len ≤ 1000000)
    (hb : b < w.heap.size) (hi : InsAt w b (off + i * 4) ⟨45, jt, jf, k⟩) (hk : k ≤ 4294967295) (ht : -9223372036854775808 ≤ jt ∧ jt ≤ 9223372036854775807) (hf : -9223372036854775808 ≤ jf ∧ jf ≤ 9223372036854775807) (hB : jumpB 37 r.a r.x = false) (q : Int) (hq : wrap64 ((i : Int) + 1 + max jf 0) = q) :
    Calls Try.prog 17 #[.agg r.arr, .slice (some ⟨b, off, none⟩) len cap, .string rec] w fun e w' => e = .returned (.agg ((deedD r.mach 45 k jt jf).runR rec { r with at' := r.at' + 1 }).arr) ∧ Below w.heap.size w w' := by
  have hD : (deedD r.mach 45 k jt jf).runR rec { r with at' := r.at' + 1 } = { r with at' := q } := by
    rw [hat]
    show Deed.runR rec { r with at' := (i : Int) + 1 } (.over (if jumpB 37 r.a r.x then jt else jf)) = _
    rw [hB]
    show ({ r with at' := wrap64 ((i : Int) + 1 + max jf 0) } : RM) = _
    rw [hq]
  rw [hD]
  clear hD
  have hkI : (k : Int) ≤ 4294967295 := by omega
  have haI : (r.a : Int) ≤ 4294967295 := by have : r.a ≤ 4294967295 := hrs.1; omega
  have hxI : (r.x : Int) ≤ 4294967295 := by have : r.x ≤ 4294967295 := hrs.2.1; omega
  have hiI : (i : Int) ≤ 1000000 := by omega
  have hltI : (i : Int) < len := by omega
  have HK := Lib.hid (fun u => refKnown_any 45 u)
  rw [show insKnown 45 = true from known0 45 (by decide)] at HK
  have hT := fun u => ref_holds37 r.a r.x u hrs.1 (by first | exact hk | exact hrs.2.1)
  rw [hB] at hT
  have HT := Lib.hid hT
  have HL := Lib.hid (fun u => ref_least jf u)
  have hw1 : IntKind.i64.wrap ((i : Int) + 1 + max jf 0) = q := by rw [← hq]; exact IntWalk.i64_left _
  clear hT hB hq
  generalize max jf 0 = M at *
  have hP := steps_of w r 45 jt jf k hr
  have a1 : Below w.heap.size w ((w.alloc (Obj.cells r.arr 45)).alloc (Obj.cells #[.int .u32 0, .int .u32 0, .int .u32 0, .int .u32 0, .int .u32 0, .int .u32 0, .int .u32 0, .int .u32 0, .int .u32 0, .int .u32 0, .int .u32 0, .int .u32 0, .int .u32 0, .int .u32 0, .int .u32 0, .int .u32 0, .int .u32 0, .int .u32 0, .int .i64 0, .int .u32 0, .bool false, .bool false] 45)) := alloc2 w _ _
  obtain ⟨c0, c1, c2, c3⟩ := hi.below a1 hb
  dsimp only at c0 c1 c2 c3
  have hm : IsR ((w.alloc (Obj.cells r.arr 45)).alloc (Obj.cells #[.int .u32 0, .int .u32 0, .int .u32 0, .int .u32 0, .int .u32 0, .int .u32 0, .int .u32 0, .int .u32 0, .int .u32 0, .int .u32 0, .int .u32 0, .int .u32 0, .int .u32 0, .int .u32 0, .int .u32 0, .int .u32 0, .int .u32 0, .int .u32 0, .int .i64 0, .int .u32 0, .bool false, .bool false] 45)) w.heap.size r := ⟨(heap_alloc_old _ _ (by simp)).trans (heap_alloc_new w _), hr⟩
  obtain ⟨_, _, q18, _⟩ := hm.facts
  rw [hat] at q18
  have HAT := Lib.hid hat
  clear hm hat hi a1
  go_enter Try.func17, Try.ntmps17
  go_wp2_with fail
  refine (HK.out _).mono ?_
  rintro e w5 ⟨rfl, rfl⟩
  go_upto_region 5 with fail
  generalize (((w.alloc (Obj.cells r.arr 45)).alloc (Obj.cells #[.int .u32 0, .int .u32 0, .int .u32 0, .int .u32 0, .int .u32 0, .int .u32 0, .int .u32 0, .int .u32 0, .int .u32 0, .int .u32 0, .int .u32 0, .int .u32 0, .int .u32 0, .int .u32 0, .int .u32 0, .int .u32 0, .int .u32 0, .int .u32 0, .int .i64 0, .int .u32 0, .bool false, .bool false] 45)).alloc (Obj.cells #[.int .i64 45, .int .i64 jt, .int .i64 jf, .int .u32 (k : Int)] 35)) = w3 at *
  clear c0 c1 c2 c3 q18
  obtain ⟨_, _, q18, _⟩ := hP.m.facts
  rw [HAT.out] at q18
  have fz := block_frozen hP.m.blk 18
  have HP := Lib.hid (hP.setAt (i + 1))
  clear hP
  go_upto_region 6 with fail
  generalize w3.setCell ⟨w.heap.size, 18, none⟩ (.int .i64 ((i : Int) + 1)) = wA at *
  clear q18 fz
  have i0 := below_cell (Below.refl _ wA) HP.out.i 0 rfl
  have i1 := below_cell (Below.refl _ wA) HP.out.i 1 rfl
  have i2 := below_cell (Below.refl _ wA) HP.out.i 2 rfl
  have i3 := below_cell (Below.refl _ wA) HP.out.i 3 rfl
  obtain ⟨r0, r1, r18, r19, r20, r21⟩ := HP.out.m.facts
  dsimp only at r0 r1 r18 r19 r20 r21
  go_wp2_with fail
  refine (HT.out _).mono ?_
  rintro e w5 ⟨rfl, rfl⟩
  have fz := block_frozen HP.out.m.blk 18
  have hE : StepsE w (wA.setCell ⟨w.heap.size, 18, none⟩ (.int .i64 q)).drew { r with at' := q } := (HP.out.last.set 18 _ (HP.out.m.setAt q)).drew
  have HE := Lib.hid hE
  clear hE
  go_upto_region 31 with fail
  go_region_with (go_at_call 29; refine (HL.out _).mono ?_; rintro e w1 ⟨rfl, rfl⟩)
  all_goals
    generalize (wA.setCell ⟨w.heap.size, 18, none⟩ (.int .i64 q)).drew = wB at *
    clear fz
    clear r0 r1 r18 r19 r20 r21 i0 i1 i2 i3
    have hsz := rarr_size { r with at' := q } HE.out.m.len
    have hI : (Try.prog.info? 45).map (fun i => i.size) = some (RM.arr { r with at' := q }).size := by rw [hsz]; exact infoRM
    have H1 := Lib.hid hI
    have H2 := Lib.hid (rarr_one { r with at' := q })
    have hso : rm0.arr.size = (RM.arr { r with at' := q }).size := by rw [hsz]; rfl
    have H3 := Lib.hid hso
    clear hsz hI hso
    generalize hRR : RM.arr { r with at' := q } = R at *
    have HB := Lib.hid HE.out.m.blk
    rw [hRR] at HB
    have HRR := Lib.hid hRR
    clear hRR
    go_wp2_with (first | (refine wpList_load_row rfl 45 _ rfl w.heap.size rfl 45 R (0, 0) _ HB.out Try.underlying45 rfl H1.out ?_) | (refine wpList_store_row rfl 45 _ _ rfl (w.heap.size + 1) R rfl rfl 45 rm0.arr HE.out.o H1.out H3.out H2.out ?_))
    refine bodyPost_ret (v := .agg R) (results_cell_row rfl _ _ (w.heap.size + 1) 45 R (0, 0) _ rfl (setRow_heap _ _ _ _ _ _ HE.out.o) Try.underlying45 rfl H1.out) rfl ⟨by rw [← HRR.out], ?_⟩
    exact below_setRow HE.out.b (by omega) _

set_option maxRecDepth 100000 in
set_option maxHeartbeats 1000000 in
theorem ref_step53t (r : RM) (A : Option Addr) (len cap : Nat) (b off i k : Nat) (jt jf : Int) (rec : ByteArray) (w : World) (hr : r.cells.length = 16) (hrs : r.mach.small) (hs : rec.size = 64) (hat : r.at' = (i : Int)) (hlt : i < len) (hlen : len ≤ 1000000)
    (hb : b < w.heap.size) (hi : InsAt w b (off + i * 4) ⟨53, jt, jf, k⟩) (hk : k ≤ 4294967295) (ht : -9223372036854775808 ≤ jt ∧ jt ≤ 9223372036854775807) (hf : -9223372036854775808 ≤ jf ∧ jf ≤ 9223372036854775807) (hB : jumpB 53 r.a k = true) (q : Int) (hq : wrap64 ((i : Int) + 1 + max jt 0) = q) :
    Calls Try.prog 17 #[.agg r.arr, .slice (some ⟨b, off, none⟩) len cap, .string rec] w fun e w' => e = .returned (.agg ((deedD r.mach 53 k jt jf).runR rec { r with at' := r.at' + 1 }).arr) ∧ Below w.heap.size w w' := by
  have hD : (deedD r.mach 53 k jt jf).runR rec { r with at' := r.at' + 1 } = { r with at' := q } := by
    rw [hat]
    show Deed.runR rec { r with at' := (i : Int) + 1 } (.over (if jumpB 53 r.a k then jt else jf)) = _
    rw [hB]
    show ({ r with at' := wrap64 ((i : Int) + 1 + max jt 0) } : RM) = _
    rw [hq]
  rw [hD]
  clear hD
  have hkI : (k : Int) ≤ 4294967295 := by omega
  have haI : (r.a : Int) ≤ 4294967295 := by have : r.a ≤ 4294967295 := hrs.1; omega
  have hxI : (r.x : Int) ≤ 4294967295 := by have : r.x ≤ 4294967295 := hrs.2.1; omega
  have hiI : (i : Int) ≤ 1000000 := by omega
  have hltI : (i : Int) < len := by omega
  have HK := Lib.hid (fun u => refKnown_any 53 u)
  rw [show insKnown 53 = true from known0 53 (by decide)] at HK
  have hT := fun u => ref_holds53 r.a k u hrs.1 (by first | exact hk | exact hrs.2.1)
  rw [hB] at hT
  have HT := Lib.hid hT
  have HL := Lib.hid (fun u => ref_least jt u)
  have hw1 : IntKind.i64.wrap ((i : Int) + 1 + max jt 0) = q := by rw [← hq]; exact IntWalk.i64_left _
  clear hT hB hq
  generalize max jt 0 = M at *
  have hP := steps_of w r 53 jt jf k hr
  have a1 : Below w.heap.size w ((w.alloc (Obj.cells r.arr 45)).alloc (Obj.cells #[.int .u32 0, .int .u32 0, .int .u32 0, .int .u32 0, .int .u32 0, .int .u32 0, .int .u32 0, .int .u32 0, .int .u32 0, .int .u32 0, .int .u32 0, .int .u32 0, .int .u32 0, .int .u32 0, .int .u32 0, .int .u32 0, .int .u32 0, .int .u32 0, .int .i64 0, .int .u32 0, .bool false, .bool false] 45)) := alloc2 w _ _
  obtain ⟨c0, c1, c2, c3⟩ := hi.below a1 hb
  dsimp only at c0 c1 c2 c3
  have hm : IsR ((w.alloc (Obj.cells r.arr 45)).alloc (Obj.cells #[.int .u32 0, .int .u32 0, .int .u32 0, .int .u32 0, .int .u32 0, .int .u32 0, .int .u32 0, .int .u32 0, .int .u32 0, .int .u32 0, .int .u32 0, .int .u32 0, .int .u32 0, .int .u32 0, .int .u32 0, .int .u32 0, .int .u32 0, .int .u32 0, .int .i64 0, .int .u32 0, .bool false, .bool false] 45)) w.heap.size r := ⟨(heap_alloc_old _ _ (by simp)).trans (heap_alloc_new w _), hr⟩
  obtain ⟨_, _, q18, _⟩ := hm.facts
  rw [hat] at q18
  have HAT := Lib.hid hat
  clear hm hat hi a1
  go_enter Try.func17, Try.ntmps17
  go_wp2_with fail
  refine (HK.out _).mono ?_
  rintro e w5 ⟨rfl, rfl⟩
  go_upto_region 5 with fail
  generalize (((w.alloc (Obj.cells r.arr 45)).alloc (Obj.cells #[.int .u32 0, .int .u32 0, .int .u32 0, .int .u32 0, .int .u32 0, .int .u32 0, .int .u32 0, .int .u32 0, .int .u32 0, .int .u32 0, .int .u32 0, .int .u32 0, .int .u32 0, .int .u32 0, .int .u32 0, .int .u32 0, .int .u32 0, .int .u32 0, .int .i64 0, .int .u32 0, .bool false, .bool false] 45)).alloc (Obj.cells #[.int .i64 53, .int .i64 jt, .int .i64 jf, .int .u32 (k : Int)] 35)) = w3 at *
  clear c0 c1 c2 c3 q18
  obtain ⟨_, _, q18, _⟩ := hP.m.facts
  rw [HAT.out] at q18
  have fz := block_frozen hP.m.blk 18
  have HP := Lib.hid (hP.setAt (i + 1))
  clear hP
  go_upto_region 6 with fail
  generalize w3.setCell ⟨w.heap.size, 18, none⟩ (.int .i64 ((i : Int) + 1)) = wA at *
  clear q18 fz
  have i0 := below_cell (Below.refl _ wA) HP.out.i 0 rfl
  have i1 := below_cell (Below.refl _ wA) HP.out.i 1 rfl
  have i2 := below_cell (Below.refl _ wA) HP.out.i 2 rfl
  have i3 := below_cell (Below.refl _ wA) HP.out.i 3 rfl
  obtain ⟨r0, r1, r18, r19, r20, r21⟩ := HP.out.m.facts
  dsimp only at r0 r1 r18 r19 r20 r21
  go_wp2_with fail
  refine (HT.out _).mono ?_
  rintro e w5 ⟨rfl, rfl⟩
  have fz := block_frozen HP.out.m.blk 18
  have hE : StepsE w (wA.setCell ⟨w.heap.size, 18, none⟩ (.int .i64 q)).drew { r with at' := q } := (HP.out.last.set 18 _ (HP.out.m.setAt q)).drew
  have HE := Lib.hid hE
  clear hE
  go_upto_region 30 with fail
  go_region_with (go_at_call 29; refine (HL.out _).mono ?_; rintro e w1 ⟨rfl, rfl⟩)
  all_goals
    generalize (wA.setCell ⟨w.heap.size, 18, none⟩ (.int .i64 q)).drew = wB at *
    clear fz
    clear r0 r1 r18 r19 r20 r21 i0 i1 i2 i3
    have hsz := rarr_size { r with at' := q } HE.out.m.len
    have hI : (Try.prog.info? 45).map (fun i => i.size) = some (RM.arr { r with at' := q }).size := by rw [hsz]; exact infoRM
    have H1 := Lib.hid hI
    have H2 := Lib.hid (rarr_one { r with at' := q })
    have hso : rm0.arr.size = (RM.arr { r with at' := q }).size := by rw [hsz]; rfl
    have H3 := Lib.hid hso
    clear hsz hI hso
    generalize hRR : RM.arr { r with at' := q } = R at *
    have HB := Lib.hid HE.out.m.blk
    rw [hRR] at HB
    have HRR := Lib.hid hRR
    clear hRR
    go_wp2_with (first | (refine wpList_load_row rfl 45 _ rfl w.heap.size rfl 45 R (0, 0) _ HB.out Try.underlying45 rfl H1.out ?_) | (refine wpList_store_row rfl 45 _ _ rfl (w.heap.size + 1) R rfl rfl 45 rm0.arr HE.out.o H1.out H3.out H2.out ?_))
    refine bodyPost_ret (v := .agg R) (results_cell_row rfl _ _ (w.heap.size + 1) 45 R (0, 0) _ rfl (setRow_heap _ _ _ _ _ _ HE.out.o) Try.underlying45 rfl H1.out) rfl ⟨by rw [← HRR.out], ?_⟩
    exact below_setRow HE.out.b (by omega) _

set_option maxRecDepth 100000 in
set_option maxHeartbeats 1000000 in
theorem ref_step53f (r : RM) (A : Option Addr) (len cap : Nat) (b off i k : Nat) (jt jf : Int) (rec : ByteArray) (w : World) (hr : r.cells.length = 16) (hrs : r.mach.small) (hs : rec.size = 64) (hat : r.at' = (i : Int)) (hlt : i < len) (hlen : len ≤ 1000000)
    (hb : b < w.heap.size) (hi : InsAt w b (off + i * 4) ⟨53, jt, jf, k⟩) (hk : k ≤ 4294967295) (ht : -9223372036854775808 ≤ jt ∧ jt ≤ 9223372036854775807) (hf : -9223372036854775808 ≤ jf ∧ jf ≤ 9223372036854775807) (hB : jumpB 53 r.a k = false) (q : Int) (hq : wrap64 ((i : Int) + 1 + max jf 0) = q) :
    Calls Try.prog 17 #[.agg r.arr, .slice (some ⟨b, off, none⟩) len cap, .string rec] w fun e w' => e = .returned (.agg ((deedD r.mach 53 k jt jf).runR rec { r with at' := r.at' + 1 }).arr) ∧ Below w.heap.size w w' := by
  have hD : (deedD r.mach 53 k jt jf).runR rec { r with at' := r.at' + 1 } = { r with at' := q } := by
    rw [hat]
    show Deed.runR rec { r with at' := (i : Int) + 1 } (.over (if jumpB 53 r.a k then jt else jf)) = _
    rw [hB]
    show ({ r with at' := wrap64 ((i : Int) + 1 + max jf 0) } : RM) = _
    rw [hq]
  rw [hD]
  clear hD
  have hkI : (k : Int) ≤ 4294967295 := by omega
  have haI : (r.a : Int) ≤ 4294967295 := by have : r.a ≤ 4294967295 := hrs.1; omega
  have hxI : (r.x : Int) ≤ 4294967295 := by have : r.x ≤ 4294967295 := hrs.2.1; omega
  have hiI : (i : Int) ≤ 1000000 := by omega
  have hltI : (i : Int) < len := by omega
  have HK := Lib.hid (fun u => refKnown_any 53 u)
  rw [show insKnown 53 = true from known0 53 (by decide)] at HK
  have hT := fun u => ref_holds53 r.a k u hrs.1 (by first | exact hk | exact hrs.2.1)
  rw [hB] at hT
  have HT := Lib.hid hT
  have HL := Lib.hid (fun u => ref_least jf u)
  have hw1 : IntKind.i64.wrap ((i : Int) + 1 + max jf 0) = q := by rw [← hq]; exact IntWalk.i64_left _
  clear hT hB hq
  generalize max jf 0 = M at *
  have hP := steps_of w r 53 jt jf k hr
  have a1 : Below w.heap.size w ((w.alloc (Obj.cells r.arr 45)).alloc (Obj.cells #[.int .u32 0, .int .u32 0, .int .u32 0, .int .u32 0, .int .u32 0, .int .u32 0, .int .u32 0, .int .u32 0, .int .u32 0, .int .u32 0, .int .u32 0, .int .u32 0, .int .u32 0, .int .u32 0, .int .u32 0, .int .u32 0, .int .u32 0, .int .u32 0, .int .i64 0, .int .u32 0, .bool false, .bool false] 45)) := alloc2 w _ _
  obtain ⟨c0, c1, c2, c3⟩ := hi.below a1 hb
  dsimp only at c0 c1 c2 c3
  have hm : IsR ((w.alloc (Obj.cells r.arr 45)).alloc (Obj.cells #[.int .u32 0, .int .u32 0, .int .u32 0, .int .u32 0, .int .u32 0, .int .u32 0, .int .u32 0, .int .u32 0, .int .u32 0, .int .u32 0, .int .u32 0, .int .u32 0, .int .u32 0, .int .u32 0, .int .u32 0, .int .u32 0, .int .u32 0, .int .u32 0, .int .i64 0, .int .u32 0, .bool false, .bool false] 45)) w.heap.size r := ⟨(heap_alloc_old _ _ (by simp)).trans (heap_alloc_new w _), hr⟩
  obtain ⟨_, _, q18, _⟩ := hm.facts
  rw [hat] at q18
  have HAT := Lib.hid hat
  clear hm hat hi a1
  go_enter Try.func17, Try.ntmps17
  go_wp2_with fail
  refine (HK.out _).mono ?_
  rintro e w5 ⟨rfl, rfl⟩
  go_upto_region 5 with fail
  generalize (((w.alloc (Obj.cells r.arr 45)).alloc (Obj.cells #[.int .u32 0, .int .u32 0, .int .u32 0, .int .u32 0, .int .u32 0, .int .u32 0, .int .u32 0, .int .u32 0, .int .u32 0, .int .u32 0, .int .u32 0, .int .u32 0, .int .u32 0, .int .u32 0, .int .u32 0, .int .u32 0, .int .u32 0, .int .u32 0, .int .i64 0, .int .u32 0, .bool false, .bool false] 45)).alloc (Obj.cells #[.int .i64 53, .int .i64 jt, .int .i64 jf, .int .u32 (k : Int)] 35)) = w3 at *
  clear c0 c1 c2 c3 q18
  obtain ⟨_, _, q18, _⟩ := hP.m.facts
  rw [HAT.out] at q18
  have fz := block_frozen hP.m.blk 18
  have HP := Lib.hid (hP.setAt (i + 1))
  clear hP
  go_upto_region 6 with fail
  generalize w3.setCell ⟨w.heap.size, 18, none⟩ (.int .i64 ((i : Int) + 1)) = wA at *
  clear q18 fz
  have i0 := below_cell (Below.refl _ wA) HP.out.i 0 rfl
  have i1 := below_cell (Below.refl _ wA) HP.out.i 1 rfl
  have i2 := below_cell (Below.refl _ wA) HP.out.i 2 rfl
  have i3 := below_cell (Below.refl _ wA) HP.out.i 3 rfl
  obtain ⟨r0, r1, r18, r19, r20, r21⟩ := HP.out.m.facts
  dsimp only at r0 r1 r18 r19 r20 r21
  go_wp2_with fail
  refine (HT.out _).mono ?_
  rintro e w5 ⟨rfl, rfl⟩
  have fz := block_frozen HP.out.m.blk 18
  have hE : StepsE w (wA.setCell ⟨w.heap.size, 18, none⟩ (.int .i64 q)).drew { r with at' := q } := (HP.out.last.set 18 _ (HP.out.m.setAt q)).drew
  have HE := Lib.hid hE
  clear hE
  go_upto_region 31 with fail
  go_region_with (go_at_call 29; refine (HL.out _).mono ?_; rintro e w1 ⟨rfl, rfl⟩)
  all_goals
    generalize (wA.setCell ⟨w.heap.size, 18, none⟩ (.int .i64 q)).drew = wB at *
    clear fz
    clear r0 r1 r18 r19 r20 r21 i0 i1 i2 i3
    have hsz := rarr_size { r with at' := q } HE.out.m.len
    have hI : (Try.prog.info? 45).map (fun i => i.size) = some (RM.arr { r with at' := q }).size := by rw [hsz]; exact infoRM
    have H1 := Lib.hid hI
    have H2 := Lib.hid (rarr_one { r with at' := q })
    have hso : rm0.arr.size = (RM.arr { r with at' := q }).size := by rw [hsz]; rfl
    have H3 := Lib.hid hso
    clear hsz hI hso
    generalize hRR : RM.arr { r with at' := q } = R at *
    have HB := Lib.hid HE.out.m.blk
    rw [hRR] at HB
    have HRR := Lib.hid hRR
    clear hRR
    go_wp2_with (first | (refine wpList_load_row rfl 45 _ rfl w.heap.size rfl 45 R (0, 0) _ HB.out Try.underlying45 rfl H1.out ?_) | (refine wpList_store_row rfl 45 _ _ rfl (w.heap.size + 1) R rfl rfl 45 rm0.arr HE.out.o H1.out H3.out H2.out ?_))
    refine bodyPost_ret (v := .agg R) (results_cell_row rfl _ _ (w.heap.size + 1) 45 R (0, 0) _ rfl (setRow_heap _ _ _ _ _ _ HE.out.o) Try.underlying45 rfl H1.out) rfl ⟨by rw [← HRR.out], ?_⟩
    exact below_setRow HE.out.b (by omega) _

set_option maxRecDepth 100000 in
set_option maxHeartbeats 1000000 in
theorem ref_step61t (r : RM) (A : Option Addr) (len cap : Nat) (b off i k : Nat) (jt jf : Int) (rec : ByteArray) (w : World) (hr : r.cells.length = 16) (hrs : r.mach.small) (hs : rec.size = 64) (hat : r.at' = (i : Int)) (hlt : i < len) (hlen : len ≤ 1000000)
    (hb : b < w.heap.size) (hi : InsAt w b (off + i * 4) ⟨61, jt, jf, k⟩) (hk : k ≤ 4294967295) (ht : -9223372036854775808 ≤ jt ∧ jt ≤ 9223372036854775807) (hf : -9223372036854775808 ≤ jf ∧ jf ≤ 9223372036854775807) (hB : jumpB 53 r.a r.x = true) (q : Int) (hq : wrap64 ((i : Int) + 1 + max jt 0) = q) :
    Calls Try.prog 17 #[.agg r.arr, .slice (some ⟨b, off, none⟩) len cap, .string rec] w fun e w' => e = .returned (.agg ((deedD r.mach 61 k jt jf).runR rec { r with at' := r.at' + 1 }).arr) ∧ Below w.heap.size w w' := by
  have hD : (deedD r.mach 61 k jt jf).runR rec { r with at' := r.at' + 1 } = { r with at' := q } := by
    rw [hat]
    show Deed.runR rec { r with at' := (i : Int) + 1 } (.over (if jumpB 53 r.a r.x then jt else jf)) = _
    rw [hB]
    show ({ r with at' := wrap64 ((i : Int) + 1 + max jt 0) } : RM) = _
    rw [hq]
  rw [hD]
  clear hD
  have hkI : (k : Int) ≤ 4294967295 := by omega
  have haI : (r.a : Int) ≤ 4294967295 := by have : r.a ≤ 4294967295 := hrs.1; omega
  have hxI : (r.x : Int) ≤ 4294967295 := by have : r.x ≤ 4294967295 := hrs.2.1; omega
  have hiI : (i : Int) ≤ 1000000 := by omega
  have hltI : (i : Int) < len := by omega
  have HK := Lib.hid (fun u => refKnown_any 61 u)
  rw [show insKnown 61 = true from known0 61 (by decide)] at HK
  have hT := fun u => ref_holds53 r.a r.x u hrs.1 (by first | exact hk | exact hrs.2.1)
  rw [hB] at hT
  have HT := Lib.hid hT
  have HL := Lib.hid (fun u => ref_least jt u)
  have hw1 : IntKind.i64.wrap ((i : Int) + 1 + max jt 0) = q := by rw [← hq]; exact IntWalk.i64_left _
  clear hT hB hq
  generalize max jt 0 = M at *
  have hP := steps_of w r 61 jt jf k hr
  have a1 : Below w.heap.size w ((w.alloc (Obj.cells r.arr 45)).alloc (Obj.cells #[.int .u32 0, .int .u32 0, .int .u32 0, .int .u32 0, .int .u32 0, .int .u32 0, .int .u32 0, .int .u32 0, .int .u32 0, .int .u32 0, .int .u32 0, .int .u32 0, .int .u32 0, .int .u32 0, .int .u32 0, .int .u32 0, .int .u32 0, .int .u32 0, .int .i64 0, .int .u32 0, .bool false, .bool false] 45)) := alloc2 w _ _
  obtain ⟨c0, c1, c2, c3⟩ := hi.below a1 hb
  dsimp only at c0 c1 c2 c3
  have hm : IsR ((w.alloc (Obj.cells r.arr 45)).alloc (Obj.cells #[.int .u32 0, .int .u32 0, .int .u32 0, .int .u32 0, .int .u32 0, .int .u32 0, .int .u32 0, .int .u32 0, .int .u32 0, .int .u32 0, .int .u32 0, .int .u32 0, .int .u32 0, .int .u32 0, .int .u32 0, .int .u32 0, .int .u32 0, .int .u32 0, .int .i64 0, .int .u32 0, .bool false, .bool false] 45)) w.heap.size r := ⟨(heap_alloc_old _ _ (by simp)).trans (heap_alloc_new w _), hr⟩
  obtain ⟨_, _, q18, _⟩ := hm.facts
  rw [hat] at q18
  have HAT := Lib.hid hat
  clear hm hat hi a1
  go_enter Try.func17, Try.ntmps17
  go_wp2_with fail
  refine (HK.out _).mono ?_
  rintro e w5 ⟨rfl, rfl⟩
  go_upto_region 5 with fail
  generalize (((w.alloc (Obj.cells r.arr 45)).alloc (Obj.cells #[.int .u32 0, .int .u32 0, .int .u32 0, .int .u32 0, .int .u32 0, .int .u32 0, .int .u32 0, .int .u32 0, .int .u32 0, .int .u32 0, .int .u32 0, .int .u32 0, .int .u32 0, .int .u32 0, .int .u32 0, .int .u32 0, .int .u32 0, .int .u32 0, .int .i64 0, .int .u32 0, .bool false, .bool false] 45)).alloc (Obj.cells #[.int .i64 61, .int .i64 jt, .int .i64 jf, .int .u32 (k : Int)] 35)) = w3 at *
  clear c0 c1 c2 c3 q18
  obtain ⟨_, _, q18, _⟩ := hP.m.facts
  rw [HAT.out] at q18
  have fz := block_frozen hP.m.blk 18
  have HP := Lib.hid (hP.setAt (i + 1))
  clear hP
  go_upto_region 6 with fail
  generalize w3.setCell ⟨w.heap.size, 18, none⟩ (.int .i64 ((i : Int) + 1)) = wA at *
  clear q18 fz
  have i0 := below_cell (Below.refl _ wA) HP.out.i 0 rfl
  have i1 := below_cell (Below.refl _ wA) HP.out.i 1 rfl
  have i2 := below_cell (Below.refl _ wA) HP.out.i 2 rfl
  have i3 := below_cell (Below.refl _ wA) HP.out.i 3 rfl
  obtain ⟨r0, r1, r18, r19, r20, r21⟩ := HP.out.m.facts
  dsimp only at r0 r1 r18 r19 r20 r21
  go_wp2_with fail
  refine (HT.out _).mono ?_
  rintro e w5 ⟨rfl, rfl⟩
  have fz := block_frozen HP.out.m.blk 18
  have hE : StepsE w (wA.setCell ⟨w.heap.size, 18, none⟩ (.int .i64 q)).drew { r with at' := q } := (HP.out.last.set 18 _ (HP.out.m.setAt q)).drew
  have HE := Lib.hid hE
  clear hE
  go_upto_region 30 with fail
  go_region_with (go_at_call 29; refine (HL.out _).mono ?_; rintro e w1 ⟨rfl, rfl⟩)
  all_goals
    generalize (wA.setCell ⟨w.heap.size, 18, none⟩ (.int .i64 q)).drew = wB at *
    clear fz
    clear r0 r1 r18 r19 r20 r21 i0 i1 i2 i3
    have hsz := rarr_size { r with at' := q } HE.out.m.len
    have hI : (Try.prog.info? 45).map (fun i => i.size) = some (RM.arr { r with at' := q }).size := by rw [hsz]; exact infoRM
    have H1 := Lib.hid hI
    have H2 := Lib.hid (rarr_one { r with at' := q })
    have hso : rm0.arr.size = (RM.arr { r with at' := q }).size := by rw [hsz]; rfl
    have H3 := Lib.hid hso
    clear hsz hI hso
    generalize hRR : RM.arr { r with at' := q } = R at *
    have HB := Lib.hid HE.out.m.blk
    rw [hRR] at HB
    have HRR := Lib.hid hRR
    clear hRR
    go_wp2_with (first | (refine wpList_load_row rfl 45 _ rfl w.heap.size rfl 45 R (0, 0) _ HB.out Try.underlying45 rfl H1.out ?_) | (refine wpList_store_row rfl 45 _ _ rfl (w.heap.size + 1) R rfl rfl 45 rm0.arr HE.out.o H1.out H3.out H2.out ?_))
    refine bodyPost_ret (v := .agg R) (results_cell_row rfl _ _ (w.heap.size + 1) 45 R (0, 0) _ rfl (setRow_heap _ _ _ _ _ _ HE.out.o) Try.underlying45 rfl H1.out) rfl ⟨by rw [← HRR.out], ?_⟩
    exact below_setRow HE.out.b (by omega) _

set_option maxRecDepth 100000 in
set_option maxHeartbeats 1000000 in
theorem ref_step61f (r : RM) (A : Option Addr) (len cap : Nat) (b off i k : Nat) (jt jf : Int) (rec : ByteArray) (w : World) (hr : r.cells.length = 16) (hrs : r.mach.small) (hs : rec.size = 64) (hat : r.at' = (i : Int)) (hlt : i < len) (hlen : len ≤ 1000000)
    (hb : b < w.heap.size) (hi : InsAt w b (off + i * 4) ⟨61, jt, jf, k⟩) (hk : k ≤ 4294967295) (ht : -9223372036854775808 ≤ jt ∧ jt ≤ 9223372036854775807) (hf : -9223372036854775808 ≤ jf ∧ jf ≤ 9223372036854775807) (hB : jumpB 53 r.a r.x = false) (q : Int) (hq : wrap64 ((i : Int) + 1 + max jf 0) = q) :
    Calls Try.prog 17 #[.agg r.arr, .slice (some ⟨b, off, none⟩) len cap, .string rec] w fun e w' => e = .returned (.agg ((deedD r.mach 61 k jt jf).runR rec { r with at' := r.at' + 1 }).arr) ∧ Below w.heap.size w w' := by
  have hD : (deedD r.mach 61 k jt jf).runR rec { r with at' := r.at' + 1 } = { r with at' := q } := by
    rw [hat]
    show Deed.runR rec { r with at' := (i : Int) + 1 } (.over (if jumpB 53 r.a r.x then jt else jf)) = _
    rw [hB]
    show ({ r with at' := wrap64 ((i : Int) + 1 + max jf 0) } : RM) = _
    rw [hq]
  rw [hD]
  clear hD
  have hkI : (k : Int) ≤ 4294967295 := by omega
  have haI : (r.a : Int) ≤ 4294967295 := by have : r.a ≤ 4294967295 := hrs.1; omega
  have hxI : (r.x : Int) ≤ 4294967295 := by have : r.x ≤ 4294967295 := hrs.2.1; omega
  have hiI : (i : Int) ≤ 1000000 := by omega
  have hltI : (i : Int) < len := by omega
  have HK := Lib.hid (fun u => refKnown_any 61 u)
  rw [show insKnown 61 = true from known0 61 (by decide)] at HK
  have hT := fun u => ref_holds53 r.a r.x u hrs.1 (by first | exact hk | exact hrs.2.1)
  rw [hB] at hT
  have HT := Lib.hid hT
  have HL := Lib.hid (fun u => ref_least jf u)
  have hw1 : IntKind.i64.wrap ((i : Int) + 1 + max jf 0) = q := by rw [← hq]; exact IntWalk.i64_left _
  clear hT hB hq
  generalize max jf 0 = M at *
  have hP := steps_of w r 61 jt jf k hr
  have a1 : Below w.heap.size w ((w.alloc (Obj.cells r.arr 45)).alloc (Obj.cells #[.int .u32 0, .int .u32 0, .int .u32 0, .int .u32 0, .int .u32 0, .int .u32 0, .int .u32 0, .int .u32 0, .int .u32 0, .int .u32 0, .int .u32 0, .int .u32 0, .int .u32 0, .int .u32 0, .int .u32 0, .int .u32 0, .int .u32 0, .int .u32 0, .int .i64 0, .int .u32 0, .bool false, .bool false] 45)) := alloc2 w _ _
  obtain ⟨c0, c1, c2, c3⟩ := hi.below a1 hb
  dsimp only at c0 c1 c2 c3
  have hm : IsR ((w.alloc (Obj.cells r.arr 45)).alloc (Obj.cells #[.int .u32 0, .int .u32 0, .int .u32 0, .int .u32 0, .int .u32 0, .int .u32 0, .int .u32 0, .int .u32 0, .int .u32 0, .int .u32 0, .int .u32 0, .int .u32 0, .int .u32 0, .int .u32 0, .int .u32 0, .int .u32 0, .int .u32 0, .int .u32 0, .int .i64 0, .int .u32 0, .bool false, .bool false] 45)) w.heap.size r := ⟨(heap_alloc_old _ _ (by simp)).trans (heap_alloc_new w _), hr⟩
  obtain ⟨_, _, q18, _⟩ := hm.facts
  rw [hat] at q18
  have HAT := Lib.hid hat
  clear hm hat hi a1
  go_enter Try.func17, Try.ntmps17
  go_wp2_with fail
  refine (HK.out _).mono ?_
  rintro e w5 ⟨rfl, rfl⟩
  go_upto_region 5 with fail
  generalize (((w.alloc (Obj.cells r.arr 45)).alloc (Obj.cells #[.int .u32 0, .int .u32 0, .int .u32 0, .int .u32 0, .int .u32 0, .int .u32 0, .int .u32 0, .int .u32 0, .int .u32 0, .int .u32 0, .int .u32 0, .int .u32 0, .int .u32 0, .int .u32 0, .int .u32 0, .int .u32 0, .int .u32 0, .int .u32 0, .int .i64 0, .int .u32 0, .bool false, .bool false] 45)).alloc (Obj.cells #[.int .i64 61, .int .i64 jt, .int .i64 jf, .int .u32 (k : Int)] 35)) = w3 at *
  clear c0 c1 c2 c3 q18
  obtain ⟨_, _, q18, _⟩ := hP.m.facts
  rw [HAT.out] at q18
  have fz := block_frozen hP.m.blk 18
  have HP := Lib.hid (hP.setAt (i + 1))
  clear hP
  go_upto_region 6 with fail
  generalize w3.setCell ⟨w.heap.size, 18, none⟩ (.int .i64 ((i : Int) + 1)) = wA at *
  clear q18 fz
  have i0 := below_cell (Below.refl _ wA) HP.out.i 0 rfl
  have i1 := below_cell (Below.refl _ wA) HP.out.i 1 rfl
  have i2 := below_cell (Below.refl _ wA) HP.out.i 2 rfl
  have i3 := below_cell (Below.refl _ wA) HP.out.i 3 rfl
  obtain ⟨r0, r1, r18, r19, r20, r21⟩ := HP.out.m.facts
  dsimp only at r0 r1 r18 r19 r20 r21
  go_wp2_with fail
  refine (HT.out _).mono ?_
  rintro e w5 ⟨rfl, rfl⟩
  have fz := block_frozen HP.out.m.blk 18
  have hE : StepsE w (wA.setCell ⟨w.heap.size, 18, none⟩ (.int .i64 q)).drew { r with at' := q } := (HP.out.last.set 18 _ (HP.out.m.setAt q)).drew
  have HE := Lib.hid hE
  clear hE
  go_upto_region 31 with fail
  go_region_with (go_at_call 29; refine (HL.out _).mono ?_; rintro e w1 ⟨rfl, rfl⟩)
  all_goals
    generalize (wA.setCell ⟨w.heap.size, 18, none⟩ (.int .i64 q)).drew = wB at *
    clear fz
    clear r0 r1 r18 r19 r20 r21 i0 i1 i2 i3
    have hsz := rarr_size { r with at' := q } HE.out.m.len
    have hI : (Try.prog.info? 45).map (fun i => i.size) = some (RM.arr { r with at' := q }).size := by rw [hsz]; exact infoRM
    have H1 := Lib.hid hI
    have H2 := Lib.hid (rarr_one { r with at' := q })
    have hso : rm0.arr.size = (RM.arr { r with at' := q }).size := by rw [hsz]; rfl
    have H3 := Lib.hid hso
    clear hsz hI hso
    generalize hRR : RM.arr { r with at' := q } = R at *
    have HB := Lib.hid HE.out.m.blk
    rw [hRR] at HB
    have HRR := Lib.hid hRR
    clear hRR
    go_wp2_with (first | (refine wpList_load_row rfl 45 _ rfl w.heap.size rfl 45 R (0, 0) _ HB.out Try.underlying45 rfl H1.out ?_) | (refine wpList_store_row rfl 45 _ _ rfl (w.heap.size + 1) R rfl rfl 45 rm0.arr HE.out.o H1.out H3.out H2.out ?_))
    refine bodyPost_ret (v := .agg R) (results_cell_row rfl _ _ (w.heap.size + 1) 45 R (0, 0) _ rfl (setRow_heap _ _ _ _ _ _ HE.out.o) Try.underlying45 rfl H1.out) rfl ⟨by rw [← HRR.out], ?_⟩
    exact below_setRow HE.out.b (by omega) _

set_option maxRecDepth 100000 in
set_option maxHeartbeats 1000000 in
theorem ref_step69t (r : RM) (A : Option Addr) (len cap : Nat) (b off i k : Nat) (jt jf : Int) (rec : ByteArray) (w : World) (hr : r.cells.length = 16) (hrs : r.mach.small) (hs : rec.size = 64) (hat : r.at' = (i : Int)) (hlt : i < len) (hlen : len ≤ 1000000)
    (hb : b < w.heap.size) (hi : InsAt w b (off + i * 4) ⟨69, jt, jf, k⟩) (hk : k ≤ 4294967295) (ht : -9223372036854775808 ≤ jt ∧ jt ≤ 9223372036854775807) (hf : -9223372036854775808 ≤ jf ∧ jf ≤ 9223372036854775807) (hB : jumpB 69 r.a k = true) (q : Int) (hq : wrap64 ((i : Int) + 1 + max jt 0) = q) :
    Calls Try.prog 17 #[.agg r.arr, .slice (some ⟨b, off, none⟩) len cap, .string rec] w fun e w' => e = .returned (.agg ((deedD r.mach 69 k jt jf).runR rec { r with at' := r.at' + 1 }).arr) ∧ Below w.heap.size w w' := by
  have hD : (deedD r.mach 69 k jt jf).runR rec { r with at' := r.at' + 1 } = { r with at' := q } := by
    rw [hat]
    show Deed.runR rec { r with at' := (i : Int) + 1 } (.over (if jumpB 69 r.a k then jt else jf)) = _
    rw [hB]
    show ({ r with at' := wrap64 ((i : Int) + 1 + max jt 0) } : RM) = _
    rw [hq]
  rw [hD]
  clear hD
  have hkI : (k : Int) ≤ 4294967295 := by omega
  have haI : (r.a : Int) ≤ 4294967295 := by have : r.a ≤ 4294967295 := hrs.1; omega
  have hxI : (r.x : Int) ≤ 4294967295 := by have : r.x ≤ 4294967295 := hrs.2.1; omega
  have hiI : (i : Int) ≤ 1000000 := by omega
  have hltI : (i : Int) < len := by omega
  have HK := Lib.hid (fun u => refKnown_any 69 u)
  rw [show insKnown 69 = true from known0 69 (by decide)] at HK
  have hT := fun u => ref_holds69 r.a k u hrs.1 (by first | exact hk | exact hrs.2.1)
  rw [hB] at hT
  have HT := Lib.hid hT
  have HL := Lib.hid (fun u => ref_least jt u)
  have hw1 : IntKind.i64.wrap ((i : Int) + 1 + max jt 0) = q := by rw [← hq]; exact IntWalk.i64_left _
  clear hT hB hq
  generalize max jt 0 = M at *
  have hP := steps_of w r 69 jt jf k hr
  have a1 : Below w.heap.size w ((w.alloc (Obj.cells r.arr 45)).alloc (Obj.cells #[.int .u32 0, .int .u32 0, .int .u32 0, .int .u32 0, .int .u32 0, .int .u32 0, .int .u32 0, .int .u32 0, .int .u32 0, .int .u32 0, .int .u32 0, .int .u32 0, .int .u32 0, .int .u32 0, .int .u32 0, .int .u32 0, .int .u32 0, .int .u32 0, .int .i64 0, .int .u32 0, .bool false, .bool false] 45)) := alloc2 w _ _
  obtain ⟨c0, c1, c2, c3⟩ := hi.below a1 hb
  dsimp only at c0 c1 c2 c3
  have hm : IsR ((w.alloc (Obj.cells r.arr 45)).alloc (Obj.cells #[.int .u32 0, .int .u32 0, .int .u32 0, .int .u32 0, .int .u32 0, .int .u32 0, .int .u32 0, .int .u32 0, .int .u32 0, .int .u32 0, .int .u32 0, .int .u32 0, .int .u32 0, .int .u32 0, .int .u32 0, .int .u32 0, .int .u32 0, .int .u32 0, .int .i64 0, .int .u32 0, .bool false, .bool false] 45)) w.heap.size r := ⟨(heap_alloc_old _ _ (by simp)).trans (heap_alloc_new w _), hr⟩
  obtain ⟨_, _, q18, _⟩ := hm.facts
  rw [hat] at q18
  have HAT := Lib.hid hat
  clear hm hat hi a1
  go_enter Try.func17, Try.ntmps17
  go_wp2_with fail
  refine (HK.out _).mono ?_
  rintro e w5 ⟨rfl, rfl⟩
  go_upto_region 5 with fail
  generalize (((w.alloc (Obj.cells r.arr 45)).alloc (Obj.cells #[.int .u32 0, .int .u32 0, .int .u32 0, .int .u32 0, .int .u32 0, .int .u32 0, .int .u32 0, .int .u32 0, .int .u32 0, .int .u32 0, .int .u32 0, .int .u32 0, .int .u32 0, .int .u32 0, .int .u32 0, .int .u32 0, .int .u32 0, .int .u32 0, .int .i64 0, .int .u32 0, .bool false, .bool false] 45)).alloc (Obj.cells #[.int .i64 69, .int .i64 jt, .int .i64 jf, .int .u32 (k : Int)] 35)) = w3 at *
  clear c0 c1 c2 c3 q18
  obtain ⟨_, _, q18, _⟩ := hP.m.facts
  rw [HAT.out] at q18
  have fz := block_frozen hP.m.blk 18
  have HP := Lib.hid (hP.setAt (i + 1))
  clear hP
  go_upto_region 6 with fail
  generalize w3.setCell ⟨w.heap.size, 18, none⟩ (.int .i64 ((i : Int) + 1)) = wA at *
  clear q18 fz
  have i0 := below_cell (Below.refl _ wA) HP.out.i 0 rfl
  have i1 := below_cell (Below.refl _ wA) HP.out.i 1 rfl
  have i2 := below_cell (Below.refl _ wA) HP.out.i 2 rfl
  have i3 := below_cell (Below.refl _ wA) HP.out.i 3 rfl
  obtain ⟨r0, r1, r18, r19, r20, r21⟩ := HP.out.m.facts
  dsimp only at r0 r1 r18 r19 r20 r21
  go_wp2_with fail
  refine (HT.out _).mono ?_
  rintro e w5 ⟨rfl, rfl⟩
  have fz := block_frozen HP.out.m.blk 18
  have hE : StepsE w (wA.setCell ⟨w.heap.size, 18, none⟩ (.int .i64 q)).drew { r with at' := q } := (HP.out.last.set 18 _ (HP.out.m.setAt q)).drew
  have HE := Lib.hid hE
  clear hE
  go_upto_region 30 with fail
  go_region_with (go_at_call 29; refine (HL.out _).mono ?_; rintro e w1 ⟨rfl, rfl⟩)
  all_goals
    generalize (wA.setCell ⟨w.heap.size, 18, none⟩ (.int .i64 q)).drew = wB at *
    clear fz
    clear r0 r1 r18 r19 r20 r21 i0 i1 i2 i3
    have hsz := rarr_size { r with at' := q } HE.out.m.len
    have hI : (Try.prog.info? 45).map (fun i => i.size) = some (RM.arr { r with at' := q }).size := by rw [hsz]; exact infoRM
    have H1 := Lib.hid hI
    have H2 := Lib.hid (rarr_one { r with at' := q })
    have hso : rm0.arr.size = (RM.arr { r with at' := q }).size := by rw [hsz]; rfl
    have H3 := Lib.hid hso
    clear hsz hI hso
    generalize hRR : RM.arr { r with at' := q } = R at *
    have HB := Lib.hid HE.out.m.blk
    rw [hRR] at HB
    have HRR := Lib.hid hRR
    clear hRR
    go_wp2_with (first | (refine wpList_load_row rfl 45 _ rfl w.heap.size rfl 45 R (0, 0) _ HB.out Try.underlying45 rfl H1.out ?_) | (refine wpList_store_row rfl 45 _ _ rfl (w.heap.size + 1) R rfl rfl 45 rm0.arr HE.out.o H1.out H3.out H2.out ?_))
    refine bodyPost_ret (v := .agg R) (results_cell_row rfl _ _ (w.heap.size + 1) 45 R (0, 0) _ rfl (setRow_heap _ _ _ _ _ _ HE.out.o) Try.underlying45 rfl H1.out) rfl ⟨by rw [← HRR.out], ?_⟩
    exact below_setRow HE.out.b (by omega) _

set_option maxRecDepth 100000 in
set_option maxHeartbeats 1000000 in
theorem ref_step69f (r : RM) (A : Option Addr) (len cap : Nat) (b off i k : Nat) (jt jf : Int) (rec : ByteArray) (w : World) (hr : r.cells.length = 16) (hrs : r.mach.small) (hs : rec.size = 64) (hat : r.at' = (i : Int)) (hlt : i < len) (hlen : len ≤ 1000000)
    (hb : b < w.heap.size) (hi : InsAt w b (off + i * 4) ⟨69, jt, jf, k⟩) (hk : k ≤ 4294967295) (ht : -9223372036854775808 ≤ jt ∧ jt ≤ 9223372036854775807) (hf : -9223372036854775808 ≤ jf ∧ jf ≤ 9223372036854775807) (hB : jumpB 69 r.a k = false) (q : Int) (hq : wrap64 ((i : Int) + 1 + max jf 0) = q) :
    Calls Try.prog 17 #[.agg r.arr, .slice (some ⟨b, off, none⟩) len cap, .string rec] w fun e w' => e = .returned (.agg ((deedD r.mach 69 k jt jf).runR rec { r with at' := r.at' + 1 }).arr) ∧ Below w.heap.size w w' := by
  have hD : (deedD r.mach 69 k jt jf).runR rec { r with at' := r.at' + 1 } = { r with at' := q } := by
    rw [hat]
    show Deed.runR rec { r with at' := (i : Int) + 1 } (.over (if jumpB 69 r.a k then jt else jf)) = _
    rw [hB]
    show ({ r with at' := wrap64 ((i : Int) + 1 + max jf 0) } : RM) = _
    rw [hq]
  rw [hD]
  clear hD
  have hkI : (k : Int) ≤ 4294967295 := by omega
  have haI : (r.a : Int) ≤ 4294967295 := by have : r.a ≤ 4294967295 := hrs.1; omega
  have hxI : (r.x : Int) ≤ 4294967295 := by have : r.x ≤ 4294967295 := hrs.2.1; omega
  have hiI : (i : Int) ≤ 1000000 := by omega
  have hltI : (i : Int) < len := by omega
  have HK := Lib.hid (fun u => refKnown_any 69 u)
  rw [show insKnown 69 = true from known0 69 (by decide)] at HK
  have hT := fun u => ref_holds69 r.a k u hrs.1 (by first | exact hk | exact hrs.2.1)
  rw [hB] at hT
  have HT := Lib.hid hT
  have HL := Lib.hid (fun u => ref_least jf u)
  have hw1 : IntKind.i64.wrap ((i : Int) + 1 + max jf 0) = q := by rw [← hq]; exact IntWalk.i64_left _
  clear hT hB hq
  generalize max jf 0 = M at *
  have hP := steps_of w r 69 jt jf k hr
  have a1 : Below w.heap.size w ((w.alloc (Obj.cells r.arr 45)).alloc (Obj.cells #[.int .u32 0, .int .u32 0, .int .u32 0, .int .u32 0, .int .u32 0, .int .u32 0, .int .u32 0, .int .u32 0, .int .u32 0, .int .u32 0, .int .u32 0, .int .u32 0, .int .u32 0, .int .u32 0, .int .u32 0, .int .u32 0, .int .u32 0, .int .u32 0, .int .i64 0, .int .u32 0, .bool false, .bool false] 45)) := alloc2 w _ _
  obtain ⟨c0, c1, c2, c3⟩ := hi.below a1 hb
  dsimp only at c0 c1 c2 c3
  have hm : IsR ((w.alloc (Obj.cells r.arr 45)).alloc (Obj.cells #[.int .u32 0, .int .u32 0, .int .u32 0, .int .u32 0, .int .u32 0, .int .u32 0, .int .u32 0, .int .u32 0, .int .u32 0, .int .u32 0, .int .u32 0, .int .u32 0, .int .u32 0, .int .u32 0, .int .u32 0, .int .u32 0, .int .u32 0, .int .u32 0, .int .i64 0, .int .u32 0, .bool false, .bool false] 45)) w.heap.size r := ⟨(heap_alloc_old _ _ (by simp)).trans (heap_alloc_new w _), hr⟩
  obtain ⟨_, _, q18, _⟩ := hm.facts
  rw [hat] at q18
  have HAT := Lib.hid hat
  clear hm hat hi a1
  go_enter Try.func17, Try.ntmps17
  go_wp2_with fail
  refine (HK.out _).mono ?_
  rintro e w5 ⟨rfl, rfl⟩
  go_upto_region 5 with fail
  generalize (((w.alloc (Obj.cells r.arr 45)).alloc (Obj.cells #[.int .u32 0, .int .u32 0, .int .u32 0, .int .u32 0, .int .u32 0, .int .u32 0, .int .u32 0, .int .u32 0, .int .u32 0, .int .u32 0, .int .u32 0, .int .u32 0, .int .u32 0, .int .u32 0, .int .u32 0, .int .u32 0, .int .u32 0, .int .u32 0, .int .i64 0, .int .u32 0, .bool false, .bool false] 45)).alloc (Obj.cells #[.int .i64 69, .int .i64 jt, .int .i64 jf, .int .u32 (k : Int)] 35)) = w3 at *
  clear c0 c1 c2 c3 q18
  obtain ⟨_, _, q18, _⟩ := hP.m.facts
  rw [HAT.out] at q18
  have fz := block_frozen hP.m.blk 18
  have HP := Lib.hid (hP.setAt (i + 1))
  clear hP
  go_upto_region 6 with fail
  generalize w3.setCell ⟨w.heap.size, 18, none⟩ (.int .i64 ((i : Int) + 1)) = wA at *
  clear q18 fz
  have i0 := below_cell (Below.refl _ wA) HP.out.i 0 rfl
  have i1 := below_cell (Below.refl _ wA) HP.out.i 1 rfl
  have i2 := below_cell (Below.refl _ wA) HP.out.i 2 rfl
  have i3 := below_cell (Below.refl _ wA) HP.out.i 3 rfl
  obtain ⟨r0, r1, r18, r19, r20, r21⟩ := HP.out.m.facts
  dsimp only at r0 r1 r18 r19 r20 r21
  go_wp2_with fail
  refine (HT.out _).mono ?_
  rintro e w5 ⟨rfl, rfl⟩
  have fz := block_frozen HP.out.m.blk 18
  have hE : StepsE w (wA.setCell ⟨w.heap.size, 18, none⟩ (.int .i64 q)).drew { r with at' := q } := (HP.out.last.set 18 _ (HP.out.m.setAt q)).drew
  have HE := Lib.hid hE
  clear hE
  go_upto_region 31 with fail
  go_region_with (go_at_call 29; refine (HL.out _).mono ?_; rintro e w1 ⟨rfl, rfl⟩)
  all_goals
    generalize (wA.setCell ⟨w.heap.size, 18, none⟩ (.int .i64 q)).drew = wB at *
    clear fz
    clear r0 r1 r18 r19 r20 r21 i0 i1 i2 i3
    have hsz := rarr_size { r with at' := q } HE.out.m.len
    have hI : (Try.prog.info? 45).map (fun i => i.size) = some (RM.arr { r with at' := q }).size := by rw [hsz]; exact infoRM
    have H1 := Lib.hid hI
    have H2 := Lib.hid (rarr_one { r with at' := q })
    have hso : rm0.arr.size = (RM.arr { r with at' := q }).size := by rw [hsz]; rfl
    have H3 := Lib.hid hso
    clear hsz hI hso
    generalize hRR : RM.arr { r with at' := q } = R at *
    have HB := Lib.hid HE.out.m.blk
    rw [hRR] at HB
    have HRR := Lib.hid hRR
    clear hRR
    go_wp2_with (first | (refine wpList_load_row rfl 45 _ rfl w.heap.size rfl 45 R (0, 0) _ HB.out Try.underlying45 rfl H1.out ?_) | (refine wpList_store_row rfl 45 _ _ rfl (w.heap.size + 1) R rfl rfl 45 rm0.arr HE.out.o H1.out H3.out H2.out ?_))
    refine bodyPost_ret (v := .agg R) (results_cell_row rfl _ _ (w.heap.size + 1) 45 R (0, 0) _ rfl (setRow_heap _ _ _ _ _ _ HE.out.o) Try.underlying45 rfl H1.out) rfl ⟨by rw [← HRR.out], ?_⟩
    exact below_setRow HE.out.b (by omega) _

set_option maxRecDepth 100000 in
set_option maxHeartbeats 1000000 in
theorem ref_step77t (r : RM) (A : Option Addr) (len cap : Nat) (b off i k : Nat) (jt jf : Int) (rec : ByteArray) (w : World) (hr : r.cells.length = 16) (hrs : r.mach.small) (hs : rec.size = 64) (hat : r.at' = (i : Int)) (hlt : i < len) (hlen : len ≤ 1000000)
    (hb : b < w.heap.size) (hi : InsAt w b (off + i * 4) ⟨77, jt, jf, k⟩) (hk : k ≤ 4294967295) (ht : -9223372036854775808 ≤ jt ∧ jt ≤ 9223372036854775807) (hf : -9223372036854775808 ≤ jf ∧ jf ≤ 9223372036854775807) (hB : jumpB 69 r.a r.x = true) (q : Int) (hq : wrap64 ((i : Int) + 1 + max jt 0) = q) :
    Calls Try.prog 17 #[.agg r.arr, .slice (some ⟨b, off, none⟩) len cap, .string rec] w fun e w' => e = .returned (.agg ((deedD r.mach 77 k jt jf).runR rec { r with at' := r.at' + 1 }).arr) ∧ Below w.heap.size w w' := by
  have hD : (deedD r.mach 77 k jt jf).runR rec { r with at' := r.at' + 1 } = { r with at' := q } := by
    rw [hat]
    show Deed.runR rec { r with at' := (i : Int) + 1 } (.over (if jumpB 69 r.a r.x then jt else jf)) = _
    rw [hB]
    show ({ r with at' := wrap64 ((i : Int) + 1 + max jt 0) } : RM) = _
    rw [hq]
  rw [hD]
  clear hD
  have hkI : (k : Int) ≤ 4294967295 := by omega
  have haI : (r.a : Int) ≤ 4294967295 := by have : r.a ≤ 4294967295 := hrs.1; omega
  have hxI : (r.x : Int) ≤ 4294967295 := by have : r.x ≤ 4294967295 := hrs.2.1; omega
  have hiI : (i : Int) ≤ 1000000 := by omega
  have hltI : (i : Int) < len := by omega
  have HK := Lib.hid (fun u => refKnown_any 77 u)
  rw [show insKnown 77 = true from known0 77 (by decide)] at HK
  have hT := fun u => ref_holds69 r.a r.x u hrs.1 (by first | exact hk | exact hrs.2.1)
  rw [hB] at hT
  have HT := Lib.hid hT
  have HL := Lib.hid (fun u => ref_least jt u)
  have hw1 : IntKind.i64.wrap ((i : Int) + 1 + max jt 0) = q := by rw [← hq]; exact IntWalk.i64_left _
  clear hT hB hq
  generalize max jt 0 = M at *
  have hP := steps_of w r 77 jt jf k hr
  have a1 : Below w.heap.size w ((w.alloc (Obj.cells r.arr 45)).alloc (Obj.cells #[.int .u32 0, .int .u32 0, .int .u32 0, .int .u32 0, .int .u32 0, .int .u32 0, .int .u32 0, .int .u32 0, .int .u32 0, .int .u32 0, .int .u32 0, .int .u32 0, .int .u32 0, .int .u32 0, .int .u32 0, .int .u32 0, .int .u32 0, .int .u32 0, .int .i64 0, .int .u32 0, .bool false, .bool false] 45)) := alloc2 w _ _
  obtain ⟨c0, c1, c2, c3⟩ := hi.below a1 hb
  dsimp only at c0 c1 c2 c3
  have hm : IsR ((w.alloc (Obj.cells r.arr 45)).alloc (Obj.cells #[.int .u32 0, .int .u32 0, .int .u32 0, .int .u32 0, .int .u32 0, .int .u32 0, .int .u32 0, .int .u32 0, .int .u32 0, .int .u32 0, .int .u32 0, .int .u32 0, .int .u32 0, .int .u32 0, .int .u32 0, .int .u32 0, .int .u32 0, .int .u32 0, .int .i64 0, .int .u32 0, .bool false, .bool false] 45)) w.heap.size r := ⟨(heap_alloc_old _ _ (by simp)).trans (heap_alloc_new w _), hr⟩
  obtain ⟨_, _, q18, _⟩ := hm.facts
  rw [hat] at q18
  have HAT := Lib.hid hat
  clear hm hat hi a1
  go_enter Try.func17, Try.ntmps17
  go_wp2_with fail
  refine (HK.out _).mono ?_
  rintro e w5 ⟨rfl, rfl⟩
  go_upto_region 5 with fail
  generalize (((w.alloc (Obj.cells r.arr 45)).alloc (Obj.cells #[.int .u32 0, .int .u32 0, .int .u32 0, .int .u32 0, .int .u32 0, .int .u32 0, .int .u32 0, .int .u32 0, .int .u32 0, .int .u32 0, .int .u32 0, .int .u32 0, .int .u32 0, .int .u32 0, .int .u32 0, .int .u32 0, .int .u32 0, .int .u32 0, .int .i64 0, .int .u32 0, .bool false, .bool false] 45)).alloc (Obj.cells #[.int .i64 77, .int .i64 jt, .int .i64 jf, .int .u32 (k : Int)] 35)) = w3 at *
  clear c0 c1 c2 c3 q18
  obtain ⟨_, _, q18, _⟩ := hP.m.facts
  rw [HAT.out] at q18
  have fz := block_frozen hP.m.blk 18
  have HP := Lib.hid (hP.setAt (i + 1))
  clear hP
  go_upto_region 6 with fail
  generalize w3.setCell ⟨w.heap.size, 18, none⟩ (.int .i64 ((i : Int) + 1)) = wA at *
  clear q18 fz
  have i0 := below_cell (Below.refl _ wA) HP.out.i 0 rfl
  have i1 := below_cell (Below.refl _ wA) HP.out.i 1 rfl
  have i2 := below_cell (Below.refl _ wA) HP.out.i 2 rfl
  have i3 := below_cell (Below.refl _ wA) HP.out.i 3 rfl
  obtain ⟨r0, r1, r18, r19, r20, r21⟩ := HP.out.m.facts
  dsimp only at r0 r1 r18 r19 r20 r21
  go_wp2_with fail
  refine (HT.out _).mono ?_
  rintro e w5 ⟨rfl, rfl⟩
  have fz := block_frozen HP.out.m.blk 18
  have hE : StepsE w (wA.setCell ⟨w.heap.size, 18, none⟩ (.int .i64 q)).drew { r with at' := q } := (HP.out.last.set 18 _ (HP.out.m.setAt q)).drew
  have HE := Lib.hid hE
  clear hE
  go_upto_region 30 with fail
  go_region_with (go_at_call 29; refine (HL.out _).mono ?_; rintro e w1 ⟨rfl, rfl⟩)
  all_goals
    generalize (wA.setCell ⟨w.heap.size, 18, none⟩ (.int .i64 q)).drew = wB at *
    clear fz
    clear r0 r1 r18 r19 r20 r21 i0 i1 i2 i3
    have hsz := rarr_size { r with at' := q } HE.out.m.len
    have hI : (Try.prog.info? 45).map (fun i => i.size) = some (RM.arr { r with at' := q }).size := by rw [hsz]; exact infoRM
    have H1 := Lib.hid hI
    have H2 := Lib.hid (rarr_one { r with at' := q })
    have hso : rm0.arr.size = (RM.arr { r with at' := q }).size := by rw [hsz]; rfl
    have H3 := Lib.hid hso
    clear hsz hI hso
    generalize hRR : RM.arr { r with at' := q } = R at *
    have HB := Lib.hid HE.out.m.blk
    rw [hRR] at HB
    have HRR := Lib.hid hRR
    clear hRR
    go_wp2_with (first | (refine wpList_load_row rfl 45 _ rfl w.heap.size rfl 45 R (0, 0) _ HB.out Try.underlying45 rfl H1.out ?_) | (refine wpList_store_row rfl 45 _ _ rfl (w.heap.size + 1) R rfl rfl 45 rm0.arr HE.out.o H1.out H3.out H2.out ?_))
    refine bodyPost_ret (v := .agg R) (results_cell_row rfl _ _ (w.heap.size + 1) 45 R (0, 0) _ rfl (setRow_heap _ _ _ _ _ _ HE.out.o) Try.underlying45 rfl H1.out) rfl ⟨by rw [← HRR.out], ?_⟩
    exact below_setRow HE.out.b (by omega) _

set_option maxRecDepth 100000 in
set_option maxHeartbeats 1000000 in
theorem ref_step77f (r : RM) (A : Option Addr) (len cap : Nat) (b off i k : Nat) (jt jf : Int) (rec : ByteArray) (w : World) (hr : r.cells.length = 16) (hrs : r.mach.small) (hs : rec.size = 64) (hat : r.at' = (i : Int)) (hlt : i < len) (hlen : len ≤ 1000000)
    (hb : b < w.heap.size) (hi : InsAt w b (off + i * 4) ⟨77, jt, jf, k⟩) (hk : k ≤ 4294967295) (ht : -9223372036854775808 ≤ jt ∧ jt ≤ 9223372036854775807) (hf : -9223372036854775808 ≤ jf ∧ jf ≤ 9223372036854775807) (hB : jumpB 69 r.a r.x = false) (q : Int) (hq : wrap64 ((i : Int) + 1 + max jf 0) = q) :
    Calls Try.prog 17 #[.agg r.arr, .slice (some ⟨b, off, none⟩) len cap, .string rec] w fun e w' => e = .returned (.agg ((deedD r.mach 77 k jt jf).runR rec { r with at' := r.at' + 1 }).arr) ∧ Below w.heap.size w w' := by
  have hD : (deedD r.mach 77 k jt jf).runR rec { r with at' := r.at' + 1 } = { r with at' := q } := by
    rw [hat]
    show Deed.runR rec { r with at' := (i : Int) + 1 } (.over (if jumpB 69 r.a r.x then jt else jf)) = _
    rw [hB]
    show ({ r with at' := wrap64 ((i : Int) + 1 + max jf 0) } : RM) = _
    rw [hq]
  rw [hD]
  clear hD
  have hkI : (k : Int) ≤ 4294967295 := by omega
  have haI : (r.a : Int) ≤ 4294967295 := by have : r.a ≤ 4294967295 := hrs.1; omega
  have hxI : (r.x : Int) ≤ 4294967295 := by have : r.x ≤ 4294967295 := hrs.2.1; omega
  have hiI : (i : Int) ≤ 1000000 := by omega
  have hltI : (i : Int) < len := by omega
  have HK := Lib.hid (fun u => refKnown_any 77 u)
  rw [show insKnown 77 = true from known0 77 (by decide)] at HK
  have hT := fun u => ref_holds69 r.a r.x u hrs.1 (by first | exact hk | exact hrs.2.1)
  rw [hB] at hT
  have HT := Lib.hid hT
  have HL := Lib.hid (fun u => ref_least jf u)
  have hw1 : IntKind.i64.wrap ((i : Int) + 1 + max jf 0) = q := by rw [← hq]; exact IntWalk.i64_left _
  clear hT hB hq
  generalize max jf 0 = M at *
  have hP := steps_of w r 77 jt jf k hr
  have a1 : Below w.heap.size w ((w.alloc (Obj.cells r.arr 45)).alloc (Obj.cells #[.int .u32 0, .int .u32 0, .int .u32 0, .int .u32 0, .int .u32 0, .int .u32 0, .int .u32 0, .int .u32 0, .int .u32 0, .int .u32 0, .int .u32 0, .int .u32 0, .int .u32 0, .int .u32 0, .int .u32 0, .int .u32 0, .int .u32 0, .int .u32 0, .int .i64 0, .int .u32 0, .bool false, .bool false] 45)) := alloc2 w _ _
  obtain ⟨c0, c1, c2, c3⟩ := hi.below a1 hb
  dsimp only at c0 c1 c2 c3
  have hm : IsR ((w.alloc (Obj.cells r.arr 45)).alloc (Obj.cells #[.int .u32 0, .int .u32 0, .int .u32 0, .int .u32 0, .int .u32 0, .int .u32 0, .int .u32 0, .int .u32 0, .int .u32 0, .int .u32 0, .int .u32 0, .int .u32 0, .int .u32 0, .int .u32 0, .int .u32 0, .int .u32 0, .int .u32 0, .int .u32 0, .int .i64 0, .int .u32 0, .bool false, .bool false] 45)) w.heap.size r := ⟨(heap_alloc_old _ _ (by simp)).trans (heap_alloc_new w _), hr⟩
  obtain ⟨_, _, q18, _⟩ := hm.facts
  rw [hat] at q18
  have HAT := Lib.hid hat
  clear hm hat hi a1
  go_enter Try.func17, Try.ntmps17
  go_wp2_with fail
  refine (HK.out _).mono ?_
  rintro e w5 ⟨rfl, rfl⟩
  go_upto_region 5 with fail
  generalize (((w.alloc (Obj.cells r.arr 45)).alloc (Obj.cells #[.int .u32 0, .int .u32 0, .int .u32 0, .int .u32 0, .int .u32 0, .int .u32 0, .int .u32 0, .int .u32 0, .int .u32 0, .int .u32 0, .int .u32 0, .int .u32 0, .int .u32 0, .int .u32 0, .int .u32 0, .int .u32 0, .int .u32 0, .int .u32 0, .int .i64 0, .int .u32 0, .bool false, .bool false] 45)).alloc (Obj.cells #[.int .i64 77, .int .i64 jt, .int .i64 jf, .int .u32 (k : Int)] 35)) = w3 at *
  clear c0 c1 c2 c3 q18
  obtain ⟨_, _, q18, _⟩ := hP.m.facts
  rw [HAT.out] at q18
  have fz := block_frozen hP.m.blk 18
  have HP := Lib.hid (hP.setAt (i + 1))
  clear hP
  go_upto_region 6 with fail
  generalize w3.setCell ⟨w.heap.size, 18, none⟩ (.int .i64 ((i : Int) + 1)) = wA at *
  clear q18 fz
  have i0 := below_cell (Below.refl _ wA) HP.out.i 0 rfl
  have i1 := below_cell (Below.refl _ wA) HP.out.i 1 rfl
  have i2 := below_cell (Below.refl _ wA) HP.out.i 2 rfl
  have i3 := below_cell (Below.refl _ wA) HP.out.i 3 rfl
  obtain ⟨r0, r1, r18, r19, r20, r21⟩ := HP.out.m.facts
  dsimp only at r0 r1 r18 r19 r20 r21
  go_wp2_with fail
  refine (HT.out _).mono ?_
  rintro e w5 ⟨rfl, rfl⟩
  have fz := block_frozen HP.out.m.blk 18
  have hE : StepsE w (wA.setCell ⟨w.heap.size, 18, none⟩ (.int .i64 q)).drew { r with at' := q } := (HP.out.last.set 18 _ (HP.out.m.setAt q)).drew
  have HE := Lib.hid hE
  clear hE
  go_upto_region 31 with fail
  go_region_with (go_at_call 29; refine (HL.out _).mono ?_; rintro e w1 ⟨rfl, rfl⟩)
  all_goals
    generalize (wA.setCell ⟨w.heap.size, 18, none⟩ (.int .i64 q)).drew = wB at *
    clear fz
    clear r0 r1 r18 r19 r20 r21 i0 i1 i2 i3
    have hsz := rarr_size { r with at' := q } HE.out.m.len
    have hI : (Try.prog.info? 45).map (fun i => i.size) = some (RM.arr { r with at' := q }).size := by rw [hsz]; exact infoRM
    have H1 := Lib.hid hI
    have H2 := Lib.hid (rarr_one { r with at' := q })
    have hso : rm0.arr.size = (RM.arr { r with at' := q }).size := by rw [hsz]; rfl
    have H3 := Lib.hid hso
    clear hsz hI hso
    generalize hRR : RM.arr { r with at' := q } = R at *
    have HB := Lib.hid HE.out.m.blk
    rw [hRR] at HB
    have HRR := Lib.hid hRR
    clear hRR
    go_wp2_with (first | (refine wpList_load_row rfl 45 _ rfl w.heap.size rfl 45 R (0, 0) _ HB.out Try.underlying45 rfl H1.out ?_) | (refine wpList_store_row rfl 45 _ _ rfl (w.heap.size + 1) R rfl rfl 45 rm0.arr HE.out.o H1.out H3.out H2.out ?_))
    refine bodyPost_ret (v := .agg R) (results_cell_row rfl _ _ (w.heap.size + 1) 45 R (0, 0) _ rfl (setRow_heap _ _ _ _ _ _ HE.out.o) Try.underlying45 rfl H1.out) rfl ⟨by rw [← HRR.out], ?_⟩
    exact below_setRow HE.out.b (by omega) _

end Go.Proofs.Ytpdaenpcgcjmjaa
