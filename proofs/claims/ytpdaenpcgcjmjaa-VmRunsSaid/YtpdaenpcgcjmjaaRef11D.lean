/- The reference's step: sums. -/
import Derived.Test.YtpdaenpcgcjmjaaRef11C
import Derived.StillTailTactics
namespace Go.Proofs.Ytpdaenpcgcjmjaa
open Go.RowKit
set_option linter.unusedVariables false

set_option maxRecDepth 100000 in
set_option maxHeartbeats 1000000 in
theorem ref_step4 (r : RM) (A : Option Addr) (len cap : Nat) (b off i k : Nat) (jt jf : Int) (rec : ByteArray) (w : World) (hr : r.cells.length = 16) (hrs : r.mach.small) (hs : rec.size = 64) (hat : r.at' = (i : Int)) (hlt : i < len) (hlen : len ≤ 1000000)
    (hb : b < w.heap.size) (hi : InsAt w b (off + i * 4) ⟨4, jt, jf, k⟩) (hk : k ≤ 4294967295) (ht : -9223372036854775808 ≤ jt ∧ jt ≤ 9223372036854775807) (hf : -9223372036854775808 ≤ jf ∧ jf ≤ 9223372036854775807) :
    Calls Try.prog 17 #[.agg r.arr, .slice (some ⟨b, off, none⟩) len cap, .string rec] w fun e w' => e = .returned (.agg ((deedD r.mach 4 k jt jf).runR rec { r with at' := r.at' + 1 }).arr) ∧ Below w.heap.size w w' := by
  obtain ⟨q, hq⟩ : ∃ q, sumV 4 r.a k = q := ⟨_, rfl⟩
  have hD : (deedD r.mach 4 k jt jf).runR rec { r with at' := r.at' + 1 } = { r with at' := (i : Int) + 1, a := q } := by rw [← hq, hat]; rfl
  rw [hD]
  clear hD
  have hkI : (k : Int) ≤ 4294967295 := by omega
  have haI : (r.a : Int) ≤ 4294967295 := by have : r.a ≤ 4294967295 := hrs.1; omega
  have hxI : (r.x : Int) ≤ 4294967295 := by have : r.x ≤ 4294967295 := hrs.2.1; omega
  have hiI : (i : Int) ≤ 1000000 := by omega
  have hltI : (i : Int) < len := by omega
  have hT := fun u => ref_two4 r.a k u hrs.1 (by first | exact hk | exact hrs.2.1)
  rw [hq] at hT
  have HT := Lib.hid hT
  clear hT hq
  have HK := Lib.hid (fun u => refKnown_any 4 u)
  rw [show insKnown 4 = true from known0 4 (by decide)] at HK
  have hP := steps_of w r 4 jt jf k hr
  have a1 : Below w.heap.size w ((w.alloc (Obj.cells r.arr 45)).alloc (Obj.cells #[.int .u32 0, .int .u32 0, .int .u32 0, .int .u32 0, .int .u32 0, .int .u32 0, .int .u32 0, .int .u32 0, .int .u32 0, .int .u32 0, .int .u32 0, .int .u32 0, .int .u32 0, .int .u32 0, .int .u32 0, .int .u32 0, .int .u32 0, .int .u32 0, .int .i64 0, .int .u32 0, .bool false, .bool false] 45)) := alloc2 w _ _
  obtain ⟨c0, c1, c2, c3⟩ := hi.below a1 hb
  dsimp only at c0 c1 c2 c3
  have hm : IsR ((w.alloc (Obj.cells r.arr 45)).alloc (Obj.cells #[.int .u32 0, .int .u32 0, .int .u32 0, .int .u32 0, .int .u32 0, .int .u32 0, .int .u32 0, .int .u32 0, .int .u32 0, .int .u32 0, .int .u32 0, .int .u32 0, .int .u32 0, .int .u32 0, .int .u32 0, .int .u32 0, .int .u32 0, .int .u32 0, .int .i64 0, .int .u32 0, .bool false, .bool false] 45)) w.heap.size r := ⟨(heap_alloc_old _ _ (by simp)).trans (heap_alloc_new w _), hr⟩
  obtain ⟨_, _, q18, _⟩ := hm.facts
  rw [hat] at q18
  have HAT := Lib.hid hat
  clear hm hat hi a1
  go_enter Try.func17, Try.ntmps17
  go_wp2_with fail
  refine (HK.out _).mono ?_
  rintro e w5 ⟨rfl, rfl⟩
  go_upto_region 5 with fail
  generalize (((w.alloc (Obj.cells r.arr 45)).alloc (Obj.cells #[.int .u32 0, .int .u32 0, .int .u32 0, .int .u32 0, .int .u32 0, .int .u32 0, .int .u32 0, .int .u32 0, .int .u32 0, .int .u32 0, .int .u32 0, .int .u32 0, .int .u32 0, .int .u32 0, .int .u32 0, .int .u32 0, .int .u32 0, .int .u32 0, .int .i64 0, .int .u32 0, .bool false, .bool false] 45)).alloc (Obj.cells #[.int .i64 4, .int .i64 jt, .int .i64 jf, .int .u32 (k : Int)] 35)) = w3 at *
  clear c0 c1 c2 c3 q18
  obtain ⟨_, _, q18, _⟩ := hP.m.facts
  rw [HAT.out] at q18
  have fz := block_frozen hP.m.blk 18
  have HP := Lib.hid (hP.setAt (i + 1))
  clear hP
  go_upto_region 6 with fail
  generalize w3.setCell ⟨w.heap.size, 18, none⟩ (.int .i64 ((i : Int) + 1)) = wA at *
  clear q18 fz
  have i0 := below_cell (Below.refl _ wA) HP.out.i 0 rfl
  have i1 := below_cell (Below.refl _ wA) HP.out.i 1 rfl
  have i2 := below_cell (Below.refl _ wA) HP.out.i 2 rfl
  have i3 := below_cell (Below.refl _ wA) HP.out.i 3 rfl
  obtain ⟨r0, r1, r18, r19, r20, r21⟩ := HP.out.m.facts
  dsimp only at r0 r1 r18 r19 r20 r21
  go_wp2_with fail
  refine (HT.out _).mono ?_
  rintro e w5 ⟨rfl, rfl⟩
  have fz := block_frozen HP.out.last.m.blk 0
  have hE : StepsE w (wA.setCell ⟨w.heap.size, 0, none⟩ (.int .u32 (q : Int))) { r with at' := (i : Int) + 1, a := q } := HP.out.last.set (0) _ (HP.out.m.setA q)
  have HE := Lib.hid hE
  clear hE
  go_upto_region 25 with fail
  generalize wA.setCell ⟨w.heap.size, 0, none⟩ (.int .u32 (q : Int)) = wB at *
  clear fz
  clear r0 r1 r18 r19 r20 r21 i0 i1 i2 i3
  have hsz := rarr_size { r with at' := (i : Int) + 1, a := q } HE.out.m.len
  have hI : (Try.prog.info? 45).map (fun i => i.size) = some (RM.arr { r with at' := (i : Int) + 1, a := q }).size := by rw [hsz]; exact infoRM
  have H1 := Lib.hid hI
  have H2 := Lib.hid (rarr_one { r with at' := (i : Int) + 1, a := q })
  have hso : rm0.arr.size = (RM.arr { r with at' := (i : Int) + 1, a := q }).size := by rw [hsz]; rfl
  have H3 := Lib.hid hso
  clear hsz hI hso
  generalize hRR : RM.arr { r with at' := (i : Int) + 1, a := q } = R at *
  have HB := Lib.hid HE.out.m.blk
  rw [hRR] at HB
  have HRR := Lib.hid hRR
  clear hRR
  go_wp2_with (first | (refine wpList_load_row rfl 45 _ rfl w.heap.size rfl 45 R (0, 0) _ HB.out Try.underlying45 rfl H1.out ?_) | (refine wpList_store_row rfl 45 _ _ rfl (w.heap.size + 1) R rfl rfl 45 rm0.arr HE.out.o H1.out H3.out H2.out ?_))
  refine bodyPost_ret (v := .agg R) (results_cell_row rfl _ _ (w.heap.size + 1) 45 R (0, 0) _ rfl (setRow_heap _ _ _ _ _ _ HE.out.o) Try.underlying45 rfl H1.out) rfl ⟨by rw [← HRR.out], ?_⟩
  exact below_setRow HE.out.b (by omega) _

set_option maxRecDepth 100000 in
set_option maxHeartbeats 1000000 in
theorem ref_step20 (r : RM) (A : Option Addr) (len cap : Nat) (b off i k : Nat) (jt jf : Int) (rec : ByteArray) (w : World) (hr : r.cells.length = 16) (hrs : r.mach.small) (hs : rec.size = 64) (hat : r.at' = (i : Int)) (hlt : i < len) (hlen : len ≤ 1000000)
    (hb : b < w.heap.size) (hi : InsAt w b (off + i * 4) ⟨20, jt, jf, k⟩) (hk : k ≤ 4294967295) (ht : -9223372036854775808 ≤ jt ∧ jt ≤ 9223372036854775807) (hf : -9223372036854775808 ≤ jf ∧ jf ≤ 9223372036854775807) :
    Calls Try.prog 17 #[.agg r.arr, .slice (some ⟨b, off, none⟩) len cap, .string rec] w fun e w' => e = .returned (.agg ((deedD r.mach 20 k jt jf).runR rec { r with at' := r.at' + 1 }).arr) ∧ Below w.heap.size w w' := by
  obtain ⟨q, hq⟩ : ∃ q, sumV 20 r.a k = q := ⟨_, rfl⟩
  have hD : (deedD r.mach 20 k jt jf).runR rec { r with at' := r.at' + 1 } = { r with at' := (i : Int) + 1, a := q } := by rw [← hq, hat]; rfl
  rw [hD]
  clear hD
  have hkI : (k : Int) ≤ 4294967295 := by omega
  have haI : (r.a : Int) ≤ 4294967295 := by have : r.a ≤ 4294967295 := hrs.1; omega
  have hxI : (r.x : Int) ≤ 4294967295 := by have : r.x ≤ 4294967295 := hrs.2.1; omega
  have hiI : (i : Int) ≤ 1000000 := by omega
  have hltI : (i : Int) < len := by omega
  have hT := fun u => ref_two20 r.a k u hrs.1 (by first | exact hk | exact hrs.2.1)
  rw [hq] at hT
  have HT := Lib.hid hT
  clear hT hq
  have HK := Lib.hid (fun u => refKnown_any 20 u)
  rw [show insKnown 20 = true from known0 20 (by decide)] at HK
  have hP := steps_of w r 20 jt jf k hr
  have a1 : Below w.heap.size w ((w.alloc (Obj.cells r.arr 45)).alloc (Obj.cells #[.int .u32 0, .int .u32 0, .int .u32 0, .int .u32 0, .int .u32 0, .int .u32 0, .int .u32 0, .int .u32 0, .int .u32 0, .int .u32 0, .int .u32 0, .int .u32 0, .int .u32 0, .int .u32 0, .int .u32 0, .int .u32 0, .int .u32 0, .int .u32 0, .int .i64 0, .int .u32 0, .bool false, .bool false] 45)) := alloc2 w _ _
  obtain ⟨c0, c1, c2, c3⟩ := hi.below a1 hb
  dsimp only at c0 c1 c2 c3
  have hm : IsR ((w.alloc (Obj.cells r.arr 45)).alloc (Obj.cells #[.int .u32 0, .int .u32 0, .int .u32 0, .int .u32 0, .int .u32 0, .int .u32 0, .int .u32 0, .int .u32 0, .int .u32 0, .int .u32 0, .int .u32 0, .int .u32 0, .int .u32 0, .int .u32 0, .int .u32 0, .int .u32 0, .int .u32 0, .int .u32 0, .int .i64 0, .int .u32 0, .bool false, .bool false] 45)) w.heap.size r := ⟨(heap_alloc_old _ _ (by simp)).trans (heap_alloc_new w _), hr⟩
  obtain ⟨_, _, q18, _⟩ := hm.facts
  rw [hat] at q18
  have HAT := Lib.hid hat
  clear hm hat hi a1
  go_enter Try.func17, Try.ntmps17
  go_wp2_with fail
  refine (HK.out _).mono ?_
  rintro e w5 ⟨rfl, rfl⟩
  go_upto_region 5 with fail
  generalize (((w.alloc (Obj.cells r.arr 45)).alloc (Obj.cells #[.int .u32 0, .int .u32 0, .int .u32 0, .int .u32 0, .int .u32 0, .int .u32 0, .int .u32 0, .int .u32 0, .int .u32 0, .int .u32 0, .int .u32 0, .int .u32 0, .int .u32 0, .int .u32 0, .int .u32 0, .int .u32 0, .int .u32 0, .int .u32 0, .int .i64 0, .int .u32 0, .bool false, .bool false] 45)).alloc (Obj.cells #[.int .i64 20, .int .i64 jt, .int .i64 jf, .int .u32 (k : Int)] 35)) = w3 at *
  clear c0 c1 c2 c3 q18
  obtain ⟨_, _, q18, _⟩ := hP.m.facts
  rw [HAT.out] at q18
  have fz := block_frozen hP.m.blk 18
  have HP := Lib.hid (hP.setAt (i + 1))
  clear hP
  go_upto_region 6 with fail
  generalize w3.setCell ⟨w.heap.size, 18, none⟩ (.int .i64 ((i : Int) + 1)) = wA at *
  clear q18 fz
  have i0 := below_cell (Below.refl _ wA) HP.out.i 0 rfl
  have i1 := below_cell (Below.refl _ wA) HP.out.i 1 rfl
  have i2 := below_cell (Below.refl _ wA) HP.out.i 2 rfl
  have i3 := below_cell (Below.refl _ wA) HP.out.i 3 rfl
  obtain ⟨r0, r1, r18, r19, r20, r21⟩ := HP.out.m.facts
  dsimp only at r0 r1 r18 r19 r20 r21
  go_wp2_with fail
  refine (HT.out _).mono ?_
  rintro e w5 ⟨rfl, rfl⟩
  have fz := block_frozen HP.out.last.m.blk 0
  have hE : StepsE w (wA.setCell ⟨w.heap.size, 0, none⟩ (.int .u32 (q : Int))) { r with at' := (i : Int) + 1, a := q } := HP.out.last.set (0) _ (HP.out.m.setA q)
  have HE := Lib.hid hE
  clear hE
  go_upto_region 25 with fail
  generalize wA.setCell ⟨w.heap.size, 0, none⟩ (.int .u32 (q : Int)) = wB at *
  clear fz
  clear r0 r1 r18 r19 r20 r21 i0 i1 i2 i3
  have hsz := rarr_size { r with at' := (i : Int) + 1, a := q } HE.out.m.len
  have hI : (Try.prog.info? 45).map (fun i => i.size) = some (RM.arr { r with at' := (i : Int) + 1, a := q }).size := by rw [hsz]; exact infoRM
  have H1 := Lib.hid hI
  have H2 := Lib.hid (rarr_one { r with at' := (i : Int) + 1, a := q })
  have hso : rm0.arr.size = (RM.arr { r with at' := (i : Int) + 1, a := q }).size := by rw [hsz]; rfl
  have H3 := Lib.hid hso
  clear hsz hI hso
  generalize hRR : RM.arr { r with at' := (i : Int) + 1, a := q } = R at *
  have HB := Lib.hid HE.out.m.blk
  rw [hRR] at HB
  have HRR := Lib.hid hRR
  clear hRR
  go_wp2_with (first | (refine wpList_load_row rfl 45 _ rfl w.heap.size rfl 45 R (0, 0) _ HB.out Try.underlying45 rfl H1.out ?_) | (refine wpList_store_row rfl 45 _ _ rfl (w.heap.size + 1) R rfl rfl 45 rm0.arr HE.out.o H1.out H3.out H2.out ?_))
  refine bodyPost_ret (v := .agg R) (results_cell_row rfl _ _ (w.heap.size + 1) 45 R (0, 0) _ rfl (setRow_heap _ _ _ _ _ _ HE.out.o) Try.underlying45 rfl H1.out) rfl ⟨by rw [← HRR.out], ?_⟩
  exact below_setRow HE.out.b (by omega) _

set_option maxRecDepth 100000 in
set_option maxHeartbeats 1000000 in
theorem ref_step36 (r : RM) (A : Option Addr) (len cap : Nat) (b off i k : Nat) (jt jf : Int) (rec : ByteArray) (w : World) (hr : r.cells.length = 16) (hrs : r.mach.small) (hs : rec.size = 64) (hat : r.at' = (i : Int)) (hlt : i < len) (hlen : len ≤ 1000000)
    (hb : b < w.heap.size) (hi : InsAt w b (off + i * 4) ⟨36, jt, jf, k⟩) (hk : k ≤ 4294967295) (ht : -9223372036854775808 ≤ jt ∧ jt ≤ 9223372036854775807) (hf : -9223372036854775808 ≤ jf ∧ jf ≤ 9223372036854775807) :
    Calls Try.prog 17 #[.agg r.arr, .slice (some ⟨b, off, none⟩) len cap, .string rec] w fun e w' => e = .returned (.agg ((deedD r.mach 36 k jt jf).runR rec { r with at' := r.at' + 1 }).arr) ∧ Below w.heap.size w w' := by
  obtain ⟨q, hq⟩ : ∃ q, sumV 36 r.a k = q := ⟨_, rfl⟩
  have hD : (deedD r.mach 36 k jt jf).runR rec { r with at' := r.at' + 1 } = { r with at' := (i : Int) + 1, a := q } := by rw [← hq, hat]; rfl
  rw [hD]
  clear hD
  have hkI : (k : Int) ≤ 4294967295 := by omega
  have haI : (r.a : Int) ≤ 4294967295 := by have : r.a ≤ 4294967295 := hrs.1; omega
  have hxI : (r.x : Int) ≤ 4294967295 := by have : r.x ≤ 4294967295 := hrs.2.1; omega
  have hiI : (i : Int) ≤ 1000000 := by omega
  have hltI : (i : Int) < len := by omega
  have hT := fun u => ref_two36 r.a k u hrs.1 (by first | exact hk | exact hrs.2.1)
  rw [hq] at hT
  have HT := Lib.hid hT
  clear hT hq
  have HK := Lib.hid (fun u => refKnown_any 36 u)
  rw [show insKnown 36 = true from known0 36 (by decide)] at HK
  have hP := steps_of w r 36 jt jf k hr
  have a1 : Below w.heap.size w ((w.alloc (Obj.cells r.arr 45)).alloc (Obj.cells #[.int .u32 0, .int .u32 0, .int .u32 0, .int .u32 0, .int .u32 0, .int .u32 0, .int .u32 0, .int .u32 0, .int .u32 0, .int .u32 0, .int .u32 0, .int .u32 0, .int .u32 0, .int .u32 0, .int .u32 0, .int .u32 0, .int .u32 0, .int .u32 0, .int .i64 0, .int .u32 0, .bool false, .bool false] 45)) := alloc2 w _ _
  obtain ⟨c0, c1, c2, c3⟩ := hi.below a1 hb
  dsimp only at c0 c1 c2 c3
  have hm : IsR ((w.alloc (Obj.cells r.arr 45)).alloc (Obj.cells #[.int .u32 0, .int .u32 0, .int .u32 0, .int .u32 0, .int .u32 0, .int .u32 0, .int .u32 0, .int .u32 0, .int .u32 0, .int .u32 0, .int .u32 0, .int .u32 0, .int .u32 0, .int .u32 0, .int .u32 0, .int .u32 0, .int .u32 0, .int .u32 0, .int .i64 0, .int .u32 0, .bool false, .bool false] 45)) w.heap.size r := ⟨(heap_alloc_old _ _ (by simp)).trans (heap_alloc_new w _), hr⟩
  obtain ⟨_, _, q18, _⟩ := hm.facts
  rw [hat] at q18
  have HAT := Lib.hid hat
  clear hm hat hi a1
  go_enter Try.func17, Try.ntmps17
  go_wp2_with fail
  refine (HK.out _).mono ?_
  rintro e w5 ⟨rfl, rfl⟩
  go_upto_region 5 with fail
  generalize (((w.alloc (Obj.cells r.arr 45)).alloc (Obj.cells #[.int .u32 0, .int .u32 0, .int .u32 0, .int .u32 0, .int .u32 0, .int .u32 0, .int .u32 0, .int .u32 0, .int .u32 0, .int .u32 0, .int .u32 0, .int .u32 0, .int .u32 0, .int .u32 0, .int .u32 0, .int .u32 0, .int .u32 0, .int .u32 0, .int .i64 0, .int .u32 0, .bool false, .bool false] 45)).alloc (Obj.cells #[.int .i64 36, .int .i64 jt, .int .i64 jf, .int .u32 (k : Int)] 35)) = w3 at *
  clear c0 c1 c2 c3 q18
  obtain ⟨_, _, q18, _⟩ := hP.m.facts
  rw [HAT.out] at q18
  have fz := block_frozen hP.m.blk 18
  have HP := Lib.hid (hP.setAt (i + 1))
  clear hP
  go_upto_region 6 with fail
  generalize w3.setCell ⟨w.heap.size, 18, none⟩ (.int .i64 ((i : Int) + 1)) = wA at *
  clear q18 fz
  have i0 := below_cell (Below.refl _ wA) HP.out.i 0 rfl
  have i1 := below_cell (Below.refl _ wA) HP.out.i 1 rfl
  have i2 := below_cell (Below.refl _ wA) HP.out.i 2 rfl
  have i3 := below_cell (Below.refl _ wA) HP.out.i 3 rfl
  obtain ⟨r0, r1, r18, r19, r20, r21⟩ := HP.out.m.facts
  dsimp only at r0 r1 r18 r19 r20 r21
  go_wp2_with fail
  refine (HT.out _).mono ?_
  rintro e w5 ⟨rfl, rfl⟩
  have fz := block_frozen HP.out.last.m.blk 0
  have hE : StepsE w (wA.setCell ⟨w.heap.size, 0, none⟩ (.int .u32 (q : Int))) { r with at' := (i : Int) + 1, a := q } := HP.out.last.set (0) _ (HP.out.m.setA q)
  have HE := Lib.hid hE
  clear hE
  go_upto_region 25 with fail
  generalize wA.setCell ⟨w.heap.size, 0, none⟩ (.int .u32 (q : Int)) = wB at *
  clear fz
  clear r0 r1 r18 r19 r20 r21 i0 i1 i2 i3
  have hsz := rarr_size { r with at' := (i : Int) + 1, a := q } HE.out.m.len
  have hI : (Try.prog.info? 45).map (fun i => i.size) = some (RM.arr { r with at' := (i : Int) + 1, a := q }).size := by rw [hsz]; exact infoRM
  have H1 := Lib.hid hI
  have H2 := Lib.hid (rarr_one { r with at' := (i : Int) + 1, a := q })
  have hso : rm0.arr.size = (RM.arr { r with at' := (i : Int) + 1, a := q }).size := by rw [hsz]; rfl
  have H3 := Lib.hid hso
  clear hsz hI hso
  generalize hRR : RM.arr { r with at' := (i : Int) + 1, a := q } = R at *
  have HB := Lib.hid HE.out.m.blk
  rw [hRR] at HB
  have HRR := Lib.hid hRR
  clear hRR
  go_wp2_with (first | (refine wpList_load_row rfl 45 _ rfl w.heap.size rfl 45 R (0, 0) _ HB.out Try.underlying45 rfl H1.out ?_) | (refine wpList_store_row rfl 45 _ _ rfl (w.heap.size + 1) R rfl rfl 45 rm0.arr HE.out.o H1.out H3.out H2.out ?_))
  refine bodyPost_ret (v := .agg R) (results_cell_row rfl _ _ (w.heap.size + 1) 45 R (0, 0) _ rfl (setRow_heap _ _ _ _ _ _ HE.out.o) Try.underlying45 rfl H1.out) rfl ⟨by rw [← HRR.out], ?_⟩
  exact below_setRow HE.out.b (by omega) _

set_option maxRecDepth 100000 in
set_option maxHeartbeats 1000000 in
theorem ref_step68 (r : RM) (A : Option Addr) (len cap : Nat) (b off i k : Nat) (jt jf : Int) (rec : ByteArray) (w : World) (hr : r.cells.length = 16) (hrs : r.mach.small) (hs : rec.size = 64) (hat : r.at' = (i : Int)) (hlt : i < len) (hlen : len ≤ 1000000)
    (hb : b < w.heap.size) (hi : InsAt w b (off + i * 4) ⟨68, jt, jf, k⟩) (hk : k ≤ 4294967295) (ht : -9223372036854775808 ≤ jt ∧ jt ≤ 9223372036854775807) (hf : -9223372036854775808 ≤ jf ∧ jf ≤ 9223372036854775807) :
    Calls Try.prog 17 #[.agg r.arr, .slice (some ⟨b, off, none⟩) len cap, .string rec] w fun e w' => e = .returned (.agg ((deedD r.mach 68 k jt jf).runR rec { r with at' := r.at' + 1 }).arr) ∧ Below w.heap.size w w' := by
  obtain ⟨q, hq⟩ : ∃ q, sumV 68 r.a k = q := ⟨_, rfl⟩
  have hD : (deedD r.mach 68 k jt jf).runR rec { r with at' := r.at' + 1 } = { r with at' := (i : Int) + 1, a := q } := by rw [← hq, hat]; rfl
  rw [hD]
  clear hD
  have hkI : (k : Int) ≤ 4294967295 := by omega
  have haI : (r.a : Int) ≤ 4294967295 := by have : r.a ≤ 4294967295 := hrs.1; omega
  have hxI : (r.x : Int) ≤ 4294967295 := by have : r.x ≤ 4294967295 := hrs.2.1; omega
  have hiI : (i : Int) ≤ 1000000 := by omega
  have hltI : (i : Int) < len := by omega
  have hT := fun u => ref_two68 r.a k u hrs.1 (by first | exact hk | exact hrs.2.1)
  rw [hq] at hT
  have HT := Lib.hid hT
  clear hT hq
  have HK := Lib.hid (fun u => refKnown_any 68 u)
  rw [show insKnown 68 = true from known0 68 (by decide)] at HK
  have hP := steps_of w r 68 jt jf k hr
  have a1 : Below w.heap.size w ((w.alloc (Obj.cells r.arr 45)).alloc (Obj.cells #[.int .u32 0, .int .u32 0, .int .u32 0, .int .u32 0, .int .u32 0, .int .u32 0, .int .u32 0, .int .u32 0, .int .u32 0, .int .u32 0, .int .u32 0, .int .u32 0, .int .u32 0, .int .u32 0, .int .u32 0, .int .u32 0, .int .u32 0, .int .u32 0, .int .i64 0, .int .u32 0, .bool false, .bool false] 45)) := alloc2 w _ _
  obtain ⟨c0, c1, c2, c3⟩ := hi.below a1 hb
  dsimp only at c0 c1 c2 c3
  have hm : IsR ((w.alloc (Obj.cells r.arr 45)).alloc (Obj.cells #[.int .u32 0, .int .u32 0, .int .u32 0, .int .u32 0, .int .u32 0, .int .u32 0, .int .u32 0, .int .u32 0, .int .u32 0, .int .u32 0, .int .u32 0, .int .u32 0, .int .u32 0, .int .u32 0, .int .u32 0, .int .u32 0, .int .u32 0, .int .u32 0, .int .i64 0, .int .u32 0, .bool false, .bool false] 45)) w.heap.size r := ⟨(heap_alloc_old _ _ (by simp)).trans (heap_alloc_new w _), hr⟩
  obtain ⟨_, _, q18, _⟩ := hm.facts
  rw [hat] at q18
  have HAT := Lib.hid hat
  clear hm hat hi a1
  go_enter Try.func17, Try.ntmps17
  go_wp2_with fail
  refine (HK.out _).mono ?_
  rintro e w5 ⟨rfl, rfl⟩
  go_upto_region 5 with fail
  generalize (((w.alloc (Obj.cells r.arr 45)).alloc (Obj.cells #[.int .u32 0, .int .u32 0, .int .u32 0, .int .u32 0, .int .u32 0, .int .u32 0, .int .u32 0, .int .u32 0, .int .u32 0, .int .u32 0, .int .u32 0, .int .u32 0, .int .u32 0, .int .u32 0, .int .u32 0, .int .u32 0, .int .u32 0, .int .u32 0, .int .i64 0, .int .u32 0, .bool false, .bool false] 45)).alloc (Obj.cells #[.int .i64 68, .int .i64 jt, .int .i64 jf, .int .u32 (k : Int)] 35)) = w3 at *
  clear c0 c1 c2 c3 q18
  obtain ⟨_, _, q18, _⟩ := hP.m.facts
  rw [HAT.out] at q18
  have fz := block_frozen hP.m.blk 18
  have HP := Lib.hid (hP.setAt (i + 1))
  clear hP
  go_upto_region 6 with fail
  generalize w3.setCell ⟨w.heap.size, 18, none⟩ (.int .i64 ((i : Int) + 1)) = wA at *
  clear q18 fz
  have i0 := below_cell (Below.refl _ wA) HP.out.i 0 rfl
  have i1 := below_cell (Below.refl _ wA) HP.out.i 1 rfl
  have i2 := below_cell (Below.refl _ wA) HP.out.i 2 rfl
  have i3 := below_cell (Below.refl _ wA) HP.out.i 3 rfl
  obtain ⟨r0, r1, r18, r19, r20, r21⟩ := HP.out.m.facts
  dsimp only at r0 r1 r18 r19 r20 r21
  go_wp2_with fail
  refine (HT.out _).mono ?_
  rintro e w5 ⟨rfl, rfl⟩
  have fz := block_frozen HP.out.last.m.blk 0
  have hE : StepsE w (wA.setCell ⟨w.heap.size, 0, none⟩ (.int .u32 (q : Int))) { r with at' := (i : Int) + 1, a := q } := HP.out.last.set (0) _ (HP.out.m.setA q)
  have HE := Lib.hid hE
  clear hE
  go_upto_region 25 with fail
  generalize wA.setCell ⟨w.heap.size, 0, none⟩ (.int .u32 (q : Int)) = wB at *
  clear fz
  clear r0 r1 r18 r19 r20 r21 i0 i1 i2 i3
  have hsz := rarr_size { r with at' := (i : Int) + 1, a := q } HE.out.m.len
  have hI : (Try.prog.info? 45).map (fun i => i.size) = some (RM.arr { r with at' := (i : Int) + 1, a := q }).size := by rw [hsz]; exact infoRM
  have H1 := Lib.hid hI
  have H2 := Lib.hid (rarr_one { r with at' := (i : Int) + 1, a := q })
  have hso : rm0.arr.size = (RM.arr { r with at' := (i : Int) + 1, a := q }).size := by rw [hsz]; rfl
  have H3 := Lib.hid hso
  clear hsz hI hso
  generalize hRR : RM.arr { r with at' := (i : Int) + 1, a := q } = R at *
  have HB := Lib.hid HE.out.m.blk
  rw [hRR] at HB
  have HRR := Lib.hid hRR
  clear hRR
  go_wp2_with (first | (refine wpList_load_row rfl 45 _ rfl w.heap.size rfl 45 R (0, 0) _ HB.out Try.underlying45 rfl H1.out ?_) | (refine wpList_store_row rfl 45 _ _ rfl (w.heap.size + 1) R rfl rfl 45 rm0.arr HE.out.o H1.out H3.out H2.out ?_))
  refine bodyPost_ret (v := .agg R) (results_cell_row rfl _ _ (w.heap.size + 1) 45 R (0, 0) _ rfl (setRow_heap _ _ _ _ _ _ HE.out.o) Try.underlying45 rfl H1.out) rfl ⟨by rw [← HRR.out], ?_⟩
  exact below_setRow HE.out.b (by omega) _

set_option maxRecDepth 100000 in
set_option maxHeartbeats 1000000 in
theorem ref_step84 (r : RM) (A : Option Addr) (len cap : Nat) (b off i k : Nat) (jt jf : Int) (rec : ByteArray) (w : World) (hr : r.cells.length = 16) (hrs : r.mach.small) (hs : rec.size = 64) (hat : r.at' = (i : Int)) (hlt : i < len) (hlen : len ≤ 1000000)
    (hb : b < w.heap.size) (hi : InsAt w b (off + i * 4) ⟨84, jt, jf, k⟩) (hk : k ≤ 4294967295) (ht : -9223372036854775808 ≤ jt ∧ jt ≤ 9223372036854775807) (hf : -9223372036854775808 ≤ jf ∧ jf ≤ 9223372036854775807) :
    Calls Try.prog 17 #[.agg r.arr, .slice (some ⟨b, off, none⟩) len cap, .string rec] w fun e w' => e = .returned (.agg ((deedD r.mach 84 k jt jf).runR rec { r with at' := r.at' + 1 }).arr) ∧ Below w.heap.size w w' := by
  obtain ⟨q, hq⟩ : ∃ q, sumV 84 r.a k = q := ⟨_, rfl⟩
  have hD : (deedD r.mach 84 k jt jf).runR rec { r with at' := r.at' + 1 } = { r with at' := (i : Int) + 1, a := q } := by rw [← hq, hat]; rfl
  rw [hD]
  clear hD
  have hkI : (k : Int) ≤ 4294967295 := by omega
  have haI : (r.a : Int) ≤ 4294967295 := by have : r.a ≤ 4294967295 := hrs.1; omega
  have hxI : (r.x : Int) ≤ 4294967295 := by have : r.x ≤ 4294967295 := hrs.2.1; omega
  have hiI : (i : Int) ≤ 1000000 := by omega
  have hltI : (i : Int) < len := by omega
  have hT := fun u => ref_two84 r.a k u hrs.1 (by first | exact hk | exact hrs.2.1)
  rw [hq] at hT
  have HT := Lib.hid hT
  clear hT hq
  have HK := Lib.hid (fun u => refKnown_any 84 u)
  rw [show insKnown 84 = true from known0 84 (by decide)] at HK
  have hP := steps_of w r 84 jt jf k hr
  have a1 : Below w.heap.size w ((w.alloc (Obj.cells r.arr 45)).alloc (Obj.cells #[.int .u32 0, .int .u32 0, .int .u32 0, .int .u32 0, .int .u32 0, .int .u32 0, .int .u32 0, .int .u32 0, .int .u32 0, .int .u32 0, .int .u32 0, .int .u32 0, .int .u32 0, .int .u32 0, .int .u32 0, .int .u32 0, .int .u32 0, .int .u32 0, .int .i64 0, .int .u32 0, .bool false, .bool false] 45)) := alloc2 w _ _
  obtain ⟨c0, c1, c2, c3⟩ := hi.below a1 hb
  dsimp only at c0 c1 c2 c3
  have hm : IsR ((w.alloc (Obj.cells r.arr 45)).alloc (Obj.cells #[.int .u32 0, .int .u32 0, .int .u32 0, .int .u32 0, .int .u32 0, .int .u32 0, .int .u32 0, .int .u32 0, .int .u32 0, .int .u32 0, .int .u32 0, .int .u32 0, .int .u32 0, .int .u32 0, .int .u32 0, .int .u32 0, .int .u32 0, .int .u32 0, .int .i64 0, .int .u32 0, .bool false, .bool false] 45)) w.heap.size r := ⟨(heap_alloc_old _ _ (by simp)).trans (heap_alloc_new w _), hr⟩
  obtain ⟨_, _, q18, _⟩ := hm.facts
  rw [hat] at q18
  have HAT := Lib.hid hat
  clear hm hat hi a1
  go_enter Try.func17, Try.ntmps17
  go_wp2_with fail
  refine (HK.out _).mono ?_
  rintro e w5 ⟨rfl, rfl⟩
  go_upto_region 5 with fail
  generalize (((w.alloc (Obj.cells r.arr 45)).alloc (Obj.cells #[.int .u32 0, .int .u32 0, .int .u32 0, .int .u32 0, .int .u32 0, .int .u32 0, .int .u32 0, .int .u32 0, .int .u32 0, .int .u32 0, .int .u32 0, .int .u32 0, .int .u32 0, .int .u32 0, .int .u32 0, .int .u32 0, .int .u32 0, .int .u32 0, .int .i64 0, .int .u32 0, .bool false, .bool false] 45)).alloc (Obj.cells #[.int .i64 84, .int .i64 jt, .int .i64 jf, .int .u32 (k : Int)] 35)) = w3 at *
  clear c0 c1 c2 c3 q18
  obtain ⟨_, _, q18, _⟩ := hP.m.facts
  rw [HAT.out] at q18
  have fz := block_frozen hP.m.blk 18
  have HP := Lib.hid (hP.setAt (i + 1))
  clear hP
  go_upto_region 6 with fail
  generalize w3.setCell ⟨w.heap.size, 18, none⟩ (.int .i64 ((i : Int) + 1)) = wA at *
  clear q18 fz
  have i0 := below_cell (Below.refl _ wA) HP.out.i 0 rfl
  have i1 := below_cell (Below.refl _ wA) HP.out.i 1 rfl
  have i2 := below_cell (Below.refl _ wA) HP.out.i 2 rfl
  have i3 := below_cell (Below.refl _ wA) HP.out.i 3 rfl
  obtain ⟨r0, r1, r18, r19, r20, r21⟩ := HP.out.m.facts
  dsimp only at r0 r1 r18 r19 r20 r21
  go_wp2_with fail
  refine (HT.out _).mono ?_
  rintro e w5 ⟨rfl, rfl⟩
  have fz := block_frozen HP.out.last.m.blk 0
  have hE : StepsE w (wA.setCell ⟨w.heap.size, 0, none⟩ (.int .u32 (q : Int))) { r with at' := (i : Int) + 1, a := q } := HP.out.last.set (0) _ (HP.out.m.setA q)
  have HE := Lib.hid hE
  clear hE
  go_upto_region 25 with fail
  generalize wA.setCell ⟨w.heap.size, 0, none⟩ (.int .u32 (q : Int)) = wB at *
  clear fz
  clear r0 r1 r18 r19 r20 r21 i0 i1 i2 i3
  have hsz := rarr_size { r with at' := (i : Int) + 1, a := q } HE.out.m.len
  have hI : (Try.prog.info? 45).map (fun i => i.size) = some (RM.arr { r with at' := (i : Int) + 1, a := q }).size := by rw [hsz]; exact infoRM
  have H1 := Lib.hid hI
  have H2 := Lib.hid (rarr_one { r with at' := (i : Int) + 1, a := q })
  have hso : rm0.arr.size = (RM.arr { r with at' := (i : Int) + 1, a := q }).size := by rw [hsz]; rfl
  have H3 := Lib.hid hso
  clear hsz hI hso
  generalize hRR : RM.arr { r with at' := (i : Int) + 1, a := q } = R at *
  have HB := Lib.hid HE.out.m.blk
  rw [hRR] at HB
  have HRR := Lib.hid hRR
  clear hRR
  go_wp2_with (first | (refine wpList_load_row rfl 45 _ rfl w.heap.size rfl 45 R (0, 0) _ HB.out Try.underlying45 rfl H1.out ?_) | (refine wpList_store_row rfl 45 _ _ rfl (w.heap.size + 1) R rfl rfl 45 rm0.arr HE.out.o H1.out H3.out H2.out ?_))
  refine bodyPost_ret (v := .agg R) (results_cell_row rfl _ _ (w.heap.size + 1) 45 R (0, 0) _ rfl (setRow_heap _ _ _ _ _ _ HE.out.o) Try.underlying45 rfl H1.out) rfl ⟨by rw [← HRR.out], ?_⟩
  exact below_setRow HE.out.b (by omega) _

set_option maxRecDepth 100000 in
set_option maxHeartbeats 1000000 in
theorem ref_step100 (r : RM) (A : Option Addr) (len cap : Nat) (b off i k : Nat) (jt jf : Int) (rec : ByteArray) (w : World) (hr : r.cells.length = 16) (hrs : r.mach.small) (hs : rec.size = 64) (hat : r.at' = (i : Int)) (hlt : i < len) (hlen : len ≤ 1000000)
    (hb : b < w.heap.size) (hi : InsAt w b (off + i * 4) ⟨100, jt, jf, k⟩) (hk : k ≤ 4294967295) (ht : -9223372036854775808 ≤ jt ∧ jt ≤ 9223372036854775807) (hf : -9223372036854775808 ≤ jf ∧ jf ≤ 9223372036854775807) :
    Calls Try.prog 17 #[.agg r.arr, .slice (some ⟨b, off, none⟩) len cap, .string rec] w fun e w' => e = .returned (.agg ((deedD r.mach 100 k jt jf).runR rec { r with at' := r.at' + 1 }).arr) ∧ Below w.heap.size w w' := by
  obtain ⟨q, hq⟩ : ∃ q, sumV 100 r.a k = q := ⟨_, rfl⟩
  have hD : (deedD r.mach 100 k jt jf).runR rec { r with at' := r.at' + 1 } = { r with at' := (i : Int) + 1, a := q } := by rw [← hq, hat]; rfl
  rw [hD]
  clear hD
  have hkI : (k : Int) ≤ 4294967295 := by omega
  have haI : (r.a : Int) ≤ 4294967295 := by have : r.a ≤ 4294967295 := hrs.1; omega
  have hxI : (r.x : Int) ≤ 4294967295 := by have : r.x ≤ 4294967295 := hrs.2.1; omega
  have hiI : (i : Int) ≤ 1000000 := by omega
  have hltI : (i : Int) < len := by omega
  have hT := fun u => ref_two100 r.a k u hrs.1 (by first | exact hk | exact hrs.2.1)
  rw [hq] at hT
  have HT := Lib.hid hT
  clear hT hq
  have HK := Lib.hid (fun u => refKnown_any 100 u)
  rw [show insKnown 100 = true from known0 100 (by decide)] at HK
  have hP := steps_of w r 100 jt jf k hr
  have a1 : Below w.heap.size w ((w.alloc (Obj.cells r.arr 45)).alloc (Obj.cells #[.int .u32 0, .int .u32 0, .int .u32 0, .int .u32 0, .int .u32 0, .int .u32 0, .int .u32 0, .int .u32 0, .int .u32 0, .int .u32 0, .int .u32 0, .int .u32 0, .int .u32 0, .int .u32 0, .int .u32 0, .int .u32 0, .int .u32 0, .int .u32 0, .int .i64 0, .int .u32 0, .bool false, .bool false] 45)) := alloc2 w _ _
  obtain ⟨c0, c1, c2, c3⟩ := hi.below a1 hb
  dsimp only at c0 c1 c2 c3
  have hm : IsR ((w.alloc (Obj.cells r.arr 45)).alloc (Obj.cells #[.int .u32 0, .int .u32 0, .int .u32 0, .int .u32 0, .int .u32 0, .int .u32 0, .int .u32 0, .int .u32 0, .int .u32 0, .int .u32 0, .int .u32 0, .int .u32 0, .int .u32 0, .int .u32 0, .int .u32 0, .int .u32 0, .int .u32 0, .int .u32 0, .int .i64 0, .int .u32 0, .bool false, .bool false] 45)) w.heap.size r := ⟨(heap_alloc_old _ _ (by simp)).trans (heap_alloc_new w _), hr⟩
  obtain ⟨_, _, q18, _⟩ := hm.facts
  rw [hat] at q18
  have HAT := Lib.hid hat
  clear hm hat hi a1
  go_enter Try.func17, Try.ntmps17
  go_wp2_with fail
  refine (HK.out _).mono ?_
  rintro e w5 ⟨rfl, rfl⟩
  go_upto_region 5 with fail
  generalize (((w.alloc (Obj.cells r.arr 45)).alloc (Obj.cells #[.int .u32 0, .int .u32 0, .int .u32 0, .int .u32 0, .int .u32 0, .int .u32 0, .int .u32 0, .int .u32 0, .int .u32 0, .int .u32 0, .int .u32 0, .int .u32 0, .int .u32 0, .int .u32 0, .int .u32 0, .int .u32 0, .int .u32 0, .int .u32 0, .int .i64 0, .int .u32 0, .bool false, .bool false] 45)).alloc (Obj.cells #[.int .i64 100, .int .i64 jt, .int .i64 jf, .int .u32 (k : Int)] 35)) = w3 at *
  clear c0 c1 c2 c3 q18
  obtain ⟨_, _, q18, _⟩ := hP.m.facts
  rw [HAT.out] at q18
  have fz := block_frozen hP.m.blk 18
  have HP := Lib.hid (hP.setAt (i + 1))
  clear hP
  go_upto_region 6 with fail
  generalize w3.setCell ⟨w.heap.size, 18, none⟩ (.int .i64 ((i : Int) + 1)) = wA at *
  clear q18 fz
  have i0 := below_cell (Below.refl _ wA) HP.out.i 0 rfl
  have i1 := below_cell (Below.refl _ wA) HP.out.i 1 rfl
  have i2 := below_cell (Below.refl _ wA) HP.out.i 2 rfl
  have i3 := below_cell (Below.refl _ wA) HP.out.i 3 rfl
  obtain ⟨r0, r1, r18, r19, r20, r21⟩ := HP.out.m.facts
  dsimp only at r0 r1 r18 r19 r20 r21
  go_wp2_with fail
  refine (HT.out _).mono ?_
  rintro e w5 ⟨rfl, rfl⟩
  have fz := block_frozen HP.out.last.m.blk 0
  have hE : StepsE w (wA.setCell ⟨w.heap.size, 0, none⟩ (.int .u32 (q : Int))) { r with at' := (i : Int) + 1, a := q } := HP.out.last.set (0) _ (HP.out.m.setA q)
  have HE := Lib.hid hE
  clear hE
  go_upto_region 25 with fail
  generalize wA.setCell ⟨w.heap.size, 0, none⟩ (.int .u32 (q : Int)) = wB at *
  clear fz
  clear r0 r1 r18 r19 r20 r21 i0 i1 i2 i3
  have hsz := rarr_size { r with at' := (i : Int) + 1, a := q } HE.out.m.len
  have hI : (Try.prog.info? 45).map (fun i => i.size) = some (RM.arr { r with at' := (i : Int) + 1, a := q }).size := by rw [hsz]; exact infoRM
  have H1 := Lib.hid hI
  have H2 := Lib.hid (rarr_one { r with at' := (i : Int) + 1, a := q })
  have hso : rm0.arr.size = (RM.arr { r with at' := (i : Int) + 1, a := q }).size := by rw [hsz]; rfl
  have H3 := Lib.hid hso
  clear hsz hI hso
  generalize hRR : RM.arr { r with at' := (i : Int) + 1, a := q } = R at *
  have HB := Lib.hid HE.out.m.blk
  rw [hRR] at HB
  have HRR := Lib.hid hRR
  clear hRR
  go_wp2_with (first | (refine wpList_load_row rfl 45 _ rfl w.heap.size rfl 45 R (0, 0) _ HB.out Try.underlying45 rfl H1.out ?_) | (refine wpList_store_row rfl 45 _ _ rfl (w.heap.size + 1) R rfl rfl 45 rm0.arr HE.out.o H1.out H3.out H2.out ?_))
  refine bodyPost_ret (v := .agg R) (results_cell_row rfl _ _ (w.heap.size + 1) 45 R (0, 0) _ rfl (setRow_heap _ _ _ _ _ _ HE.out.o) Try.underlying45 rfl H1.out) rfl ⟨by rw [← HRR.out], ?_⟩
  exact below_setRow HE.out.b (by omega) _

set_option maxRecDepth 100000 in
set_option maxHeartbeats 1000000 in
theorem ref_step116 (r : RM) (A : Option Addr) (len cap : Nat) (b off i k : Nat) (jt jf : Int) (rec : ByteArray) (w : World) (hr : r.cells.length = 16) (hrs : r.mach.small) (hs : rec.size = 64) (hat : r.at' = (i : Int)) (hlt : i < len) (hlen : len ≤ 1000000)
    (hb : b < w.heap.size) (hi : InsAt w b (off + i * 4) ⟨116, jt, jf, k⟩) (hk : k ≤ 4294967295) (ht : -9223372036854775808 ≤ jt ∧ jt ≤ 9223372036854775807) (hf : -9223372036854775808 ≤ jf ∧ jf ≤ 9223372036854775807) :
    Calls Try.prog 17 #[.agg r.arr, .slice (some ⟨b, off, none⟩) len cap, .string rec] w fun e w' => e = .returned (.agg ((deedD r.mach 116 k jt jf).runR rec { r with at' := r.at' + 1 }).arr) ∧ Below w.heap.size w w' := by
  obtain ⟨q, hq⟩ : ∃ q, sumV 116 r.a k = q := ⟨_, rfl⟩
  have hD : (deedD r.mach 116 k jt jf).runR rec { r with at' := r.at' + 1 } = { r with at' := (i : Int) + 1, a := q } := by rw [← hq, hat]; rfl
  rw [hD]
  clear hD
  have hkI : (k : Int) ≤ 4294967295 := by omega
  have haI : (r.a : Int) ≤ 4294967295 := by have : r.a ≤ 4294967295 := hrs.1; omega
  have hxI : (r.x : Int) ≤ 4294967295 := by have : r.x ≤ 4294967295 := hrs.2.1; omega
  have hiI : (i : Int) ≤ 1000000 := by omega
  have hltI : (i : Int) < len := by omega
  have hT := fun u => ref_two116 r.a k u hrs.1 (by first | exact hk | exact hrs.2.1)
  rw [hq] at hT
  have HT := Lib.hid hT
  clear hT hq
  have HK := Lib.hid (fun u => refKnown_any 116 u)
  rw [show insKnown 116 = true from known0 116 (by decide)] at HK
  have hP := steps_of w r 116 jt jf k hr
  have a1 : Below w.heap.size w ((w.alloc (Obj.cells r.arr 45)).alloc (Obj.cells #[.int .u32 0, .int .u32 0, .int .u32 0, .int .u32 0, .int .u32 0, .int .u32 0, .int .u32 0, .int .u32 0, .int .u32 0, .int .u32 0, .int .u32 0, .int .u32 0, .int .u32 0, .int .u32 0, .int .u32 0, .int .u32 0, .int .u32 0, .int .u32 0, .int .i64 0, .int .u32 0, .bool false, .bool false] 45)) := alloc2 w _ _
  obtain ⟨c0, c1, c2, c3⟩ := hi.below a1 hb
  dsimp only at c0 c1 c2 c3
  have hm : IsR ((w.alloc (Obj.cells r.arr 45)).alloc (Obj.cells #[.int .u32 0, .int .u32 0, .int .u32 0, .int .u32 0, .int .u32 0, .int .u32 0, .int .u32 0, .int .u32 0, .int .u32 0, .int .u32 0, .int .u32 0, .int .u32 0, .int .u32 0, .int .u32 0, .int .u32 0, .int .u32 0, .int .u32 0, .int .u32 0, .int .i64 0, .int .u32 0, .bool false, .bool false] 45)) w.heap.size r := ⟨(heap_alloc_old _ _ (by simp)).trans (heap_alloc_new w _), hr⟩
  obtain ⟨_, _, q18, _⟩ := hm.facts
  rw [hat] at q18
  have HAT := Lib.hid hat
  clear hm hat hi a1
  go_enter Try.func17, Try.ntmps17
  go_wp2_with fail
  refine (HK.out _).mono ?_
  rintro e w5 ⟨rfl, rfl⟩
  go_upto_region 5 with fail
  generalize (((w.alloc (Obj.cells r.arr 45)).alloc (Obj.cells #[.int .u32 0, .int .u32 0, .int .u32 0, .int .u32 0, .int .u32 0, .int .u32 0, .int .u32 0, .int .u32 0, .int .u32 0, .int .u32 0, .int .u32 0, .int .u32 0, .int .u32 0, .int .u32 0, .int .u32 0, .int .u32 0, .int .u32 0, .int .u32 0, .int .i64 0, .int .u32 0, .bool false, .bool false] 45)).alloc (Obj.cells #[.int .i64 116, .int .i64 jt, .int .i64 jf, .int .u32 (k : Int)] 35)) = w3 at *
  clear c0 c1 c2 c3 q18
  obtain ⟨_, _, q18, _⟩ := hP.m.facts
  rw [HAT.out] at q18
  have fz := block_frozen hP.m.blk 18
  have HP := Lib.hid (hP.setAt (i + 1))
  clear hP
  go_upto_region 6 with fail
  generalize w3.setCell ⟨w.heap.size, 18, none⟩ (.int .i64 ((i : Int) + 1)) = wA at *
  clear q18 fz
  have i0 := below_cell (Below.refl _ wA) HP.out.i 0 rfl
  have i1 := below_cell (Below.refl _ wA) HP.out.i 1 rfl
  have i2 := below_cell (Below.refl _ wA) HP.out.i 2 rfl
  have i3 := below_cell (Below.refl _ wA) HP.out.i 3 rfl
  obtain ⟨r0, r1, r18, r19, r20, r21⟩ := HP.out.m.facts
  dsimp only at r0 r1 r18 r19 r20 r21
  go_wp2_with fail
  refine (HT.out _).mono ?_
  rintro e w5 ⟨rfl, rfl⟩
  have fz := block_frozen HP.out.last.m.blk 0
  have hE : StepsE w (wA.setCell ⟨w.heap.size, 0, none⟩ (.int .u32 (q : Int))) { r with at' := (i : Int) + 1, a := q } := HP.out.last.set (0) _ (HP.out.m.setA q)
  have HE := Lib.hid hE
  clear hE
  go_upto_region 25 with fail
  generalize wA.setCell ⟨w.heap.size, 0, none⟩ (.int .u32 (q : Int)) = wB at *
  clear fz
  clear r0 r1 r18 r19 r20 r21 i0 i1 i2 i3
  have hsz := rarr_size { r with at' := (i : Int) + 1, a := q } HE.out.m.len
  have hI : (Try.prog.info? 45).map (fun i => i.size) = some (RM.arr { r with at' := (i : Int) + 1, a := q }).size := by rw [hsz]; exact infoRM
  have H1 := Lib.hid hI
  have H2 := Lib.hid (rarr_one { r with at' := (i : Int) + 1, a := q })
  have hso : rm0.arr.size = (RM.arr { r with at' := (i : Int) + 1, a := q }).size := by rw [hsz]; rfl
  have H3 := Lib.hid hso
  clear hsz hI hso
  generalize hRR : RM.arr { r with at' := (i : Int) + 1, a := q } = R at *
  have HB := Lib.hid HE.out.m.blk
  rw [hRR] at HB
  have HRR := Lib.hid hRR
  clear hRR
  go_wp2_with (first | (refine wpList_load_row rfl 45 _ rfl w.heap.size rfl 45 R (0, 0) _ HB.out Try.underlying45 rfl H1.out ?_) | (refine wpList_store_row rfl 45 _ _ rfl (w.heap.size + 1) R rfl rfl 45 rm0.arr HE.out.o H1.out H3.out H2.out ?_))
  refine bodyPost_ret (v := .agg R) (results_cell_row rfl _ _ (w.heap.size + 1) 45 R (0, 0) _ rfl (setRow_heap _ _ _ _ _ _ HE.out.o) Try.underlying45 rfl H1.out) rfl ⟨by rw [← HRR.out], ?_⟩
  exact below_setRow HE.out.b (by omega) _

set_option maxRecDepth 100000 in
set_option maxHeartbeats 1000000 in
theorem ref_step132 (r : RM) (A : Option Addr) (len cap : Nat) (b off i k : Nat) (jt jf : Int) (rec : ByteArray) (w : World) (hr : r.cells.length = 16) (hrs : r.mach.small) (hs : rec.size = 64) (hat : r.at' = (i : Int)) (hlt : i < len) (hlen : len ≤ 1000000)
    (hb : b < w.heap.size) (hi : InsAt w b (off + i * 4) ⟨132, jt, jf, k⟩) (hk : k ≤ 4294967295) (ht : -9223372036854775808 ≤ jt ∧ jt ≤ 9223372036854775807) (hf : -9223372036854775808 ≤ jf ∧ jf ≤ 9223372036854775807) :
    Calls Try.prog 17 #[.agg r.arr, .slice (some ⟨b, off, none⟩) len cap, .string rec] w fun e w' => e = .returned (.agg ((deedD r.mach 132 k jt jf).runR rec { r with at' := r.at' + 1 }).arr) ∧ Below w.heap.size w w' := by
  obtain ⟨q, hq⟩ : ∃ q, sumV 132 r.a k = q := ⟨_, rfl⟩
  have hD : (deedD r.mach 132 k jt jf).runR rec { r with at' := r.at' + 1 } = { r with at' := (i : Int) + 1, a := q } := by rw [← hq, hat]; rfl
  rw [hD]
  clear hD
  have hkI : (k : Int) ≤ 4294967295 := by omega
  have haI : (r.a : Int) ≤ 4294967295 := by have : r.a ≤ 4294967295 := hrs.1; omega
  have hxI : (r.x : Int) ≤ 4294967295 := by have : r.x ≤ 4294967295 := hrs.2.1; omega
  have hiI : (i : Int) ≤ 1000000 := by omega
  have hltI : (i : Int) < len := by omega
  have hT := fun u => ref_two132 r.a k u hrs.1 (by first | exact hk | exact hrs.2.1)
  rw [hq] at hT
  have HT := Lib.hid hT
  clear hT hq
  have HK := Lib.hid (fun u => refKnown_any 132 u)
  rw [show insKnown 132 = true from known0 132 (by decide)] at HK
  have hP := steps_of w r 132 jt jf k hr
  have a1 : Below w.heap.size w ((w.alloc (Obj.cells r.arr 45)).alloc (Obj.cells #[.int .u32 0, .int .u32 0, .int .u32 0, .int .u32 0, .int .u32 0, .int .u32 0, .int .u32 0, .int .u32 0, .int .u32 0, .int .u32 0, .int .u32 0, .int .u32 0, .int .u32 0, .int .u32 0, .int .u32 0, .int .u32 0, .int .u32 0, .int .u32 0, .int .i64 0, .int .u32 0, .bool false, .bool false] 45)) := alloc2 w _ _
  obtain ⟨c0, c1, c2, c3⟩ := hi.below a1 hb
  dsimp only at c0 c1 c2 c3
  have hm : IsR ((w.alloc (Obj.cells r.arr 45)).alloc (Obj.cells #[.int .u32 0, .int .u32 0, .int .u32 0, .int .u32 0, .int .u32 0, .int .u32 0, .int .u32 0, .int .u32 0, .int .u32 0, .int .u32 0, .int .u32 0, .int .u32 0, .int .u32 0, .int .u32 0, .int .u32 0, .int .u32 0, .int .u32 0, .int .u32 0, .int .i64 0, .int .u32 0, .bool false, .bool false] 45)) w.heap.size r := ⟨(heap_alloc_old _ _ (by simp)).trans (heap_alloc_new w _), hr⟩
  obtain ⟨_, _, q18, _⟩ := hm.facts
  rw [hat] at q18
  have HAT := Lib.hid hat
  clear hm hat hi a1
  go_enter Try.func17, Try.ntmps17
  go_wp2_with fail
  refine (HK.out _).mono ?_
  rintro e w5 ⟨rfl, rfl⟩
  go_upto_region 5 with fail
  generalize (((w.alloc (Obj.cells r.arr 45)).alloc (Obj.cells #[.int .u32 0, .int .u32 0, .int .u32 0, .int .u32 0, .int .u32 0, .int .u32 0, .int .u32 0, .int .u32 0, .int .u32 0, .int .u32 0, .int .u32 0, .int .u32 0, .int .u32 0, .int .u32 0, .int .u32 0, .int .u32 0, .int .u32 0, .int .u32 0, .int .i64 0, .int .u32 0, .bool false, .bool false] 45)).alloc (Obj.cells #[.int .i64 132, .int .i64 jt, .int .i64 jf, .int .u32 (k : Int)] 35)) = w3 at *
  clear c0 c1 c2 c3 q18
  obtain ⟨_, _, q18, _⟩ := hP.m.facts
  rw [HAT.out] at q18
  have fz := block_frozen hP.m.blk 18
  have HP := Lib.hid (hP.setAt (i + 1))
  clear hP
  go_upto_region 6 with fail
  generalize w3.setCell ⟨w.heap.size, 18, none⟩ (.int .i64 ((i : Int) + 1)) = wA at *
  clear q18 fz
  have i0 := below_cell (Below.refl _ wA) HP.out.i 0 rfl
  have i1 := below_cell (Below.refl _ wA) HP.out.i 1 rfl
  have i2 := below_cell (Below.refl _ wA) HP.out.i 2 rfl
  have i3 := below_cell (Below.refl _ wA) HP.out.i 3 rfl
  obtain ⟨r0, r1, r18, r19, r20, r21⟩ := HP.out.m.facts
  dsimp only at r0 r1 r18 r19 r20 r21
  go_wp2_with fail
  refine (HT.out _).mono ?_
  rintro e w5 ⟨rfl, rfl⟩
  have fz := block_frozen HP.out.last.m.blk 0
  have hE : StepsE w (wA.setCell ⟨w.heap.size, 0, none⟩ (.int .u32 (q : Int))) { r with at' := (i : Int) + 1, a := q } := HP.out.last.set (0) _ (HP.out.m.setA q)
  have HE := Lib.hid hE
  clear hE
  go_upto_region 25 with fail
  generalize wA.setCell ⟨w.heap.size, 0, none⟩ (.int .u32 (q : Int)) = wB at *
  clear fz
  clear r0 r1 r18 r19 r20 r21 i0 i1 i2 i3
  have hsz := rarr_size { r with at' := (i : Int) + 1, a := q } HE.out.m.len
  have hI : (Try.prog.info? 45).map (fun i => i.size) = some (RM.arr { r with at' := (i : Int) + 1, a := q }).size := by rw [hsz]; exact infoRM
  have H1 := Lib.hid hI
  have H2 := Lib.hid (rarr_one { r with at' := (i : Int) + 1, a := q })
  have hso : rm0.arr.size = (RM.arr { r with at' := (i : Int) + 1, a := q }).size := by rw [hsz]; rfl
  have H3 := Lib.hid hso
  clear hsz hI hso
  generalize hRR : RM.arr { r with at' := (i : Int) + 1, a := q } = R at *
  have HB := Lib.hid HE.out.m.blk
  rw [hRR] at HB
  have HRR := Lib.hid hRR
  clear hRR
  go_wp2_with (first | (refine wpList_load_row rfl 45 _ rfl w.heap.size rfl 45 R (0, 0) _ HB.out Try.underlying45 rfl H1.out ?_) | (refine wpList_store_row rfl 45 _ _ rfl (w.heap.size + 1) R rfl rfl 45 rm0.arr HE.out.o H1.out H3.out H2.out ?_))
  refine bodyPost_ret (v := .agg R) (results_cell_row rfl _ _ (w.heap.size + 1) 45 R (0, 0) _ rfl (setRow_heap _ _ _ _ _ _ HE.out.o) Try.underlying45 rfl H1.out) rfl ⟨by rw [← HRR.out], ?_⟩
  exact below_setRow HE.out.b (by omega) _

set_option maxRecDepth 100000 in
set_option maxHeartbeats 1000000 in
theorem ref_step164 (r : RM) (A : Option Addr) (len cap : Nat) (b off i k : Nat) (jt jf : Int) (rec : ByteArray) (w : World) (hr : r.cells.length = 16) (hrs : r.mach.small) (hs : rec.size = 64) (hat : r.at' = (i : Int)) (hlt : i < len) (hlen : len ≤ 1000000)
    (hb : b < w.heap.size) (hi : InsAt w b (off + i * 4) ⟨164, jt, jf, k⟩) (hk : k ≤ 4294967295) (ht : -9223372036854775808 ≤ jt ∧ jt ≤ 9223372036854775807) (hf : -9223372036854775808 ≤ jf ∧ jf ≤ 9223372036854775807) :
    Calls Try.prog 17 #[.agg r.arr, .slice (some ⟨b, off, none⟩) len cap, .string rec] w fun e w' => e = .returned (.agg ((deedD r.mach 164 k jt jf).runR rec { r with at' := r.at' + 1 }).arr) ∧ Below w.heap.size w w' := by
  obtain ⟨q, hq⟩ : ∃ q, sumV 164 r.a k = q := ⟨_, rfl⟩
  have hD : (deedD r.mach 164 k jt jf).runR rec { r with at' := r.at' + 1 } = { r with at' := (i : Int) + 1, a := q } := by rw [← hq, hat]; rfl
  rw [hD]
  clear hD
  have hkI : (k : Int) ≤ 4294967295 := by omega
  have haI : (r.a : Int) ≤ 4294967295 := by have : r.a ≤ 4294967295 := hrs.1; omega
  have hxI : (r.x : Int) ≤ 4294967295 := by have : r.x ≤ 4294967295 := hrs.2.1; omega
  have hiI : (i : Int) ≤ 1000000 := by omega
  have hltI : (i : Int) < len := by omega
  have hT := fun u => ref_two164 r.a k u hrs.1 (by first | exact hk | exact hrs.2.1)
  rw [hq] at hT
  have HT := Lib.hid hT
  clear hT hq
  have HK := Lib.hid (fun u => refKnown_any 164 u)
  rw [show insKnown 164 = true from known0 164 (by decide)] at HK
  have hP := steps_of w r 164 jt jf k hr
  have a1 : Below w.heap.size w ((w.alloc (Obj.cells r.arr 45)).alloc (Obj.cells #[.int .u32 0, .int .u32 0, .int .u32 0, .int .u32 0, .int .u32 0, .int .u32 0, .int .u32 0, .int .u32 0, .int .u32 0, .int .u32 0, .int .u32 0, .int .u32 0, .int .u32 0, .int .u32 0, .int .u32 0, .int .u32 0, .int .u32 0, .int .u32 0, .int .i64 0, .int .u32 0, .bool false, .bool false] 45)) := alloc2 w _ _
  obtain ⟨c0, c1, c2, c3⟩ := hi.below a1 hb
  dsimp only at c0 c1 c2 c3
  have hm : IsR ((w.alloc (Obj.cells r.arr 45)).alloc (Obj.cells #[.int .u32 0, .int .u32 0, .int .u32 0, .int .u32 0, .int .u32 0, .int .u32 0, .int .u32 0, .int .u32 0, .int .u32 0, .int .u32 0, .int .u32 0, .int .u32 0, .int .u32 0, .int .u32 0, .int .u32 0, .int .u32 0, .int .u32 0, .int .u32 0, .int .i64 0, .int .u32 0, .bool false, .bool false] 45)) w.heap.size r := ⟨(heap_alloc_old _ _ (by simp)).trans (heap_alloc_new w _), hr⟩
  obtain ⟨_, _, q18, _⟩ := hm.facts
  rw [hat] at q18
  have HAT := Lib.hid hat
  clear hm hat hi a1
  go_enter Try.func17, Try.ntmps17
  go_wp2_with fail
  refine (HK.out _).mono ?_
  rintro e w5 ⟨rfl, rfl⟩
  go_upto_region 5 with fail
  generalize (((w.alloc (Obj.cells r.arr 45)).alloc (Obj.cells #[.int .u32 0, .int .u32 0, .int .u32 0, .int .u32 0, .int .u32 0, .int .u32 0, .int .u32 0, .int .u32 0, .int .u32 0, .int .u32 0, .int .u32 0, .int .u32 0, .int .u32 0, .int .u32 0, .int .u32 0, .int .u32 0, .int .u32 0, .int .u32 0, .int .i64 0, .int .u32 0, .bool false, .bool false] 45)).alloc (Obj.cells #[.int .i64 164, .int .i64 jt, .int .i64 jf, .int .u32 (k : Int)] 35)) = w3 at *
  clear c0 c1 c2 c3 q18
  obtain ⟨_, _, q18, _⟩ := hP.m.facts
  rw [HAT.out] at q18
  have fz := block_frozen hP.m.blk 18
  have HP := Lib.hid (hP.setAt (i + 1))
  clear hP
  go_upto_region 6 with fail
  generalize w3.setCell ⟨w.heap.size, 18, none⟩ (.int .i64 ((i : Int) + 1)) = wA at *
  clear q18 fz
  have i0 := below_cell (Below.refl _ wA) HP.out.i 0 rfl
  have i1 := below_cell (Below.refl _ wA) HP.out.i 1 rfl
  have i2 := below_cell (Below.refl _ wA) HP.out.i 2 rfl
  have i3 := below_cell (Below.refl _ wA) HP.out.i 3 rfl
  obtain ⟨r0, r1, r18, r19, r20, r21⟩ := HP.out.m.facts
  dsimp only at r0 r1 r18 r19 r20 r21
  go_wp2_with fail
  refine (HT.out _).mono ?_
  rintro e w5 ⟨rfl, rfl⟩
  have fz := block_frozen HP.out.last.m.blk 0
  have hE : StepsE w (wA.setCell ⟨w.heap.size, 0, none⟩ (.int .u32 (q : Int))) { r with at' := (i : Int) + 1, a := q } := HP.out.last.set (0) _ (HP.out.m.setA q)
  have HE := Lib.hid hE
  clear hE
  go_upto_region 25 with fail
  generalize wA.setCell ⟨w.heap.size, 0, none⟩ (.int .u32 (q : Int)) = wB at *
  clear fz
  clear r0 r1 r18 r19 r20 r21 i0 i1 i2 i3
  have hsz := rarr_size { r with at' := (i : Int) + 1, a := q } HE.out.m.len
  have hI : (Try.prog.info? 45).map (fun i => i.size) = some (RM.arr { r with at' := (i : Int) + 1, a := q }).size := by rw [hsz]; exact infoRM
  have H1 := Lib.hid hI
  have H2 := Lib.hid (rarr_one { r with at' := (i : Int) + 1, a := q })
  have hso : rm0.arr.size = (RM.arr { r with at' := (i : Int) + 1, a := q }).size := by rw [hsz]; rfl
  have H3 := Lib.hid hso
  clear hsz hI hso
  generalize hRR : RM.arr { r with at' := (i : Int) + 1, a := q } = R at *
  have HB := Lib.hid HE.out.m.blk
  rw [hRR] at HB
  have HRR := Lib.hid hRR
  clear hRR
  go_wp2_with (first | (refine wpList_load_row rfl 45 _ rfl w.heap.size rfl 45 R (0, 0) _ HB.out Try.underlying45 rfl H1.out ?_) | (refine wpList_store_row rfl 45 _ _ rfl (w.heap.size + 1) R rfl rfl 45 rm0.arr HE.out.o H1.out H3.out H2.out ?_))
  refine bodyPost_ret (v := .agg R) (results_cell_row rfl _ _ (w.heap.size + 1) 45 R (0, 0) _ rfl (setRow_heap _ _ _ _ _ _ HE.out.o) Try.underlying45 rfl H1.out) rfl ⟨by rw [← HRR.out], ?_⟩
  exact below_setRow HE.out.b (by omega) _

set_option maxRecDepth 100000 in
set_option maxHeartbeats 1000000 in
theorem ref_step52z (r : RM) (A : Option Addr) (len cap : Nat) (b off i k : Nat) (jt jf : Int) (rec : ByteArray) (w : World) (hr : r.cells.length = 16) (hrs : r.mach.small) (hs : rec.size = 64) (hat : r.at' = (i : Int)) (hlt : i < len) (hlen : len ≤ 1000000)
    (hb : b < w.heap.size) (hi : InsAt w b (off + i * 4) ⟨52, jt, jf, k⟩) (hk : k ≤ 4294967295) (ht : -9223372036854775808 ≤ jt ∧ jt ≤ 9223372036854775807) (hf : -9223372036854775808 ≤ jf ∧ jf ≤ 9223372036854775807) (h0 : k = 0) :
    Calls Try.prog 17 #[.agg r.arr, .slice (some ⟨b, off, none⟩) len cap, .string rec] w fun e w' => e = .returned (.agg ((deedD r.mach 52 k jt jf).runR rec { r with at' := r.at' + 1 }).arr) ∧ Below w.heap.size w w' := by
  have hD : (deedD r.mach 52 k jt jf).runR rec { r with at' := r.at' + 1 } = { r with at' := (i : Int) + 1, done := true, out := 0 } := by rw [hat]; show Deed.runR rec _ (sumD 52 r.a k) = _; rw [show sumD 52 r.a k = .answer 0 from if_pos ⟨rfl, h0⟩]; rfl
  rw [hD]
  clear hD
  have hkI : (k : Int) ≤ 4294967295 := by omega
  have haI : (r.a : Int) ≤ 4294967295 := by have : r.a ≤ 4294967295 := hrs.1; omega
  have hxI : (r.x : Int) ≤ 4294967295 := by have : r.x ≤ 4294967295 := hrs.2.1; omega
  have hiI : (i : Int) ≤ 1000000 := by omega
  have hltI : (i : Int) < len := by omega
  have HK := Lib.hid (fun u => refKnown_any 52 u)
  rw [show insKnown 52 = true from known0 52 (by decide)] at HK
  have h0b : ((k : Int) == 0) = true := by rw [h0]; rfl
  clear h0
  have hP := steps_of w r 52 jt jf k hr
  have a1 : Below w.heap.size w ((w.alloc (Obj.cells r.arr 45)).alloc (Obj.cells #[.int .u32 0, .int .u32 0, .int .u32 0, .int .u32 0, .int .u32 0, .int .u32 0, .int .u32 0, .int .u32 0, .int .u32 0, .int .u32 0, .int .u32 0, .int .u32 0, .int .u32 0, .int .u32 0, .int .u32 0, .int .u32 0, .int .u32 0, .int .u32 0, .int .i64 0, .int .u32 0, .bool false, .bool false] 45)) := alloc2 w _ _
  obtain ⟨c0, c1, c2, c3⟩ := hi.below a1 hb
  dsimp only at c0 c1 c2 c3
  have hm : IsR ((w.alloc (Obj.cells r.arr 45)).alloc (Obj.cells #[.int .u32 0, .int .u32 0, .int .u32 0, .int .u32 0, .int .u32 0, .int .u32 0, .int .u32 0, .int .u32 0, .int .u32 0, .int .u32 0, .int .u32 0, .int .u32 0, .int .u32 0, .int .u32 0, .int .u32 0, .int .u32 0, .int .u32 0, .int .u32 0, .int .i64 0, .int .u32 0, .bool false, .bool false] 45)) w.heap.size r := ⟨(heap_alloc_old _ _ (by simp)).trans (heap_alloc_new w _), hr⟩
  obtain ⟨_, _, q18, _⟩ := hm.facts
  rw [hat] at q18
  have HAT := Lib.hid hat
  clear hm hat hi a1
  go_enter Try.func17, Try.ntmps17
  go_wp2_with fail
  refine (HK.out _).mono ?_
  rintro e w5 ⟨rfl, rfl⟩
  go_upto_region 5 with fail
  generalize (((w.alloc (Obj.cells r.arr 45)).alloc (Obj.cells #[.int .u32 0, .int .u32 0, .int .u32 0, .int .u32 0, .int .u32 0, .int .u32 0, .int .u32 0, .int .u32 0, .int .u32 0, .int .u32 0, .int .u32 0, .int .u32 0, .int .u32 0, .int .u32 0, .int .u32 0, .int .u32 0, .int .u32 0, .int .u32 0, .int .i64 0, .int .u32 0, .bool false, .bool false] 45)).alloc (Obj.cells #[.int .i64 52, .int .i64 jt, .int .i64 jf, .int .u32 (k : Int)] 35)) = w3 at *
  clear c0 c1 c2 c3 q18
  obtain ⟨_, _, q18, _⟩ := hP.m.facts
  rw [HAT.out] at q18
  have fz := block_frozen hP.m.blk 18
  have HP := Lib.hid (hP.setAt (i + 1))
  clear hP
  go_upto_region 6 with fail
  generalize w3.setCell ⟨w.heap.size, 18, none⟩ (.int .i64 ((i : Int) + 1)) = wA at *
  clear q18 fz
  have i0 := below_cell (Below.refl _ wA) HP.out.i 0 rfl
  have i1 := below_cell (Below.refl _ wA) HP.out.i 1 rfl
  have i2 := below_cell (Below.refl _ wA) HP.out.i 2 rfl
  have i3 := below_cell (Below.refl _ wA) HP.out.i 3 rfl
  obtain ⟨r0, r1, r18, r19, r20, r21⟩ := HP.out.m.facts
  dsimp only at r0 r1 r18 r19 r20 r21
  have fz := block_frozen HP.out.last.m.blk 20
  have hE : StepsE w (wA.setCell ⟨w.heap.size, 20, none⟩ (.bool true)) { r with at' := (i : Int) + 1, done := true } := HP.out.last.set (20) _ (HP.out.m.setDone true)
  have HE0 := Lib.hid hE
  clear hE
  go_upto_region 20 with fail
  generalize wA.setCell ⟨w.heap.size, 20, none⟩ (.bool true) = wC at *
  clear fz r0 r1 r18 r19 r20 r21
  obtain ⟨r0, r1, r18, r19, r20, r21⟩ := HE0.out.m.facts
  dsimp only at r0 r1 r18 r19 r20 r21
  have fz := block_frozen HE0.out.m.blk 19
  have hE : StepsE w (wC.setCell ⟨w.heap.size, 19, none⟩ (.int .u32 0)) { r with at' := (i : Int) + 1, done := true, out := 0 } := HE0.out.set (19) _ (HE0.out.m.setOut 0)
  have HE := Lib.hid hE
  clear hE
  go_upto_region 21 with fail
  generalize wC.setCell ⟨w.heap.size, 19, none⟩ (.int .u32 0) = wB at *
  clear fz
  clear r0 r1 r18 r19 r20 r21 i0 i1 i2 i3
  have hsz := rarr_size { r with at' := (i : Int) + 1, done := true, out := 0 } HE.out.m.len
  have hI : (Try.prog.info? 45).map (fun i => i.size) = some (RM.arr { r with at' := (i : Int) + 1, done := true, out := 0 }).size := by rw [hsz]; exact infoRM
  have H1 := Lib.hid hI
  have H2 := Lib.hid (rarr_one { r with at' := (i : Int) + 1, done := true, out := 0 })
  have hso : rm0.arr.size = (RM.arr { r with at' := (i : Int) + 1, done := true, out := 0 }).size := by rw [hsz]; rfl
  have H3 := Lib.hid hso
  clear hsz hI hso
  generalize hRR : RM.arr { r with at' := (i : Int) + 1, done := true, out := 0 } = R at *
  have HB := Lib.hid HE.out.m.blk
  rw [hRR] at HB
  have HRR := Lib.hid hRR
  clear hRR
  go_wp2_with (first | (refine wpList_load_row rfl 45 _ rfl w.heap.size rfl 45 R (0, 0) _ HB.out Try.underlying45 rfl H1.out ?_) | (refine wpList_store_row rfl 45 _ _ rfl (w.heap.size + 1) R rfl rfl 45 rm0.arr HE.out.o H1.out H3.out H2.out ?_))
  refine bodyPost_ret (v := .agg R) (results_cell_row rfl _ _ (w.heap.size + 1) 45 R (0, 0) _ rfl (setRow_heap _ _ _ _ _ _ HE.out.o) Try.underlying45 rfl H1.out) rfl ⟨by rw [← HRR.out], ?_⟩
  exact below_setRow HE.out.b (by omega) _

set_option maxRecDepth 100000 in
set_option maxHeartbeats 1000000 in
theorem ref_step52n (r : RM) (A : Option Addr) (len cap : Nat) (b off i k : Nat) (jt jf : Int) (rec : ByteArray) (w : World) (hr : r.cells.length = 16) (hrs : r.mach.small) (hs : rec.size = 64) (hat : r.at' = (i : Int)) (hlt : i < len) (hlen : len ≤ 1000000)
    (hb : b < w.heap.size) (hi : InsAt w b (off + i * 4) ⟨52, jt, jf, k⟩) (hk : k ≤ 4294967295) (ht : -9223372036854775808 ≤ jt ∧ jt ≤ 9223372036854775807) (hf : -9223372036854775808 ≤ jf ∧ jf ≤ 9223372036854775807) (h0 : k ≠ 0) (q : Nat) (hq : r.a / k = q) :
    Calls Try.prog 17 #[.agg r.arr, .slice (some ⟨b, off, none⟩) len cap, .string rec] w fun e w' => e = .returned (.agg ((deedD r.mach 52 k jt jf).runR rec { r with at' := r.at' + 1 }).arr) ∧ Below w.heap.size w w' := by
  have hD : (deedD r.mach 52 k jt jf).runR rec { r with at' := r.at' + 1 } = { r with at' := (i : Int) + 1, a := q } := by rw [hat]; show Deed.runR rec _ (sumD 52 r.a k) = _; rw [show sumD 52 r.a k = .setA q from (if_neg (fun h => h0 h.2)).trans (congrArg Deed.setA hq)]; rfl
  rw [hD]
  clear hD
  have hkI : (k : Int) ≤ 4294967295 := by omega
  have haI : (r.a : Int) ≤ 4294967295 := by have : r.a ≤ 4294967295 := hrs.1; omega
  have hxI : (r.x : Int) ≤ 4294967295 := by have : r.x ≤ 4294967295 := hrs.2.1; omega
  have hiI : (i : Int) ≤ 1000000 := by omega
  have hltI : (i : Int) < len := by omega
  have HK := Lib.hid (fun u => refKnown_any 52 u)
  rw [show insKnown 52 = true from known0 52 (by decide)] at HK
  have h0b : ((k : Int) == 0) = false := by rw [beq_eq_false_iff_ne]; omega
  have hq2 : (r.a : Int) / (k : Int) % 4294967296 = (q : Int) := by rw [e52 r.a k hrs.1, hq]
  have HQ := Lib.hid hq2
  have h0I : (1 : Int) ≤ k := by omega
  clear hq hq2 h0
  have hP := steps_of w r 52 jt jf k hr
  have a1 : Below w.heap.size w ((w.alloc (Obj.cells r.arr 45)).alloc (Obj.cells #[.int .u32 0, .int .u32 0, .int .u32 0, .int .u32 0, .int .u32 0, .int .u32 0, .int .u32 0, .int .u32 0, .int .u32 0, .int .u32 0, .int .u32 0, .int .u32 0, .int .u32 0, .int .u32 0, .int .u32 0, .int .u32 0, .int .u32 0, .int .u32 0, .int .i64 0, .int .u32 0, .bool false, .bool false] 45)) := alloc2 w _ _
  obtain ⟨c0, c1, c2, c3⟩ := hi.below a1 hb
  dsimp only at c0 c1 c2 c3
  have hm : IsR ((w.alloc (Obj.cells r.arr 45)).alloc (Obj.cells #[.int .u32 0, .int .u32 0, .int .u32 0, .int .u32 0, .int .u32 0, .int .u32 0, .int .u32 0, .int .u32 0, .int .u32 0, .int .u32 0, .int .u32 0, .int .u32 0, .int .u32 0, .int .u32 0, .int .u32 0, .int .u32 0, .int .u32 0, .int .u32 0, .int .i64 0, .int .u32 0, .bool false, .bool false] 45)) w.heap.size r := ⟨(heap_alloc_old _ _ (by simp)).trans (heap_alloc_new w _), hr⟩
  obtain ⟨_, _, q18, _⟩ := hm.facts
  rw [hat] at q18
  have HAT := Lib.hid hat
  clear hm hat hi a1
  go_enter Try.func17, Try.ntmps17
  go_wp2_with fail
  refine (HK.out _).mono ?_
  rintro e w5 ⟨rfl, rfl⟩
  go_upto_region 5 with fail
  generalize (((w.alloc (Obj.cells r.arr 45)).alloc (Obj.cells #[.int .u32 0, .int .u32 0, .int .u32 0, .int .u32 0, .int .u32 0, .int .u32 0, .int .u32 0, .int .u32 0, .int .u32 0, .int .u32 0, .int .u32 0, .int .u32 0, .int .u32 0, .int .u32 0, .int .u32 0, .int .u32 0, .int .u32 0, .int .u32 0, .int .i64 0, .int .u32 0, .bool false, .bool false] 45)).alloc (Obj.cells #[.int .i64 52, .int .i64 jt, .int .i64 jf, .int .u32 (k : Int)] 35)) = w3 at *
  clear c0 c1 c2 c3 q18
  obtain ⟨_, _, q18, _⟩ := hP.m.facts
  rw [HAT.out] at q18
  have fz := block_frozen hP.m.blk 18
  have HP := Lib.hid (hP.setAt (i + 1))
  clear hP
  go_upto_region 6 with fail
  generalize w3.setCell ⟨w.heap.size, 18, none⟩ (.int .i64 ((i : Int) + 1)) = wA at *
  clear q18 fz
  have i0 := below_cell (Below.refl _ wA) HP.out.i 0 rfl
  have i1 := below_cell (Below.refl _ wA) HP.out.i 1 rfl
  have i2 := below_cell (Below.refl _ wA) HP.out.i 2 rfl
  have i3 := below_cell (Below.refl _ wA) HP.out.i 3 rfl
  obtain ⟨r0, r1, r18, r19, r20, r21⟩ := HP.out.m.facts
  dsimp only at r0 r1 r18 r19 r20 r21
  have fz := block_frozen HP.out.last.m.blk 0
  have hE : StepsE w (wA.setCell ⟨w.heap.size, 0, none⟩ (.int .u32 (q : Int))) { r with at' := (i : Int) + 1, a := q } := HP.out.last.set (0) _ (HP.out.m.setA q)
  have HE := Lib.hid hE
  clear hE
  go_upto_region 25 with fail
  rw [HQ.out]
  generalize wA.setCell ⟨w.heap.size, 0, none⟩ (.int .u32 (q : Int)) = wB at *
  clear fz
  clear r0 r1 r18 r19 r20 r21 i0 i1 i2 i3
  have hsz := rarr_size { r with at' := (i : Int) + 1, a := q } HE.out.m.len
  have hI : (Try.prog.info? 45).map (fun i => i.size) = some (RM.arr { r with at' := (i : Int) + 1, a := q }).size := by rw [hsz]; exact infoRM
  have H1 := Lib.hid hI
  have H2 := Lib.hid (rarr_one { r with at' := (i : Int) + 1, a := q })
  have hso : rm0.arr.size = (RM.arr { r with at' := (i : Int) + 1, a := q }).size := by rw [hsz]; rfl
  have H3 := Lib.hid hso
  clear hsz hI hso
  generalize hRR : RM.arr { r with at' := (i : Int) + 1, a := q } = R at *
  have HB := Lib.hid HE.out.m.blk
  rw [hRR] at HB
  have HRR := Lib.hid hRR
  clear hRR
  go_wp2_with (first | (refine wpList_load_row rfl 45 _ rfl w.heap.size rfl 45 R (0, 0) _ HB.out Try.underlying45 rfl H1.out ?_) | (refine wpList_store_row rfl 45 _ _ rfl (w.heap.size + 1) R rfl rfl 45 rm0.arr HE.out.o H1.out H3.out H2.out ?_))
  refine bodyPost_ret (v := .agg R) (results_cell_row rfl _ _ (w.heap.size + 1) 45 R (0, 0) _ rfl (setRow_heap _ _ _ _ _ _ HE.out.o) Try.underlying45 rfl H1.out) rfl ⟨by rw [← HRR.out], ?_⟩
  exact below_setRow HE.out.b (by omega) _

end Go.Proofs.Ytpdaenpcgcjmjaa
