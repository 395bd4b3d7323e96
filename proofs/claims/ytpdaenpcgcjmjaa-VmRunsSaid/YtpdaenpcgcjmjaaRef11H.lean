/- The reference's step: moves. -/
import Derived.Test.YtpdaenpcgcjmjaaRef11C
import Derived.StillTailTactics
namespace Go.Proofs.Ytpdaenpcgcjmjaa
open Go.RowKit
set_option linter.unusedVariables false

theorem runR_len (rec : ByteArray) (r : RM) (D : Deed) (h : r.cells.length = 16) : (D.runR rec r).cells.length = 16 := by
  cases D with
  | setA v => exact h
  | setX v => exact h
  | over v => exact h
  | answer v => exact h
  | ldm k => unfold Deed.runR; simp only; split <;> exact h
  | lxm k => unfold Deed.runR; simp only; split <;> exact h
  | st k => unfold Deed.runR; simp only; split <;> simp [h]
  | stx k => unfold Deed.runR; simp only; split <;> simp [h]
  | abs k => unfold Deed.runR; simp only; split <;> exact h
theorem ref_moves (c : Nat) (hc : c ∈ moveL) (r : RM) (k : Nat) (jt jf : Int) (rec : ByteArray) (w : World) (hr : r.cells.length = 16) (hk : k ≤ 4294967295) (hs : rec.size = 64) :
    Calls Try.prog 30 #[.agg r.arr, .agg #[.int .i64 (c : Int), .int .i64 jt, .int .i64 jf, .int .u32 (k : Int)], .string rec] w fun e w' => e = .returned (.agg ((moveD r.mach c k).runR rec r).arr) ∧ Below w.heap.size w w' := by
  unfold moveL at hc
  simp only [List.mem_cons, List.not_mem_nil, or_false] at hc
  rcases hc with rfl | rfl | rfl | rfl | rfl | rfl | rfl | rfl | rfl | rfl | rfl
  · by_cases h : wordOk k = true
    · exact ref_moves32i r k jt jf rec w hr hk hs h _ rfl
    · exact ref_moves32o r k jt jf rec w hr hk hs h
  · by_cases h : k < 16
    · exact ref_moves96i r k jt jf rec w hr hk hs h _ rfl
    · exact ref_moves96o r k jt jf rec w hr hk hs h
  · by_cases h : k < 16
    · exact ref_moves97i r k jt jf rec w hr hk hs h _ rfl
    · exact ref_moves97o r k jt jf rec w hr hk hs h
  · by_cases h : k < 16
    · exact ref_moves2i r k jt jf rec w hr hk hs h
    · exact ref_moves2o r k jt jf rec w hr hk hs h
  · by_cases h : k < 16
    · exact ref_moves3i r k jt jf rec w hr hk hs h
    · exact ref_moves3o r k jt jf rec w hr hk hs h
  · exact ref_moves128 r k jt jf rec w hr hk hs
  · exact ref_moves129 r k jt jf rec w hr hk hs
  · exact ref_moves0 r k jt jf rec w hr hk hs
  · exact ref_moves1 r k jt jf rec w hr hk hs
  · exact ref_moves135 r k jt jf rec w hr hk hs
  · exact ref_moves7 r k jt jf rec w hr hk hs

set_option maxRecDepth 100000 in
set_option maxHeartbeats 1000000 in
theorem ref_step32 (r : RM) (A : Option Addr) (len cap : Nat) (b off i k : Nat) (jt jf : Int) (rec : ByteArray) (w : World) (hr : r.cells.length = 16) (hrs : r.mach.small) (hs : rec.size = 64) (hat : r.at' = (i : Int)) (hlt : i < len) (hlen : len ≤ 1000000)
    (hb : b < w.heap.size) (hi : InsAt w b (off + i * 4) ⟨32, jt, jf, k⟩) (hk : k ≤ 4294967295) (ht : -9223372036854775808 ≤ jt ∧ jt ≤ 9223372036854775807) (hf : -9223372036854775808 ≤ jf ∧ jf ≤ 9223372036854775807) :
    Calls Try.prog 17 #[.agg r.arr, .slice (some ⟨b, off, none⟩) len cap, .string rec] w fun e w' => e = .returned (.agg ((deedD r.mach 32 k jt jf).runR rec { r with at' := r.at' + 1 }).arr) ∧ Below w.heap.size w w' := by
  rw [show deedD r.mach 32 k jt jf = moveD r.mach 32 k from rfl, hat]
  have hkI : (k : Int) ≤ 4294967295 := by omega
  have haI : (r.a : Int) ≤ 4294967295 := by have : r.a ≤ 4294967295 := hrs.1; omega
  have hxI : (r.x : Int) ≤ 4294967295 := by have : r.x ≤ 4294967295 := hrs.2.1; omega
  have hiI : (i : Int) ≤ 1000000 := by omega
  have hltI : (i : Int) < len := by omega
  have HK := Lib.hid (fun u => refKnown_any 32 u)
  rw [show insKnown 32 = true from known0 32 (by decide)] at HK
  have hM := fun u => ref_moves 32 (by decide) { r with at' := (i : Int) + 1 } k jt jf rec u hr hk hs
  have hone := rarr_one ((moveD r.mach 32 k).runR rec { r with at' := (i : Int) + 1 })
  have hlen' := runR_len rec { r with at' := (i : Int) + 1 } (moveD r.mach 32 k) hr
  have hsz := rarr_size _ hlen'
  rw [show ({ r with at' := (i : Int) + 1 } : RM).mach = r.mach from rfl] at hM
  generalize ((moveD r.mach 32 k).runR rec { r with at' := (i : Int) + 1 }).arr = R2 at *
  have HM := Lib.hid hM
  have H2 := Lib.hid hone
  have hI2 : (Try.prog.info? 45).map (fun i => i.size) = some R2.size := by rw [hsz]; exact infoRM
  have HI2 := Lib.hid hI2
  have hso2 : rm0.arr.size = R2.size := by rw [hsz]; rfl
  have HS2 := Lib.hid hso2
  clear hM hone hsz hI2 hso2 hlen'
  have hP := steps_of w r 32 jt jf k hr
  have a1 : Below w.heap.size w ((w.alloc (Obj.cells r.arr 45)).alloc (Obj.cells #[.int .u32 0, .int .u32 0, .int .u32 0, .int .u32 0, .int .u32 0, .int .u32 0, .int .u32 0, .int .u32 0, .int .u32 0, .int .u32 0, .int .u32 0, .int .u32 0, .int .u32 0, .int .u32 0, .int .u32 0, .int .u32 0, .int .u32 0, .int .u32 0, .int .i64 0, .int .u32 0, .bool false, .bool false] 45)) := alloc2 w _ _
  obtain ⟨c0, c1, c2, c3⟩ := hi.below a1 hb
  dsimp only at c0 c1 c2 c3
  have hm : IsR ((w.alloc (Obj.cells r.arr 45)).alloc (Obj.cells #[.int .u32 0, .int .u32 0, .int .u32 0, .int .u32 0, .int .u32 0, .int .u32 0, .int .u32 0, .int .u32 0, .int .u32 0, .int .u32 0, .int .u32 0, .int .u32 0, .int .u32 0, .int .u32 0, .int .u32 0, .int .u32 0, .int .u32 0, .int .u32 0, .int .i64 0, .int .u32 0, .bool false, .bool false] 45)) w.heap.size r := ⟨(heap_alloc_old _ _ (by simp)).trans (heap_alloc_new w _), hr⟩
  obtain ⟨_, _, q18, _⟩ := hm.facts
  rw [hat] at q18
  have HAT := Lib.hid hat
  clear hm hat hi a1
  go_enter Try.func17, Try.ntmps17
  go_wp2_with fail
  refine (HK.out _).mono ?_
  rintro e w5 ⟨rfl, rfl⟩
  go_upto_region 5 with fail
  generalize (((w.alloc (Obj.cells r.arr 45)).alloc (Obj.cells #[.int .u32 0, .int .u32 0, .int .u32 0, .int .u32 0, .int .u32 0, .int .u32 0, .int .u32 0, .int .u32 0, .int .u32 0, .int .u32 0, .int .u32 0, .int .u32 0, .int .u32 0, .int .u32 0, .int .u32 0, .int .u32 0, .int .u32 0, .int .u32 0, .int .i64 0, .int .u32 0, .bool false, .bool false] 45)).alloc (Obj.cells #[.int .i64 32, .int .i64 jt, .int .i64 jf, .int .u32 (k : Int)] 35)) = w3 at *
  clear c0 c1 c2 c3 q18
  obtain ⟨_, _, q18, _⟩ := hP.m.facts
  rw [HAT.out] at q18
  have fz := block_frozen hP.m.blk 18
  have HP := Lib.hid (hP.setAt (i + 1))
  clear hP
  go_upto_region 6 with fail
  generalize w3.setCell ⟨w.heap.size, 18, none⟩ (.int .i64 ((i : Int) + 1)) = wA at *
  clear q18 fz
  have i0 := below_cell (Below.refl _ wA) HP.out.i 0 rfl
  have i1 := below_cell (Below.refl _ wA) HP.out.i 1 rfl
  have i2 := below_cell (Below.refl _ wA) HP.out.i 2 rfl
  have i3 := below_cell (Below.refl _ wA) HP.out.i 3 rfl
  obtain ⟨r0, r1, r18, r19, r20, r21⟩ := HP.out.m.facts
  dsimp only at r0 r1 r18 r19 r20 r21
  clear r0 r1 r18 r19 r20 r21
  have hsz := rarr_size { r with at' := (i : Int) + 1 } hr
  have hI : (Try.prog.info? 45).map (fun i => i.size) = some (RM.arr { r with at' := (i : Int) + 1 }).size := by rw [hsz]; exact infoRM
  have H1 := Lib.hid hI
  clear hsz hI
  generalize hRR : RM.arr { r with at' := (i : Int) + 1 } = R at *
  have HB := Lib.hid HP.out.m.blk
  rw [hRR] at HB
  have HRR := Lib.hid hRR
  clear hRR
  go_wp2_with (first | (refine wpList_load_row rfl 45 _ rfl w.heap.size rfl 45 R (0, 0) _ HB.out Try.underlying45 rfl H1.out ?_))
  refine (HM.out _).mono ?_
  rintro e w5 ⟨rfl, hb5⟩
  have HE := Lib.hid (HP.out.last.below hb5)
  clear hb5
  go_wp2_with (first | (refine wpList_store_row rfl 45 _ _ rfl (w.heap.size + 1) R2 rfl rfl 45 rm0.arr HE.out.o HI2.out HS2.out H2.out ?_))
  refine bodyPost_ret (v := .agg R2) (results_cell_row rfl _ _ (w.heap.size + 1) 45 R2 (0, 0) _ rfl (setRow_heap _ _ _ _ _ _ HE.out.o) Try.underlying45 rfl HI2.out) rfl ⟨rfl, ?_⟩
  exact below_setRow HE.out.b (by omega) _

set_option maxRecDepth 100000 in
set_option maxHeartbeats 1000000 in
theorem ref_step96 (r : RM) (A : Option Addr) (len cap : Nat) (b off i k : Nat) (jt jf : Int) (rec : ByteArray) (w : World) (hr : r.cells.length = 16) (hrs : r.mach.small) (hs : rec.size = 64) (hat : r.at' = (i : Int)) (hlt : i < len) (hlen : len ≤ 1000000)
    (hb : b < w.heap.size) (hi : InsAt w b (off + i * 4) ⟨96, jt, jf, k⟩) (hk : k ≤ 4294967295) (ht : -9223372036854775808 ≤ jt ∧ jt ≤ 9223372036854775807) (hf : -9223372036854775808 ≤ jf ∧ jf ≤ 9223372036854775807) :
    Calls Try.prog 17 #[.agg r.arr, .slice (some ⟨b, off, none⟩) len cap, .string rec] w fun e w' => e = .returned (.agg ((deedD r.mach 96 k jt jf).runR rec { r with at' := r.at' + 1 }).arr) ∧ Below w.heap.size w w' := by
  rw [show deedD r.mach 96 k jt jf = moveD r.mach 96 k from rfl, hat]
  have hkI : (k : Int) ≤ 4294967295 := by omega
  have haI : (r.a : Int) ≤ 4294967295 := by have : r.a ≤ 4294967295 := hrs.1; omega
  have hxI : (r.x : Int) ≤ 4294967295 := by have : r.x ≤ 4294967295 := hrs.2.1; omega
  have hiI : (i : Int) ≤ 1000000 := by omega
  have hltI : (i : Int) < len := by omega
  have HK := Lib.hid (fun u => refKnown_any 96 u)
  rw [show insKnown 96 = true from known0 96 (by decide)] at HK
  have hM := fun u => ref_moves 96 (by decide) { r with at' := (i : Int) + 1 } k jt jf rec u hr hk hs
  have hone := rarr_one ((moveD r.mach 96 k).runR rec { r with at' := (i : Int) + 1 })
  have hlen' := runR_len rec { r with at' := (i : Int) + 1 } (moveD r.mach 96 k) hr
  have hsz := rarr_size _ hlen'
  rw [show ({ r with at' := (i : Int) + 1 } : RM).mach = r.mach from rfl] at hM
  generalize ((moveD r.mach 96 k).runR rec { r with at' := (i : Int) + 1 }).arr = R2 at *
  have HM := Lib.hid hM
  have H2 := Lib.hid hone
  have hI2 : (Try.prog.info? 45).map (fun i => i.size) = some R2.size := by rw [hsz]; exact infoRM
  have HI2 := Lib.hid hI2
  have hso2 : rm0.arr.size = R2.size := by rw [hsz]; rfl
  have HS2 := Lib.hid hso2
  clear hM hone hsz hI2 hso2 hlen'
  have hP := steps_of w r 96 jt jf k hr
  have a1 : Below w.heap.size w ((w.alloc (Obj.cells r.arr 45)).alloc (Obj.cells #[.int .u32 0, .int .u32 0, .int .u32 0, .int .u32 0, .int .u32 0, .int .u32 0, .int .u32 0, .int .u32 0, .int .u32 0, .int .u32 0, .int .u32 0, .int .u32 0, .int .u32 0, .int .u32 0, .int .u32 0, .int .u32 0, .int .u32 0, .int .u32 0, .int .i64 0, .int .u32 0, .bool false, .bool false] 45)) := alloc2 w _ _
  obtain ⟨c0, c1, c2, c3⟩ := hi.below a1 hb
  dsimp only at c0 c1 c2 c3
  have hm : IsR ((w.alloc (Obj.cells r.arr 45)).alloc (Obj.cells #[.int .u32 0, .int .u32 0, .int .u32 0, .int .u32 0, .int .u32 0, .int .u32 0, .int .u32 0, .int .u32 0, .int .u32 0, .int .u32 0, .int .u32 0, .int .u32 0, .int .u32 0, .int .u32 0, .int .u32 0, .int .u32 0, .int .u32 0, .int .u32 0, .int .i64 0, .int .u32 0, .bool false, .bool false] 45)) w.heap.size r := ⟨(heap_alloc_old _ _ (by simp)).trans (heap_alloc_new w _), hr⟩
  obtain ⟨_, _, q18, _⟩ := hm.facts
  rw [hat] at q18
  have HAT := Lib.hid hat
  clear hm hat hi a1
  go_enter Try.func17, Try.ntmps17
  go_wp2_with fail
  refine (HK.out _).mono ?_
  rintro e w5 ⟨rfl, rfl⟩
  go_upto_region 5 with fail
  generalize (((w.alloc (Obj.cells r.arr 45)).alloc (Obj.cells #[.int .u32 0, .int .u32 0, .int .u32 0, .int .u32 0, .int .u32 0, .int .u32 0, .int .u32 0, .int .u32 0, .int .u32 0, .int .u32 0, .int .u32 0, .int .u32 0, .int .u32 0, .int .u32 0, .int .u32 0, .int .u32 0, .int .u32 0, .int .u32 0, .int .i64 0, .int .u32 0, .bool false, .bool false] 45)).alloc (Obj.cells #[.int .i64 96, .int .i64 jt, .int .i64 jf, .int .u32 (k : Int)] 35)) = w3 at *
  clear c0 c1 c2 c3 q18
  obtain ⟨_, _, q18, _⟩ := hP.m.facts
  rw [HAT.out] at q18
  have fz := block_frozen hP.m.blk 18
  have HP := Lib.hid (hP.setAt (i + 1))
  clear hP
  go_upto_region 6 with fail
  generalize w3.setCell ⟨w.heap.size, 18, none⟩ (.int .i64 ((i : Int) + 1)) = wA at *
  clear q18 fz
  have i0 := below_cell (Below.refl _ wA) HP.out.i 0 rfl
  have i1 := below_cell (Below.refl _ wA) HP.out.i 1 rfl
  have i2 := below_cell (Below.refl _ wA) HP.out.i 2 rfl
  have i3 := below_cell (Below.refl _ wA) HP.out.i 3 rfl
  obtain ⟨r0, r1, r18, r19, r20, r21⟩ := HP.out.m.facts
  dsimp only at r0 r1 r18 r19 r20 r21
  clear r0 r1 r18 r19 r20 r21
  have hsz := rarr_size { r with at' := (i : Int) + 1 } hr
  have hI : (Try.prog.info? 45).map (fun i => i.size) = some (RM.arr { r with at' := (i : Int) + 1 }).size := by rw [hsz]; exact infoRM
  have H1 := Lib.hid hI
  clear hsz hI
  generalize hRR : RM.arr { r with at' := (i : Int) + 1 } = R at *
  have HB := Lib.hid HP.out.m.blk
  rw [hRR] at HB
  have HRR := Lib.hid hRR
  clear hRR
  go_wp2_with (first | (refine wpList_load_row rfl 45 _ rfl w.heap.size rfl 45 R (0, 0) _ HB.out Try.underlying45 rfl H1.out ?_))
  refine (HM.out _).mono ?_
  rintro e w5 ⟨rfl, hb5⟩
  have HE := Lib.hid (HP.out.last.below hb5)
  clear hb5
  go_wp2_with (first | (refine wpList_store_row rfl 45 _ _ rfl (w.heap.size + 1) R2 rfl rfl 45 rm0.arr HE.out.o HI2.out HS2.out H2.out ?_))
  refine bodyPost_ret (v := .agg R2) (results_cell_row rfl _ _ (w.heap.size + 1) 45 R2 (0, 0) _ rfl (setRow_heap _ _ _ _ _ _ HE.out.o) Try.underlying45 rfl HI2.out) rfl ⟨rfl, ?_⟩
  exact below_setRow HE.out.b (by omega) _

set_option maxRecDepth 100000 in
set_option maxHeartbeats 1000000 in
theorem ref_step97 (r : RM) (A : Option Addr) (len cap : Nat) (b off i k : Nat) (jt jf : Int) (rec : ByteArray) (w : World) (hr : r.cells.length = 16) (hrs : r.mach.small) (hs : rec.size = 64) (hat : r.at' = (i : Int)) (hlt : i < len) (hlen : len ≤ 1000000)
    (hb : b < w.heap.size) (hi : InsAt w b (off + i * 4) ⟨97, jt, jf, k⟩) (hk : k ≤ 4294967295) (ht : -9223372036854775808 ≤ jt ∧ jt ≤ 9223372036854775807) (hf : -9223372036854775808 ≤ jf ∧ jf ≤ 9223372036854775807) :
    Calls Try.prog 17 #[.agg r.arr, .slice (some ⟨b, off, none⟩) len cap, .string rec] w fun e w' => e = .returned (.agg ((deedD r.mach 97 k jt jf).runR rec { r with at' := r.at' + 1 }).arr) ∧ Below w.heap.size w w' := by
  rw [show deedD r.mach 97 k jt jf = moveD r.mach 97 k from rfl, hat]
  have hkI : (k : Int) ≤ 4294967295 := by omega
  have haI : (r.a : Int) ≤ 4294967295 := by have : r.a ≤ 4294967295 := hrs.1; omega
  have hxI : (r.x : Int) ≤ 4294967295 := by have : r.x ≤ 4294967295 := hrs.2.1; omega
  have hiI : (i : Int) ≤ 1000000 := by omega
  have hltI : (i : Int) < len := by omega
  have HK := Lib.hid (fun u => refKnown_any 97 u)
  rw [show insKnown 97 = true from known0 97 (by decide)] at HK
  have hM := fun u => ref_moves 97 (by decide) { r with at' := (i : Int) + 1 } k jt jf rec u hr hk hs
  have hone := rarr_one ((moveD r.mach 97 k).runR rec { r with at' := (i : Int) + 1 })
  have hlen' := runR_len rec { r with at' := (i : Int) + 1 } (moveD r.mach 97 k) hr
  have hsz := rarr_size _ hlen'
  rw [show ({ r with at' := (i : Int) + 1 } : RM).mach = r.mach from rfl] at hM
  generalize ((moveD r.mach 97 k).runR rec { r with at' := (i : Int) + 1 }).arr = R2 at *
  have HM := Lib.hid hM
  have H2 := Lib.hid hone
  have hI2 : (Try.prog.info? 45).map (fun i => i.size) = some R2.size := by rw [hsz]; exact infoRM
  have HI2 := Lib.hid hI2
  have hso2 : rm0.arr.size = R2.size := by rw [hsz]; rfl
  have HS2 := Lib.hid hso2
  clear hM hone hsz hI2 hso2 hlen'
  have hP := steps_of w r 97 jt jf k hr
  have a1 : Below w.heap.size w ((w.alloc (Obj.cells r.arr 45)).alloc (Obj.cells #[.int .u32 0, .int .u32 0, .int .u32 0, .int .u32 0, .int .u32 0, .int .u32 0, .int .u32 0, .int .u32 0, .int .u32 0, .int .u32 0, .int .u32 0, .int .u32 0, .int .u32 0, .int .u32 0, .int .u32 0, .int .u32 0, .int .u32 0, .int .u32 0, .int .i64 0, .int .u32 0, .bool false, .bool false] 45)) := alloc2 w _ _
  obtain ⟨c0, c1, c2, c3⟩ := hi.below a1 hb
  dsimp only at c0 c1 c2 c3
  have hm : IsR ((w.alloc (Obj.cells r.arr 45)).alloc (Obj.cells #[.int .u32 0, .int .u32 0, .int .u32 0, .int .u32 0, .int .u32 0, .int .u32 0, .int .u32 0, .int .u32 0, .int .u32 0, .int .u32 0, .int .u32 0, .int .u32 0, .int .u32 0, .int .u32 0, .int .u32 0, .int .u32 0, .int .u32 0, .int .u32 0, .int .i64 0, .int .u32 0, .bool false, .bool false] 45)) w.heap.size r := ⟨(heap_alloc_old _ _ (by simp)).trans (heap_alloc_new w _), hr⟩
  obtain ⟨_, _, q18, _⟩ := hm.facts
  rw [hat] at q18
  have HAT := Lib.hid hat
  clear hm hat hi a1
  go_enter Try.func17, Try.ntmps17
  go_wp2_with fail
  refine (HK.out _).mono ?_
  rintro e w5 ⟨rfl, rfl⟩
  go_upto_region 5 with fail
  generalize (((w.alloc (Obj.cells r.arr 45)).alloc (Obj.cells #[.int .u32 0, .int .u32 0, .int .u32 0, .int .u32 0, .int .u32 0, .int .u32 0, .int .u32 0, .int .u32 0, .int .u32 0, .int .u32 0, .int .u32 0, .int .u32 0, .int .u32 0, .int .u32 0, .int .u32 0, .int .u32 0, .int .u32 0, .int .u32 0, .int .i64 0, .int .u32 0, .bool false, .bool false] 45)).alloc (Obj.cells #[.int .i64 97, .int .i64 jt, .int .i64 jf, .int .u32 (k : Int)] 35)) = w3 at *
  clear c0 c1 c2 c3 q18
  obtain ⟨_, _, q18, _⟩ := hP.m.facts
  rw [HAT.out] at q18
  have fz := block_frozen hP.m.blk 18
  have HP := Lib.hid (hP.setAt (i + 1))
  clear hP
  go_upto_region 6 with fail
  generalize w3.setCell ⟨w.heap.size, 18, none⟩ (.int .i64 ((i : Int) + 1)) = wA at *
  clear q18 fz
  have i0 := below_cell (Below.refl _ wA) HP.out.i 0 rfl
  have i1 := below_cell (Below.refl _ wA) HP.out.i 1 rfl
  have i2 := below_cell (Below.refl _ wA) HP.out.i 2 rfl
  have i3 := below_cell (Below.refl _ wA) HP.out.i 3 rfl
  obtain ⟨r0, r1, r18, r19, r20, r21⟩ := HP.out.m.facts
  dsimp only at r0 r1 r18 r19 r20 r21
  clear r0 r1 r18 r19 r20 r21
  have hsz := rarr_size { r with at' := (i : Int) + 1 } hr
  have hI : (Try.prog.info? 45).map (fun i => i.size) = some (RM.arr { r with at' := (i : Int) + 1 }).size := by rw [hsz]; exact infoRM
  have H1 := Lib.hid hI
  clear hsz hI
  generalize hRR : RM.arr { r with at' := (i : Int) + 1 } = R at *
  have HB := Lib.hid HP.out.m.blk
  rw [hRR] at HB
  have HRR := Lib.hid hRR
  clear hRR
  go_wp2_with (first | (refine wpList_load_row rfl 45 _ rfl w.heap.size rfl 45 R (0, 0) _ HB.out Try.underlying45 rfl H1.out ?_))
  refine (HM.out _).mono ?_
  rintro e w5 ⟨rfl, hb5⟩
  have HE := Lib.hid (HP.out.last.below hb5)
  clear hb5
  go_wp2_with (first | (refine wpList_store_row rfl 45 _ _ rfl (w.heap.size + 1) R2 rfl rfl 45 rm0.arr HE.out.o HI2.out HS2.out H2.out ?_))
  refine bodyPost_ret (v := .agg R2) (results_cell_row rfl _ _ (w.heap.size + 1) 45 R2 (0, 0) _ rfl (setRow_heap _ _ _ _ _ _ HE.out.o) Try.underlying45 rfl HI2.out) rfl ⟨rfl, ?_⟩
  exact below_setRow HE.out.b (by omega) _

set_option maxRecDepth 100000 in
set_option maxHeartbeats 1000000 in
theorem ref_step2 (r : RM) (A : Option Addr) (len cap : Nat) (b off i k : Nat) (jt jf : Int) (rec : ByteArray) (w : World) (hr : r.cells.length = 16) (hrs : r.mach.small) (hs : rec.size = 64) (hat : r.at' = (i : Int)) (hlt : i < len) (hlen : len ≤ 1000000)
    (hb : b < w.heap.size) (hi : InsAt w b (off + i * 4) ⟨2, jt, jf, k⟩) (hk : k ≤ 4294967295) (ht : -9223372036854775808 ≤ jt ∧ jt ≤ 9223372036854775807) (hf : -9223372036854775808 ≤ jf ∧ jf ≤ 9223372036854775807) :
    Calls Try.prog 17 #[.agg r.arr, .slice (some ⟨b, off, none⟩) len cap, .string rec] w fun e w' => e = .returned (.agg ((deedD r.mach 2 k jt jf).runR rec { r with at' := r.at' + 1 }).arr) ∧ Below w.heap.size w w' := by
  rw [show deedD r.mach 2 k jt jf = moveD r.mach 2 k from rfl, hat]
  have hkI : (k : Int) ≤ 4294967295 := by omega
  have haI : (r.a : Int) ≤ 4294967295 := by have : r.a ≤ 4294967295 := hrs.1; omega
  have hxI : (r.x : Int) ≤ 4294967295 := by have : r.x ≤ 4294967295 := hrs.2.1; omega
  have hiI : (i : Int) ≤ 1000000 := by omega
  have hltI : (i : Int) < len := by omega
  have HK := Lib.hid (fun u => refKnown_any 2 u)
  rw [show insKnown 2 = true from known0 2 (by decide)] at HK
  have hM := fun u => ref_moves 2 (by decide) { r with at' := (i : Int) + 1 } k jt jf rec u hr hk hs
  have hone := rarr_one ((moveD r.mach 2 k).runR rec { r with at' := (i : Int) + 1 })
  have hlen' := runR_len rec { r with at' := (i : Int) + 1 } (moveD r.mach 2 k) hr
  have hsz := rarr_size _ hlen'
  rw [show ({ r with at' := (i : Int) + 1 } : RM).mach = r.mach from rfl] at hM
  generalize ((moveD r.mach 2 k).runR rec { r with at' := (i : Int) + 1 }).arr = R2 at *
  have HM := Lib.hid hM
  have H2 := Lib.hid hone
  have hI2 : (Try.prog.info? 45).map (fun i => i.size) = some R2.size := by rw [hsz]; exact infoRM
  have HI2 := Lib.hid hI2
  have hso2 : rm0.arr.size = R2.size := by rw [hsz]; rfl
  have HS2 := Lib.hid hso2
  clear hM hone hsz hI2 hso2 hlen'
  have hP := steps_of w r 2 jt jf k hr
  have a1 : Below w.heap.size w ((w.alloc (Obj.cells r.arr 45)).alloc (Obj.cells #[.int .u32 0, .int .u32 0, .int .u32 0, .int .u32 0, .int .u32 0, .int .u32 0, .int .u32 0, .int .u32 0, .int .u32 0, .int .u32 0, .int .u32 0, .int .u32 0, .int .u32 0, .int .u32 0, .int .u32 0, .int .u32 0, .int .u32 0, .int .u32 0, .int .i64 0, .int .u32 0, .bool false, .bool false] 45)) := alloc2 w _ _
  obtain ⟨c0, c1, c2, c3⟩ := hi.below a1 hb
  dsimp only at c0 c1 c2 c3
  have hm : IsR ((w.alloc (Obj.cells r.arr 45)).alloc (Obj.cells #[.int .u32 0, .int .u32 0, .int .u32 0, .int .u32 0, .int .u32 0, .int .u32 0, .int .u32 0, .int .u32 0, .int .u32 0, .int .u32 0, .int .u32 0, .int .u32 0, .int .u32 0, .int .u32 0, .int .u32 0, .int .u32 0, .int .u32 0, .int .u32 0, .int .i64 0, .int .u32 0, .bool false, .bool false] 45)) w.heap.size r := ⟨(heap_alloc_old _ _ (by simp)).trans (heap_alloc_new w _), hr⟩
  obtain ⟨_, _, q18, _⟩ := hm.facts
  rw [hat] at q18
  have HAT := Lib.hid hat
  clear hm hat hi a1
  go_enter Try.func17, Try.ntmps17
  go_wp2_with fail
  refine (HK.out _).mono ?_
  rintro e w5 ⟨rfl, rfl⟩
  go_upto_region 5 with fail
  generalize (((w.alloc (Obj.cells r.arr 45)).alloc (Obj.cells #[.int .u32 0, .int .u32 0, .int .u32 0, .int .u32 0, .int .u32 0, .int .u32 0, .int .u32 0, .int .u32 0, .int .u32 0, .int .u32 0, .int .u32 0, .int .u32 0, .int .u32 0, .int .u32 0, .int .u32 0, .int .u32 0, .int .u32 0, .int .u32 0, .int .i64 0, .int .u32 0, .bool false, .bool false] 45)).alloc (Obj.cells #[.int .i64 2, .int .i64 jt, .int .i64 jf, .int .u32 (k : Int)] 35)) = w3 at *
  clear c0 c1 c2 c3 q18
  obtain ⟨_, _, q18, _⟩ := hP.m.facts
  rw [HAT.out] at q18
  have fz := block_frozen hP.m.blk 18
  have HP := Lib.hid (hP.setAt (i + 1))
  clear hP
  go_upto_region 6 with fail
  generalize w3.setCell ⟨w.heap.size, 18, none⟩ (.int .i64 ((i : Int) + 1)) = wA at *
  clear q18 fz
  have i0 := below_cell (Below.refl _ wA) HP.out.i 0 rfl
  have i1 := below_cell (Below.refl _ wA) HP.out.i 1 rfl
  have i2 := below_cell (Below.refl _ wA) HP.out.i 2 rfl
  have i3 := below_cell (Below.refl _ wA) HP.out.i 3 rfl
  obtain ⟨r0, r1, r18, r19, r20, r21⟩ := HP.out.m.facts
  dsimp only at r0 r1 r18 r19 r20 r21
  clear r0 r1 r18 r19 r20 r21
  have hsz := rarr_size { r with at' := (i : Int) + 1 } hr
  have hI : (Try.prog.info? 45).map (fun i => i.size) = some (RM.arr { r with at' := (i : Int) + 1 }).size := by rw [hsz]; exact infoRM
  have H1 := Lib.hid hI
  clear hsz hI
  generalize hRR : RM.arr { r with at' := (i : Int) + 1 } = R at *
  have HB := Lib.hid HP.out.m.blk
  rw [hRR] at HB
  have HRR := Lib.hid hRR
  clear hRR
  go_wp2_with (first | (refine wpList_load_row rfl 45 _ rfl w.heap.size rfl 45 R (0, 0) _ HB.out Try.underlying45 rfl H1.out ?_))
  refine (HM.out _).mono ?_
  rintro e w5 ⟨rfl, hb5⟩
  have HE := Lib.hid (HP.out.last.below hb5)
  clear hb5
  go_wp2_with (first | (refine wpList_store_row rfl 45 _ _ rfl (w.heap.size + 1) R2 rfl rfl 45 rm0.arr HE.out.o HI2.out HS2.out H2.out ?_))
  refine bodyPost_ret (v := .agg R2) (results_cell_row rfl _ _ (w.heap.size + 1) 45 R2 (0, 0) _ rfl (setRow_heap _ _ _ _ _ _ HE.out.o) Try.underlying45 rfl HI2.out) rfl ⟨rfl, ?_⟩
  exact below_setRow HE.out.b (by omega) _

set_option maxRecDepth 100000 in
set_option maxHeartbeats 1000000 in
theorem ref_step3 (r : RM) (A : Option Addr) (len cap : Nat) (b off i k : Nat) (jt jf : Int) (rec : ByteArray) (w : World) (hr : r.cells.length = 16) (hrs : r.mach.small) (hs : rec.size = 64) (hat : r.at' = (i : Int)) (hlt : i < len) (hlen : len ≤ 1000000)
    (hb : b < w.heap.size) (hi : InsAt w b (off + i * 4) ⟨3, jt, jf, k⟩) (hk : k ≤ 4294967295) (ht : -9223372036854775808 ≤ jt ∧ jt ≤ 9223372036854775807) (hf : -9223372036854775808 ≤ jf ∧ jf ≤ 9223372036854775807) :
    Calls Try.prog 17 #[.agg r.arr, .slice (some ⟨b, off, none⟩) len cap, .string rec] w fun e w' => e = .returned (.agg ((deedD r.mach 3 k jt jf).runR rec { r with at' := r.at' + 1 }).arr) ∧ Below w.heap.size w w' := by
  rw [show deedD r.mach 3 k jt jf = moveD r.mach 3 k from rfl, hat]
  have hkI : (k : Int) ≤ 4294967295 := by omega
  have haI : (r.a : Int) ≤ 4294967295 := by have : r.a ≤ 4294967295 := hrs.1; omega
  have hxI : (r.x : Int) ≤ 4294967295 := by have : r.x ≤ 4294967295 := hrs.2.1; omega
  have hiI : (i : Int) ≤ 1000000 := by omega
  have hltI : (i : Int) < len := by omega
  have HK := Lib.hid (fun u => refKnown_any 3 u)
  rw [show insKnown 3 = true from known0 3 (by decide)] at HK
  have hM := fun u => ref_moves 3 (by decide) { r with at' := (i : Int) + 1 } k jt jf rec u hr hk hs
  have hone := rarr_one ((moveD r.mach 3 k).runR rec { r with at' := (i : Int) + 1 })
  have hlen' := runR_len rec { r with at' := (i : Int) + 1 } (moveD r.mach 3 k) hr
  have hsz := rarr_size _ hlen'
  rw [show ({ r with at' := (i : Int) + 1 } : RM).mach = r.mach from rfl] at hM
  generalize ((moveD r.mach 3 k).runR rec { r with at' := (i : Int) + 1 }).arr = R2 at *
  have HM := Lib.hid hM
  have H2 := Lib.hid hone
  have hI2 : (Try.prog.info? 45).map (fun i => i.size) = some R2.size := by rw [hsz]; exact infoRM
  have HI2 := Lib.hid hI2
  have hso2 : rm0.arr.size = R2.size := by rw [hsz]; rfl
  have HS2 := Lib.hid hso2
  clear hM hone hsz hI2 hso2 hlen'
  have hP := steps_of w r 3 jt jf k hr
  have a1 : Below w.heap.size w ((w.alloc (Obj.cells r.arr 45)).alloc (Obj.cells #[.int .u32 0, .int .u32 0, .int .u32 0, .int .u32 0, .int .u32 0, .int .u32 0, .int .u32 0, .int .u32 0, .int .u32 0, .int .u32 0, .int .u32 0, .int .u32 0, .int .u32 0, .int .u32 0, .int .u32 0, .int .u32 0, .int .u32 0, .int .u32 0, .int .i64 0, .int .u32 0, .bool false, .bool false] 45)) := alloc2 w _ _
  obtain ⟨c0, c1, c2, c3⟩ := hi.below a1 hb
  dsimp only at c0 c1 c2 c3
  have hm : IsR ((w.alloc (Obj.cells r.arr 45)).alloc (Obj.cells #[.int .u32 0, .int .u32 0, .int .u32 0, .int .u32 0, .int .u32 0, .int .u32 0, .int .u32 0, .int .u32 0, .int .u32 0, .int .u32 0, .int .u32 0, .int .u32 0, .int .u32 0, .int .u32 0, .int .u32 0, .int .u32 0, .int .u32 0, .int .u32 0, .int .i64 0, .int .u32 0, .bool false, .bool false] 45)) w.heap.size r := ⟨(heap_alloc_old _ _ (by simp)).trans (heap_alloc_new w _), hr⟩
  obtain ⟨_, _, q18, _⟩ := hm.facts
  rw [hat] at q18
  have HAT := Lib.hid hat
  clear hm hat hi a1
  go_enter Try.func17, Try.ntmps17
  go_wp2_with fail
  refine (HK.out _).mono ?_
  rintro e w5 ⟨rfl, rfl⟩
  go_upto_region 5 with fail
  generalize (((w.alloc (Obj.cells r.arr 45)).alloc (Obj.cells #[.int .u32 0, .int .u32 0, .int .u32 0, .int .u32 0, .int .u32 0, .int .u32 0, .int .u32 0, .int .u32 0, .int .u32 0, .int .u32 0, .int .u32 0, .int .u32 0, .int .u32 0, .int .u32 0, .int .u32 0, .int .u32 0, .int .u32 0, .int .u32 0, .int .i64 0, .int .u32 0, .bool false, .bool false] 45)).alloc (Obj.cells #[.int .i64 3, .int .i64 jt, .int .i64 jf, .int .u32 (k : Int)] 35)) = w3 at *
  clear c0 c1 c2 c3 q18
  obtain ⟨_, _, q18, _⟩ := hP.m.facts
  rw [HAT.out] at q18
  have fz := block_frozen hP.m.blk 18
  have HP := Lib.hid (hP.setAt (i + 1))
  clear hP
  go_upto_region 6 with fail
  generalize w3.setCell ⟨w.heap.size, 18, none⟩ (.int .i64 ((i : Int) + 1)) = wA at *
  clear q18 fz
  have i0 := below_cell (Below.refl _ wA) HP.out.i 0 rfl
  have i1 := below_cell (Below.refl _ wA) HP.out.i 1 rfl
  have i2 := below_cell (Below.refl _ wA) HP.out.i 2 rfl
  have i3 := below_cell (Below.refl _ wA) HP.out.i 3 rfl
  obtain ⟨r0, r1, r18, r19, r20, r21⟩ := HP.out.m.facts
  dsimp only at r0 r1 r18 r19 r20 r21
  clear r0 r1 r18 r19 r20 r21
  have hsz := rarr_size { r with at' := (i : Int) + 1 } hr
  have hI : (Try.prog.info? 45).map (fun i => i.size) = some (RM.arr { r with at' := (i : Int) + 1 }).size := by rw [hsz]; exact infoRM
  have H1 := Lib.hid hI
  clear hsz hI
  generalize hRR : RM.arr { r with at' := (i : Int) + 1 } = R at *
  have HB := Lib.hid HP.out.m.blk
  rw [hRR] at HB
  have HRR := Lib.hid hRR
  clear hRR
  go_wp2_with (first | (refine wpList_load_row rfl 45 _ rfl w.heap.size rfl 45 R (0, 0) _ HB.out Try.underlying45 rfl H1.out ?_))
  refine (HM.out _).mono ?_
  rintro e w5 ⟨rfl, hb5⟩
  have HE := Lib.hid (HP.out.last.below hb5)
  clear hb5
  go_wp2_with (first | (refine wpList_store_row rfl 45 _ _ rfl (w.heap.size + 1) R2 rfl rfl 45 rm0.arr HE.out.o HI2.out HS2.out H2.out ?_))
  refine bodyPost_ret (v := .agg R2) (results_cell_row rfl _ _ (w.heap.size + 1) 45 R2 (0, 0) _ rfl (setRow_heap _ _ _ _ _ _ HE.out.o) Try.underlying45 rfl HI2.out) rfl ⟨rfl, ?_⟩
  exact below_setRow HE.out.b (by omega) _

set_option maxRecDepth 100000 in
set_option maxHeartbeats 1000000 in
theorem ref_step128 (r : RM) (A : Option Addr) (len cap : Nat) (b off i k : Nat) (jt jf : Int) (rec : ByteArray) (w : World) (hr : r.cells.length = 16) (hrs : r.mach.small) (hs : rec.size = 64) (hat : r.at' = (i : Int)) (hlt : i < len) (hlen : len ≤ 1000000)
    (hb : b < w.heap.size) (hi : InsAt w b (off + i * 4) ⟨128, jt, jf, k⟩) (hk : k ≤ 4294967295) (ht : -9223372036854775808 ≤ jt ∧ jt ≤ 9223372036854775807) (hf : -9223372036854775808 ≤ jf ∧ jf ≤ 9223372036854775807) :
    Calls Try.prog 17 #[.agg r.arr, .slice (some ⟨b, off, none⟩) len cap, .string rec] w fun e w' => e = .returned (.agg ((deedD r.mach 128 k jt jf).runR rec { r with at' := r.at' + 1 }).arr) ∧ Below w.heap.size w w' := by
  rw [show deedD r.mach 128 k jt jf = moveD r.mach 128 k from rfl, hat]
  have hkI : (k : Int) ≤ 4294967295 := by omega
  have haI : (r.a : Int) ≤ 4294967295 := by have : r.a ≤ 4294967295 := hrs.1; omega
  have hxI : (r.x : Int) ≤ 4294967295 := by have : r.x ≤ 4294967295 := hrs.2.1; omega
  have hiI : (i : Int) ≤ 1000000 := by omega
  have hltI : (i : Int) < len := by omega
  have HK := Lib.hid (fun u => refKnown_any 128 u)
  rw [show insKnown 128 = true from known0 128 (by decide)] at HK
  have hM := fun u => ref_moves 128 (by decide) { r with at' := (i : Int) + 1 } k jt jf rec u hr hk hs
  have hone := rarr_one ((moveD r.mach 128 k).runR rec { r with at' := (i : Int) + 1 })
  have hlen' := runR_len rec { r with at' := (i : Int) + 1 } (moveD r.mach 128 k) hr
  have hsz := rarr_size _ hlen'
  rw [show ({ r with at' := (i : Int) + 1 } : RM).mach = r.mach from rfl] at hM
  generalize ((moveD r.mach 128 k).runR rec { r with at' := (i : Int) + 1 }).arr = R2 at *
  have HM := Lib.hid hM
  have H2 := Lib.hid hone
  have hI2 : (Try.prog.info? 45).map (fun i => i.size) = some R2.size := by rw [hsz]; exact infoRM
  have HI2 := Lib.hid hI2
  have hso2 : rm0.arr.size = R2.size := by rw [hsz]; rfl
  have HS2 := Lib.hid hso2
  clear hM hone hsz hI2 hso2 hlen'
  have hP := steps_of w r 128 jt jf k hr
  have a1 : Below w.heap.size w ((w.alloc (Obj.cells r.arr 45)).alloc (Obj.cells #[.int .u32 0, .int .u32 0, .int .u32 0, .int .u32 0, .int .u32 0, .int .u32 0, .int .u32 0, .int .u32 0, .int .u32 0, .int .u32 0, .int .u32 0, .int .u32 0, .int .u32 0, .int .u32 0, .int .u32 0, .int .u32 0, .int .u32 0, .int .u32 0, .int .i64 0, .int .u32 0, .bool false, .bool false] 45)) := alloc2 w _ _
  obtain ⟨c0, c1, c2, c3⟩ := hi.below a1 hb
  dsimp only at c0 c1 c2 c3
  have hm : IsR ((w.alloc (Obj.cells r.arr 45)).alloc (Obj.cells #[.int .u32 0, .int .u32 0, .int .u32 0, .int .u32 0, .int .u32 0, .int .u32 0, .int .u32 0, .int .u32 0, .int .u32 0, .int .u32 0, .int .u32 0, .int .u32 0, .int .u32 0, .int .u32 0, .int .u32 0, .int .u32 0, .int .u32 0, .int .u32 0, .int .i64 0, .int .u32 0, .bool false, .bool false] 45)) w.heap.size r := ⟨(heap_alloc_old _ _ (by simp)).trans (heap_alloc_new w _), hr⟩
  obtain ⟨_, _, q18, _⟩ := hm.facts
  rw [hat] at q18
  have HAT := Lib.hid hat
  clear hm hat hi a1
  go_enter Try.func17, Try.ntmps17
  go_wp2_with fail
  refine (HK.out _).mono ?_
  rintro e w5 ⟨rfl, rfl⟩
  go_upto_region 5 with fail
  generalize (((w.alloc (Obj.cells r.arr 45)).alloc (Obj.cells #[.int .u32 0, .int .u32 0, .int .u32 0, .int .u32 0, .int .u32 0, .int .u32 0, .int .u32 0, .int .u32 0, .int .u32 0, .int .u32 0, .int .u32 0, .int .u32 0, .int .u32 0, .int .u32 0, .int .u32 0, .int .u32 0, .int .u32 0, .int .u32 0, .int .i64 0, .int .u32 0, .bool false, .bool false] 45)).alloc (Obj.cells #[.int .i64 128, .int .i64 jt, .int .i64 jf, .int .u32 (k : Int)] 35)) = w3 at *
  clear c0 c1 c2 c3 q18
  obtain ⟨_, _, q18, _⟩ := hP.m.facts
  rw [HAT.out] at q18
  have fz := block_frozen hP.m.blk 18
  have HP := Lib.hid (hP.setAt (i + 1))
  clear hP
  go_upto_region 6 with fail
  generalize w3.setCell ⟨w.heap.size, 18, none⟩ (.int .i64 ((i : Int) + 1)) = wA at *
  clear q18 fz
  have i0 := below_cell (Below.refl _ wA) HP.out.i 0 rfl
  have i1 := below_cell (Below.refl _ wA) HP.out.i 1 rfl
  have i2 := below_cell (Below.refl _ wA) HP.out.i 2 rfl
  have i3 := below_cell (Below.refl _ wA) HP.out.i 3 rfl
  obtain ⟨r0, r1, r18, r19, r20, r21⟩ := HP.out.m.facts
  dsimp only at r0 r1 r18 r19 r20 r21
  clear r0 r1 r18 r19 r20 r21
  have hsz := rarr_size { r with at' := (i : Int) + 1 } hr
  have hI : (Try.prog.info? 45).map (fun i => i.size) = some (RM.arr { r with at' := (i : Int) + 1 }).size := by rw [hsz]; exact infoRM
  have H1 := Lib.hid hI
  clear hsz hI
  generalize hRR : RM.arr { r with at' := (i : Int) + 1 } = R at *
  have HB := Lib.hid HP.out.m.blk
  rw [hRR] at HB
  have HRR := Lib.hid hRR
  clear hRR
  go_wp2_with (first | (refine wpList_load_row rfl 45 _ rfl w.heap.size rfl 45 R (0, 0) _ HB.out Try.underlying45 rfl H1.out ?_))
  refine (HM.out _).mono ?_
  rintro e w5 ⟨rfl, hb5⟩
  have HE := Lib.hid (HP.out.last.below hb5)
  clear hb5
  go_wp2_with (first | (refine wpList_store_row rfl 45 _ _ rfl (w.heap.size + 1) R2 rfl rfl 45 rm0.arr HE.out.o HI2.out HS2.out H2.out ?_))
  refine bodyPost_ret (v := .agg R2) (results_cell_row rfl _ _ (w.heap.size + 1) 45 R2 (0, 0) _ rfl (setRow_heap _ _ _ _ _ _ HE.out.o) Try.underlying45 rfl HI2.out) rfl ⟨rfl, ?_⟩
  exact below_setRow HE.out.b (by omega) _

set_option maxRecDepth 100000 in
set_option maxHeartbeats 1000000 in
theorem ref_step129 (r : RM) (A : Option Addr) (len cap : Nat) (b off i k : Nat) (jt jf : Int) (rec : ByteArray) (w : World) (hr : r.cells.length = 16) (hrs : r.mach.small) (hs : rec.size = 64) (hat : r.at' = (i : Int)) (hlt : i < len) (hlen : len ≤ 1000000)
    (hb : b < w.heap.size) (hi : InsAt w b (off + i * 4) ⟨129, jt, jf, k⟩) (hk : k ≤ 4294967295) (ht : -9223372036854775808 ≤ jt ∧ jt ≤ 9223372036854775807) (hf : -9223372036854775808 ≤ jf ∧ jf ≤ 9223372036854775807) :
    Calls Try.prog 17 #[.agg r.arr, .slice (some ⟨b, off, none⟩) len cap, .string rec] w fun e w' => e = .returned (.agg ((deedD r.mach 129 k jt jf).runR rec { r with at' := r.at' + 1 }).arr) ∧ Below w.heap.size w w' := by
  rw [show deedD r.mach 129 k jt jf = moveD r.mach 129 k from rfl, hat]
  have hkI : (k : Int) ≤ 4294967295 := by omega
  have haI : (r.a : Int) ≤ 4294967295 := by have : r.a ≤ 4294967295 := hrs.1; omega
  have hxI : (r.x : Int) ≤ 4294967295 := by have : r.x ≤ 4294967295 := hrs.2.1; omega
  have hiI : (i : Int) ≤ 1000000 := by omega
  have hltI : (i : Int) < len := by omega
  have HK := Lib.hid (fun u => refKnown_any 129 u)
  rw [show insKnown 129 = true from known0 129 (by decide)] at HK
  have hM := fun u => ref_moves 129 (by decide) { r with at' := (i : Int) + 1 } k jt jf rec u hr hk hs
  have hone := rarr_one ((moveD r.mach 129 k).runR rec { r with at' := (i : Int) + 1 })
  have hlen' := runR_len rec { r with at' := (i : Int) + 1 } (moveD r.mach 129 k) hr
  have hsz := rarr_size _ hlen'
  rw [show ({ r with at' := (i : Int) + 1 } : RM).mach = r.mach from rfl] at hM
  generalize ((moveD r.mach 129 k).runR rec { r with at' := (i : Int) + 1 }).arr = R2 at *
  have HM := Lib.hid hM
  have H2 := Lib.hid hone
  have hI2 : (Try.prog.info? 45).map (fun i => i.size) = some R2.size := by rw [hsz]; exact infoRM
  have HI2 := Lib.hid hI2
  have hso2 : rm0.arr.size = R2.size := by rw [hsz]; rfl
  have HS2 := Lib.hid hso2
  clear hM hone hsz hI2 hso2 hlen'
  have hP := steps_of w r 129 jt jf k hr
  have a1 : Below w.heap.size w ((w.alloc (Obj.cells r.arr 45)).alloc (Obj.cells #[.int .u32 0, .int .u32 0, .int .u32 0, .int .u32 0, .int .u32 0, .int .u32 0, .int .u32 0, .int .u32 0, .int .u32 0, .int .u32 0, .int .u32 0, .int .u32 0, .int .u32 0, .int .u32 0, .int .u32 0, .int .u32 0, .int .u32 0, .int .u32 0, .int .i64 0, .int .u32 0, .bool false, .bool false] 45)) := alloc2 w _ _
  obtain ⟨c0, c1, c2, c3⟩ := hi.below a1 hb
  dsimp only at c0 c1 c2 c3
  have hm : IsR ((w.alloc (Obj.cells r.arr 45)).alloc (Obj.cells #[.int .u32 0, .int .u32 0, .int .u32 0, .int .u32 0, .int .u32 0, .int .u32 0, .int .u32 0, .int .u32 0, .int .u32 0, .int .u32 0, .int .u32 0, .int .u32 0, .int .u32 0, .int .u32 0, .int .u32 0, .int .u32 0, .int .u32 0, .int .u32 0, .int .i64 0, .int .u32 0, .bool false, .bool false] 45)) w.heap.size r := ⟨(heap_alloc_old _ _ (by simp)).trans (heap_alloc_new w _), hr⟩
  obtain ⟨_, _, q18, _⟩ := hm.facts
  rw [hat] at q18
  have HAT := Lib.hid hat
  clear hm hat hi a1
  go_enter Try.func17, Try.ntmps17
  go_wp2_with fail
  refine (HK.out _).mono ?_
  rintro e w5 ⟨rfl, rfl⟩
  go_upto_region 5 with fail
  generalize (((w.alloc (Obj.cells r.arr 45)).alloc (Obj.cells #[.int .u32 0, .int .u32 0, .int .u32 0, .int .u32 0, .int .u32 0, .int .u32 0, .int .u32 0, .int .u32 0, .int .u32 0, .int .u32 0, .int .u32 0, .int .u32 0, .int .u32 0, .int .u32 0, .int .u32 0, .int .u32 0, .int .u32 0, .int .u32 0, .int .i64 0, .int .u32 0, .bool false, .bool false] 45)).alloc (Obj.cells #[.int .i64 129, .int .i64 jt, .int .i64 jf, .int .u32 (k : Int)] 35)) = w3 at *
  clear c0 c1 c2 c3 q18
  obtain ⟨_, _, q18, _⟩ := hP.m.facts
  rw [HAT.out] at q18
  have fz := block_frozen hP.m.blk 18
  have HP := Lib.hid (hP.setAt (i + 1))
  clear hP
  go_upto_region 6 with fail
  generalize w3.setCell ⟨w.heap.size, 18, none⟩ (.int .i64 ((i : Int) + 1)) = wA at *
  clear q18 fz
  have i0 := below_cell (Below.refl _ wA) HP.out.i 0 rfl
  have i1 := below_cell (Below.refl _ wA) HP.out.i 1 rfl
  have i2 := below_cell (Below.refl _ wA) HP.out.i 2 rfl
  have i3 := below_cell (Below.refl _ wA) HP.out.i 3 rfl
  obtain ⟨r0, r1, r18, r19, r20, r21⟩ := HP.out.m.facts
  dsimp only at r0 r1 r18 r19 r20 r21
  clear r0 r1 r18 r19 r20 r21
  have hsz := rarr_size { r with at' := (i : Int) + 1 } hr
  have hI : (Try.prog.info? 45).map (fun i => i.size) = some (RM.arr { r with at' := (i : Int) + 1 }).size := by rw [hsz]; exact infoRM
  have H1 := Lib.hid hI
  clear hsz hI
  generalize hRR : RM.arr { r with at' := (i : Int) + 1 } = R at *
  have HB := Lib.hid HP.out.m.blk
  rw [hRR] at HB
  have HRR := Lib.hid hRR
  clear hRR
  go_wp2_with (first | (refine wpList_load_row rfl 45 _ rfl w.heap.size rfl 45 R (0, 0) _ HB.out Try.underlying45 rfl H1.out ?_))
  refine (HM.out _).mono ?_
  rintro e w5 ⟨rfl, hb5⟩
  have HE := Lib.hid (HP.out.last.below hb5)
  clear hb5
  go_wp2_with (first | (refine wpList_store_row rfl 45 _ _ rfl (w.heap.size + 1) R2 rfl rfl 45 rm0.arr HE.out.o HI2.out HS2.out H2.out ?_))
  refine bodyPost_ret (v := .agg R2) (results_cell_row rfl _ _ (w.heap.size + 1) 45 R2 (0, 0) _ rfl (setRow_heap _ _ _ _ _ _ HE.out.o) Try.underlying45 rfl HI2.out) rfl ⟨rfl, ?_⟩
  exact below_setRow HE.out.b (by omega) _

set_option maxRecDepth 100000 in
set_option maxHeartbeats 1000000 in
theorem ref_step0 (r : RM) (A : Option Addr) (len cap : Nat) (b off i k : Nat) (jt jf : Int) (rec : ByteArray) (w : World) (hr : r.cells.length = 16) (hrs : r.mach.small) (hs : rec.size = 64) (hat : r.at' = (i : Int)) (hlt : i < len) (hlen : len ≤ 1000000)
    (hb : b < w.heap.size) (hi : InsAt w b (off + i * 4) ⟨0, jt, jf, k⟩) (hk : k ≤ 4294967295) (ht : -9223372036854775808 ≤ jt ∧ jt ≤ 9223372036854775807) (hf : -9223372036854775808 ≤ jf ∧ jf ≤ 9223372036854775807) :
    Calls Try.prog 17 #[.agg r.arr, .slice (some ⟨b, off, none⟩) len cap, .string rec] w fun e w' => e = .returned (.agg ((deedD r.mach 0 k jt jf).runR rec { r with at' := r.at' + 1 }).arr) ∧ Below w.heap.size w w' := by
  rw [show deedD r.mach 0 k jt jf = moveD r.mach 0 k from rfl, hat]
  have hkI : (k : Int) ≤ 4294967295 := by omega
  have haI : (r.a : Int) ≤ 4294967295 := by have : r.a ≤ 4294967295 := hrs.1; omega
  have hxI : (r.x : Int) ≤ 4294967295 := by have : r.x ≤ 4294967295 := hrs.2.1; omega
  have hiI : (i : Int) ≤ 1000000 := by omega
  have hltI : (i : Int) < len := by omega
  have HK := Lib.hid (fun u => refKnown_any 0 u)
  rw [show insKnown 0 = true from known0 0 (by decide)] at HK
  have hM := fun u => ref_moves 0 (by decide) { r with at' := (i : Int) + 1 } k jt jf rec u hr hk hs
  have hone := rarr_one ((moveD r.mach 0 k).runR rec { r with at' := (i : Int) + 1 })
  have hlen' := runR_len rec { r with at' := (i : Int) + 1 } (moveD r.mach 0 k) hr
  have hsz := rarr_size _ hlen'
  rw [show ({ r with at' := (i : Int) + 1 } : RM).mach = r.mach from rfl] at hM
  generalize ((moveD r.mach 0 k).runR rec { r with at' := (i : Int) + 1 }).arr = R2 at *
  have HM := Lib.hid hM
  have H2 := Lib.hid hone
  have hI2 : (Try.prog.info? 45).map (fun i => i.size) = some R2.size := by rw [hsz]; exact infoRM
  have HI2 := Lib.hid hI2
  have hso2 : rm0.arr.size = R2.size := by rw [hsz]; rfl
  have HS2 := Lib.hid hso2
  clear hM hone hsz hI2 hso2 hlen'
  have hP := steps_of w r 0 jt jf k hr
  have a1 : Below w.heap.size w ((w.alloc (Obj.cells r.arr 45)).alloc (Obj.cells #[.int .u32 0, .int .u32 0, .int .u32 0, .int .u32 0, .int .u32 0, .int .u32 0, .int .u32 0, .int .u32 0, .int .u32 0, .int .u32 0, .int .u32 0, .int .u32 0, .int .u32 0, .int .u32 0, .int .u32 0, .int .u32 0, .int .u32 0, .int .u32 0, .int .i64 0, .int .u32 0, .bool false, .bool false] 45)) := alloc2 w _ _
  obtain ⟨c0, c1, c2, c3⟩ := hi.below a1 hb
  dsimp only at c0 c1 c2 c3
  have hm : IsR ((w.alloc (Obj.cells r.arr 45)).alloc (Obj.cells #[.int .u32 0, .int .u32 0, .int .u32 0, .int .u32 0, .int .u32 0, .int .u32 0, .int .u32 0, .int .u32 0, .int .u32 0, .int .u32 0, .int .u32 0, .int .u32 0, .int .u32 0, .int .u32 0, .int .u32 0, .int .u32 0, .int .u32 0, .int .u32 0, .int .i64 0, .int .u32 0, .bool false, .bool false] 45)) w.heap.size r := ⟨(heap_alloc_old _ _ (by simp)).trans (heap_alloc_new w _), hr⟩
  obtain ⟨_, _, q18, _⟩ := hm.facts
  rw [hat] at q18
  have HAT := Lib.hid hat
  clear hm hat hi a1
  go_enter Try.func17, Try.ntmps17
  go_wp2_with fail
  refine (HK.out _).mono ?_
  rintro e w5 ⟨rfl, rfl⟩
  go_upto_region 5 with fail
  generalize (((w.alloc (Obj.cells r.arr 45)).alloc (Obj.cells #[.int .u32 0, .int .u32 0, .int .u32 0, .int .u32 0, .int .u32 0, .int .u32 0, .int .u32 0, .int .u32 0, .int .u32 0, .int .u32 0, .int .u32 0, .int .u32 0, .int .u32 0, .int .u32 0, .int .u32 0, .int .u32 0, .int .u32 0, .int .u32 0, .int .i64 0, .int .u32 0, .bool false, .bool false] 45)).alloc (Obj.cells #[.int .i64 0, .int .i64 jt, .int .i64 jf, .int .u32 (k : Int)] 35)) = w3 at *
  clear c0 c1 c2 c3 q18
  obtain ⟨_, _, q18, _⟩ := hP.m.facts
  rw [HAT.out] at q18
  have fz := block_frozen hP.m.blk 18
  have HP := Lib.hid (hP.setAt (i + 1))
  clear hP
  go_upto_region 6 with fail
  generalize w3.setCell ⟨w.heap.size, 18, none⟩ (.int .i64 ((i : Int) + 1)) = wA at *
  clear q18 fz
  have i0 := below_cell (Below.refl _ wA) HP.out.i 0 rfl
  have i1 := below_cell (Below.refl _ wA) HP.out.i 1 rfl
  have i2 := below_cell (Below.refl _ wA) HP.out.i 2 rfl
  have i3 := below_cell (Below.refl _ wA) HP.out.i 3 rfl
  obtain ⟨r0, r1, r18, r19, r20, r21⟩ := HP.out.m.facts
  dsimp only at r0 r1 r18 r19 r20 r21
  clear r0 r1 r18 r19 r20 r21
  have hsz := rarr_size { r with at' := (i : Int) + 1 } hr
  have hI : (Try.prog.info? 45).map (fun i => i.size) = some (RM.arr { r with at' := (i : Int) + 1 }).size := by rw [hsz]; exact infoRM
  have H1 := Lib.hid hI
  clear hsz hI
  generalize hRR : RM.arr { r with at' := (i : Int) + 1 } = R at *
  have HB := Lib.hid HP.out.m.blk
  rw [hRR] at HB
  have HRR := Lib.hid hRR
  clear hRR
  go_wp2_with (first | (refine wpList_load_row rfl 45 _ rfl w.heap.size rfl 45 R (0, 0) _ HB.out Try.underlying45 rfl H1.out ?_))
  refine (HM.out _).mono ?_
  rintro e w5 ⟨rfl, hb5⟩
  have HE := Lib.hid (HP.out.last.below hb5)
  clear hb5
  go_wp2_with (first | (refine wpList_store_row rfl 45 _ _ rfl (w.heap.size + 1) R2 rfl rfl 45 rm0.arr HE.out.o HI2.out HS2.out H2.out ?_))
  refine bodyPost_ret (v := .agg R2) (results_cell_row rfl _ _ (w.heap.size + 1) 45 R2 (0, 0) _ rfl (setRow_heap _ _ _ _ _ _ HE.out.o) Try.underlying45 rfl HI2.out) rfl ⟨rfl, ?_⟩
  exact below_setRow HE.out.b (by omega) _

set_option maxRecDepth 100000 in
set_option maxHeartbeats 1000000 in
theorem ref_step1 (r : RM) (A : Option Addr) (len cap : Nat) (b off i k : Nat) (jt jf : Int) (rec : ByteArray) (w : World) (hr : r.cells.length = 16) (hrs : r.mach.small) (hs : rec.size = 64) (hat : r.at' = (i : Int)) (hlt : i < len) (hlen : len ≤ 1000000)
    (hb : b < w.heap.size) (hi : InsAt w b (off + i * 4) ⟨1, jt, jf, k⟩) (hk : k ≤ 4294967295) (ht : -9223372036854775808 ≤ jt ∧ jt ≤ 9223372036854775807) (hf : -9223372036854775808 ≤ jf ∧ jf ≤ 9223372036854775807) :
    Calls Try.prog 17 #[.agg r.arr, .slice (some ⟨b, off, none⟩) len cap, .string rec] w fun e w' => e = .returned (.agg ((deedD r.mach 1 k jt jf).runR rec { r with at' := r.at' + 1 }).arr) ∧ Below w.heap.size w w' := by
  rw [show deedD r.mach 1 k jt jf = moveD r.mach 1 k from rfl, hat]
  have hkI : (k : Int) ≤ 4294967295 := by omega
  have haI : (r.a : Int) ≤ 4294967295 := by have : r.a ≤ 4294967295 := hrs.1; omega
  have hxI : (r.x : Int) ≤ 4294967295 := by have : r.x ≤ 4294967295 := hrs.2.1; omega
  have hiI : (i : Int) ≤ 1000000 := by omega
  have hltI : (i : Int) < len := by omega
  have HK := Lib.hid (fun u => refKnown_any 1 u)
  rw [show insKnown 1 = true from known0 1 (by decide)] at HK
  have hM := fun u => ref_moves 1 (by decide) { r with at' := (i : Int) + 1 } k jt jf rec u hr hk hs
  have hone := rarr_one ((moveD r.mach 1 k).runR rec { r with at' := (i : Int) + 1 })
  have hlen' := runR_len rec { r with at' := (i : Int) + 1 } (moveD r.mach 1 k) hr
  have hsz := rarr_size _ hlen'
  rw [show ({ r with at' := (i : Int) + 1 } : RM).mach = r.mach from rfl] at hM
  generalize ((moveD r.mach 1 k).runR rec { r with at' := (i : Int) + 1 }).arr = R2 at *
  have HM := Lib.hid hM
  have H2 := Lib.hid hone
  have hI2 : (Try.prog.info? 45).map (fun i => i.size) = some R2.size := by rw [hsz]; exact infoRM
  have HI2 := Lib.hid hI2
  have hso2 : rm0.arr.size = R2.size := by rw [hsz]; rfl
  have HS2 := Lib.hid hso2
  clear hM hone hsz hI2 hso2 hlen'
  have hP := steps_of w r 1 jt jf k hr
  have a1 : Below w.heap.size w ((w.alloc (Obj.cells r.arr 45)).alloc (Obj.cells #[.int .u32 0, .int .u32 0, .int .u32 0, .int .u32 0, .int .u32 0, .int .u32 0, .int .u32 0, .int .u32 0, .int .u32 0, .int .u32 0, .int .u32 0, .int .u32 0, .int .u32 0, .int .u32 0, .int .u32 0, .int .u32 0, .int .u32 0, .int .u32 0, .int .i64 0, .int .u32 0, .bool false, .bool false] 45)) := alloc2 w _ _
  obtain ⟨c0, c1, c2, c3⟩ := hi.below a1 hb
  dsimp only at c0 c1 c2 c3
  have hm : IsR ((w.alloc (Obj.cells r.arr 45)).alloc (Obj.cells #[.int .u32 0, .int .u32 0, .int .u32 0, .int .u32 0, .int .u32 0, .int .u32 0, .int .u32 0, .int .u32 0, .int .u32 0, .int .u32 0, .int .u32 0, .int .u32 0, .int .u32 0, .int .u32 0, .int .u32 0, .int .u32 0, .int .u32 0, .int .u32 0, .int .i64 0, .int .u32 0, .bool false, .bool false] 45)) w.heap.size r := ⟨(heap_alloc_old _ _ (by simp)).trans (heap_alloc_new w _), hr⟩
  obtain ⟨_, _, q18, _⟩ := hm.facts
  rw [hat] at q18
  have HAT := Lib.hid hat
  clear hm hat hi a1
  go_enter Try.func17, Try.ntmps17
  go_wp2_with fail
  refine (HK.out _).mono ?_
  rintro e w5 ⟨rfl, rfl⟩
  go_upto_region 5 with fail
  generalize (((w.alloc (Obj.cells r.arr 45)).alloc (Obj.cells #[.int .u32 0, .int .u32 0, .int .u32 0, .int .u32 0, .int .u32 0, .int .u32 0, .int .u32 0, .int .u32 0, .int .u32 0, .int .u32 0, .int .u32 0, .int .u32 0, .int .u32 0, .int .u32 0, .int .u32 0, .int .u32 0, .int .u32 0, .int .u32 0, .int .i64 0, .int .u32 0, .bool false, .bool false] 45)).alloc (Obj.cells #[.int .i64 1, .int .i64 jt, .int .i64 jf, .int .u32 (k : Int)] 35)) = w3 at *
  clear c0 c1 c2 c3 q18
  obtain ⟨_, _, q18, _⟩ := hP.m.facts
  rw [HAT.out] at q18
  have fz := block_frozen hP.m.blk 18
  have HP := Lib.hid (hP.setAt (i + 1))
  clear hP
  go_upto_region 6 with fail
  generalize w3.setCell ⟨w.heap.size, 18, none⟩ (.int .i64 ((i : Int) + 1)) = wA at *
  clear q18 fz
  have i0 := below_cell (Below.refl _ wA) HP.out.i 0 rfl
  have i1 := below_cell (Below.refl _ wA) HP.out.i 1 rfl
  have i2 := below_cell (Below.refl _ wA) HP.out.i 2 rfl
  have i3 := below_cell (Below.refl _ wA) HP.out.i 3 rfl
  obtain ⟨r0, r1, r18, r19, r20, r21⟩ := HP.out.m.facts
  dsimp only at r0 r1 r18 r19 r20 r21
  clear r0 r1 r18 r19 r20 r21
  have hsz := rarr_size { r with at' := (i : Int) + 1 } hr
  have hI : (Try.prog.info? 45).map (fun i => i.size) = some (RM.arr { r with at' := (i : Int) + 1 }).size := by rw [hsz]; exact infoRM
  have H1 := Lib.hid hI
  clear hsz hI
  generalize hRR : RM.arr { r with at' := (i : Int) + 1 } = R at *
  have HB := Lib.hid HP.out.m.blk
  rw [hRR] at HB
  have HRR := Lib.hid hRR
  clear hRR
  go_wp2_with (first | (refine wpList_load_row rfl 45 _ rfl w.heap.size rfl 45 R (0, 0) _ HB.out Try.underlying45 rfl H1.out ?_))
  refine (HM.out _).mono ?_
  rintro e w5 ⟨rfl, hb5⟩
  have HE := Lib.hid (HP.out.last.below hb5)
  clear hb5
  go_wp2_with (first | (refine wpList_store_row rfl 45 _ _ rfl (w.heap.size + 1) R2 rfl rfl 45 rm0.arr HE.out.o HI2.out HS2.out H2.out ?_))
  refine bodyPost_ret (v := .agg R2) (results_cell_row rfl _ _ (w.heap.size + 1) 45 R2 (0, 0) _ rfl (setRow_heap _ _ _ _ _ _ HE.out.o) Try.underlying45 rfl HI2.out) rfl ⟨rfl, ?_⟩
  exact below_setRow HE.out.b (by omega) _

set_option maxRecDepth 100000 in
set_option maxHeartbeats 1000000 in
theorem ref_step135 (r : RM) (A : Option Addr) (len cap : Nat) (b off i k : Nat) (jt jf : Int) (rec : ByteArray) (w : World) (hr : r.cells.length = 16) (hrs : r.mach.small) (hs : rec.size = 64) (hat : r.at' = (i : Int)) (hlt : i < len) (hlen : len ≤ 1000000)
    (hb : b < w.heap.size) (hi : InsAt w b (off + i * 4) ⟨135, jt, jf, k⟩) (hk : k ≤ 4294967295) (ht : -9223372036854775808 ≤ jt ∧ jt ≤ 9223372036854775807) (hf : -9223372036854775808 ≤ jf ∧ jf ≤ 9223372036854775807) :
    Calls Try.prog 17 #[.agg r.arr, .slice (some ⟨b, off, none⟩) len cap, .string rec] w fun e w' => e = .returned (.agg ((deedD r.mach 135 k jt jf).runR rec { r with at' := r.at' + 1 }).arr) ∧ Below w.heap.size w w' := by
  rw [show deedD r.mach 135 k jt jf = moveD r.mach 135 k from rfl, hat]
  have hkI : (k : Int) ≤ 4294967295 := by omega
  have haI : (r.a : Int) ≤ 4294967295 := by have : r.a ≤ 4294967295 := hrs.1; omega
  have hxI : (r.x : Int) ≤ 4294967295 := by have : r.x ≤ 4294967295 := hrs.2.1; omega
  have hiI : (i : Int) ≤ 1000000 := by omega
  have hltI : (i : Int) < len := by omega
  have HK := Lib.hid (fun u => refKnown_any 135 u)
  rw [show insKnown 135 = true from known0 135 (by decide)] at HK
  have hM := fun u => ref_moves 135 (by decide) { r with at' := (i : Int) + 1 } k jt jf rec u hr hk hs
  have hone := rarr_one ((moveD r.mach 135 k).runR rec { r with at' := (i : Int) + 1 })
  have hlen' := runR_len rec { r with at' := (i : Int) + 1 } (moveD r.mach 135 k) hr
  have hsz := rarr_size _ hlen'
  rw [show ({ r with at' := (i : Int) + 1 } : RM).mach = r.mach from rfl] at hM
  generalize ((moveD r.mach 135 k).runR rec { r with at' := (i : Int) + 1 }).arr = R2 at *
  have HM := Lib.hid hM
  have H2 := Lib.hid hone
  have hI2 : (Try.prog.info? 45).map (fun i => i.size) = some R2.size := by rw [hsz]; exact infoRM
  have HI2 := Lib.hid hI2
  have hso2 : rm0.arr.size = R2.size := by rw [hsz]; rfl
  have HS2 := Lib.hid hso2
  clear hM hone hsz hI2 hso2 hlen'
  have hP := steps_of w r 135 jt jf k hr
  have a1 : Below w.heap.size w ((w.alloc (Obj.cells r.arr 45)).alloc (Obj.cells #[.int .u32 0, .int .u32 0, .int .u32 0, .int .u32 0, .int .u32 0, .int .u32 0, .int .u32 0, .int .u32 0, .int .u32 0, .int .u32 0, .int .u32 0, .int .u32 0, .int .u32 0, .int .u32 0, .int .u32 0, .int .u32 0, .int .u32 0, .int .u32 0, .int .i64 0, .int .u32 0, .bool false, .bool false] 45)) := alloc2 w _ _
  obtain ⟨c0, c1, c2, c3⟩ := hi.below a1 hb
  dsimp only at c0 c1 c2 c3
  have hm : IsR ((w.alloc (Obj.cells r.arr 45)).alloc (Obj.cells #[.int .u32 0, .int .u32 0, .int .u32 0, .int .u32 0, .int .u32 0, .int .u32 0, .int .u32 0, .int .u32 0, .int .u32 0, .int .u32 0, .int .u32 0, .int .u32 0, .int .u32 0, .int .u32 0, .int .u32 0, .int .u32 0, .int .u32 0, .int .u32 0, .int .i64 0, .int .u32 0, .bool false, .bool false] 45)) w.heap.size r := ⟨(heap_alloc_old _ _ (by simp)).trans (heap_alloc_new w _), hr⟩
  obtain ⟨_, _, q18, _⟩ := hm.facts
  rw [hat] at q18
  have HAT := Lib.hid hat
  clear hm hat hi a1
  go_enter Try.func17, Try.ntmps17
  go_wp2_with fail
  refine (HK.out _).mono ?_
  rintro e w5 ⟨rfl, rfl⟩
  go_upto_region 5 with fail
  generalize (((w.alloc (Obj.cells r.arr 45)).alloc (Obj.cells #[.int .u32 0, .int .u32 0, .int .u32 0, .int .u32 0, .int .u32 0, .int .u32 0, .int .u32 0, .int .u32 0, .int .u32 0, .int .u32 0, .int .u32 0, .int .u32 0, .int .u32 0, .int .u32 0, .int .u32 0, .int .u32 0, .int .u32 0, .int .u32 0, .int .i64 0, .int .u32 0, .bool false, .bool false] 45)).alloc (Obj.cells #[.int .i64 135, .int .i64 jt, .int .i64 jf, .int .u32 (k : Int)] 35)) = w3 at *
  clear c0 c1 c2 c3 q18
  obtain ⟨_, _, q18, _⟩ := hP.m.facts
  rw [HAT.out] at q18
  have fz := block_frozen hP.m.blk 18
  have HP := Lib.hid (hP.setAt (i + 1))
  clear hP
  go_upto_region 6 with fail
  generalize w3.setCell ⟨w.heap.size, 18, none⟩ (.int .i64 ((i : Int) + 1)) = wA at *
  clear q18 fz
  have i0 := below_cell (Below.refl _ wA) HP.out.i 0 rfl
  have i1 := below_cell (Below.refl _ wA) HP.out.i 1 rfl
  have i2 := below_cell (Below.refl _ wA) HP.out.i 2 rfl
  have i3 := below_cell (Below.refl _ wA) HP.out.i 3 rfl
  obtain ⟨r0, r1, r18, r19, r20, r21⟩ := HP.out.m.facts
  dsimp only at r0 r1 r18 r19 r20 r21
  clear r0 r1 r18 r19 r20 r21
  have hsz := rarr_size { r with at' := (i : Int) + 1 } hr
  have hI : (Try.prog.info? 45).map (fun i => i.size) = some (RM.arr { r with at' := (i : Int) + 1 }).size := by rw [hsz]; exact infoRM
  have H1 := Lib.hid hI
  clear hsz hI
  generalize hRR : RM.arr { r with at' := (i : Int) + 1 } = R at *
  have HB := Lib.hid HP.out.m.blk
  rw [hRR] at HB
  have HRR := Lib.hid hRR
  clear hRR
  go_wp2_with (first | (refine wpList_load_row rfl 45 _ rfl w.heap.size rfl 45 R (0, 0) _ HB.out Try.underlying45 rfl H1.out ?_))
  refine (HM.out _).mono ?_
  rintro e w5 ⟨rfl, hb5⟩
  have HE := Lib.hid (HP.out.last.below hb5)
  clear hb5
  go_wp2_with (first | (refine wpList_store_row rfl 45 _ _ rfl (w.heap.size + 1) R2 rfl rfl 45 rm0.arr HE.out.o HI2.out HS2.out H2.out ?_))
  refine bodyPost_ret (v := .agg R2) (results_cell_row rfl _ _ (w.heap.size + 1) 45 R2 (0, 0) _ rfl (setRow_heap _ _ _ _ _ _ HE.out.o) Try.underlying45 rfl HI2.out) rfl ⟨rfl, ?_⟩
  exact below_setRow HE.out.b (by omega) _

set_option maxRecDepth 100000 in
set_option maxHeartbeats 1000000 in
theorem ref_step7 (r : RM) (A : Option Addr) (len cap : Nat) (b off i k : Nat) (jt jf : Int) (rec : ByteArray) (w : World) (hr : r.cells.length = 16) (hrs : r.mach.small) (hs : rec.size = 64) (hat : r.at' = (i : Int)) (hlt : i < len) (hlen : len ≤ 1000000)
    (hb : b < w.heap.size) (hi : InsAt w b (off + i * 4) ⟨7, jt, jf, k⟩) (hk : k ≤ 4294967295) (ht : -9223372036854775808 ≤ jt ∧ jt ≤ 9223372036854775807) (hf : -9223372036854775808 ≤ jf ∧ jf ≤ 9223372036854775807) :
    Calls Try.prog 17 #[.agg r.arr, .slice (some ⟨b, off, none⟩) len cap, .string rec] w fun e w' => e = .returned (.agg ((deedD r.mach 7 k jt jf).runR rec { r with at' := r.at' + 1 }).arr) ∧ Below w.heap.size w w' := by
  rw [show deedD r.mach 7 k jt jf = moveD r.mach 7 k from rfl, hat]
  have hkI : (k : Int) ≤ 4294967295 := by omega
  have haI : (r.a : Int) ≤ 4294967295 := by have : r.a ≤ 4294967295 := hrs.1; omega
  have hxI : (r.x : Int) ≤ 4294967295 := by have : r.x ≤ 4294967295 := hrs.2.1; omega
  have hiI : (i : Int) ≤ 1000000 := by omega
  have hltI : (i : Int) < len := by omega
  have HK := Lib.hid (fun u => refKnown_any 7 u)
  rw [show insKnown 7 = true from known0 7 (by decide)] at HK
  have hM := fun u => ref_moves 7 (by decide) { r with at' := (i : Int) + 1 } k jt jf rec u hr hk hs
  have hone := rarr_one ((moveD r.mach 7 k).runR rec { r with at' := (i : Int) + 1 })
  have hlen' := runR_len rec { r with at' := (i : Int) + 1 } (moveD r.mach 7 k) hr
  have hsz := rarr_size _ hlen'
  rw [show ({ r with at' := (i : Int) + 1 } : RM).mach = r.mach from rfl] at hM
  generalize ((moveD r.mach 7 k).runR rec { r with at' := (i : Int) + 1 }).arr = R2 at *
  have HM := Lib.hid hM
  have H2 := Lib.hid hone
  have hI2 : (Try.prog.info? 45).map (fun i => i.size) = some R2.size := by rw [hsz]; exact infoRM
  have HI2 := Lib.hid hI2
  have hso2 : rm0.arr.size = R2.size := by rw [hsz]; rfl
  have HS2 := Lib.hid hso2
  clear hM hone hsz hI2 hso2 hlen'
  have hP := steps_of w r 7 jt jf k hr
  have a1 : Below w.heap.size w ((w.alloc (Obj.cells r.arr 45)).alloc (Obj.cells #[.int .u32 0, .int .u32 0, .int .u32 0, .int .u32 0, .int .u32 0, .int .u32 0, .int .u32 0, .int .u32 0, .int .u32 0, .int .u32 0, .int .u32 0, .int .u32 0, .int .u32 0, .int .u32 0, .int .u32 0, .int .u32 0, .int .u32 0, .int .u32 0, .int .i64 0, .int .u32 0, .bool false, .bool false] 45)) := alloc2 w _ _
  obtain ⟨c0, c1, c2, c3⟩ := hi.below a1 hb
  dsimp only at c0 c1 c2 c3
  have hm : IsR ((w.alloc (Obj.cells r.arr 45)).alloc (Obj.cells #[.int .u32 0, .int .u32 0, .int .u32 0, .int .u32 0, .int .u32 0, .int .u32 0, .int .u32 0, .int .u32 0, .int .u32 0, .int .u32 0, .int .u32 0, .int .u32 0, .int .u32 0, .int .u32 0, .int .u32 0, .int .u32 0, .int .u32 0, .int .u32 0, .int .i64 0, .int .u32 0, .bool false, .bool false] 45)) w.heap.size r := ⟨(heap_alloc_old _ _ (by simp)).trans (heap_alloc_new w _), hr⟩
  obtain ⟨_, _, q18, _⟩ := hm.facts
  rw [hat] at q18
  have HAT := Lib.hid hat
  clear hm hat hi a1
  go_enter Try.func17, Try.ntmps17
  go_wp2_with fail
  refine (HK.out _).mono ?_
  rintro e w5 ⟨rfl, rfl⟩
  go_upto_region 5 with fail
  generalize (((w.alloc (Obj.cells r.arr 45)).alloc (Obj.cells #[.int .u32 0, .int .u32 0, .int .u32 0, .int .u32 0, .int .u32 0, .int .u32 0, .int .u32 0, .int .u32 0, .int .u32 0, .int .u32 0, .int .u32 0, .int .u32 0, .int .u32 0, .int .u32 0, .int .u32 0, .int .u32 0, .int .u32 0, .int .u32 0, .int .i64 0, .int .u32 0, .bool false, .bool false] 45)).alloc (Obj.cells #[.int .i64 7, .int .i64 jt, .int .i64 jf, .int .u32 (k : Int)] 35)) = w3 at *
  clear c0 c1 c2 c3 q18
  obtain ⟨_, _, q18, _⟩ := hP.m.facts
  rw [HAT.out] at q18
  have fz := block_frozen hP.m.blk 18
  have HP := Lib.hid (hP.setAt (i + 1))
  clear hP
  go_upto_region 6 with fail
  generalize w3.setCell ⟨w.heap.size, 18, none⟩ (.int .i64 ((i : Int) + 1)) = wA at *
  clear q18 fz
  have i0 := below_cell (Below.refl _ wA) HP.out.i 0 rfl
  have i1 := below_cell (Below.refl _ wA) HP.out.i 1 rfl
  have i2 := below_cell (Below.refl _ wA) HP.out.i 2 rfl
  have i3 := below_cell (Below.refl _ wA) HP.out.i 3 rfl
  obtain ⟨r0, r1, r18, r19, r20, r21⟩ := HP.out.m.facts
  dsimp only at r0 r1 r18 r19 r20 r21
  clear r0 r1 r18 r19 r20 r21
  have hsz := rarr_size { r with at' := (i : Int) + 1 } hr
  have hI : (Try.prog.info? 45).map (fun i => i.size) = some (RM.arr { r with at' := (i : Int) + 1 }).size := by rw [hsz]; exact infoRM
  have H1 := Lib.hid hI
  clear hsz hI
  generalize hRR : RM.arr { r with at' := (i : Int) + 1 } = R at *
  have HB := Lib.hid HP.out.m.blk
  rw [hRR] at HB
  have HRR := Lib.hid hRR
  clear hRR
  go_wp2_with (first | (refine wpList_load_row rfl 45 _ rfl w.heap.size rfl 45 R (0, 0) _ HB.out Try.underlying45 rfl H1.out ?_))
  refine (HM.out _).mono ?_
  rintro e w5 ⟨rfl, hb5⟩
  have HE := Lib.hid (HP.out.last.below hb5)
  clear hb5
  go_wp2_with (first | (refine wpList_store_row rfl 45 _ _ rfl (w.heap.size + 1) R2 rfl rfl 45 rm0.arr HE.out.o HI2.out HS2.out H2.out ?_))
  refine bodyPost_ret (v := .agg R2) (results_cell_row rfl _ _ (w.heap.size + 1) 45 R2 (0, 0) _ rfl (setRow_heap _ _ _ _ _ _ HE.out.o) Try.underlying45 rfl HI2.out) rfl ⟨rfl, ?_⟩
  exact below_setRow HE.out.b (by omega) _

end Go.Proofs.Ytpdaenpcgcjmjaa
