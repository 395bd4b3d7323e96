/- The machine's moves. -/
import Derived.Test.YtnlmdajoifjddaaVm4
namespace Go.Proofs.Ytnlmdajoifjddaa
open Go.RowKit
set_option linter.unusedVariables false

def moveD (m : Mach) (c k : Nat) : Deed :=
  if c = 32 then .abs k else if c = 96 then .ldm k else if c = 97 then .lxm k else if c = 2 then .st k else if c = 3 then .stx k
  else if c = 128 then .setA 64 else if c = 129 then .setX 64 else if c = 0 then .setA k else if c = 1 then .setX k else if c = 135 then .setA m.x else .setX m.a
theorem alloc2 (w : World) (a b : Obj) : Below w.heap.size w ((w.alloc a).alloc b) := by
  have h0 := Below.refl w.heap.size w
  have h1 := h0.alloc h0.size a
  exact h1.alloc h1.size b
theorem tail2 {w w5 : World} {a b : Obj} (h : Below ((w.alloc a).alloc b).heap.size ((w.alloc a).alloc b) w5) : Below w.heap.size w w5 := (alloc2 w a b).trans (h.mono (alloc2 w a b).size)
theorem lt2 {w : World} (a b : Obj) {B : Nat} (h : B < w.heap.size) : B < ((w.alloc a).alloc b).heap.size := Nat.lt_of_lt_of_le h (alloc2 w a b).size
theorem tail2d {w w5 : World} {a b : Obj} (h : Below ((w.alloc a).alloc b).drew.heap.size ((w.alloc a).alloc b).drew w5) : Below w.heap.size w w5 := (alloc2 w a b).drew.trans (h.mono (alloc2 w a b).size)
theorem lt2d {w : World} (a b : Obj) {B : Nat} (h : B < w.heap.size) : B < ((w.alloc a).alloc b).drew.heap.size := Nat.lt_of_lt_of_le h (alloc2 w a b).size
theorem vd_old {w : World} {a b : Obj} {g j : Nat} {x : Value} (h : w.cell? ⟨g, j, none⟩ = some x) : ((w.alloc a).alloc b).cell? ⟨g, j, none⟩ = some x := by
  have hg : g < w.heap.size := World.block_lt_of_cell? _ _ h
  exact ((alloc2 w a b).cell (p := ⟨g, j, none⟩) hg).trans h
theorem held2 {w w5 : World} {a b : Obj} {g j : Nat} {x : Value} (hb : Below ((w.alloc a).alloc b).drew.heap.size ((w.alloc a).alloc b).drew w5) (h : ((w.alloc a).alloc b).cell? ⟨g, j, none⟩ = some x) : w5.cell? ⟨g, j, none⟩ = some x :=
  (hb.cell (p := ⟨g, j, none⟩) (World.block_lt_of_cell? _ _ h)).trans h
theorem box2 {w : World} {B : Nat} {x : Value} {t : TypeId} {o : Obj} (hB : B < w.heap.size) : Box ((w.alloc (Obj.cells #[x] t)).alloc o) B (.pointer (some ⟨w.heap.size, 0, none⟩)) x :=
  ⟨_, rfl, by omega, vc_old (vc_new rfl)⟩
set_option maxRecDepth 100000 in
theorem vm_move32 (rec : ByteArray) (n : Nat) (m : Mach) (B k : Nat) (jt jf : Int) (w : World) (hM : IsM w B rec n m) :
    Calls Try.prog 39 #[.pointer (some ⟨B, 0, none⟩), .agg #[.int .i64 32, .int .i64 jt, .int .i64 jf, .int .u32 (k : Int)]] w (Mk w B (moveD m 32 k)) := by
  have hD : moveD m 32 k = .abs k := rfl
  have hB : B < w.heap.size := (Array.getElem?_eq_some_iff.1 hM.blk).1
  rw [hD]
  clear hM
  go_enter Try.func39, Try.ntmps39
  go_wp2_with fail
  go_ret
  exact ⟨⟨_, rfl, _, _, _, _, _, rfl, by omega, by have := heap_alloc_new (w.alloc (Obj.cells #[.pointer (some ⟨B, 0, none⟩)] 73)) (Obj.cells #[.int .i64 32, .int .i64 jt, .int .i64 jf, .int .u32 (k : Int)] 44); rwa [World.size_alloc] at this, box2 hB⟩, alloc2 w _ _⟩
set_option maxRecDepth 100000 in
theorem vm_move96 (rec : ByteArray) (n : Nat) (m : Mach) (B k : Nat) (jt jf : Int) (w : World) (hM : IsM w B rec n m) :
    Calls Try.prog 39 #[.pointer (some ⟨B, 0, none⟩), .agg #[.int .i64 96, .int .i64 jt, .int .i64 jf, .int .u32 (k : Int)]] w (Mk w B (moveD m 96 k)) := by
  have hD : moveD m 96 k = .ldm k := rfl
  have hB : B < w.heap.size := (Array.getElem?_eq_some_iff.1 hM.blk).1
  rw [hD]
  clear hM
  go_enter Try.func39, Try.ntmps39
  go_wp2_with fail
  go_at_call 47
  refine (vm_onCell2 B k _ _ (lt2 _ _ hB) (box2 hB)).mono ?_
  rintro e w5 ⟨⟨f, rfl, hf⟩, hb5⟩
  have HF := Lib.hid hf
  have HB5 := Lib.hid (tail2 hb5)
  clear hf hb5
  go_wp2_with fail
  go_ret
  exact ⟨⟨f, rfl, HF.out⟩, HB5.out⟩
set_option maxRecDepth 100000 in
theorem vm_move97 (rec : ByteArray) (n : Nat) (m : Mach) (B k : Nat) (jt jf : Int) (w : World) (hM : IsM w B rec n m) :
    Calls Try.prog 39 #[.pointer (some ⟨B, 0, none⟩), .agg #[.int .i64 97, .int .i64 jt, .int .i64 jf, .int .u32 (k : Int)]] w (Mk w B (moveD m 97 k)) := by
  have hD : moveD m 97 k = .lxm k := rfl
  have hB : B < w.heap.size := (Array.getElem?_eq_some_iff.1 hM.blk).1
  rw [hD]
  clear hM
  go_enter Try.func39, Try.ntmps39
  go_wp2_with fail
  go_at_call 47
  refine (vm_onCell3 B k _ _ (lt2 _ _ hB) (box2 hB)).mono ?_
  rintro e w5 ⟨⟨f, rfl, hf⟩, hb5⟩
  have HF := Lib.hid hf
  have HB5 := Lib.hid (tail2 hb5)
  clear hf hb5
  go_wp2_with fail
  go_ret
  exact ⟨⟨f, rfl, HF.out⟩, HB5.out⟩
set_option maxRecDepth 100000 in
theorem vm_move2 (rec : ByteArray) (n : Nat) (m : Mach) (B k : Nat) (jt jf : Int) (w : World) (hM : IsM w B rec n m) :
    Calls Try.prog 39 #[.pointer (some ⟨B, 0, none⟩), .agg #[.int .i64 2, .int .i64 jt, .int .i64 jf, .int .u32 (k : Int)]] w (Mk w B (moveD m 2 k)) := by
  have hD : moveD m 2 k = .st k := rfl
  have hB : B < w.heap.size := (Array.getElem?_eq_some_iff.1 hM.blk).1
  rw [hD]
  clear hM
  go_enter Try.func39, Try.ntmps39
  go_wp2_with fail
  go_at_call 47
  refine (vm_onCell4 B k _ _ (lt2 _ _ hB) (box2 hB)).mono ?_
  rintro e w5 ⟨⟨f, rfl, hf⟩, hb5⟩
  have HF := Lib.hid hf
  have HB5 := Lib.hid (tail2 hb5)
  clear hf hb5
  go_wp2_with fail
  go_ret
  exact ⟨⟨f, rfl, HF.out⟩, HB5.out⟩
set_option maxRecDepth 100000 in
theorem vm_move3 (rec : ByteArray) (n : Nat) (m : Mach) (B k : Nat) (jt jf : Int) (w : World) (hM : IsM w B rec n m) :
    Calls Try.prog 39 #[.pointer (some ⟨B, 0, none⟩), .agg #[.int .i64 3, .int .i64 jt, .int .i64 jf, .int .u32 (k : Int)]] w (Mk w B (moveD m 3 k)) := by
  have hD : moveD m 3 k = .stx k := rfl
  have hB : B < w.heap.size := (Array.getElem?_eq_some_iff.1 hM.blk).1
  rw [hD]
  clear hM
  go_enter Try.func39, Try.ntmps39
  go_wp2_with fail
  go_at_call 47
  refine (vm_onCell5 B k _ _ (lt2 _ _ hB) (box2 hB)).mono ?_
  rintro e w5 ⟨⟨f, rfl, hf⟩, hb5⟩
  have HF := Lib.hid hf
  have HB5 := Lib.hid (tail2 hb5)
  clear hf hb5
  go_wp2_with fail
  go_ret
  exact ⟨⟨f, rfl, HF.out⟩, HB5.out⟩
set_option maxRecDepth 100000 in
theorem vm_move128 (rec : ByteArray) (n : Nat) (m : Mach) (B k : Nat) (jt jf : Int) (w : World) (hM : IsM w B rec n m) :
    Calls Try.prog 39 #[.pointer (some ⟨B, 0, none⟩), .agg #[.int .i64 128, .int .i64 jt, .int .i64 jf, .int .u32 (k : Int)]] w (Mk w B (moveD m 128 k)) := by
  have hD : moveD m 128 k = .setA 64 := rfl
  have hB : B < w.heap.size := (Array.getElem?_eq_some_iff.1 hM.blk).1
  rw [hD]
  clear hM
  go_enter Try.func39, Try.ntmps39
  go_wp2_with fail
  go_at_call 42
  refine (vm_toA B 64 _ (lt2 _ _ hB)).mono ?_
  rintro e w5 ⟨⟨f, rfl, hf⟩, hb5⟩
  have HF := Lib.hid hf
  have HB5 := Lib.hid (tail2 hb5)
  clear hf hb5
  go_wp2_with fail
  go_ret
  exact ⟨⟨f, rfl, HF.out⟩, HB5.out⟩
set_option maxRecDepth 100000 in
theorem vm_move129 (rec : ByteArray) (n : Nat) (m : Mach) (B k : Nat) (jt jf : Int) (w : World) (hM : IsM w B rec n m) :
    Calls Try.prog 39 #[.pointer (some ⟨B, 0, none⟩), .agg #[.int .i64 129, .int .i64 jt, .int .i64 jf, .int .u32 (k : Int)]] w (Mk w B (moveD m 129 k)) := by
  have hD : moveD m 129 k = .setX 64 := rfl
  have hB : B < w.heap.size := (Array.getElem?_eq_some_iff.1 hM.blk).1
  rw [hD]
  clear hM
  go_enter Try.func39, Try.ntmps39
  go_wp2_with fail
  go_at_call 52
  refine (vm_toX B 64 _ (lt2 _ _ hB)).mono ?_
  rintro e w5 ⟨⟨f, rfl, hf⟩, hb5⟩
  have HF := Lib.hid hf
  have HB5 := Lib.hid (tail2 hb5)
  clear hf hb5
  go_wp2_with fail
  go_ret
  exact ⟨⟨f, rfl, HF.out⟩, HB5.out⟩
set_option maxRecDepth 100000 in
theorem vm_move0 (rec : ByteArray) (n : Nat) (m : Mach) (B k : Nat) (jt jf : Int) (w : World) (hM : IsM w B rec n m) :
    Calls Try.prog 39 #[.pointer (some ⟨B, 0, none⟩), .agg #[.int .i64 0, .int .i64 jt, .int .i64 jf, .int .u32 (k : Int)]] w (Mk w B (moveD m 0 k)) := by
  have hD : moveD m 0 k = .setA k := rfl
  have hB : B < w.heap.size := (Array.getElem?_eq_some_iff.1 hM.blk).1
  rw [hD]
  clear hM
  go_enter Try.func39, Try.ntmps39
  go_wp2_with fail
  go_at_call 42
  refine (vm_toA B k _ (lt2 _ _ hB)).mono ?_
  rintro e w5 ⟨⟨f, rfl, hf⟩, hb5⟩
  have HF := Lib.hid hf
  have HB5 := Lib.hid (tail2 hb5)
  clear hf hb5
  go_wp2_with fail
  go_ret
  exact ⟨⟨f, rfl, HF.out⟩, HB5.out⟩
set_option maxRecDepth 100000 in
theorem vm_move1 (rec : ByteArray) (n : Nat) (m : Mach) (B k : Nat) (jt jf : Int) (w : World) (hM : IsM w B rec n m) :
    Calls Try.prog 39 #[.pointer (some ⟨B, 0, none⟩), .agg #[.int .i64 1, .int .i64 jt, .int .i64 jf, .int .u32 (k : Int)]] w (Mk w B (moveD m 1 k)) := by
  have hD : moveD m 1 k = .setX k := rfl
  have hB : B < w.heap.size := (Array.getElem?_eq_some_iff.1 hM.blk).1
  rw [hD]
  clear hM
  go_enter Try.func39, Try.ntmps39
  go_wp2_with fail
  go_at_call 52
  refine (vm_toX B k _ (lt2 _ _ hB)).mono ?_
  rintro e w5 ⟨⟨f, rfl, hf⟩, hb5⟩
  have HF := Lib.hid hf
  have HB5 := Lib.hid (tail2 hb5)
  clear hf hb5
  go_wp2_with fail
  go_ret
  exact ⟨⟨f, rfl, HF.out⟩, HB5.out⟩
set_option maxRecDepth 100000 in
theorem vm_move135 (rec : ByteArray) (n : Nat) (m : Mach) (B k : Nat) (jt jf : Int) (w : World) (hM : IsM w B rec n m) :
    Calls Try.prog 39 #[.pointer (some ⟨B, 0, none⟩), .agg #[.int .i64 135, .int .i64 jt, .int .i64 jf, .int .u32 (k : Int)]] w (Mk w B (moveD m 135 k)) := by
  have hD : moveD m 135 k = .setA m.x := rfl
  have hB : B < w.heap.size := (Array.getElem?_eq_some_iff.1 hM.blk).1
  rw [hD]
  obtain ⟨_, m1, m2, _⟩ := hM.facts
  clear hM
  go_enter Try.func39, Try.ntmps39
  go_upto_region 22 with fail
  go_region_held3 (fun u => u.cell? ⟨w.heap.size, 0, none⟩ = some (.pointer (some ⟨B, 0, none⟩)) ∧ u.cell? ⟨B, 2, none⟩ = some (.int .u32 (m.x : Int)))
    ((first | assumption | exact ⟨vc_old (vc_new rfl), vd_old (m2)⟩))
    (first
    | (go_at_call 42; refine (vm_toA B m.x _ (lt2d _ _ hB)).mono ?_; rintro e w5 ⟨⟨f, rfl, hf⟩, hb5⟩; have hHeld := And.intro (held2 hb5 (vc_old (vc_new rfl))) (held2 hb5 (vd_old m2)))
    | fail)
  all_goals
    have HF := Lib.hid hf
    have HB5 := Lib.hid (tail2d hb5)
    clear hf hb5
    go_wp2_with fail
    go_ret
    exact ⟨⟨f, rfl, HF.out⟩, HB5.out⟩
set_option maxRecDepth 100000 in
theorem vm_move7 (rec : ByteArray) (n : Nat) (m : Mach) (B k : Nat) (jt jf : Int) (w : World) (hM : IsM w B rec n m) :
    Calls Try.prog 39 #[.pointer (some ⟨B, 0, none⟩), .agg #[.int .i64 7, .int .i64 jt, .int .i64 jf, .int .u32 (k : Int)]] w (Mk w B (moveD m 7 k)) := by
  have hD : moveD m 7 k = .setX m.a := rfl
  have hB : B < w.heap.size := (Array.getElem?_eq_some_iff.1 hM.blk).1
  rw [hD]
  obtain ⟨_, m1, m2, _⟩ := hM.facts
  clear hM
  go_enter Try.func39, Try.ntmps39
  go_upto_region 2 with fail
  go_region_held3 (fun u => u.cell? ⟨w.heap.size, 0, none⟩ = some (.pointer (some ⟨B, 0, none⟩)) ∧ u.cell? ⟨B, 1, none⟩ = some (.int .u32 (m.a : Int)))
    ((first | assumption | exact ⟨vc_old (vc_new rfl), vd_old (m1)⟩))
    (first
    | (go_at_call 52; refine (vm_toX B m.a _ (lt2d _ _ hB)).mono ?_; rintro e w5 ⟨⟨f, rfl, hf⟩, hb5⟩; have hHeld := And.intro (held2 hb5 (vc_old (vc_new rfl))) (held2 hb5 (vd_old m1)))
    | fail)
  all_goals
    have HF := Lib.hid hf
    have HB5 := Lib.hid (tail2d hb5)
    clear hf hb5
    go_wp2_with fail
    go_ret
    exact ⟨⟨f, rfl, HF.out⟩, HB5.out⟩
end Go.Proofs.Ytnlmdajoifjddaa
