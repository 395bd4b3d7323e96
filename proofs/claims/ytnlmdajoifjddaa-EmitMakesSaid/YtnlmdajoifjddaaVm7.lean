/- The machine's jumps and ends. -/
import Derived.Test.YtnlmdajoifjddaaVm6
namespace Go.Proofs.Ytnlmdajoifjddaa
open Go.RowKit
set_option linter.unusedVariables false

theorem alloc1 (w : World) (a : Obj) : Below w.heap.size w (w.alloc a) := (Below.refl w.heap.size w).alloc (Nat.le_refl _) a
theorem tail1 {w w5 : World} {a : Obj} (h : Below (w.alloc a).heap.size (w.alloc a) w5) : Below w.heap.size w w5 := (alloc1 w a).trans (h.mono (alloc1 w a).size)
theorem tail1d {w w5 : World} {a : Obj} (h : Below (w.alloc a).drew.heap.size (w.alloc a).drew w5) : Below w.heap.size w w5 := (alloc1 w a).drew.trans (h.mono (alloc1 w a).size)
theorem lt1 {w : World} (a : Obj) {B : Nat} (h : B < w.heap.size) : B < (w.alloc a).heap.size := Nat.lt_of_lt_of_le h (alloc1 w a).size
theorem lt1d {w : World} (a : Obj) {B : Nat} (h : B < w.heap.size) : B < (w.alloc a).drew.heap.size := Nat.lt_of_lt_of_le h (alloc1 w a).size
theorem held1 {w w5 : World} {a : Obj} {g j : Nat} {x : Value} (hb : Below (w.alloc a).drew.heap.size (w.alloc a).drew w5) (h : (w.alloc a).cell? ⟨g, j, none⟩ = some x) : w5.cell? ⟨g, j, none⟩ = some x :=
  (hb.cell (p := ⟨g, j, none⟩) (World.block_lt_of_cell? _ _ h)).trans h
theorem v1_old {w : World} {a : Obj} {g j : Nat} {x : Value} (h : w.cell? ⟨g, j, none⟩ = some x) : (w.alloc a).cell? ⟨g, j, none⟩ = some x :=
  ((alloc1 w a).cell (p := ⟨g, j, none⟩) (World.block_lt_of_cell? _ _ h)).trans h
theorem v1_new {w : World} {cs : Array Value} {t : TypeId} {j : Nat} {x : Value} (hj : cs[j]? = some x) : (w.alloc (Obj.cells cs t)).cell? ⟨w.heap.size, j, none⟩ = some x :=
  (cell_of_row _ _ j _ _ _ (heap_alloc_new w _)).trans hj
def jumpB (c a v : Nat) : Bool := if c = 21 then decide (a = v) else if c = 37 then decide (v < a) else if c = 53 then decide (v ≤ a) else decide (a &&& v ≠ 0)
theorem j21 (a v : Nat) : ((a : Int) == (v : Int)) = jumpB 21 a v := by
  show _ = decide (a = v)
  by_cases h : a = v
  · simp [h]
  · simp [h, Int.ofNat_inj]
theorem j37 (a v : Nat) : decide (v < a) = jumpB 37 a v := rfl
theorem j53 (a v : Nat) : decide (v ≤ a) = jumpB 53 a v := rfl
theorem j69 (a v : Nat) (ha : a ≤ 4294967295) (hv : v ≤ 4294967295) : (bits BinOp.and IntKind.u32 (a : Int) (v : Int) != 0) = jumpB 69 a v := by
  rw [u32_and_nat a v (by omega) (by omega)]
  show _ = decide (a &&& v ≠ 0)
  generalize a &&& v = q
  by_cases h : q = 0
  · subst h; rfl
  · simp [h]
def jumpD (c a v k : Nat) (jt jf : Int) : Deed := if c = 5 then .over k else .over (if jumpB c a v then jt else jf)
set_option maxRecDepth 100000 in
theorem vm_fork (B : Nat) (b : Bool) (c jt jf k : Int) (w : World) (hB : B < w.heap.size) :
    Calls Try.prog 45 #[.pointer (some ⟨B, 0, none⟩), .bool b, .agg #[.int .i64 c, .int .i64 jt, .int .i64 jf, .int .u32 k]] w (Mk w B (.over (if b then jt else jf))) := by
  cases b
  all_goals
    simp only [if_true, Bool.false_eq_true, if_false]
    go_enter Try.func45, Try.ntmps45
    go_wp2_with fail
    go_at_call 44
    refine (vm_overM B _ _ (lt1 _ hB)).mono ?_
    rintro e w5 ⟨⟨f, rfl, hf⟩, hb5⟩
    have HF := Lib.hid hf
    have HB5 := Lib.hid (tail1 hb5)
    clear hf hb5
    go_wp2_with fail
    go_ret
    exact ⟨⟨f, rfl, HF.out⟩, HB5.out⟩
set_option maxRecDepth 100000 in
theorem vm_ret22 (rec : ByteArray) (n : Nat) (m : Mach) (B k : Nat) (jt jf : Int) (w : World) (hM : IsM w B rec n m) :
    Calls Try.prog 38 #[.pointer (some ⟨B, 0, none⟩), .agg #[.int .i64 22, .int .i64 jt, .int .i64 jf, .int .u32 (k : Int)]] w (Mk w B (.answer m.a)) := by
  have hB : B < w.heap.size := (Array.getElem?_eq_some_iff.1 hM.blk).1
  obtain ⟨_, m1, m2, _⟩ := hM.facts
  clear hM
  go_enter Try.func38, Try.ntmps38
  go_wp2_with fail
  go_at_call 43
  refine (vm_answered B m.a _ (lt1 _ hB)).mono ?_
  rintro e w5 ⟨⟨f, rfl, hf⟩, hb5⟩
  have HF := Lib.hid hf
  have HB5 := Lib.hid (tail1 hb5)
  clear hf hb5
  go_wp2_with fail
  go_ret
  exact ⟨⟨f, rfl, HF.out⟩, HB5.out⟩
set_option maxRecDepth 100000 in
theorem vm_ret6 (rec : ByteArray) (n : Nat) (m : Mach) (B k : Nat) (jt jf : Int) (w : World) (hM : IsM w B rec n m) :
    Calls Try.prog 38 #[.pointer (some ⟨B, 0, none⟩), .agg #[.int .i64 6, .int .i64 jt, .int .i64 jf, .int .u32 (k : Int)]] w (Mk w B (.answer k)) := by
  have hB : B < w.heap.size := (Array.getElem?_eq_some_iff.1 hM.blk).1
  obtain ⟨_, m1, m2, _⟩ := hM.facts
  clear hM
  go_enter Try.func38, Try.ntmps38
  go_wp2_with fail
  go_at_call 43
  refine (vm_answered B k _ (lt1 _ hB)).mono ?_
  rintro e w5 ⟨⟨f, rfl, hf⟩, hb5⟩
  have HF := Lib.hid hf
  have HB5 := Lib.hid (tail1 hb5)
  clear hf hb5
  go_wp2_with fail
  go_ret
  exact ⟨⟨f, rfl, HF.out⟩, HB5.out⟩
set_option maxRecDepth 100000 in
theorem vm_jump5 (rec : ByteArray) (n : Nat) (m : Mach) (B v k : Nat) (cc jt jf : Int) (w : World) (hM : IsM w B rec n m) (ha : m.a ≤ 4294967295) (hv : v ≤ 4294967295) (hk : k ≤ 4294967295) :
    Calls Try.prog 37 #[.pointer (some ⟨B, 0, none⟩), .int .i64 5, .int .u32 (v : Int), .agg #[.int .i64 cc, .int .i64 jt, .int .i64 jf, .int .u32 (k : Int)]] w (Mk w B (jumpD 5 m.a v k jt jf)) := by
  have hD : jumpD 5 m.a v k jt jf = .over k := rfl
  rw [hD]
  have hB : B < w.heap.size := (Array.getElem?_eq_some_iff.1 hM.blk).1
  have hwk : IntKind.i64.wrap (k : Int) = k := IntWalk.i64_in _ (by omega)
  have hwk2 : wrap64 (k : Int) = k := by unfold wrap64; omega
  clear hM
  go_enter Try.func37, Try.ntmps37
  go_wp2_with fail
  go_at_call 44
  refine (vm_overM B _ _ (lt1 _ hB)).mono ?_
  rintro e w5 ⟨⟨f, rfl, hf⟩, hb5⟩
  have HF := Lib.hid hf
  have HB5 := Lib.hid (tail1 hb5)
  clear hf hb5
  go_wp2_with fail
  go_ret
  exact ⟨⟨f, rfl, HF.out⟩, HB5.out⟩
set_option maxRecDepth 100000 in
theorem vm_jump21 (rec : ByteArray) (n : Nat) (m : Mach) (B v k : Nat) (cc jt jf : Int) (w : World) (hM : IsM w B rec n m) (ha : m.a ≤ 4294967295) (hv : v ≤ 4294967295) (hk : k ≤ 4294967295) :
    Calls Try.prog 37 #[.pointer (some ⟨B, 0, none⟩), .int .i64 21, .int .u32 (v : Int), .agg #[.int .i64 cc, .int .i64 jt, .int .i64 jf, .int .u32 (k : Int)]] w (Mk w B (jumpD 21 m.a v k jt jf)) := by
  have hD : jumpD 21 m.a v k jt jf = .over (if jumpB 21 m.a v then jt else jf) := rfl
  rw [hD]
  have hB : B < w.heap.size := (Array.getElem?_eq_some_iff.1 hM.blk).1
  obtain ⟨_, m1, m2, _⟩ := hM.facts
  have hvI : (v : Int) ≤ 4294967295 := by omega
  have haI : (m.a : Int) ≤ 4294967295 := by omega
  clear hM hD
  generalize m.a = a at *
  generalize hDD : Deed.over (if jumpB 21 a v then jt else jf) = D
  have HDD := Lib.hid hDD
  clear hDD
  go_enter Try.func37, Try.ntmps37
  go_upto_region 6 with fail
  go_region_held3 (fun u => u.cell? ⟨B, 1, none⟩ = some (.int .u32 (a : Int)) ∧ u.cell? ⟨w.heap.size, 0, none⟩ = some (.int .i64 cc) ∧ u.cell? ⟨w.heap.size, 1, none⟩ = some (.int .i64 jt) ∧ u.cell? ⟨w.heap.size, 2, none⟩ = some (.int .i64 jf) ∧ u.cell? ⟨w.heap.size, 3, none⟩ = some (.int .u32 (k : Int)))
    ((first | assumption | exact ⟨v1_old m1, v1_new rfl, v1_new rfl, v1_new rfl, v1_new rfl⟩))
    (first
    | (go_at_call 45; refine (vm_fork B _ cc jt jf k _ (lt1d _ hB)).mono ?_; rintro e w5 ⟨⟨f, rfl, hf⟩, hb5⟩; have hHeld := And.intro (held1 hb5 (v1_old m1)) (And.intro (held1 hb5 (v1_new (j := 0) rfl)) (And.intro (held1 hb5 (v1_new (j := 1) rfl)) (And.intro (held1 hb5 (v1_new (j := 2) rfl)) (held1 hb5 (v1_new (j := 3) rfl))))))
    | fail)
  all_goals
    have HF := Lib.hid hf
    have HB5 := Lib.hid (tail1d hb5)
    clear hf hb5
    go_wp2_with fail
    go_ret
    exact ⟨⟨f, rfl, by have := HF.out; rwa [j21 a v, HDD.out] at this⟩, HB5.out⟩
set_option maxRecDepth 100000 in
theorem vm_jump37 (rec : ByteArray) (n : Nat) (m : Mach) (B v k : Nat) (cc jt jf : Int) (w : World) (hM : IsM w B rec n m) (ha : m.a ≤ 4294967295) (hv : v ≤ 4294967295) (hk : k ≤ 4294967295) :
    Calls Try.prog 37 #[.pointer (some ⟨B, 0, none⟩), .int .i64 37, .int .u32 (v : Int), .agg #[.int .i64 cc, .int .i64 jt, .int .i64 jf, .int .u32 (k : Int)]] w (Mk w B (jumpD 37 m.a v k jt jf)) := by
  have hD : jumpD 37 m.a v k jt jf = .over (if jumpB 37 m.a v then jt else jf) := rfl
  rw [hD]
  have hB : B < w.heap.size := (Array.getElem?_eq_some_iff.1 hM.blk).1
  obtain ⟨_, m1, m2, _⟩ := hM.facts
  have hvI : (v : Int) ≤ 4294967295 := by omega
  have haI : (m.a : Int) ≤ 4294967295 := by omega
  clear hM hD
  generalize m.a = a at *
  generalize hDD : Deed.over (if jumpB 37 a v then jt else jf) = D
  have HDD := Lib.hid hDD
  clear hDD
  go_enter Try.func37, Try.ntmps37
  go_upto_region 8 with fail
  go_region_held3 (fun u => u.cell? ⟨B, 1, none⟩ = some (.int .u32 (a : Int)) ∧ u.cell? ⟨w.heap.size, 0, none⟩ = some (.int .i64 cc) ∧ u.cell? ⟨w.heap.size, 1, none⟩ = some (.int .i64 jt) ∧ u.cell? ⟨w.heap.size, 2, none⟩ = some (.int .i64 jf) ∧ u.cell? ⟨w.heap.size, 3, none⟩ = some (.int .u32 (k : Int)))
    ((first | assumption | exact ⟨v1_old m1, v1_new rfl, v1_new rfl, v1_new rfl, v1_new rfl⟩))
    (first
    | (go_at_call 45; refine (vm_fork B _ cc jt jf k _ (lt1d _ hB)).mono ?_; rintro e w5 ⟨⟨f, rfl, hf⟩, hb5⟩; have hHeld := And.intro (held1 hb5 (v1_old m1)) (And.intro (held1 hb5 (v1_new (j := 0) rfl)) (And.intro (held1 hb5 (v1_new (j := 1) rfl)) (And.intro (held1 hb5 (v1_new (j := 2) rfl)) (held1 hb5 (v1_new (j := 3) rfl))))))
    | fail)
  all_goals
    have HF := Lib.hid hf
    have HB5 := Lib.hid (tail1d hb5)
    clear hf hb5
    go_wp2_with fail
    go_ret
    exact ⟨⟨f, rfl, by have := HF.out; rwa [j37 a v, HDD.out] at this⟩, HB5.out⟩
set_option maxRecDepth 100000 in
theorem vm_jump53 (rec : ByteArray) (n : Nat) (m : Mach) (B v k : Nat) (cc jt jf : Int) (w : World) (hM : IsM w B rec n m) (ha : m.a ≤ 4294967295) (hv : v ≤ 4294967295) (hk : k ≤ 4294967295) :
    Calls Try.prog 37 #[.pointer (some ⟨B, 0, none⟩), .int .i64 53, .int .u32 (v : Int), .agg #[.int .i64 cc, .int .i64 jt, .int .i64 jf, .int .u32 (k : Int)]] w (Mk w B (jumpD 53 m.a v k jt jf)) := by
  have hD : jumpD 53 m.a v k jt jf = .over (if jumpB 53 m.a v then jt else jf) := rfl
  rw [hD]
  have hB : B < w.heap.size := (Array.getElem?_eq_some_iff.1 hM.blk).1
  obtain ⟨_, m1, m2, _⟩ := hM.facts
  have hvI : (v : Int) ≤ 4294967295 := by omega
  have haI : (m.a : Int) ≤ 4294967295 := by omega
  clear hM hD
  generalize m.a = a at *
  generalize hDD : Deed.over (if jumpB 53 a v then jt else jf) = D
  have HDD := Lib.hid hDD
  clear hDD
  go_enter Try.func37, Try.ntmps37
  go_upto_region 10 with fail
  go_region_held3 (fun u => u.cell? ⟨B, 1, none⟩ = some (.int .u32 (a : Int)) ∧ u.cell? ⟨w.heap.size, 0, none⟩ = some (.int .i64 cc) ∧ u.cell? ⟨w.heap.size, 1, none⟩ = some (.int .i64 jt) ∧ u.cell? ⟨w.heap.size, 2, none⟩ = some (.int .i64 jf) ∧ u.cell? ⟨w.heap.size, 3, none⟩ = some (.int .u32 (k : Int)))
    ((first | assumption | exact ⟨v1_old m1, v1_new rfl, v1_new rfl, v1_new rfl, v1_new rfl⟩))
    (first
    | (go_at_call 45; refine (vm_fork B _ cc jt jf k _ (lt1d _ hB)).mono ?_; rintro e w5 ⟨⟨f, rfl, hf⟩, hb5⟩; have hHeld := And.intro (held1 hb5 (v1_old m1)) (And.intro (held1 hb5 (v1_new (j := 0) rfl)) (And.intro (held1 hb5 (v1_new (j := 1) rfl)) (And.intro (held1 hb5 (v1_new (j := 2) rfl)) (held1 hb5 (v1_new (j := 3) rfl))))))
    | fail)
  all_goals
    have HF := Lib.hid hf
    have HB5 := Lib.hid (tail1d hb5)
    clear hf hb5
    go_wp2_with fail
    go_ret
    exact ⟨⟨f, rfl, by have := HF.out; rwa [j53 a v, HDD.out] at this⟩, HB5.out⟩
set_option maxRecDepth 100000 in
theorem vm_jump69 (rec : ByteArray) (n : Nat) (m : Mach) (B v k : Nat) (cc jt jf : Int) (w : World) (hM : IsM w B rec n m) (ha : m.a ≤ 4294967295) (hv : v ≤ 4294967295) (hk : k ≤ 4294967295) :
    Calls Try.prog 37 #[.pointer (some ⟨B, 0, none⟩), .int .i64 69, .int .u32 (v : Int), .agg #[.int .i64 cc, .int .i64 jt, .int .i64 jf, .int .u32 (k : Int)]] w (Mk w B (jumpD 69 m.a v k jt jf)) := by
  have hD : jumpD 69 m.a v k jt jf = .over (if jumpB 69 m.a v then jt else jf) := rfl
  rw [hD]
  have hB : B < w.heap.size := (Array.getElem?_eq_some_iff.1 hM.blk).1
  obtain ⟨_, m1, m2, _⟩ := hM.facts
  have hvI : (v : Int) ≤ 4294967295 := by omega
  have haI : (m.a : Int) ≤ 4294967295 := by omega
  clear hM hD
  generalize m.a = a at *
  generalize hDD : Deed.over (if jumpB 69 a v then jt else jf) = D
  have HDD := Lib.hid hDD
  clear hDD
  go_enter Try.func37, Try.ntmps37
  go_upto_region 2 with fail
  go_region_held3 (fun u => u.cell? ⟨B, 1, none⟩ = some (.int .u32 (a : Int)) ∧ u.cell? ⟨w.heap.size, 0, none⟩ = some (.int .i64 cc) ∧ u.cell? ⟨w.heap.size, 1, none⟩ = some (.int .i64 jt) ∧ u.cell? ⟨w.heap.size, 2, none⟩ = some (.int .i64 jf) ∧ u.cell? ⟨w.heap.size, 3, none⟩ = some (.int .u32 (k : Int)))
    ((first | assumption | exact ⟨v1_old m1, v1_new rfl, v1_new rfl, v1_new rfl, v1_new rfl⟩))
    (first
    | (go_at_call 45; refine (vm_fork B _ cc jt jf k _ (lt1d _ hB)).mono ?_; rintro e w5 ⟨⟨f, rfl, hf⟩, hb5⟩; have hHeld := And.intro (held1 hb5 (v1_old m1)) (And.intro (held1 hb5 (v1_new (j := 0) rfl)) (And.intro (held1 hb5 (v1_new (j := 1) rfl)) (And.intro (held1 hb5 (v1_new (j := 2) rfl)) (held1 hb5 (v1_new (j := 3) rfl))))))
    | fail)
  all_goals
    have HF := Lib.hid hf
    have HB5 := Lib.hid (tail1d hb5)
    clear hf hb5
    go_wp2_with fail
    go_ret
    exact ⟨⟨f, rfl, by have := HF.out; rwa [j69 a v ha hv, HDD.out] at this⟩, HB5.out⟩
end Go.Proofs.Ytnlmdajoifjddaa
