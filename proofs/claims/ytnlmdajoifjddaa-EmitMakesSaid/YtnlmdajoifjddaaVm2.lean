/- The machine's deeds on cells and words. -/
import Derived.Test.YtnlmdajoifjddaaVm1
namespace Go.Proofs.Ytnlmdajoifjddaa
open Go.RowKit
set_option linter.unusedVariables false

theorem Box.cell {w : World} {B : Nat} {p v : Value} (h : Box w B p v) : ∃ b, p = .pointer (some ⟨b, 0, none⟩) ∧ b ≠ B ∧ w.cell? ⟨b, 0, none⟩ = some v := h
theorem IsM.drew {w : World} {B : Nat} {rec : ByteArray} {n : Nat} {m : Mach} (h : IsM w B rec n m) : IsM w.drew B rec n m := ⟨h.blk, h.len⟩
theorem Box.drew {w : World} {B : Nat} {p v : Value} (h : Box w B p v) : Box w.drew B p v := h
theorem cell_size {w : World} {b : Nat} {v : Value} (h : w.cell? ⟨b, 0, none⟩ = some v) : b < w.heap.size := World.block_lt_of_cell? _ _ h
set_option maxRecDepth 100000 in
set_option maxHeartbeats 1000000 in
theorem vm_cell2 (rec : ByteArray) (n : Nat) (m : Mach) (B k : Nat) (pk pd pm pq : Value) (w : World) (hM : IsM w B rec n m) (hk4 : k ≤ 4294967295) (h1 : Box w B pk (.int .u32 (k : Int)))
    (h2 : Box w B pd (.func (.func 48) #[] #[pq])) (h3 : Box w B pm (ptrTo B)) (h4 : Box w B pq (ptrTo B)) :
    Calls Try.prog 56 #[pk, pd, pm] w (DeedPost rec n m B (.ldm k) w) := by
  obtain ⟨bk, rfl, hbk, c1⟩ := h1
  obtain ⟨bd, rfl, hbd, c2⟩ := h2
  obtain ⟨bm, rfl, hbm, c3⟩ := h3
  unfold ptrTo at c3
  have hkI : (k : Int) ≤ 4294967295 := by omega
  by_cases hk : k < 16
  · have hD : Deed.run rec n m (.ldm k) = (true, { m with a := m.cells.getD k 0 }) := if_pos hk
    have hk16 : (k : Int) < 16 := by omega
    have HD := Lib.hid hD
    have HDO := Lib.hid (fun u hu hq => vm_do2 rec n m B k pq u hu hk hq)
    have HM := Lib.hid hM
    have H4 := Lib.hid h4
    clear hD hM h4 hk hk4
    go_enter Try.func56, Try.ntmps56
    go_upto_region 3 with fail
    go_region_held3 (fun u => u.cell? ⟨bk, 0, none⟩ = some (.int .u32 (k : Int)) ∧ u.cell? ⟨bd, 0, none⟩ = some (.func (.func 48) #[] #[pq]) ∧ u.cell? ⟨bm, 0, none⟩ = some (.pointer (some ⟨B, 0, none⟩)))
      ((first | assumption | exact ⟨c1, c2, c3⟩))
      (first
      | (go_at_call 48; refine (HDO.out _ HM.out.drew H4.out.drew).mono ?_; rintro e w5 ⟨rfl, hm5, ho5, hs5, hk5⟩; have hHeld := And.intro ((World.cell?_of_block (a := ⟨bk, 0, none⟩) (hk5 bk hbk)).trans c1) (And.intro ((World.cell?_of_block (a := ⟨bd, 0, none⟩) (hk5 bd hbd)).trans c2) ((World.cell?_of_block (a := ⟨bm, 0, none⟩) (hk5 bm hbm)).trans c3)))
      | fail)
    all_goals
      have HR := Lib.hid (And.intro hm5 (And.intro ho5 (Nat.le_of_eq hs5.symm)))
      clear hm5 ho5 hs5 hk5
      go_wp2_with fail
      go_ret
      obtain ⟨r1, r2, r3⟩ := HR.out
      exact ⟨by rw [HD.out]; rfl, by rw [HD.out]; exact r1, fun base w0 hB h => r2 base w0 hB h.drew, r3⟩
  · have hD : Deed.run rec n m (.ldm k) = (false, m) := if_neg hk
    have hk16 : (16 : Int) ≤ k := by omega
    have HD := Lib.hid hD
    have HM := Lib.hid hM
    clear hD hM h4 hk hk4
    go_enter Try.func56, Try.ntmps56
    go_wp2_with fail
    go_ret
    exact ⟨by rw [HD.out]; rfl, by rw [HD.out]; exact HM.out, Only.refl _ _, Nat.le_refl _⟩
set_option maxRecDepth 100000 in
set_option maxHeartbeats 1000000 in
theorem vm_cell3 (rec : ByteArray) (n : Nat) (m : Mach) (B k : Nat) (pk pd pm pq : Value) (w : World) (hM : IsM w B rec n m) (hk4 : k ≤ 4294967295) (h1 : Box w B pk (.int .u32 (k : Int)))
    (h2 : Box w B pd (.func (.func 49) #[] #[pq])) (h3 : Box w B pm (ptrTo B)) (h4 : Box w B pq (ptrTo B)) :
    Calls Try.prog 56 #[pk, pd, pm] w (DeedPost rec n m B (.lxm k) w) := by
  obtain ⟨bk, rfl, hbk, c1⟩ := h1
  obtain ⟨bd, rfl, hbd, c2⟩ := h2
  obtain ⟨bm, rfl, hbm, c3⟩ := h3
  unfold ptrTo at c3
  have hkI : (k : Int) ≤ 4294967295 := by omega
  by_cases hk : k < 16
  · have hD : Deed.run rec n m (.lxm k) = (true, { m with x := m.cells.getD k 0 }) := if_pos hk
    have hk16 : (k : Int) < 16 := by omega
    have HD := Lib.hid hD
    have HDO := Lib.hid (fun u hu hq => vm_do3 rec n m B k pq u hu hk hq)
    have HM := Lib.hid hM
    have H4 := Lib.hid h4
    clear hD hM h4 hk hk4
    go_enter Try.func56, Try.ntmps56
    go_upto_region 3 with fail
    go_region_held3 (fun u => u.cell? ⟨bk, 0, none⟩ = some (.int .u32 (k : Int)) ∧ u.cell? ⟨bd, 0, none⟩ = some (.func (.func 49) #[] #[pq]) ∧ u.cell? ⟨bm, 0, none⟩ = some (.pointer (some ⟨B, 0, none⟩)))
      ((first | assumption | exact ⟨c1, c2, c3⟩))
      (first
      | (go_at_call 49; refine (HDO.out _ HM.out.drew H4.out.drew).mono ?_; rintro e w5 ⟨rfl, hm5, ho5, hs5, hk5⟩; have hHeld := And.intro ((World.cell?_of_block (a := ⟨bk, 0, none⟩) (hk5 bk hbk)).trans c1) (And.intro ((World.cell?_of_block (a := ⟨bd, 0, none⟩) (hk5 bd hbd)).trans c2) ((World.cell?_of_block (a := ⟨bm, 0, none⟩) (hk5 bm hbm)).trans c3)))
      | fail)
    all_goals
      have HR := Lib.hid (And.intro hm5 (And.intro ho5 (Nat.le_of_eq hs5.symm)))
      clear hm5 ho5 hs5 hk5
      go_wp2_with fail
      go_ret
      obtain ⟨r1, r2, r3⟩ := HR.out
      exact ⟨by rw [HD.out]; rfl, by rw [HD.out]; exact r1, fun base w0 hB h => r2 base w0 hB h.drew, r3⟩
  · have hD : Deed.run rec n m (.lxm k) = (false, m) := if_neg hk
    have hk16 : (16 : Int) ≤ k := by omega
    have HD := Lib.hid hD
    have HM := Lib.hid hM
    clear hD hM h4 hk hk4
    go_enter Try.func56, Try.ntmps56
    go_wp2_with fail
    go_ret
    exact ⟨by rw [HD.out]; rfl, by rw [HD.out]; exact HM.out, Only.refl _ _, Nat.le_refl _⟩
set_option maxRecDepth 100000 in
set_option maxHeartbeats 1000000 in
theorem vm_cell4 (rec : ByteArray) (n : Nat) (m : Mach) (B k : Nat) (pk pd pm pq : Value) (w : World) (hM : IsM w B rec n m) (hk4 : k ≤ 4294967295) (h1 : Box w B pk (.int .u32 (k : Int)))
    (h2 : Box w B pd (.func (.func 50) #[] #[pq])) (h3 : Box w B pm (ptrTo B)) (h4 : Box w B pq (ptrTo B)) :
    Calls Try.prog 56 #[pk, pd, pm] w (DeedPost rec n m B (.st k) w) := by
  obtain ⟨bk, rfl, hbk, c1⟩ := h1
  obtain ⟨bd, rfl, hbd, c2⟩ := h2
  obtain ⟨bm, rfl, hbm, c3⟩ := h3
  unfold ptrTo at c3
  have hkI : (k : Int) ≤ 4294967295 := by omega
  by_cases hk : k < 16
  · have hD : Deed.run rec n m (.st k) = (true, { m with cells := m.cells.set k m.a }) := if_pos hk
    have hk16 : (k : Int) < 16 := by omega
    have HD := Lib.hid hD
    have HDO := Lib.hid (fun u hu hq => vm_do4 rec n m B k pq u hu hk hq)
    have HM := Lib.hid hM
    have H4 := Lib.hid h4
    clear hD hM h4 hk hk4
    go_enter Try.func56, Try.ntmps56
    go_upto_region 3 with fail
    go_region_held3 (fun u => u.cell? ⟨bk, 0, none⟩ = some (.int .u32 (k : Int)) ∧ u.cell? ⟨bd, 0, none⟩ = some (.func (.func 50) #[] #[pq]) ∧ u.cell? ⟨bm, 0, none⟩ = some (.pointer (some ⟨B, 0, none⟩)))
      ((first | assumption | exact ⟨c1, c2, c3⟩))
      (first
      | (go_at_call 50; refine (HDO.out _ HM.out.drew H4.out.drew).mono ?_; rintro e w5 ⟨rfl, hm5, ho5, hs5, hk5⟩; have hHeld := And.intro ((World.cell?_of_block (a := ⟨bk, 0, none⟩) (hk5 bk hbk)).trans c1) (And.intro ((World.cell?_of_block (a := ⟨bd, 0, none⟩) (hk5 bd hbd)).trans c2) ((World.cell?_of_block (a := ⟨bm, 0, none⟩) (hk5 bm hbm)).trans c3)))
      | fail)
    all_goals
      have HR := Lib.hid (And.intro hm5 (And.intro ho5 (Nat.le_of_eq hs5.symm)))
      clear hm5 ho5 hs5 hk5
      go_wp2_with fail
      go_ret
      obtain ⟨r1, r2, r3⟩ := HR.out
      exact ⟨by rw [HD.out]; rfl, by rw [HD.out]; exact r1, fun base w0 hB h => r2 base w0 hB h.drew, r3⟩
  · have hD : Deed.run rec n m (.st k) = (false, m) := if_neg hk
    have hk16 : (16 : Int) ≤ k := by omega
    have HD := Lib.hid hD
    have HM := Lib.hid hM
    clear hD hM h4 hk hk4
    go_enter Try.func56, Try.ntmps56
    go_wp2_with fail
    go_ret
    exact ⟨by rw [HD.out]; rfl, by rw [HD.out]; exact HM.out, Only.refl _ _, Nat.le_refl _⟩
set_option maxRecDepth 100000 in
set_option maxHeartbeats 1000000 in
theorem vm_cell5 (rec : ByteArray) (n : Nat) (m : Mach) (B k : Nat) (pk pd pm pq : Value) (w : World) (hM : IsM w B rec n m) (hk4 : k ≤ 4294967295) (h1 : Box w B pk (.int .u32 (k : Int)))
    (h2 : Box w B pd (.func (.func 51) #[] #[pq])) (h3 : Box w B pm (ptrTo B)) (h4 : Box w B pq (ptrTo B)) :
    Calls Try.prog 56 #[pk, pd, pm] w (DeedPost rec n m B (.stx k) w) := by
  obtain ⟨bk, rfl, hbk, c1⟩ := h1
  obtain ⟨bd, rfl, hbd, c2⟩ := h2
  obtain ⟨bm, rfl, hbm, c3⟩ := h3
  unfold ptrTo at c3
  have hkI : (k : Int) ≤ 4294967295 := by omega
  by_cases hk : k < 16
  · have hD : Deed.run rec n m (.stx k) = (true, { m with cells := m.cells.set k m.x }) := if_pos hk
    have hk16 : (k : Int) < 16 := by omega
    have HD := Lib.hid hD
    have HDO := Lib.hid (fun u hu hq => vm_do5 rec n m B k pq u hu hk hq)
    have HM := Lib.hid hM
    have H4 := Lib.hid h4
    clear hD hM h4 hk hk4
    go_enter Try.func56, Try.ntmps56
    go_upto_region 3 with fail
    go_region_held3 (fun u => u.cell? ⟨bk, 0, none⟩ = some (.int .u32 (k : Int)) ∧ u.cell? ⟨bd, 0, none⟩ = some (.func (.func 51) #[] #[pq]) ∧ u.cell? ⟨bm, 0, none⟩ = some (.pointer (some ⟨B, 0, none⟩)))
      ((first | assumption | exact ⟨c1, c2, c3⟩))
      (first
      | (go_at_call 51; refine (HDO.out _ HM.out.drew H4.out.drew).mono ?_; rintro e w5 ⟨rfl, hm5, ho5, hs5, hk5⟩; have hHeld := And.intro ((World.cell?_of_block (a := ⟨bk, 0, none⟩) (hk5 bk hbk)).trans c1) (And.intro ((World.cell?_of_block (a := ⟨bd, 0, none⟩) (hk5 bd hbd)).trans c2) ((World.cell?_of_block (a := ⟨bm, 0, none⟩) (hk5 bm hbm)).trans c3)))
      | fail)
    all_goals
      have HR := Lib.hid (And.intro hm5 (And.intro ho5 (Nat.le_of_eq hs5.symm)))
      clear hm5 ho5 hs5 hk5
      go_wp2_with fail
      go_ret
      obtain ⟨r1, r2, r3⟩ := HR.out
      exact ⟨by rw [HD.out]; rfl, by rw [HD.out]; exact r1, fun base w0 hB h => r2 base w0 hB h.drew, r3⟩
  · have hD : Deed.run rec n m (.stx k) = (false, m) := if_neg hk
    have hk16 : (16 : Int) ≤ k := by omega
    have HD := Lib.hid hD
    have HM := Lib.hid hM
    clear hD hM h4 hk hk4
    go_enter Try.func56, Try.ntmps56
    go_wp2_with fail
    go_ret
    exact ⟨by rw [HD.out]; rfl, by rw [HD.out]; exact HM.out, Only.refl _ _, Nat.le_refl _⟩
end Go.Proofs.Ytnlmdajoifjddaa
