/- emit's writer: tests, and steps. -/
import Derived.Test.YtnlmdajoifjddaaEm2
namespace Go.Proofs.Ytnlmdajoifjddaa
open Go.RowKit
set_option linter.unusedVariables false

theorem KeepW.cell {gW gI gM : Nat} {u u' : World} (h : KeepW gW gI gM u u') {g j : Nat} {v : Value} (h1 : g ≠ gW) (h2 : g ≠ gI) (h3 : g ≠ gM) (hv : u.cell? ⟨g, j, none⟩ = some v) : u'.cell? ⟨g, j, none⟩ = some v :=
  (World.cell?_of_block (a := ⟨g, j, none⟩) (h.2.2 g h1 h2 h3 (World.block_lt_of_cell? _ _ hv))).trans hv
set_option maxRecDepth 100000 in
set_option maxHeartbeats 1000000 in
theorem emTest_any (gW gI gM N : Nat) (s : Asm) (code : Int) (o : Stp) (w : World) (h : Wr w gW gI gM N s) (hlt : s.c.length + 3 ≤ N) (hN : N ≤ 1000000) (hcode : -9223372036854775808 ≤ code ∧ code ≤ 9223372036854775807) (hk : o.k ≤ 4294967295) :
    Calls Try.prog 33 #[.pointer (some ⟨gW, 0, none⟩), .int .i64 code, o.value] w (WayPost gW gI gM N w (s.test code o) s) := by
  obtain ⟨kind, k, t, f⟩ := o
  dsimp only at hk
  unfold Stp.value
  dsimp only
  have hA := h.alloc (Obj.cells #[.int .i64 kind, .int .u32 (k : Nat), .int .i64 t, .int .i64 f] 32)
  have hI := heap_alloc_new w (Obj.cells #[.int .i64 kind, .int .u32 (k : Nat), .int .i64 t, .int .i64 f] 32)
  have hk0 := (KeepW.refl gW gI gM w).alloc (lt_of_block h.ins) (Obj.cells #[.int .i64 kind, .int .u32 (k : Nat), .int .i64 t, .int .i64 f] 32)
  have n1 : w.heap.size ≠ gW := by have := lt_of_block h.wr; omega
  have n2 : w.heap.size ≠ gI := by have := lt_of_block h.ins; omega
  have n3 : w.heap.size ≠ gM := by have := h.mp.lt; omega
  have hW1 := fun u hu => emWay_any gW gI gM N s f u hu (by omega) hN
  have hT : s.test code ⟨kind, k, t, f⟩ = (s.way f).bind fun s1 => (s1.way t).map fun s2 => s2.add ⟨code, 0, 1, (k : Int)⟩ := rfl
  have hkI : (k : Int) ≤ 4294967295 := by omega
  have hway := fun s1 (h1 : s.way f = some s1) => Asm.way_ok h.ok (by omega) h1
  rw [hT]
  clear hT
  have HA := Lib.hid hA; have HI := Lib.hid hI; have HK0 := Lib.hid hk0
  clear hA hI hk0 h
  cases h1 : s.way f with
  | none =>
    rw [h1] at hW1
    have HW1 := Lib.hid hW1
    show Calls _ _ _ _ (fun e' w' => e' = .returned (.bool false) ∧ KeepW gW gI gM w w')
    clear hW1 h1 hway
    go_enter Try.func33, Try.ntmps33
    go_wp2_with fail
    refine (HW1.out _ HA.out).mono ?_
    rintro e w2 ⟨rfl, hk2⟩
    have HK2 := Lib.hid (HK0.out.trans hk2)
    clear hk2
    go_wp2_with fail
    go_ret
    exact ⟨rfl, HK2.out⟩
  | some s1 =>
    rw [h1] at hW1
    obtain ⟨a1, a2, a3⟩ := hway s1 h1
    have hW2 := fun u hu => emWay_any gW gI gM N s1 t u hu (by omega) hN
    have hway2 := fun s2 (h2 : s1.way t = some s2) => Asm.way_ok a1 (by omega) h2
    show Calls _ _ _ _ (WayPost gW gI gM N w ((s1.way t).map fun s2 => s2.add ⟨code, 0, 1, (k : Int)⟩) s)
    have HW1 := Lib.hid hW1
    clear hW1 h1 hway
    cases h2 : s1.way t with
    | none =>
      rw [h2] at hW2
      have HW2 := Lib.hid hW2
      show Calls _ _ _ _ (fun e' w' => e' = .returned (.bool false) ∧ KeepW gW gI gM w w')
      clear hW2 h2 hway2
      go_enter Try.func33, Try.ntmps33
      go_wp2_with fail
      refine (HW1.out _ HA.out).mono ?_
      rintro e w2 ⟨rfl, hwr2, hk2⟩
      have i2 := hk2.cell n1 n2 n3 (below_cell (v := .int .i64 t) (Below.refl _ _) HI.out 2 rfl)
      have HWR2 := Lib.hid hwr2; have HK2 := Lib.hid (HK0.out.trans hk2)
      clear hwr2 hk2
      go_wp2_with fail
      refine (HW2.out _ HWR2.out).mono ?_
      rintro e w3 ⟨rfl, hk3⟩
      have HK3 := Lib.hid (HK2.out.trans hk3)
      clear hk3
      go_wp2_with fail
      go_ret
      exact ⟨rfl, HK3.out⟩
    | some s2 =>
      rw [h2] at hW2
      obtain ⟨b1, b2, b3⟩ := hway2 s2 h2
      have hAdd := fun u hu => emAdd_any gW gI gM N s2 ⟨code, 0, 1, (k : Int)⟩ u hu (by omega) hN (bnd_k code 1 _ hcode (by omega) hk)
      unfold Ins.value at hAdd
      have HW2 := Lib.hid hW2; have HADD := Lib.hid hAdd
      show Calls _ _ _ _ (fun e' w' => e' = .returned (.bool true) ∧ Wr w' gW gI gM N (s2.add ⟨code, 0, 1, (k : Int)⟩) ∧ KeepW gW gI gM w w')
      clear hW2 h2 hway2 hAdd
      go_enter Try.func33, Try.ntmps33
      go_wp2_with fail
      refine (HW1.out _ HA.out).mono ?_
      rintro e w2 ⟨rfl, hwr2, hk2⟩
      have i2 := hk2.cell n1 n2 n3 (below_cell (v := .int .i64 t) (Below.refl _ _) HI.out 2 rfl)
      have i1 := hk2.cell n1 n2 n3 (below_cell (v := .int .u32 (k : Nat)) (Below.refl _ _) HI.out 1 rfl)
      have HWR2 := Lib.hid hwr2; have HK2 := Lib.hid (HK0.out.trans hk2)
      clear hwr2 hk2
      go_wp2_with fail
      refine (HW2.out _ HWR2.out).mono ?_
      rintro e w3 ⟨rfl, hwr3, hk3⟩
      have j1 := hk3.cell n1 n2 n3 i1
      have HWR3 := Lib.hid hwr3; have HK3 := Lib.hid (HK2.out.trans hk3)
      clear hwr3 hk3
      go_wp2_with fail
      refine (HADD.out _ HWR3.out).mono ?_
      rintro e w4 ⟨rfl, hwr4, hk4⟩
      have HWR4 := Lib.hid hwr4; have HK4 := Lib.hid (HK3.out.trans hk4)
      clear hwr4 hk4
      go_wp2_with fail
      go_ret
      exact ⟨rfl, HWR4.out, HK4.out⟩
set_option maxRecDepth 100000 in
set_option maxHeartbeats 2000000 in
theorem emStep_any (gW gI gM N : Nat) (s : Asm) (o : Stp) (w : World) (h : Wr w gW gI gM N s) (hlt : s.c.length + szI o.kind ≤ N) (hN : N ≤ 1000000) (hk : o.k ≤ 4294967295) :
    Calls Try.prog 19 #[.pointer (some ⟨gW, 0, none⟩), o.value] w (WayPost gW gI gM N w (s.step o) s) := by
  obtain ⟨kind, k, t, f⟩ := o
  dsimp only at hk hlt
  have hTest := fun code u hu h3 hc => emTest_any gW gI gM N s code ⟨kind, k, t, f⟩ u hu h3 hN hc hk
  unfold Stp.value at hTest ⊢
  dsimp only at hTest ⊢
  have hA := h.alloc (Obj.cells #[.int .i64 kind, .int .u32 (k : Nat), .int .i64 t, .int .i64 f] 32)
  have hI := heap_alloc_new w (Obj.cells #[.int .i64 kind, .int .u32 (k : Nat), .int .i64 t, .int .i64 f] 32)
  have hk0 := (KeepW.refl gW gI gM w).alloc (lt_of_block h.ins) (Obj.cells #[.int .i64 kind, .int .u32 (k : Nat), .int .i64 t, .int .i64 f] 32)
  have hkI : (k : Int) ≤ 4294967295 := by omega
  have n1 : w.heap.size ≠ gW := by have := lt_of_block h.wr; omega
  have hS : s.step ⟨kind, k, t, f⟩ = if kind = 6 then some { s with env := fun T => if T = t then some s.c.length else s.env T }
    else if kind = 1 then some (s.add ⟨32, 0, 0, (k : Int)⟩)
    else if kind = 2 then some (s.add ⟨84, 0, 0, (k : Int)⟩)
    else if kind = 8 then some (s.add ⟨6, 0, 0, (k : Int)⟩)
    else if kind = 7 then s.way t
    else if kind = 3 then s.test 21 ⟨kind, k, t, f⟩
    else if kind = 4 then s.test 37 ⟨kind, k, t, f⟩
    else if kind = 5 then s.test 53 ⟨kind, k, t, f⟩
    else none := rfl
  have hAdd := fun code (hlt1 : s.c.length < N) (hc : -9223372036854775808 ≤ code ∧ code ≤ 9223372036854775807) u hu => emAdd_any gW gI gM N s ⟨code, 0, 0, (k : Int)⟩ u hu hlt1 hN (bnd_k code 0 _ hc (by omega) hk)
  unfold Ins.value at hAdd
  have hWay := fun (hlt1 : s.c.length < N) u hu => emWay_any gW gI gM N s t u hu hlt1 hN
  rw [hS]
  clear hS
  have HA := Lib.hid hA; have HI := Lib.hid hI; have HK0 := Lib.hid hk0; have HADD := Lib.hid hAdd; have HWAY := Lib.hid hWay; have HTE := Lib.hid hTest
  clear hA hI hk0 h hAdd hWay hTest
  by_cases k6 : kind = 6
  · rw [if_pos k6]
    subst k6
    show Calls _ _ _ _ (fun e' w' => e' = .returned (.bool true) ∧ Wr w' gW gI gM N { s with env := fun T => if T = t then some s.c.length else s.env T } ∧ KeepW gW gI gM w w')
    go_enter Try.func19, Try.ntmps19
    go_upto_region 4 with fail
    generalize w.alloc (Obj.cells #[.int .i64 6, .int .u32 (k : Nat), .int .i64 t, .int .i64 f] 32) = w1 at *
    have i2 := below_cell (v := .int .i64 t) (Below.refl _ w1) HI.out 2 rfl
    have q1 := below_cell (v := .int .i64 ((N - s.c.length : Nat) : Int)) (Below.refl _ w1) HA.out.wr 1 rfl
    have q2 := below_cell (v := .map (some gM)) (Below.refl _ w1) HA.out.wr 2 rfl
    obtain ⟨y, hy⟩ : ∃ y, N - s.c.length = y := ⟨_, rfl⟩
    rw [hy] at q1
    have HY := Lib.hid hy
    have hmp := HA.out.mp.drew
    have hmlt := HA.out.mp.lt
    clear hy
    go_still_tail 10, (by kernel_rfl)
    go_wp2_with (at_mapUpdate; go_must (refine wpList_mapSet (K := i64Keys) (base := gM) (w0 := w1.drew) hmp (Below.refl _ _) (Nat.le_of_lt hmlt) (Nat.le_refl _) 48 3 3 _ _ _ (t : Int) (.int .i64 (y : Int)) rfl (.inl rfl) Try.underlying48 Try.underlying3 rfl rfl rfl ?_))
    intro w2 hm2 hb2 hg2
    have hw2 : Wr w2 gW gI gM N { s with env := fun T => if T = t then some s.c.length else s.env T } := by
      refine ⟨?_, ?_, ?_, HA.out.len, ?_, HA.out.neI, HA.out.neM, HA.out.neN⟩
      · exact (hg2.block gW (lt_of_block HA.out.wr) (fun e => HA.out.neM (by injection e with e; exact e.symm))).trans HA.out.wr
      · exact (hg2.block gI (lt_of_block HA.out.ins) (fun e => HA.out.neN (by injection e with e; exact e.symm))).trans HA.out.ins
      · refine hm2.congr fun T => ?_
        show _ = (if T = t then some s.c.length else s.env T).map _
        by_cases e : T = t
        · rw [if_pos e, if_pos e, ← HY.out]; rfl
        · rw [if_neg e, if_neg e]
      · refine ⟨fun T e he => ?_, HA.out.ok.2⟩
        have he : (if T = t then some s.c.length else s.env T) = some e := he
        by_cases hT : T = t
        · rw [if_pos hT] at he
          injection he with he
          exact Nat.le_of_eq he.symm
        · rw [if_neg hT] at he
          exact HA.out.ok.1 T e he
    have hk2 : KeepW gW gI gM w w2 := by
      refine ⟨Nat.le_trans HK0.out.1 hg2.size, fun b0 w0 a1 a2 a3 hb => ?_, fun g a1 a2 a3 hlt => (hg2.block g (Nat.lt_of_lt_of_le hlt HK0.out.1) (fun e => a3 (by injection e))).trans (HK0.out.2.2 g a1 a2 a3 hlt)⟩
      exact (HK0.out.2.1 b0 w0 a1 a2 a3 hb).drew.grown hg2 (by have := hmlt; have : w1.drew.heap.size = w1.heap.size := rfl; omega) (fun k hk => by injection hk with hk; omega)
    have HW2 := Lib.hid hw2; have HK2 := Lib.hid hk2
    clear hm2 hb2 hg2 hw2 hk2 i2 q1 q2 hmp
    go_wp2_with fail
    go_ret
    exact ⟨rfl, HW2.out, HK2.out⟩
  rw [if_neg k6]
  have n6 : (kind == 6) = false := by rw [beq_eq_false_iff_ne]; exact k6
  by_cases k1 : kind = 1
  · rw [if_pos k1]
    subst k1
    have hadd := HADD.out 32 (by have : szI 1 = 1 := rfl; omega) (by omega)
    have HAD := Lib.hid hadd
    clear hadd HADD HWAY HTE n6 k6
    show Calls _ _ _ _ (fun e' w' => e' = .returned (.bool true) ∧ Wr w' gW gI gM N (s.add ⟨32, 0, 0, (k : Int)⟩) ∧ KeepW gW gI gM w w')
    go_enter Try.func19, Try.ntmps19
    go_wp2_with fail
    refine (HAD.out _ HA.out).mono ?_
    rintro e w4 ⟨rfl, hwr4, hk4⟩
    have HWR4 := Lib.hid hwr4; have HK4 := Lib.hid (HK0.out.trans hk4)
    clear hwr4 hk4
    go_wp2_with fail
    go_ret
    exact ⟨rfl, HWR4.out, HK4.out⟩
  rw [if_neg k1]
  have n1 : (kind == 1) = false := by rw [beq_eq_false_iff_ne]; exact k1
  by_cases k2 : kind = 2
  · rw [if_pos k2]
    subst k2
    have hadd := HADD.out 84 (by have : szI 2 = 1 := rfl; omega) (by omega)
    have HAD := Lib.hid hadd
    clear hadd HADD HWAY HTE n6 k6 n1 k1
    show Calls _ _ _ _ (fun e' w' => e' = .returned (.bool true) ∧ Wr w' gW gI gM N (s.add ⟨84, 0, 0, (k : Int)⟩) ∧ KeepW gW gI gM w w')
    go_enter Try.func19, Try.ntmps19
    go_wp2_with fail
    refine (HAD.out _ HA.out).mono ?_
    rintro e w4 ⟨rfl, hwr4, hk4⟩
    have HWR4 := Lib.hid hwr4; have HK4 := Lib.hid (HK0.out.trans hk4)
    clear hwr4 hk4
    go_wp2_with fail
    go_ret
    exact ⟨rfl, HWR4.out, HK4.out⟩
  rw [if_neg k2]
  have n2 : (kind == 2) = false := by rw [beq_eq_false_iff_ne]; exact k2
  by_cases k8 : kind = 8
  · rw [if_pos k8]
    subst k8
    have hadd := HADD.out 6 (by have : szI 8 = 1 := rfl; omega) (by omega)
    have HAD := Lib.hid hadd
    clear hadd HADD HWAY HTE n6 k6 n1 k1 n2 k2
    show Calls _ _ _ _ (fun e' w' => e' = .returned (.bool true) ∧ Wr w' gW gI gM N (s.add ⟨6, 0, 0, (k : Int)⟩) ∧ KeepW gW gI gM w w')
    go_enter Try.func19, Try.ntmps19
    go_wp2_with fail
    refine (HAD.out _ HA.out).mono ?_
    rintro e w4 ⟨rfl, hwr4, hk4⟩
    have HWR4 := Lib.hid hwr4; have HK4 := Lib.hid (HK0.out.trans hk4)
    clear hwr4 hk4
    go_wp2_with fail
    go_ret
    exact ⟨rfl, HWR4.out, HK4.out⟩
  rw [if_neg k8]
  have n8 : (kind == 8) = false := by rw [beq_eq_false_iff_ne]; exact k8
  by_cases k7 : kind = 7
  · rw [if_pos k7]
    subst k7
    have hway := HWAY.out (by have : szI 7 = 1 := rfl; omega)
    clear HADD HWAY HTE n6 k6 n1 k1 n2 k2 n8 k8
    cases hw : s.way t with
    | none =>
      rw [hw] at hway
      have HWY := Lib.hid hway
      show Calls _ _ _ _ (fun e' w' => e' = .returned (.bool false) ∧ KeepW gW gI gM w w')
      clear hway hw
      go_enter Try.func19, Try.ntmps19
      go_wp2_with fail
      refine (HWY.out _ HA.out).mono ?_
      rintro e w2 ⟨rfl, hk2⟩
      have HK2 := Lib.hid (HK0.out.trans hk2)
      clear hk2
      go_wp2_with fail
      go_ret
      exact ⟨rfl, HK2.out⟩
    | some s1 =>
      rw [hw] at hway
      have HWY := Lib.hid hway
      show Calls _ _ _ _ (fun e' w' => e' = .returned (.bool true) ∧ Wr w' gW gI gM N s1 ∧ KeepW gW gI gM w w')
      clear hway hw
      go_enter Try.func19, Try.ntmps19
      go_wp2_with fail
      refine (HWY.out _ HA.out).mono ?_
      rintro e w2 ⟨rfl, hwr2, hk2⟩
      have HWR2 := Lib.hid hwr2; have HK2 := Lib.hid (HK0.out.trans hk2)
      clear hk2 hwr2
      go_wp2_with fail
      go_ret
      exact ⟨rfl, HWR2.out, HK2.out⟩
  rw [if_neg k7]
  have n7 : (kind == 7) = false := by rw [beq_eq_false_iff_ne]; exact k7
  by_cases k3 : kind = 3
  · rw [if_pos k3]
    subst k3
    have hway := fun u hu => HTE.out 21 u hu (by have : szI 3 = 3 := rfl; omega) (by omega)
    clear HADD HWAY HTE n6 k6 n1 k1 n2 k2 n8 k8 n7 k7
    cases hw : s.test 21 ⟨3, k, t, f⟩ with
    | none =>
      rw [hw] at hway
      have HWY := Lib.hid hway
      show Calls _ _ _ _ (fun e' w' => e' = .returned (.bool false) ∧ KeepW gW gI gM w w')
      clear hway hw
      go_enter Try.func19, Try.ntmps19
      go_wp2_with fail
      refine (HWY.out _ HA.out).mono ?_
      rintro e w2 ⟨rfl, hk2⟩
      have HK2 := Lib.hid (HK0.out.trans hk2)
      clear hk2
      go_wp2_with fail
      go_ret
      exact ⟨rfl, HK2.out⟩
    | some s1 =>
      rw [hw] at hway
      have HWY := Lib.hid hway
      show Calls _ _ _ _ (fun e' w' => e' = .returned (.bool true) ∧ Wr w' gW gI gM N s1 ∧ KeepW gW gI gM w w')
      clear hway hw
      go_enter Try.func19, Try.ntmps19
      go_wp2_with fail
      refine (HWY.out _ HA.out).mono ?_
      rintro e w2 ⟨rfl, hwr2, hk2⟩
      have HWR2 := Lib.hid hwr2; have HK2 := Lib.hid (HK0.out.trans hk2)
      clear hk2 hwr2
      go_wp2_with fail
      go_ret
      exact ⟨rfl, HWR2.out, HK2.out⟩
  rw [if_neg k3]
  have n3 : (kind == 3) = false := by rw [beq_eq_false_iff_ne]; exact k3
  by_cases k4 : kind = 4
  · rw [if_pos k4]
    subst k4
    have hway := fun u hu => HTE.out 37 u hu (by have : szI 4 = 3 := rfl; omega) (by omega)
    clear HADD HWAY HTE n6 k6 n1 k1 n2 k2 n8 k8 n7 k7 n3 k3
    cases hw : s.test 37 ⟨4, k, t, f⟩ with
    | none =>
      rw [hw] at hway
      have HWY := Lib.hid hway
      show Calls _ _ _ _ (fun e' w' => e' = .returned (.bool false) ∧ KeepW gW gI gM w w')
      clear hway hw
      go_enter Try.func19, Try.ntmps19
      go_wp2_with fail
      refine (HWY.out _ HA.out).mono ?_
      rintro e w2 ⟨rfl, hk2⟩
      have HK2 := Lib.hid (HK0.out.trans hk2)
      clear hk2
      go_wp2_with fail
      go_ret
      exact ⟨rfl, HK2.out⟩
    | some s1 =>
      rw [hw] at hway
      have HWY := Lib.hid hway
      show Calls _ _ _ _ (fun e' w' => e' = .returned (.bool true) ∧ Wr w' gW gI gM N s1 ∧ KeepW gW gI gM w w')
      clear hway hw
      go_enter Try.func19, Try.ntmps19
      go_wp2_with fail
      refine (HWY.out _ HA.out).mono ?_
      rintro e w2 ⟨rfl, hwr2, hk2⟩
      have HWR2 := Lib.hid hwr2; have HK2 := Lib.hid (HK0.out.trans hk2)
      clear hk2 hwr2
      go_wp2_with fail
      go_ret
      exact ⟨rfl, HWR2.out, HK2.out⟩
  rw [if_neg k4]
  have n4 : (kind == 4) = false := by rw [beq_eq_false_iff_ne]; exact k4
  by_cases k5 : kind = 5
  · rw [if_pos k5]
    subst k5
    have hway := fun u hu => HTE.out 53 u hu (by have : szI 5 = 3 := rfl; omega) (by omega)
    clear HADD HWAY HTE n6 k6 n1 k1 n2 k2 n8 k8 n7 k7 n3 k3 n4 k4
    cases hw : s.test 53 ⟨5, k, t, f⟩ with
    | none =>
      rw [hw] at hway
      have HWY := Lib.hid hway
      show Calls _ _ _ _ (fun e' w' => e' = .returned (.bool false) ∧ KeepW gW gI gM w w')
      clear hway hw
      go_enter Try.func19, Try.ntmps19
      go_wp2_with fail
      refine (HWY.out _ HA.out).mono ?_
      rintro e w2 ⟨rfl, hk2⟩
      have HK2 := Lib.hid (HK0.out.trans hk2)
      clear hk2
      go_wp2_with fail
      go_ret
      exact ⟨rfl, HK2.out⟩
    | some s1 =>
      rw [hw] at hway
      have HWY := Lib.hid hway
      show Calls _ _ _ _ (fun e' w' => e' = .returned (.bool true) ∧ Wr w' gW gI gM N s1 ∧ KeepW gW gI gM w w')
      clear hway hw
      go_enter Try.func19, Try.ntmps19
      go_wp2_with fail
      refine (HWY.out _ HA.out).mono ?_
      rintro e w2 ⟨rfl, hwr2, hk2⟩
      have HWR2 := Lib.hid hwr2; have HK2 := Lib.hid (HK0.out.trans hk2)
      clear hk2 hwr2
      go_wp2_with fail
      go_ret
      exact ⟨rfl, HWR2.out, HK2.out⟩
  rw [if_neg k5]
  have n5 : (kind == 5) = false := by rw [beq_eq_false_iff_ne]; exact k5
  show Calls _ _ _ _ (fun e' w' => e' = .returned (.bool false) ∧ KeepW gW gI gM w w')
  clear HADD HWAY HTE k6 k1 k2 k8 k7 k3 k4 k5
  go_enter Try.func19, Try.ntmps19
  go_wp2_with fail
  go_ret
  exact ⟨rfl, HK0.out⟩
end Go.Proofs.Ytnlmdajoifjddaa
