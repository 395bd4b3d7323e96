/- The maker of steps: one test. -/
import Derived.Test.YtcejhfpdajbdcaaWm2
namespace Go.Proofs.Ytcejhfpdajbdcaa
open Go.RowKit Go.ChangeShapes
set_option linter.unusedVariables false

theorem wrap32 (m : Nat) : IntKind.u32.wrap (m : Int) = ((m % 4294967296 : Nat) : Int) := by simp [IntKind.wrap, IntKind.signed, IntKind.bits]
set_option maxRecDepth 100000 in
theorem wmHigher (b B : Nat) (u : World) (l : List Stp) (n : Int) (v : Value) (kind : Int) (ka : Option Addr) (kn kc j mask : Nat) (sign : ByteArray) (value : Nat) (h : Mk b u B l n v) (hj : j ≤ 5) (hmk : mask ≤ 18446744073709551615) (hvl : value ≤ 18446744073709551615) (hl : l.length ≤ 999980) :
    Calls Try.prog 91 #[.pointer (some ⟨B, 0, none⟩), .agg #[.int .i64 kind, .slice ka kn kc, .int .i64 (j : Nat), .int .u64 (mask : Nat), .string sign, .int .u64 (value : Nat)]] u (MkPost b B v u (l ++ loadS (16 + 8 * j + 4) (mask / 4294967296)) n) := by
  obtain ⟨u1, eW, h1, k1, bx⟩ := h.box (.cells #[.int .i64 kind, .slice ka kn kc, .int .i64 (j : Nat), .int .u64 (mask : Nat), .string sign, .int .u64 (value : Nat)] 31)
  have hL := wmLoad b B u1 l n v (16 + 8 * j + 4) (mask / 4294967296) h1 (by omega) (by omega) (by omega)
  rw [show ((16 + 8 * j + 4 : Nat) : Int) = 16 + 8 * (j : Int) + 4 by omega, show ((mask / 4294967296 : Nat) : Int) = (mask : Int) / 4294967296 by omega] at hL
  have c2 := below_cell (Below.refl _ _) bx.blk 2 rfl
  have c3 := below_cell (Below.refl _ _) bx.blk 3 rfl
  have hjI : (j : Int) ≤ 5 := by omega
  have hj0 : (0 : Int) ≤ j := by omega
  have hmI : (mask : Int) ≤ 18446744073709551615 := by omega
  have hm0 : (0 : Int) ≤ mask := by omega
  have w1 : IntKind.i64.wrap (8 * (j : Int)) = 8 * j := by simp [IntKind.wrap, IntKind.signed, IntKind.bits]; omega
  have w2 : IntKind.i64.wrap (16 + 8 * (j : Int)) = 16 + 8 * j := by simp [IntKind.wrap, IntKind.signed, IntKind.bits]; omega
  have w3 : IntKind.i64.wrap (16 + 8 * (j : Int) + 4) = 16 + 8 * j + 4 := by simp [IntKind.wrap, IntKind.signed, IntKind.bits]; omega
  have HL := Lib.hid hL; have K1 := Lib.hid k1
  clear hL k1 bx h h1 hj hmk hvl hl
  generalize l ++ loadS (16 + 8 * j + 4) (mask / 4294967296) = L at *
  go_enter Try.func91, Try.ntmps91
  go_upto_region 1 with fail
  rw [← eW]
  clear eW
  go_wp2_with fail
  refine HL.out.mono ?_
  rintro e w2 hq
  obtain ⟨rfl, hq3⟩ := hq.keep K1.out
  have HQ := Lib.hid hq3
  clear hq hq3
  go_wp2_with fail
  go_end0
  exact ⟨rfl, HQ.out⟩
set_option maxRecDepth 100000 in
theorem wmLower (b B : Nat) (u : World) (l : List Stp) (n : Int) (v : Value) (kind : Int) (ka : Option Addr) (kn kc j mask : Nat) (sign : ByteArray) (value : Nat) (h : Mk b u B l n v) (hj : j ≤ 5) (hmk : mask ≤ 18446744073709551615) (hvl : value ≤ 18446744073709551615) (hl : l.length ≤ 999980) :
    Calls Try.prog 93 #[.pointer (some ⟨B, 0, none⟩), .agg #[.int .i64 kind, .slice ka kn kc, .int .i64 (j : Nat), .int .u64 (mask : Nat), .string sign, .int .u64 (value : Nat)]] u (MkPost b B v u (l ++ loadS (16 + 8 * j) (mask % 4294967296)) n) := by
  obtain ⟨u1, eW, h1, k1, bx⟩ := h.box (.cells #[.int .i64 kind, .slice ka kn kc, .int .i64 (j : Nat), .int .u64 (mask : Nat), .string sign, .int .u64 (value : Nat)] 31)
  have hL := wmLoad b B u1 l n v (16 + 8 * j) (mask % 4294967296) h1 (by omega) (by omega) (by omega)
  rw [show ((16 + 8 * j : Nat) : Int) = 16 + 8 * (j : Int) by omega, show ((mask % 4294967296 : Nat) : Int) = (mask : Int) % 4294967296 by omega] at hL
  have c2 := below_cell (Below.refl _ _) bx.blk 2 rfl
  have c3 := below_cell (Below.refl _ _) bx.blk 3 rfl
  have hjI : (j : Int) ≤ 5 := by omega
  have hj0 : (0 : Int) ≤ j := by omega
  have hmI : (mask : Int) ≤ 18446744073709551615 := by omega
  have hm0 : (0 : Int) ≤ mask := by omega
  have w1 : IntKind.i64.wrap (8 * (j : Int)) = 8 * j := by simp [IntKind.wrap, IntKind.signed, IntKind.bits]; omega
  have w2 : IntKind.i64.wrap (16 + 8 * (j : Int)) = 16 + 8 * j := by simp [IntKind.wrap, IntKind.signed, IntKind.bits]; omega
  have w3 : IntKind.i64.wrap (16 + 8 * (j : Int) + 4) = 16 + 8 * j + 4 := by simp [IntKind.wrap, IntKind.signed, IntKind.bits]; omega
  have HL := Lib.hid hL; have K1 := Lib.hid k1
  clear hL k1 bx h h1 hj hmk hvl hl
  generalize l ++ loadS (16 + 8 * j) (mask % 4294967296) = L at *
  go_enter Try.func93, Try.ntmps93
  go_upto_region 1 with fail
  rw [← eW]
  clear eW
  go_wp2_with fail
  refine HL.out.mono ?_
  rintro e w2 hq
  obtain ⟨rfl, hq3⟩ := hq.keep K1.out
  have HQ := Lib.hid hq3
  clear hq hq3
  go_wp2_with fail
  go_end0
  exact ⟨rfl, HQ.out⟩
set_option maxRecDepth 100000 in
set_option maxHeartbeats 1000000 in
theorem wmSame (b B : Nat) (u : World) (l : List Stp) (n : Int) (v : Value) (kind : Int) (ka : Option Addr) (kn kc j mask : Nat) (sign : ByteArray) (value : Nat) (yes no : Int) (h : Mk b u B l n v) (hj : j ≤ 5) (hmk : mask ≤ 18446744073709551615) (hvl : value ≤ 18446744073709551615) (hn0 : 0 ≤ n) (hnm : n ≤ 10000000) (hyb : -9223372036854775808 ≤ yes ∧ yes ≤ 9223372036854775807) (hnb : -9223372036854775808 ≤ no ∧ no ≤ 9223372036854775807) (hl : l.length ≤ 900000) :
    Calls Try.prog 87 #[.pointer (some ⟨B, 0, none⟩), .agg #[.int .i64 kind, .slice ka kn kc, .int .i64 (j : Nat), .int .u64 (mask : Nat), .string sign, .int .u64 (value : Nat)], .int .i64 yes, .int .i64 no] u (MkPost b B v u (l ++ sameS j mask value yes no n) (n + 1)) := by
  obtain ⟨u0, eW, M0, K0, bx0⟩ := h.box (.cells #[.int .i64 kind, .slice ka kn kc, .int .i64 (j : Nat), .int .u64 (mask : Nat), .string sign, .int .u64 (value : Nat)] 31)
  have ch : ((value / 4294967296 : Nat) : Int) = (value : Int) / 4294967296 := by omega
  have cl : ((value % 4294967296 : Nat) : Int) = (value : Int) % 4294967296 := by omega
  have ll1 := load_len (16 + 8 * j + 4) (mask / 4294967296)
  have ll2 := load_len (16 + 8 * j) (mask % 4294967296)
  have HM0 := Lib.hid M0; have HK0 := Lib.hid K0; have HX0 := Lib.hid bx0; have HLL1 := Lib.hid ll1; have HLL2 := Lib.hid ll2; have HCH := Lib.hid ch; have HCL := Lib.hid cl
  have hvI : (value : Int) ≤ 18446744073709551615 := by omega
  have hv0 : (0 : Int) ≤ value := by omega
  have HJ := Lib.hid hj; have HMK := Lib.hid hmk; have HVL := Lib.hid hvl; have HN0 := Lib.hid hn0; have HNM := Lib.hid hnm; have HYB := Lib.hid hyb; have HNB := Lib.hid hnb; have HLE := Lib.hid hl
  have HL0 : Hid (l.length ≤ l.length + 0) := Lib.hid (Nat.le_refl _)
  clear M0 K0 bx0 ll1 ll2 ch cl h hj hmk hvl hn0 hnm hyb hnb hl
  go_enter Try.func87, Try.ntmps87
  go_upto_region 1 with fail
  rw [← eW]
  clear eW
  have c0 := below_cell (Below.refl _ _) HX0.out.blk 0 rfl
  have c1 := below_cell (Below.refl _ _) HX0.out.blk 1 rfl
  have c2 := below_cell (Below.refl _ _) HX0.out.blk 2 rfl
  have c3 := below_cell (Below.refl _ _) HX0.out.blk 3 rfl
  have c4 := below_cell (Below.refl _ _) HX0.out.blk 4 rfl
  have c5 := below_cell (Below.refl _ _) HX0.out.blk 5 rfl
  go_wp2_with fail
  refine (wmLabel b B u0 l (n) v HM0.out (by have := HN0.out; omega) (by have := HNM.out; omega)).mono ?_
  rintro e u1 ⟨rfl, M1, K1⟩
  have HM1 := Lib.hid M1; have HK1 := Lib.hid (HK0.out.trans K1); have HX1 := Lib.hid (HX0.out.keep K1); have HL1 := HL0
  clear M1 K1
  clear c0 c1 c2 c3 c4 c5
  have c0 := below_cell (Below.refl _ _) HX1.out.blk 0 rfl
  have c1 := below_cell (Below.refl _ _) HX1.out.blk 1 rfl
  have c2 := below_cell (Below.refl _ _) HX1.out.blk 2 rfl
  have c3 := below_cell (Below.refl _ _) HX1.out.blk 3 rfl
  have c4 := below_cell (Below.refl _ _) HX1.out.blk 4 rfl
  have c5 := below_cell (Below.refl _ _) HX1.out.blk 5 rfl
  go_wp2_with fail
  refine (wmHigher b B u1 l (n + 1) v kind ka kn kc j mask sign value HM1.out HJ.out HMK.out HVL.out (by have := HL1.out; have := HLE.out; omega)).mono ?_
  rintro e u2 ⟨rfl, v2, M2, K2⟩
  have HL2 : Hid ((l ++ loadS (16 + 8 * j + 4) (mask / 4294967296)).length ≤ l.length + 2) := Lib.hid (by rw [List.length_append]; have := HL1.out; have := HLL1.out; (try simp only [List.length_cons, List.length_nil]); omega)
  have HM2 := Lib.hid M2; have HK2 := Lib.hid (HK1.out.trans K2); have HX2 := Lib.hid (HX1.out.keep K2)
  clear M2 K2
  generalize eL2 : l ++ loadS (16 + 8 * j + 4) (mask / 4294967296) = L2 at *
  have HE2 := Lib.hid eL2
  clear eL2
  clear c0 c1 c2 c3 c4 c5
  have c0 := below_cell (Below.refl _ _) HX2.out.blk 0 rfl
  have c1 := below_cell (Below.refl _ _) HX2.out.blk 1 rfl
  have c2 := below_cell (Below.refl _ _) HX2.out.blk 2 rfl
  have c3 := below_cell (Below.refl _ _) HX2.out.blk 3 rfl
  have c4 := below_cell (Below.refl _ _) HX2.out.blk 4 rfl
  have c5 := below_cell (Below.refl _ _) HX2.out.blk 5 rfl
  go_wp2_with fail
  have hj2 := wmJump b B u2 L2 (n + 1) v2 (3) (value / 4294967296) (n) (no) HM2.out (stp_bnd (by omega) (by have := HVL.out; omega) (by have := HYB.out; have := HNB.out; have := HN0.out; have := HNM.out; omega) (by have := HYB.out; have := HNB.out; have := HN0.out; have := HNM.out; omega)) (by have := HL2.out; have := HLE.out; omega)
  rw [HCH.out] at hj2
  refine hj2.mono ?_
  rintro e u3 ⟨rfl, v3, M3, K3⟩
  clear hj2
  have HL3 : Hid ((L2 ++ [(⟨3, value / 4294967296, n, no⟩ : Stp)]).length ≤ l.length + 3) := Lib.hid (by rw [List.length_append]; have := HL2.out; (try simp only [List.length_cons, List.length_nil]); omega)
  have HM3 := Lib.hid M3; have HK3 := Lib.hid (HK2.out.trans K3); have HX3 := Lib.hid (HX2.out.keep K3)
  clear M3 K3
  generalize eL3 : L2 ++ [(⟨3, value / 4294967296, n, no⟩ : Stp)] = L3 at *
  have HE3 := Lib.hid eL3
  clear eL3
  clear c0 c1 c2 c3 c4 c5
  have c0 := below_cell (Below.refl _ _) HX3.out.blk 0 rfl
  have c1 := below_cell (Below.refl _ _) HX3.out.blk 1 rfl
  have c2 := below_cell (Below.refl _ _) HX3.out.blk 2 rfl
  have c3 := below_cell (Below.refl _ _) HX3.out.blk 3 rfl
  have c4 := below_cell (Below.refl _ _) HX3.out.blk 4 rfl
  have c5 := below_cell (Below.refl _ _) HX3.out.blk 5 rfl
  go_wp2_with fail
  refine (wmHere b B u3 L3 (n + 1) v3 (n) HM3.out (by have := HN0.out; have := HNM.out; omega) (by have := HL3.out; have := HLE.out; omega)).mono ?_
  rintro e u4 ⟨rfl, v4, M4, K4⟩
  have HL4 : Hid ((L3 ++ [stL (n)]).length ≤ l.length + 4) := Lib.hid (by rw [List.length_append]; have := HL3.out; (try simp only [List.length_cons, List.length_nil]); omega)
  have HM4 := Lib.hid M4; have HK4 := Lib.hid (HK3.out.trans K4); have HX4 := Lib.hid (HX3.out.keep K4)
  clear M4 K4
  generalize eL4 : L3 ++ [stL (n)] = L4 at *
  have HE4 := Lib.hid eL4
  clear eL4
  clear c0 c1 c2 c3 c4 c5
  have c0 := below_cell (Below.refl _ _) HX4.out.blk 0 rfl
  have c1 := below_cell (Below.refl _ _) HX4.out.blk 1 rfl
  have c2 := below_cell (Below.refl _ _) HX4.out.blk 2 rfl
  have c3 := below_cell (Below.refl _ _) HX4.out.blk 3 rfl
  have c4 := below_cell (Below.refl _ _) HX4.out.blk 4 rfl
  have c5 := below_cell (Below.refl _ _) HX4.out.blk 5 rfl
  go_wp2_with fail
  refine (wmLower b B u4 L4 (n + 1) v4 kind ka kn kc j mask sign value HM4.out HJ.out HMK.out HVL.out (by have := HL4.out; have := HLE.out; omega)).mono ?_
  rintro e u5 ⟨rfl, v5, M5, K5⟩
  have HL5 : Hid ((L4 ++ loadS (16 + 8 * j) (mask % 4294967296)).length ≤ l.length + 6) := Lib.hid (by rw [List.length_append]; have := HL4.out; have := HLL2.out; (try simp only [List.length_cons, List.length_nil]); omega)
  have HM5 := Lib.hid M5; have HK5 := Lib.hid (HK4.out.trans K5); have HX5 := Lib.hid (HX4.out.keep K5)
  clear M5 K5
  generalize eL5 : L4 ++ loadS (16 + 8 * j) (mask % 4294967296) = L5 at *
  have HE5 := Lib.hid eL5
  clear eL5
  clear c0 c1 c2 c3 c4 c5
  have c0 := below_cell (Below.refl _ _) HX5.out.blk 0 rfl
  have c1 := below_cell (Below.refl _ _) HX5.out.blk 1 rfl
  have c2 := below_cell (Below.refl _ _) HX5.out.blk 2 rfl
  have c3 := below_cell (Below.refl _ _) HX5.out.blk 3 rfl
  have c4 := below_cell (Below.refl _ _) HX5.out.blk 4 rfl
  have c5 := below_cell (Below.refl _ _) HX5.out.blk 5 rfl
  go_wp2_with fail
  have hj5 := wmJump b B u5 L5 (n + 1) v5 (3) (value % 4294967296) (yes) (no) HM5.out (stp_bnd (by omega) (by have := HVL.out; omega) (by have := HYB.out; have := HNB.out; have := HN0.out; have := HNM.out; omega) (by have := HYB.out; have := HNB.out; have := HN0.out; have := HNM.out; omega)) (by have := HL5.out; have := HLE.out; omega)
  rw [HCL.out] at hj5
  refine hj5.mono ?_
  rintro e u6 ⟨rfl, v6, M6, K6⟩
  clear hj5
  have HL6 : Hid ((L5 ++ [(⟨3, value % 4294967296, yes, no⟩ : Stp)]).length ≤ l.length + 7) := Lib.hid (by rw [List.length_append]; have := HL5.out; (try simp only [List.length_cons, List.length_nil]); omega)
  have HM6 := Lib.hid M6; have HK6 := Lib.hid (HK5.out.trans K6); have HX6 := Lib.hid (HX5.out.keep K6)
  clear M6 K6
  generalize eL6 : L5 ++ [(⟨3, value % 4294967296, yes, no⟩ : Stp)] = L6 at *
  have HE6 := Lib.hid eL6
  clear eL6
  clear c0 c1 c2 c3 c4 c5
  have c0 := below_cell (Below.refl _ _) HX6.out.blk 0 rfl
  have c1 := below_cell (Below.refl _ _) HX6.out.blk 1 rfl
  have c2 := below_cell (Below.refl _ _) HX6.out.blk 2 rfl
  have c3 := below_cell (Below.refl _ _) HX6.out.blk 3 rfl
  have c4 := below_cell (Below.refl _ _) HX6.out.blk 4 rfl
  have c5 := below_cell (Below.refl _ _) HX6.out.blk 5 rfl
  have hfin : L6 = l ++ sameS j mask value yes no n := by rw [← HE6.out, ← HE5.out, ← HE4.out, ← HE3.out, ← HE2.out]; simp [sameS, stL]
  rw [hfin] at HM6
  clear hfin
  go_wp2_with fail
  go_end0
  refine ⟨rfl, v6, ?_, HK6.out⟩
  have hf := HM6.out
  skip
  exact hf
set_option maxRecDepth 100000 in
set_option maxHeartbeats 1000000 in
theorem wmGreat (b B : Nat) (u : World) (l : List Stp) (n : Int) (v : Value) (kind : Int) (ka : Option Addr) (kn kc j mask : Nat) (sign : ByteArray) (value : Nat) (kd yes no : Int) (hkd : kd = 4 ∨ kd = 5) (h : Mk b u B l n v) (hj : j ≤ 5) (hmk : mask ≤ 18446744073709551615) (hvl : value ≤ 18446744073709551615) (hn0 : 0 ≤ n) (hnm : n ≤ 10000000) (hyb : -9223372036854775808 ≤ yes ∧ yes ≤ 9223372036854775807) (hnb : -9223372036854775808 ≤ no ∧ no ≤ 9223372036854775807) (hl : l.length ≤ 900000) :
    Calls Try.prog 94 #[.pointer (some ⟨B, 0, none⟩), .agg #[.int .i64 kind, .slice ka kn kc, .int .i64 (j : Nat), .int .u64 (mask : Nat), .string sign, .int .u64 (value : Nat)], .int .i64 kd, .int .i64 yes, .int .i64 no] u (MkPost b B v u (l ++ greatS kd j mask value yes no n) (n + 2)) := by
  obtain ⟨u0, eW, M0, K0, bx0⟩ := h.box (.cells #[.int .i64 kind, .slice ka kn kc, .int .i64 (j : Nat), .int .u64 (mask : Nat), .string sign, .int .u64 (value : Nat)] 31)
  have ch : ((value / 4294967296 : Nat) : Int) = (value : Int) / 4294967296 := by omega
  have cl : ((value % 4294967296 : Nat) : Int) = (value : Int) % 4294967296 := by omega
  have ll1 := load_len (16 + 8 * j + 4) (mask / 4294967296)
  have ll2 := load_len (16 + 8 * j) (mask % 4294967296)
  have HKD := Lib.hid hkd
  clear hkd
  have HM0 := Lib.hid M0; have HK0 := Lib.hid K0; have HX0 := Lib.hid bx0; have HLL1 := Lib.hid ll1; have HLL2 := Lib.hid ll2; have HCH := Lib.hid ch; have HCL := Lib.hid cl
  have hvI : (value : Int) ≤ 18446744073709551615 := by omega
  have hv0 : (0 : Int) ≤ value := by omega
  have HJ := Lib.hid hj; have HMK := Lib.hid hmk; have HVL := Lib.hid hvl; have HN0 := Lib.hid hn0; have HNM := Lib.hid hnm; have HYB := Lib.hid hyb; have HNB := Lib.hid hnb; have HLE := Lib.hid hl
  have HL0 : Hid (l.length ≤ l.length + 0) := Lib.hid (Nat.le_refl _)
  clear M0 K0 bx0 ll1 ll2 ch cl h hj hmk hvl hn0 hnm hyb hnb hl
  go_enter Try.func94, Try.ntmps94
  go_upto_region 1 with fail
  rw [← eW]
  clear eW
  have c0 := below_cell (Below.refl _ _) HX0.out.blk 0 rfl
  have c1 := below_cell (Below.refl _ _) HX0.out.blk 1 rfl
  have c2 := below_cell (Below.refl _ _) HX0.out.blk 2 rfl
  have c3 := below_cell (Below.refl _ _) HX0.out.blk 3 rfl
  have c4 := below_cell (Below.refl _ _) HX0.out.blk 4 rfl
  have c5 := below_cell (Below.refl _ _) HX0.out.blk 5 rfl
  go_wp2_with fail
  refine (wmLabel b B u0 l (n) v HM0.out (by have := HN0.out; omega) (by have := HNM.out; omega)).mono ?_
  rintro e u1 ⟨rfl, M1, K1⟩
  have HM1 := Lib.hid M1; have HK1 := Lib.hid (HK0.out.trans K1); have HX1 := Lib.hid (HX0.out.keep K1); have HL1 := HL0
  clear M1 K1
  clear c0 c1 c2 c3 c4 c5
  have c0 := below_cell (Below.refl _ _) HX1.out.blk 0 rfl
  have c1 := below_cell (Below.refl _ _) HX1.out.blk 1 rfl
  have c2 := below_cell (Below.refl _ _) HX1.out.blk 2 rfl
  have c3 := below_cell (Below.refl _ _) HX1.out.blk 3 rfl
  have c4 := below_cell (Below.refl _ _) HX1.out.blk 4 rfl
  have c5 := below_cell (Below.refl _ _) HX1.out.blk 5 rfl
  go_wp2_with fail
  refine (wmLabel b B u1 l (n + 1) v HM1.out (by have := HN0.out; omega) (by have := HNM.out; omega)).mono ?_
  rintro e u2 ⟨rfl, M2, K2⟩
  have HM2 := Lib.hid M2; have HK2 := Lib.hid (HK1.out.trans K2); have HX2 := Lib.hid (HX1.out.keep K2); have HL2 := HL1
  clear M2 K2
  clear c0 c1 c2 c3 c4 c5
  have c0 := below_cell (Below.refl _ _) HX2.out.blk 0 rfl
  have c1 := below_cell (Below.refl _ _) HX2.out.blk 1 rfl
  have c2 := below_cell (Below.refl _ _) HX2.out.blk 2 rfl
  have c3 := below_cell (Below.refl _ _) HX2.out.blk 3 rfl
  have c4 := below_cell (Below.refl _ _) HX2.out.blk 4 rfl
  have c5 := below_cell (Below.refl _ _) HX2.out.blk 5 rfl
  go_wp2_with fail
  refine (wmHigher b B u2 l (n + 1 + 1) v kind ka kn kc j mask sign value HM2.out HJ.out HMK.out HVL.out (by have := HL2.out; have := HLE.out; omega)).mono ?_
  rintro e u3 ⟨rfl, v3, M3, K3⟩
  have HL3 : Hid ((l ++ loadS (16 + 8 * j + 4) (mask / 4294967296)).length ≤ l.length + 2) := Lib.hid (by rw [List.length_append]; have := HL2.out; have := HLL1.out; (try simp only [List.length_cons, List.length_nil]); omega)
  have HM3 := Lib.hid M3; have HK3 := Lib.hid (HK2.out.trans K3); have HX3 := Lib.hid (HX2.out.keep K3)
  clear M3 K3
  generalize eL3 : l ++ loadS (16 + 8 * j + 4) (mask / 4294967296) = L3 at *
  have HE3 := Lib.hid eL3
  clear eL3
  clear c0 c1 c2 c3 c4 c5
  have c0 := below_cell (Below.refl _ _) HX3.out.blk 0 rfl
  have c1 := below_cell (Below.refl _ _) HX3.out.blk 1 rfl
  have c2 := below_cell (Below.refl _ _) HX3.out.blk 2 rfl
  have c3 := below_cell (Below.refl _ _) HX3.out.blk 3 rfl
  have c4 := below_cell (Below.refl _ _) HX3.out.blk 4 rfl
  have c5 := below_cell (Below.refl _ _) HX3.out.blk 5 rfl
  go_wp2_with fail
  have hj3 := wmJump b B u3 L3 (n + 1 + 1) v3 (4) (value / 4294967296) (yes) (n) HM3.out (stp_bnd (by omega) (by have := HVL.out; omega) (by have := HYB.out; have := HNB.out; have := HN0.out; have := HNM.out; omega) (by have := HYB.out; have := HNB.out; have := HN0.out; have := HNM.out; omega)) (by have := HL3.out; have := HLE.out; omega)
  rw [HCH.out] at hj3
  refine hj3.mono ?_
  rintro e u4 ⟨rfl, v4, M4, K4⟩
  clear hj3
  have HL4 : Hid ((L3 ++ [(⟨4, value / 4294967296, yes, n⟩ : Stp)]).length ≤ l.length + 3) := Lib.hid (by rw [List.length_append]; have := HL3.out; (try simp only [List.length_cons, List.length_nil]); omega)
  have HM4 := Lib.hid M4; have HK4 := Lib.hid (HK3.out.trans K4); have HX4 := Lib.hid (HX3.out.keep K4)
  clear M4 K4
  generalize eL4 : L3 ++ [(⟨4, value / 4294967296, yes, n⟩ : Stp)] = L4 at *
  have HE4 := Lib.hid eL4
  clear eL4
  clear c0 c1 c2 c3 c4 c5
  have c0 := below_cell (Below.refl _ _) HX4.out.blk 0 rfl
  have c1 := below_cell (Below.refl _ _) HX4.out.blk 1 rfl
  have c2 := below_cell (Below.refl _ _) HX4.out.blk 2 rfl
  have c3 := below_cell (Below.refl _ _) HX4.out.blk 3 rfl
  have c4 := below_cell (Below.refl _ _) HX4.out.blk 4 rfl
  have c5 := below_cell (Below.refl _ _) HX4.out.blk 5 rfl
  go_wp2_with fail
  refine (wmHere b B u4 L4 (n + 1 + 1) v4 (n) HM4.out (by have := HN0.out; have := HNM.out; omega) (by have := HL4.out; have := HLE.out; omega)).mono ?_
  rintro e u5 ⟨rfl, v5, M5, K5⟩
  have HL5 : Hid ((L4 ++ [stL (n)]).length ≤ l.length + 4) := Lib.hid (by rw [List.length_append]; have := HL4.out; (try simp only [List.length_cons, List.length_nil]); omega)
  have HM5 := Lib.hid M5; have HK5 := Lib.hid (HK4.out.trans K5); have HX5 := Lib.hid (HX4.out.keep K5)
  clear M5 K5
  generalize eL5 : L4 ++ [stL (n)] = L5 at *
  have HE5 := Lib.hid eL5
  clear eL5
  clear c0 c1 c2 c3 c4 c5
  have c0 := below_cell (Below.refl _ _) HX5.out.blk 0 rfl
  have c1 := below_cell (Below.refl _ _) HX5.out.blk 1 rfl
  have c2 := below_cell (Below.refl _ _) HX5.out.blk 2 rfl
  have c3 := below_cell (Below.refl _ _) HX5.out.blk 3 rfl
  have c4 := below_cell (Below.refl _ _) HX5.out.blk 4 rfl
  have c5 := below_cell (Below.refl _ _) HX5.out.blk 5 rfl
  go_wp2_with fail
  have hj5 := wmJump b B u5 L5 (n + 1 + 1) v5 (3) (value / 4294967296) (n + 1) (no) HM5.out (stp_bnd (by omega) (by have := HVL.out; omega) (by have := HYB.out; have := HNB.out; have := HN0.out; have := HNM.out; omega) (by have := HYB.out; have := HNB.out; have := HN0.out; have := HNM.out; omega)) (by have := HL5.out; have := HLE.out; omega)
  rw [HCH.out] at hj5
  refine hj5.mono ?_
  rintro e u6 ⟨rfl, v6, M6, K6⟩
  clear hj5
  have HL6 : Hid ((L5 ++ [(⟨3, value / 4294967296, n + 1, no⟩ : Stp)]).length ≤ l.length + 5) := Lib.hid (by rw [List.length_append]; have := HL5.out; (try simp only [List.length_cons, List.length_nil]); omega)
  have HM6 := Lib.hid M6; have HK6 := Lib.hid (HK5.out.trans K6); have HX6 := Lib.hid (HX5.out.keep K6)
  clear M6 K6
  generalize eL6 : L5 ++ [(⟨3, value / 4294967296, n + 1, no⟩ : Stp)] = L6 at *
  have HE6 := Lib.hid eL6
  clear eL6
  clear c0 c1 c2 c3 c4 c5
  have c0 := below_cell (Below.refl _ _) HX6.out.blk 0 rfl
  have c1 := below_cell (Below.refl _ _) HX6.out.blk 1 rfl
  have c2 := below_cell (Below.refl _ _) HX6.out.blk 2 rfl
  have c3 := below_cell (Below.refl _ _) HX6.out.blk 3 rfl
  have c4 := below_cell (Below.refl _ _) HX6.out.blk 4 rfl
  have c5 := below_cell (Below.refl _ _) HX6.out.blk 5 rfl
  go_wp2_with fail
  refine (wmHere b B u6 L6 (n + 1 + 1) v6 (n + 1) HM6.out (by have := HN0.out; have := HNM.out; omega) (by have := HL6.out; have := HLE.out; omega)).mono ?_
  rintro e u7 ⟨rfl, v7, M7, K7⟩
  have HL7 : Hid ((L6 ++ [stL (n + 1)]).length ≤ l.length + 6) := Lib.hid (by rw [List.length_append]; have := HL6.out; (try simp only [List.length_cons, List.length_nil]); omega)
  have HM7 := Lib.hid M7; have HK7 := Lib.hid (HK6.out.trans K7); have HX7 := Lib.hid (HX6.out.keep K7)
  clear M7 K7
  generalize eL7 : L6 ++ [stL (n + 1)] = L7 at *
  have HE7 := Lib.hid eL7
  clear eL7
  clear c0 c1 c2 c3 c4 c5
  have c0 := below_cell (Below.refl _ _) HX7.out.blk 0 rfl
  have c1 := below_cell (Below.refl _ _) HX7.out.blk 1 rfl
  have c2 := below_cell (Below.refl _ _) HX7.out.blk 2 rfl
  have c3 := below_cell (Below.refl _ _) HX7.out.blk 3 rfl
  have c4 := below_cell (Below.refl _ _) HX7.out.blk 4 rfl
  have c5 := below_cell (Below.refl _ _) HX7.out.blk 5 rfl
  go_wp2_with fail
  refine (wmLower b B u7 L7 (n + 1 + 1) v7 kind ka kn kc j mask sign value HM7.out HJ.out HMK.out HVL.out (by have := HL7.out; have := HLE.out; omega)).mono ?_
  rintro e u8 ⟨rfl, v8, M8, K8⟩
  have HL8 : Hid ((L7 ++ loadS (16 + 8 * j) (mask % 4294967296)).length ≤ l.length + 8) := Lib.hid (by rw [List.length_append]; have := HL7.out; have := HLL2.out; (try simp only [List.length_cons, List.length_nil]); omega)
  have HM8 := Lib.hid M8; have HK8 := Lib.hid (HK7.out.trans K8); have HX8 := Lib.hid (HX7.out.keep K8)
  clear M8 K8
  generalize eL8 : L7 ++ loadS (16 + 8 * j) (mask % 4294967296) = L8 at *
  have HE8 := Lib.hid eL8
  clear eL8
  clear c0 c1 c2 c3 c4 c5
  have c0 := below_cell (Below.refl _ _) HX8.out.blk 0 rfl
  have c1 := below_cell (Below.refl _ _) HX8.out.blk 1 rfl
  have c2 := below_cell (Below.refl _ _) HX8.out.blk 2 rfl
  have c3 := below_cell (Below.refl _ _) HX8.out.blk 3 rfl
  have c4 := below_cell (Below.refl _ _) HX8.out.blk 4 rfl
  have c5 := below_cell (Below.refl _ _) HX8.out.blk 5 rfl
  go_wp2_with fail
  have hj8 := wmJump b B u8 L8 (n + 1 + 1) v8 (kd) (value % 4294967296) (yes) (no) HM8.out (stp_bnd (by have := HKD.out; omega) (by have := HVL.out; omega) (by have := HYB.out; have := HNB.out; have := HN0.out; have := HNM.out; omega) (by have := HYB.out; have := HNB.out; have := HN0.out; have := HNM.out; omega)) (by have := HL8.out; have := HLE.out; omega)
  rw [HCL.out] at hj8
  refine hj8.mono ?_
  rintro e u9 ⟨rfl, v9, M9, K9⟩
  clear hj8
  have HL9 : Hid ((L8 ++ [(⟨kd, value % 4294967296, yes, no⟩ : Stp)]).length ≤ l.length + 9) := Lib.hid (by rw [List.length_append]; have := HL8.out; (try simp only [List.length_cons, List.length_nil]); omega)
  have HM9 := Lib.hid M9; have HK9 := Lib.hid (HK8.out.trans K9); have HX9 := Lib.hid (HX8.out.keep K9)
  clear M9 K9
  generalize eL9 : L8 ++ [(⟨kd, value % 4294967296, yes, no⟩ : Stp)] = L9 at *
  have HE9 := Lib.hid eL9
  clear eL9
  clear c0 c1 c2 c3 c4 c5
  have c0 := below_cell (Below.refl _ _) HX9.out.blk 0 rfl
  have c1 := below_cell (Below.refl _ _) HX9.out.blk 1 rfl
  have c2 := below_cell (Below.refl _ _) HX9.out.blk 2 rfl
  have c3 := below_cell (Below.refl _ _) HX9.out.blk 3 rfl
  have c4 := below_cell (Below.refl _ _) HX9.out.blk 4 rfl
  have c5 := below_cell (Below.refl _ _) HX9.out.blk 5 rfl
  have hfin : L9 = l ++ greatS kd j mask value yes no n := by rw [← HE9.out, ← HE8.out, ← HE7.out, ← HE6.out, ← HE5.out, ← HE4.out, ← HE3.out]; simp [greatS, stL]
  rw [hfin] at HM9
  clear hfin
  go_wp2_with fail
  go_end0
  refine ⟨rfl, v9, ?_, HK9.out⟩
  have hf := HM9.out
  rw [show n + 2 = n + 1 + 1 by omega]
  exact hf
end Go.Proofs.Ytcejhfpdajbdcaa
