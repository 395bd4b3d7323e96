/- Wm3, Wm4, Wm5, Wm6, in one text. -/
import Derived.Test.YtcejhfpdajbdcaaWm2
import Derived.Test.YtcejhfpdajbdcaaRef16F
namespace Go.Proofs.Ytcejhfpdajbdcaa
section SWm3
open Go.RowKit Go.ChangeShapes
set_option linter.unusedVariables false

theorem wrap32 (m : Nat) : IntKind.u32.wrap (m : Int) = ((m % 4294967296 : Nat) : Int) := by simp [IntKind.wrap, IntKind.signed, IntKind.bits]
set_option maxRecDepth 100000 in
theorem wmHigher (b B : Nat) (u : World) (l : List Stp) (n : Int) (v : Value) (kind : Int) (ka : Option Addr) (kn kc j mask : Nat) (sign : ByteArray) (value : Nat) (h : Mk b u B l n v) (hj : j ≤ 5) (hmk : mask ≤ 18446744073709551615) (hvl : value ≤ 18446744073709551615) (hl : l.length ≤ 999980) :
    Calls Try.prog 91 #[.pointer (some ⟨B, 0, none⟩), .agg #[.int .i64 kind, .slice ka kn kc, .int .i64 (j : Nat), .int .u64 (mask : Nat), .string sign, .int .u64 (value : Nat)]] u (MkPost b B v u (l ++ loadS (16 + 8 * j + 4) (mask / 4294967296)) n) := by
  obtain ⟨u1, eW, h1, k1, bx⟩ := h.box (.cells #[.int .i64 kind, .slice ka kn kc, .int .i64 (j : Nat), .int .u64 (mask : Nat), .string sign, .int .u64 (value : Nat)] 31)
  have hL := wmLoad b B u1 l n v (16 + 8 * j + 4) (mask / 4294967296) h1 (by omega) (by omega) (by omega)
  rw [show ((16 + 8 * j + 4 : Nat) : Int) = 16 + 8 * (j : Int) + 4 by omega, show ((mask / 4294967296 : Nat) : Int) = (mask : Int) / 4294967296 by omega] at hL
  have c2 := below_cell (Below.refl _ _) bx.blk 2 rfl
  have c3 := below_cell (Below.refl _ _) bx.blk 3 rfl
  have hjI : (j : Int) ≤ 5 := by omega
  have hj0 : (0 : Int) ≤ j := by omega
  have hmI : (mask : Int) ≤ 18446744073709551615 := by omega
  have hm0 : (0 : Int) ≤ mask := by omega
  have w1 : IntKind.i64.wrap (8 * (j : Int)) = 8 * j := by simp [IntKind.wrap, IntKind.signed, IntKind.bits]; omega
  have w2 : IntKind.i64.wrap (16 + 8 * (j : Int)) = 16 + 8 * j := by simp [IntKind.wrap, IntKind.signed, IntKind.bits]; omega
  have w3 : IntKind.i64.wrap (16 + 8 * (j : Int) + 4) = 16 + 8 * j + 4 := by simp [IntKind.wrap, IntKind.signed, IntKind.bits]; omega
  have HL := Lib.hid hL; have K1 := Lib.hid k1
  clear hL k1 bx h h1 hj hmk hvl hl
  generalize l ++ loadS (16 + 8 * j + 4) (mask / 4294967296) = L at *
  go_enter Try.func91, Try.ntmps91
  go_upto_region 1 with fail
  rw [← eW]
  clear eW
  go_wp2_with fail
  refine HL.out.mono ?_
  rintro e w2 hq
  obtain ⟨rfl, hq3⟩ := hq.keep K1.out
  have HQ := Lib.hid hq3
  clear hq hq3
  go_wp2_with fail
  go_end0
  exact ⟨rfl, HQ.out⟩
set_option maxRecDepth 100000 in
theorem wmLower (b B : Nat) (u : World) (l : List Stp) (n : Int) (v : Value) (kind : Int) (ka : Option Addr) (kn kc j mask : Nat) (sign : ByteArray) (value : Nat) (h : Mk b u B l n v) (hj : j ≤ 5) (hmk : mask ≤ 18446744073709551615) (hvl : value ≤ 18446744073709551615) (hl : l.length ≤ 999980) :
    Calls Try.prog 93 #[.pointer (some ⟨B, 0, none⟩), .agg #[.int .i64 kind, .slice ka kn kc, .int .i64 (j : Nat), .int .u64 (mask : Nat), .string sign, .int .u64 (value : Nat)]] u (MkPost b B v u (l ++ loadS (16 + 8 * j) (mask % 4294967296)) n) := by
  obtain ⟨u1, eW, h1, k1, bx⟩ := h.box (.cells #[.int .i64 kind, .slice ka kn kc, .int .i64 (j : Nat), .int .u64 (mask : Nat), .string sign, .int .u64 (value : Nat)] 31)
  have hL := wmLoad b B u1 l n v (16 + 8 * j) (mask % 4294967296) h1 (by omega) (by omega) (by omega)
  rw [show ((16 + 8 * j : Nat) : Int) = 16 + 8 * (j : Int) by omega, show ((mask % 4294967296 : Nat) : Int) = (mask : Int) % 4294967296 by omega] at hL
  have c2 := below_cell (Below.refl _ _) bx.blk 2 rfl
  have c3 := below_cell (Below.refl _ _) bx.blk 3 rfl
  have hjI : (j : Int) ≤ 5 := by omega
  have hj0 : (0 : Int) ≤ j := by omega
  have hmI : (mask : Int) ≤ 18446744073709551615 := by omega
  have hm0 : (0 : Int) ≤ mask := by omega
  have w1 : IntKind.i64.wrap (8 * (j : Int)) = 8 * j := by simp [IntKind.wrap, IntKind.signed, IntKind.bits]; omega
  have w2 : IntKind.i64.wrap (16 + 8 * (j : Int)) = 16 + 8 * j := by simp [IntKind.wrap, IntKind.signed, IntKind.bits]; omega
  have w3 : IntKind.i64.wrap (16 + 8 * (j : Int) + 4) = 16 + 8 * j + 4 := by simp [IntKind.wrap, IntKind.signed, IntKind.bits]; omega
  have HL := Lib.hid hL; have K1 := Lib.hid k1
  clear hL k1 bx h h1 hj hmk hvl hl
  generalize l ++ loadS (16 + 8 * j) (mask % 4294967296) = L at *
  go_enter Try.func93, Try.ntmps93
  go_upto_region 1 with fail
  rw [← eW]
  clear eW
  go_wp2_with fail
  refine HL.out.mono ?_
  rintro e w2 hq
  obtain ⟨rfl, hq3⟩ := hq.keep K1.out
  have HQ := Lib.hid hq3
  clear hq hq3
  go_wp2_with fail
  go_end0
  exact ⟨rfl, HQ.out⟩
set_option maxRecDepth 100000 in
set_option maxHeartbeats 1000000 in
theorem wmSame (b B : Nat) (u : World) (l : List Stp) (n : Int) (v : Value) (kind : Int) (ka : Option Addr) (kn kc j mask : Nat) (sign : ByteArray) (value : Nat) (yes no : Int) (h : Mk b u B l n v) (hj : j ≤ 5) (hmk : mask ≤ 18446744073709551615) (hvl : value ≤ 18446744073709551615) (hn0 : 0 ≤ n) (hnm : n ≤ 10000000) (hyb : -9223372036854775808 ≤ yes ∧ yes ≤ 9223372036854775807) (hnb : -9223372036854775808 ≤ no ∧ no ≤ 9223372036854775807) (hl : l.length ≤ 900000) :
    Calls Try.prog 87 #[.pointer (some ⟨B, 0, none⟩), .agg #[.int .i64 kind, .slice ka kn kc, .int .i64 (j : Nat), .int .u64 (mask : Nat), .string sign, .int .u64 (value : Nat)], .int .i64 yes, .int .i64 no] u (MkPost b B v u (l ++ sameS j mask value yes no n) (n + 1)) := by
  obtain ⟨u0, eW, M0, K0, bx0⟩ := h.box (.cells #[.int .i64 kind, .slice ka kn kc, .int .i64 (j : Nat), .int .u64 (mask : Nat), .string sign, .int .u64 (value : Nat)] 31)
  have ch : ((value / 4294967296 : Nat) : Int) = (value : Int) / 4294967296 := by omega
  have cl : ((value % 4294967296 : Nat) : Int) = (value : Int) % 4294967296 := by omega
  have ll1 := load_len (16 + 8 * j + 4) (mask / 4294967296)
  have ll2 := load_len (16 + 8 * j) (mask % 4294967296)
  have HM0 := Lib.hid M0; have HK0 := Lib.hid K0; have HX0 := Lib.hid bx0; have HLL1 := Lib.hid ll1; have HLL2 := Lib.hid ll2; have HCH := Lib.hid ch; have HCL := Lib.hid cl
  have hvI : (value : Int) ≤ 18446744073709551615 := by omega
  have hv0 : (0 : Int) ≤ value := by omega
  have HJ := Lib.hid hj; have HMK := Lib.hid hmk; have HVL := Lib.hid hvl; have HN0 := Lib.hid hn0; have HNM := Lib.hid hnm; have HYB := Lib.hid hyb; have HNB := Lib.hid hnb; have HLE := Lib.hid hl
  have HL0 : Hid (l.length ≤ l.length + 0) := Lib.hid (Nat.le_refl _)
  clear M0 K0 bx0 ll1 ll2 ch cl h hj hmk hvl hn0 hnm hyb hnb hl
  go_enter Try.func87, Try.ntmps87
  go_upto_region 1 with fail
  rw [← eW]
  clear eW
  have c0 := below_cell (Below.refl _ _) HX0.out.blk 0 rfl
  have c1 := below_cell (Below.refl _ _) HX0.out.blk 1 rfl
  have c2 := below_cell (Below.refl _ _) HX0.out.blk 2 rfl
  have c3 := below_cell (Below.refl _ _) HX0.out.blk 3 rfl
  have c4 := below_cell (Below.refl _ _) HX0.out.blk 4 rfl
  have c5 := below_cell (Below.refl _ _) HX0.out.blk 5 rfl
  go_wp2_with fail
  refine (wmLabel b B u0 l (n) v HM0.out (by have := HN0.out; omega) (by have := HNM.out; omega)).mono ?_
  rintro e u1 ⟨rfl, M1, K1⟩
  have HM1 := Lib.hid M1; have HK1 := Lib.hid (HK0.out.trans K1); have HX1 := Lib.hid (HX0.out.keep K1); have HL1 := HL0
  clear M1 K1
  clear c0 c1 c2 c3 c4 c5
  have c0 := below_cell (Below.refl _ _) HX1.out.blk 0 rfl
  have c1 := below_cell (Below.refl _ _) HX1.out.blk 1 rfl
  have c2 := below_cell (Below.refl _ _) HX1.out.blk 2 rfl
  have c3 := below_cell (Below.refl _ _) HX1.out.blk 3 rfl
  have c4 := below_cell (Below.refl _ _) HX1.out.blk 4 rfl
  have c5 := below_cell (Below.refl _ _) HX1.out.blk 5 rfl
  go_wp2_with fail
  refine (wmHigher b B u1 l (n + 1) v kind ka kn kc j mask sign value HM1.out HJ.out HMK.out HVL.out (by have := HL1.out; have := HLE.out; omega)).mono ?_
  rintro e u2 ⟨rfl, v2, M2, K2⟩
  have HL2 : Hid ((l ++ loadS (16 + 8 * j + 4) (mask / 4294967296)).length ≤ l.length + 2) := Lib.hid (by rw [List.length_append]; have := HL1.out; have := HLL1.out; (try simp only [List.length_cons, List.length_nil]); omega)
  have HM2 := Lib.hid M2; have HK2 := Lib.hid (HK1.out.trans K2); have HX2 := Lib.hid (HX1.out.keep K2)
  clear M2 K2
  generalize eL2 : l ++ loadS (16 + 8 * j + 4) (mask / 4294967296) = L2 at *
  have HE2 := Lib.hid eL2
  clear eL2
  clear c0 c1 c2 c3 c4 c5
  have c0 := below_cell (Below.refl _ _) HX2.out.blk 0 rfl
  have c1 := below_cell (Below.refl _ _) HX2.out.blk 1 rfl
  have c2 := below_cell (Below.refl _ _) HX2.out.blk 2 rfl
  have c3 := below_cell (Below.refl _ _) HX2.out.blk 3 rfl
  have c4 := below_cell (Below.refl _ _) HX2.out.blk 4 rfl
  have c5 := below_cell (Below.refl _ _) HX2.out.blk 5 rfl
  go_wp2_with fail
  have hj2 := wmJump b B u2 L2 (n + 1) v2 (3) (value / 4294967296) (n) (no) HM2.out (stp_bnd (by omega) (by have := HVL.out; omega) (by have := HYB.out; have := HNB.out; have := HN0.out; have := HNM.out; omega) (by have := HYB.out; have := HNB.out; have := HN0.out; have := HNM.out; omega)) (by have := HL2.out; have := HLE.out; omega)
  rw [HCH.out] at hj2
  refine hj2.mono ?_
  rintro e u3 ⟨rfl, v3, M3, K3⟩
  clear hj2
  have HL3 : Hid ((L2 ++ [(⟨3, value / 4294967296, n, no⟩ : Stp)]).length ≤ l.length + 3) := Lib.hid (by rw [List.length_append]; have := HL2.out; (try simp only [List.length_cons, List.length_nil]); omega)
  have HM3 := Lib.hid M3; have HK3 := Lib.hid (HK2.out.trans K3); have HX3 := Lib.hid (HX2.out.keep K3)
  clear M3 K3
  generalize eL3 : L2 ++ [(⟨3, value / 4294967296, n, no⟩ : Stp)] = L3 at *
  have HE3 := Lib.hid eL3
  clear eL3
  clear c0 c1 c2 c3 c4 c5
  have c0 := below_cell (Below.refl _ _) HX3.out.blk 0 rfl
  have c1 := below_cell (Below.refl _ _) HX3.out.blk 1 rfl
  have c2 := below_cell (Below.refl _ _) HX3.out.blk 2 rfl
  have c3 := below_cell (Below.refl _ _) HX3.out.blk 3 rfl
  have c4 := below_cell (Below.refl _ _) HX3.out.blk 4 rfl
  have c5 := below_cell (Below.refl _ _) HX3.out.blk 5 rfl
  go_wp2_with fail
  refine (wmHere b B u3 L3 (n + 1) v3 (n) HM3.out (by have := HN0.out; have := HNM.out; omega) (by have := HL3.out; have := HLE.out; omega)).mono ?_
  rintro e u4 ⟨rfl, v4, M4, K4⟩
  have HL4 : Hid ((L3 ++ [stL (n)]).length ≤ l.length + 4) := Lib.hid (by rw [List.length_append]; have := HL3.out; (try simp only [List.length_cons, List.length_nil]); omega)
  have HM4 := Lib.hid M4; have HK4 := Lib.hid (HK3.out.trans K4); have HX4 := Lib.hid (HX3.out.keep K4)
  clear M4 K4
  generalize eL4 : L3 ++ [stL (n)] = L4 at *
  have HE4 := Lib.hid eL4
  clear eL4
  clear c0 c1 c2 c3 c4 c5
  have c0 := below_cell (Below.refl _ _) HX4.out.blk 0 rfl
  have c1 := below_cell (Below.refl _ _) HX4.out.blk 1 rfl
  have c2 := below_cell (Below.refl _ _) HX4.out.blk 2 rfl
  have c3 := below_cell (Below.refl _ _) HX4.out.blk 3 rfl
  have c4 := below_cell (Below.refl _ _) HX4.out.blk 4 rfl
  have c5 := below_cell (Below.refl _ _) HX4.out.blk 5 rfl
  go_wp2_with fail
  refine (wmLower b B u4 L4 (n + 1) v4 kind ka kn kc j mask sign value HM4.out HJ.out HMK.out HVL.out (by have := HL4.out; have := HLE.out; omega)).mono ?_
  rintro e u5 ⟨rfl, v5, M5, K5⟩
  have HL5 : Hid ((L4 ++ loadS (16 + 8 * j) (mask % 4294967296)).length ≤ l.length + 6) := Lib.hid (by rw [List.length_append]; have := HL4.out; have := HLL2.out; (try simp only [List.length_cons, List.length_nil]); omega)
  have HM5 := Lib.hid M5; have HK5 := Lib.hid (HK4.out.trans K5); have HX5 := Lib.hid (HX4.out.keep K5)
  clear M5 K5
  generalize eL5 : L4 ++ loadS (16 + 8 * j) (mask % 4294967296) = L5 at *
  have HE5 := Lib.hid eL5
  clear eL5
  clear c0 c1 c2 c3 c4 c5
  have c0 := below_cell (Below.refl _ _) HX5.out.blk 0 rfl
  have c1 := below_cell (Below.refl _ _) HX5.out.blk 1 rfl
  have c2 := below_cell (Below.refl _ _) HX5.out.blk 2 rfl
  have c3 := below_cell (Below.refl _ _) HX5.out.blk 3 rfl
  have c4 := below_cell (Below.refl _ _) HX5.out.blk 4 rfl
  have c5 := below_cell (Below.refl _ _) HX5.out.blk 5 rfl
  go_wp2_with fail
  have hj5 := wmJump b B u5 L5 (n + 1) v5 (3) (value % 4294967296) (yes) (no) HM5.out (stp_bnd (by omega) (by have := HVL.out; omega) (by have := HYB.out; have := HNB.out; have := HN0.out; have := HNM.out; omega) (by have := HYB.out; have := HNB.out; have := HN0.out; have := HNM.out; omega)) (by have := HL5.out; have := HLE.out; omega)
  rw [HCL.out] at hj5
  refine hj5.mono ?_
  rintro e u6 ⟨rfl, v6, M6, K6⟩
  clear hj5
  have HL6 : Hid ((L5 ++ [(⟨3, value % 4294967296, yes, no⟩ : Stp)]).length ≤ l.length + 7) := Lib.hid (by rw [List.length_append]; have := HL5.out; (try simp only [List.length_cons, List.length_nil]); omega)
  have HM6 := Lib.hid M6; have HK6 := Lib.hid (HK5.out.trans K6); have HX6 := Lib.hid (HX5.out.keep K6)
  clear M6 K6
  generalize eL6 : L5 ++ [(⟨3, value % 4294967296, yes, no⟩ : Stp)] = L6 at *
  have HE6 := Lib.hid eL6
  clear eL6
  clear c0 c1 c2 c3 c4 c5
  have c0 := below_cell (Below.refl _ _) HX6.out.blk 0 rfl
  have c1 := below_cell (Below.refl _ _) HX6.out.blk 1 rfl
  have c2 := below_cell (Below.refl _ _) HX6.out.blk 2 rfl
  have c3 := below_cell (Below.refl _ _) HX6.out.blk 3 rfl
  have c4 := below_cell (Below.refl _ _) HX6.out.blk 4 rfl
  have c5 := below_cell (Below.refl _ _) HX6.out.blk 5 rfl
  have hfin : L6 = l ++ sameS j mask value yes no n := by rw [← HE6.out, ← HE5.out, ← HE4.out, ← HE3.out, ← HE2.out]; simp [sameS, stL]
  rw [hfin] at HM6
  clear hfin
  go_wp2_with fail
  go_end0
  refine ⟨rfl, v6, ?_, HK6.out⟩
  have hf := HM6.out
  skip
  exact hf
set_option maxRecDepth 100000 in
set_option maxHeartbeats 1000000 in
theorem wmGreat (b B : Nat) (u : World) (l : List Stp) (n : Int) (v : Value) (kind : Int) (ka : Option Addr) (kn kc j mask : Nat) (sign : ByteArray) (value : Nat) (kd yes no : Int) (hkd : kd = 4 ∨ kd = 5) (h : Mk b u B l n v) (hj : j ≤ 5) (hmk : mask ≤ 18446744073709551615) (hvl : value ≤ 18446744073709551615) (hn0 : 0 ≤ n) (hnm : n ≤ 10000000) (hyb : -9223372036854775808 ≤ yes ∧ yes ≤ 9223372036854775807) (hnb : -9223372036854775808 ≤ no ∧ no ≤ 9223372036854775807) (hl : l.length ≤ 900000) :
    Calls Try.prog 94 #[.pointer (some ⟨B, 0, none⟩), .agg #[.int .i64 kind, .slice ka kn kc, .int .i64 (j : Nat), .int .u64 (mask : Nat), .string sign, .int .u64 (value : Nat)], .int .i64 kd, .int .i64 yes, .int .i64 no] u (MkPost b B v u (l ++ greatS kd j mask value yes no n) (n + 2)) := by
  obtain ⟨u0, eW, M0, K0, bx0⟩ := h.box (.cells #[.int .i64 kind, .slice ka kn kc, .int .i64 (j : Nat), .int .u64 (mask : Nat), .string sign, .int .u64 (value : Nat)] 31)
  have ch : ((value / 4294967296 : Nat) : Int) = (value : Int) / 4294967296 := by omega
  have cl : ((value % 4294967296 : Nat) : Int) = (value : Int) % 4294967296 := by omega
  have ll1 := load_len (16 + 8 * j + 4) (mask / 4294967296)
  have ll2 := load_len (16 + 8 * j) (mask % 4294967296)
  have HKD := Lib.hid hkd
  clear hkd
  have HM0 := Lib.hid M0; have HK0 := Lib.hid K0; have HX0 := Lib.hid bx0; have HLL1 := Lib.hid ll1; have HLL2 := Lib.hid ll2; have HCH := Lib.hid ch; have HCL := Lib.hid cl
  have hvI : (value : Int) ≤ 18446744073709551615 := by omega
  have hv0 : (0 : Int) ≤ value := by omega
  have HJ := Lib.hid hj; have HMK := Lib.hid hmk; have HVL := Lib.hid hvl; have HN0 := Lib.hid hn0; have HNM := Lib.hid hnm; have HYB := Lib.hid hyb; have HNB := Lib.hid hnb; have HLE := Lib.hid hl
  have HL0 : Hid (l.length ≤ l.length + 0) := Lib.hid (Nat.le_refl _)
  clear M0 K0 bx0 ll1 ll2 ch cl h hj hmk hvl hn0 hnm hyb hnb hl
  go_enter Try.func94, Try.ntmps94
  go_upto_region 1 with fail
  rw [← eW]
  clear eW
  have c0 := below_cell (Below.refl _ _) HX0.out.blk 0 rfl
  have c1 := below_cell (Below.refl _ _) HX0.out.blk 1 rfl
  have c2 := below_cell (Below.refl _ _) HX0.out.blk 2 rfl
  have c3 := below_cell (Below.refl _ _) HX0.out.blk 3 rfl
  have c4 := below_cell (Below.refl _ _) HX0.out.blk 4 rfl
  have c5 := below_cell (Below.refl _ _) HX0.out.blk 5 rfl
  go_wp2_with fail
  refine (wmLabel b B u0 l (n) v HM0.out (by have := HN0.out; omega) (by have := HNM.out; omega)).mono ?_
  rintro e u1 ⟨rfl, M1, K1⟩
  have HM1 := Lib.hid M1; have HK1 := Lib.hid (HK0.out.trans K1); have HX1 := Lib.hid (HX0.out.keep K1); have HL1 := HL0
  clear M1 K1
  clear c0 c1 c2 c3 c4 c5
  have c0 := below_cell (Below.refl _ _) HX1.out.blk 0 rfl
  have c1 := below_cell (Below.refl _ _) HX1.out.blk 1 rfl
  have c2 := below_cell (Below.refl _ _) HX1.out.blk 2 rfl
  have c3 := below_cell (Below.refl _ _) HX1.out.blk 3 rfl
  have c4 := below_cell (Below.refl _ _) HX1.out.blk 4 rfl
  have c5 := below_cell (Below.refl _ _) HX1.out.blk 5 rfl
  go_wp2_with fail
  refine (wmLabel b B u1 l (n + 1) v HM1.out (by have := HN0.out; omega) (by have := HNM.out; omega)).mono ?_
  rintro e u2 ⟨rfl, M2, K2⟩
  have HM2 := Lib.hid M2; have HK2 := Lib.hid (HK1.out.trans K2); have HX2 := Lib.hid (HX1.out.keep K2); have HL2 := HL1
  clear M2 K2
  clear c0 c1 c2 c3 c4 c5
  have c0 := below_cell (Below.refl _ _) HX2.out.blk 0 rfl
  have c1 := below_cell (Below.refl _ _) HX2.out.blk 1 rfl
  have c2 := below_cell (Below.refl _ _) HX2.out.blk 2 rfl
  have c3 := below_cell (Below.refl _ _) HX2.out.blk 3 rfl
  have c4 := below_cell (Below.refl _ _) HX2.out.blk 4 rfl
  have c5 := below_cell (Below.refl _ _) HX2.out.blk 5 rfl
  go_wp2_with fail
  refine (wmHigher b B u2 l (n + 1 + 1) v kind ka kn kc j mask sign value HM2.out HJ.out HMK.out HVL.out (by have := HL2.out; have := HLE.out; omega)).mono ?_
  rintro e u3 ⟨rfl, v3, M3, K3⟩
  have HL3 : Hid ((l ++ loadS (16 + 8 * j + 4) (mask / 4294967296)).length ≤ l.length + 2) := Lib.hid (by rw [List.length_append]; have := HL2.out; have := HLL1.out; (try simp only [List.length_cons, List.length_nil]); omega)
  have HM3 := Lib.hid M3; have HK3 := Lib.hid (HK2.out.trans K3); have HX3 := Lib.hid (HX2.out.keep K3)
  clear M3 K3
  generalize eL3 : l ++ loadS (16 + 8 * j + 4) (mask / 4294967296) = L3 at *
  have HE3 := Lib.hid eL3
  clear eL3
  clear c0 c1 c2 c3 c4 c5
  have c0 := below_cell (Below.refl _ _) HX3.out.blk 0 rfl
  have c1 := below_cell (Below.refl _ _) HX3.out.blk 1 rfl
  have c2 := below_cell (Below.refl _ _) HX3.out.blk 2 rfl
  have c3 := below_cell (Below.refl _ _) HX3.out.blk 3 rfl
  have c4 := below_cell (Below.refl _ _) HX3.out.blk 4 rfl
  have c5 := below_cell (Below.refl _ _) HX3.out.blk 5 rfl
  go_wp2_with fail
  have hj3 := wmJump b B u3 L3 (n + 1 + 1) v3 (4) (value / 4294967296) (yes) (n) HM3.out (stp_bnd (by omega) (by have := HVL.out; omega) (by have := HYB.out; have := HNB.out; have := HN0.out; have := HNM.out; omega) (by have := HYB.out; have := HNB.out; have := HN0.out; have := HNM.out; omega)) (by have := HL3.out; have := HLE.out; omega)
  rw [HCH.out] at hj3
  refine hj3.mono ?_
  rintro e u4 ⟨rfl, v4, M4, K4⟩
  clear hj3
  have HL4 : Hid ((L3 ++ [(⟨4, value / 4294967296, yes, n⟩ : Stp)]).length ≤ l.length + 3) := Lib.hid (by rw [List.length_append]; have := HL3.out; (try simp only [List.length_cons, List.length_nil]); omega)
  have HM4 := Lib.hid M4; have HK4 := Lib.hid (HK3.out.trans K4); have HX4 := Lib.hid (HX3.out.keep K4)
  clear M4 K4
  generalize eL4 : L3 ++ [(⟨4, value / 4294967296, yes, n⟩ : Stp)] = L4 at *
  have HE4 := Lib.hid eL4
  clear eL4
  clear c0 c1 c2 c3 c4 c5
  have c0 := below_cell (Below.refl _ _) HX4.out.blk 0 rfl
  have c1 := below_cell (Below.refl _ _) HX4.out.blk 1 rfl
  have c2 := below_cell (Below.refl _ _) HX4.out.blk 2 rfl
  have c3 := below_cell (Below.refl _ _) HX4.out.blk 3 rfl
  have c4 := below_cell (Below.refl _ _) HX4.out.blk 4 rfl
  have c5 := below_cell (Below.refl _ _) HX4.out.blk 5 rfl
  go_wp2_with fail
  refine (wmHere b B u4 L4 (n + 1 + 1) v4 (n) HM4.out (by have := HN0.out; have := HNM.out; omega) (by have := HL4.out; have := HLE.out; omega)).mono ?_
  rintro e u5 ⟨rfl, v5, M5, K5⟩
  have HL5 : Hid ((L4 ++ [stL (n)]).length ≤ l.length + 4) := Lib.hid (by rw [List.length_append]; have := HL4.out; (try simp only [List.length_cons, List.length_nil]); omega)
  have HM5 := Lib.hid M5; have HK5 := Lib.hid (HK4.out.trans K5); have HX5 := Lib.hid (HX4.out.keep K5)
  clear M5 K5
  generalize eL5 : L4 ++ [stL (n)] = L5 at *
  have HE5 := Lib.hid eL5
  clear eL5
  clear c0 c1 c2 c3 c4 c5
  have c0 := below_cell (Below.refl _ _) HX5.out.blk 0 rfl
  have c1 := below_cell (Below.refl _ _) HX5.out.blk 1 rfl
  have c2 := below_cell (Below.refl _ _) HX5.out.blk 2 rfl
  have c3 := below_cell (Below.refl _ _) HX5.out.blk 3 rfl
  have c4 := below_cell (Below.refl _ _) HX5.out.blk 4 rfl
  have c5 := below_cell (Below.refl _ _) HX5.out.blk 5 rfl
  go_wp2_with fail
  have hj5 := wmJump b B u5 L5 (n + 1 + 1) v5 (3) (value / 4294967296) (n + 1) (no) HM5.out (stp_bnd (by omega) (by have := HVL.out; omega) (by have := HYB.out; have := HNB.out; have := HN0.out; have := HNM.out; omega) (by have := HYB.out; have := HNB.out; have := HN0.out; have := HNM.out; omega)) (by have := HL5.out; have := HLE.out; omega)
  rw [HCH.out] at hj5
  refine hj5.mono ?_
  rintro e u6 ⟨rfl, v6, M6, K6⟩
  clear hj5
  have HL6 : Hid ((L5 ++ [(⟨3, value / 4294967296, n + 1, no⟩ : Stp)]).length ≤ l.length + 5) := Lib.hid (by rw [List.length_append]; have := HL5.out; (try simp only [List.length_cons, List.length_nil]); omega)
  have HM6 := Lib.hid M6; have HK6 := Lib.hid (HK5.out.trans K6); have HX6 := Lib.hid (HX5.out.keep K6)
  clear M6 K6
  generalize eL6 : L5 ++ [(⟨3, value / 4294967296, n + 1, no⟩ : Stp)] = L6 at *
  have HE6 := Lib.hid eL6
  clear eL6
  clear c0 c1 c2 c3 c4 c5
  have c0 := below_cell (Below.refl _ _) HX6.out.blk 0 rfl
  have c1 := below_cell (Below.refl _ _) HX6.out.blk 1 rfl
  have c2 := below_cell (Below.refl _ _) HX6.out.blk 2 rfl
  have c3 := below_cell (Below.refl _ _) HX6.out.blk 3 rfl
  have c4 := below_cell (Below.refl _ _) HX6.out.blk 4 rfl
  have c5 := below_cell (Below.refl _ _) HX6.out.blk 5 rfl
  go_wp2_with fail
  refine (wmHere b B u6 L6 (n + 1 + 1) v6 (n + 1) HM6.out (by have := HN0.out; have := HNM.out; omega) (by have := HL6.out; have := HLE.out; omega)).mono ?_
  rintro e u7 ⟨rfl, v7, M7, K7⟩
  have HL7 : Hid ((L6 ++ [stL (n + 1)]).length ≤ l.length + 6) := Lib.hid (by rw [List.length_append]; have := HL6.out; (try simp only [List.length_cons, List.length_nil]); omega)
  have HM7 := Lib.hid M7; have HK7 := Lib.hid (HK6.out.trans K7); have HX7 := Lib.hid (HX6.out.keep K7)
  clear M7 K7
  generalize eL7 : L6 ++ [stL (n + 1)] = L7 at *
  have HE7 := Lib.hid eL7
  clear eL7
  clear c0 c1 c2 c3 c4 c5
  have c0 := below_cell (Below.refl _ _) HX7.out.blk 0 rfl
  have c1 := below_cell (Below.refl _ _) HX7.out.blk 1 rfl
  have c2 := below_cell (Below.refl _ _) HX7.out.blk 2 rfl
  have c3 := below_cell (Below.refl _ _) HX7.out.blk 3 rfl
  have c4 := below_cell (Below.refl _ _) HX7.out.blk 4 rfl
  have c5 := below_cell (Below.refl _ _) HX7.out.blk 5 rfl
  go_wp2_with fail
  refine (wmLower b B u7 L7 (n + 1 + 1) v7 kind ka kn kc j mask sign value HM7.out HJ.out HMK.out HVL.out (by have := HL7.out; have := HLE.out; omega)).mono ?_
  rintro e u8 ⟨rfl, v8, M8, K8⟩
  have HL8 : Hid ((L7 ++ loadS (16 + 8 * j) (mask % 4294967296)).length ≤ l.length + 8) := Lib.hid (by rw [List.length_append]; have := HL7.out; have := HLL2.out; (try simp only [List.length_cons, List.length_nil]); omega)
  have HM8 := Lib.hid M8; have HK8 := Lib.hid (HK7.out.trans K8); have HX8 := Lib.hid (HX7.out.keep K8)
  clear M8 K8
  generalize eL8 : L7 ++ loadS (16 + 8 * j) (mask % 4294967296) = L8 at *
  have HE8 := Lib.hid eL8
  clear eL8
  clear c0 c1 c2 c3 c4 c5
  have c0 := below_cell (Below.refl _ _) HX8.out.blk 0 rfl
  have c1 := below_cell (Below.refl _ _) HX8.out.blk 1 rfl
  have c2 := below_cell (Below.refl _ _) HX8.out.blk 2 rfl
  have c3 := below_cell (Below.refl _ _) HX8.out.blk 3 rfl
  have c4 := below_cell (Below.refl _ _) HX8.out.blk 4 rfl
  have c5 := below_cell (Below.refl _ _) HX8.out.blk 5 rfl
  go_wp2_with fail
  have hj8 := wmJump b B u8 L8 (n + 1 + 1) v8 (kd) (value % 4294967296) (yes) (no) HM8.out (stp_bnd (by have := HKD.out; omega) (by have := HVL.out; omega) (by have := HYB.out; have := HNB.out; have := HN0.out; have := HNM.out; omega) (by have := HYB.out; have := HNB.out; have := HN0.out; have := HNM.out; omega)) (by have := HL8.out; have := HLE.out; omega)
  rw [HCL.out] at hj8
  refine hj8.mono ?_
  rintro e u9 ⟨rfl, v9, M9, K9⟩
  clear hj8
  have HL9 : Hid ((L8 ++ [(⟨kd, value % 4294967296, yes, no⟩ : Stp)]).length ≤ l.length + 9) := Lib.hid (by rw [List.length_append]; have := HL8.out; (try simp only [List.length_cons, List.length_nil]); omega)
  have HM9 := Lib.hid M9; have HK9 := Lib.hid (HK8.out.trans K9); have HX9 := Lib.hid (HX8.out.keep K9)
  clear M9 K9
  generalize eL9 : L8 ++ [(⟨kd, value % 4294967296, yes, no⟩ : Stp)] = L9 at *
  have HE9 := Lib.hid eL9
  clear eL9
  clear c0 c1 c2 c3 c4 c5
  have c0 := below_cell (Below.refl _ _) HX9.out.blk 0 rfl
  have c1 := below_cell (Below.refl _ _) HX9.out.blk 1 rfl
  have c2 := below_cell (Below.refl _ _) HX9.out.blk 2 rfl
  have c3 := below_cell (Below.refl _ _) HX9.out.blk 3 rfl
  have c4 := below_cell (Below.refl _ _) HX9.out.blk 4 rfl
  have c5 := below_cell (Below.refl _ _) HX9.out.blk 5 rfl
  have hfin : L9 = l ++ greatS kd j mask value yes no n := by rw [← HE9.out, ← HE8.out, ← HE7.out, ← HE6.out, ← HE5.out, ← HE4.out, ← HE3.out]; simp [greatS, stL]
  rw [hfin] at HM9
  clear hfin
  go_wp2_with fail
  go_end0
  refine ⟨rfl, v9, ?_, HK9.out⟩
  have hf := HM9.out
  rw [show n + 2 = n + 1 + 1 by omega]
  exact hf
end SWm3
section SWm4
open Go.RowKit Go.ChangeShapes
set_option linter.unusedVariables false

set_option maxRecDepth 100000 in
theorem wmAbove (b B : Nat) (u : World) (l : List Stp) (n : Int) (v : Value) (kind : Int) (ka : Option Addr) (kn kc j mask : Nat) (sign : ByteArray) (value : Nat) (yes no : Int) (h : Mk b u B l n v) (hj : j ≤ 5) (hmk : mask ≤ 18446744073709551615) (hvl : value ≤ 18446744073709551615) (hn0 : 0 ≤ n) (hnm : n ≤ 10000000) (hyb : -9223372036854775808 ≤ yes ∧ yes ≤ 9223372036854775807) (hnb : -9223372036854775808 ≤ no ∧ no ≤ 9223372036854775807) (hl : l.length ≤ 900000) :
    Calls Try.prog 88 #[.pointer (some ⟨B, 0, none⟩), .agg #[.int .i64 kind, .slice ka kn kc, .int .i64 (j : Nat), .int .u64 (mask : Nat), .string sign, .int .u64 (value : Nat)], .int .i64 yes, .int .i64 no] u (MkPost b B v u (l ++ greatS 4 j mask value yes no n) (n + 2)) := by
  obtain ⟨u0, eW, M0, K0, bx0⟩ := h.box (.cells #[.int .i64 kind, .slice ka kn kc, .int .i64 (j : Nat), .int .u64 (mask : Nat), .string sign, .int .u64 (value : Nat)] 31)
  have hG := wmGreat b B u0 l n v kind ka kn kc j mask sign value 4 yes no (.inl rfl) M0 hj hmk hvl hn0 hnm hyb hnb hl
  have c0 := below_cell (Below.refl _ _) bx0.blk 0 rfl
  have c1 := below_cell (Below.refl _ _) bx0.blk 1 rfl
  have c2 := below_cell (Below.refl _ _) bx0.blk 2 rfl
  have c3 := below_cell (Below.refl _ _) bx0.blk 3 rfl
  have c4 := below_cell (Below.refl _ _) bx0.blk 4 rfl
  have c5 := below_cell (Below.refl _ _) bx0.blk 5 rfl
  have HG := Lib.hid hG; have HK0 := Lib.hid K0
  clear hG K0 M0 bx0 h hj hmk hvl hn0 hnm hyb hnb hl
  generalize l ++ greatS 4 j mask value yes no n = L at *
  go_enter Try.func88, Try.ntmps88
  go_upto_region 1 with fail
  rw [← eW]
  clear eW
  go_wp2_with fail
  refine HG.out.mono ?_
  rintro e w2 hq
  obtain ⟨rfl, hq3⟩ := hq.keep HK0.out
  have HQ := Lib.hid hq3
  clear hq hq3
  go_wp2_with fail
  go_end0
  exact ⟨rfl, HQ.out⟩
set_option maxRecDepth 100000 in
theorem wmLeast (b B : Nat) (u : World) (l : List Stp) (n : Int) (v : Value) (kind : Int) (ka : Option Addr) (kn kc j mask : Nat) (sign : ByteArray) (value : Nat) (yes no : Int) (h : Mk b u B l n v) (hj : j ≤ 5) (hmk : mask ≤ 18446744073709551615) (hvl : value ≤ 18446744073709551615) (hn0 : 0 ≤ n) (hnm : n ≤ 10000000) (hyb : -9223372036854775808 ≤ yes ∧ yes ≤ 9223372036854775807) (hnb : -9223372036854775808 ≤ no ∧ no ≤ 9223372036854775807) (hl : l.length ≤ 900000) :
    Calls Try.prog 89 #[.pointer (some ⟨B, 0, none⟩), .agg #[.int .i64 kind, .slice ka kn kc, .int .i64 (j : Nat), .int .u64 (mask : Nat), .string sign, .int .u64 (value : Nat)], .int .i64 yes, .int .i64 no] u (MkPost b B v u (l ++ greatS 5 j mask value yes no n) (n + 2)) := by
  obtain ⟨u0, eW, M0, K0, bx0⟩ := h.box (.cells #[.int .i64 kind, .slice ka kn kc, .int .i64 (j : Nat), .int .u64 (mask : Nat), .string sign, .int .u64 (value : Nat)] 31)
  have hG := wmGreat b B u0 l n v kind ka kn kc j mask sign value 5 yes no (.inr rfl) M0 hj hmk hvl hn0 hnm hyb hnb hl
  have c0 := below_cell (Below.refl _ _) bx0.blk 0 rfl
  have c1 := below_cell (Below.refl _ _) bx0.blk 1 rfl
  have c2 := below_cell (Below.refl _ _) bx0.blk 2 rfl
  have c3 := below_cell (Below.refl _ _) bx0.blk 3 rfl
  have c4 := below_cell (Below.refl _ _) bx0.blk 4 rfl
  have c5 := below_cell (Below.refl _ _) bx0.blk 5 rfl
  have HG := Lib.hid hG; have HK0 := Lib.hid K0
  clear hG K0 M0 bx0 h hj hmk hvl hn0 hnm hyb hnb hl
  generalize l ++ greatS 5 j mask value yes no n = L at *
  go_enter Try.func89, Try.ntmps89
  go_upto_region 1 with fail
  rw [← eW]
  clear eW
  go_wp2_with fail
  refine HG.out.mono ?_
  rintro e w2 hq
  obtain ⟨rfl, hq3⟩ := hq.keep HK0.out
  have HQ := Lib.hid hq3
  clear hq hq3
  go_wp2_with fail
  go_end0
  exact ⟨rfl, HQ.out⟩
set_option maxRecDepth 100000 in
set_option maxHeartbeats 2000000 in
theorem wmTest (b B : Nat) (u : World) (l : List Stp) (n : Int) (v : Value) (kind : Int) (ka : Option Addr) (kn kc j mask : Nat) (sign : ByteArray) (value : Nat) (yes no : Int) (h : Mk b u B l n v) (hsg : signOk sign = true) (hj : j ≤ 5) (hmk : mask ≤ 18446744073709551615) (hvl : value ≤ 18446744073709551615) (hn0 : 0 ≤ n) (hnm : n ≤ 10000000) (hyb : -9223372036854775808 ≤ yes ∧ yes ≤ 9223372036854775807) (hnb : -9223372036854775808 ≤ no ∧ no ≤ 9223372036854775807) (hl : l.length ≤ 900000) :
    Calls Try.prog 84 #[.pointer (some ⟨B, 0, none⟩), .agg #[.int .i64 kind, .slice ka kn kc, .int .i64 (j : Nat), .int .u64 (mask : Nat), .string sign, .int .u64 (value : Nat)], .int .i64 yes, .int .i64 no] u (MkPost b B v u (l ++ (testS sign j mask value yes no n).1) (testS sign j mask value yes no n).2) := by
  obtain ⟨u0, eW, M0, K0, bx0⟩ := h.box (.cells #[.int .i64 kind, .slice ka kn kc, .int .i64 (j : Nat), .int .u64 (mask : Nat), .string sign, .int .u64 (value : Nat)] 31)
  have c0 := below_cell (Below.refl _ _) bx0.blk 0 rfl
  have c1 := below_cell (Below.refl _ _) bx0.blk 1 rfl
  have c2 := below_cell (Below.refl _ _) bx0.blk 2 rfl
  have c3 := below_cell (Below.refl _ _) bx0.blk 3 rfl
  have c4 := below_cell (Below.refl _ _) bx0.blk 4 rfl
  have c5 := below_cell (Below.refl _ _) bx0.blk 5 rfl
  have hS := fun y z hy hz => wmSame b B u0 l n v kind ka kn kc j mask sign value y z M0 hj hmk hvl hn0 hnm hy hz hl
  have hA := fun y z hy hz => wmAbove b B u0 l n v kind ka kn kc j mask sign value y z M0 hj hmk hvl hn0 hnm hy hz hl
  have hE := fun y z hy hz => wmLeast b B u0 l n v kind ka kn kc j mask sign value y z M0 hj hmk hvl hn0 hnm hy hz hl
  have HS := Lib.hid hS; have HA := Lib.hid hA; have HE := Lib.hid hE; have HK0 := Lib.hid K0; have HYB := Lib.hid hyb; have HNB := Lib.hid hnb
  clear hS hA hE K0 M0 bx0 h hj hmk hvl hn0 hnm hyb hnb hl
  rcases signs6 sign hsg with ⟨rfl, _⟩ | ⟨rfl, _⟩ | ⟨rfl, _⟩ | ⟨rfl, _⟩ | ⟨rfl, _⟩ | ⟨rfl, _⟩
  · rw [show (testS sGe j mask value yes no n) = (greatS 5 j mask value yes no n, n + 2) from rfl]
    have hc := HE.out yes no HYB.out HNB.out
    have HC := Lib.hid hc
    clear hc HS HA HE HYB HNB
    unfold sGe at eW c0 c1 c2 c3 c4 c5 HC ⊢
    generalize l ++ _ = L at *
    go_enter Try.func84, Try.ntmps84
    go_upto_region 1 with fail
    rw [← eW]
    clear eW
    go_wp2_with fail
    refine HC.out.mono ?_
    rintro e w2 hq
    obtain ⟨rfl, hq3⟩ := hq.keep HK0.out
    have HQ := Lib.hid hq3
    clear hq hq3
    go_wp2_with fail
    go_end0
    exact ⟨rfl, HQ.out⟩
  · rw [show (testS sGt j mask value yes no n) = (greatS 4 j mask value yes no n, n + 2) from rfl]
    have hc := HA.out yes no HYB.out HNB.out
    have HC := Lib.hid hc
    clear hc HS HA HE HYB HNB
    unfold sGt at eW c0 c1 c2 c3 c4 c5 HC ⊢
    generalize l ++ _ = L at *
    go_enter Try.func84, Try.ntmps84
    go_upto_region 1 with fail
    rw [← eW]
    clear eW
    go_wp2_with fail
    refine HC.out.mono ?_
    rintro e w2 hq
    obtain ⟨rfl, hq3⟩ := hq.keep HK0.out
    have HQ := Lib.hid hq3
    clear hq hq3
    go_wp2_with fail
    go_end0
    exact ⟨rfl, HQ.out⟩
  · rw [show (testS sLe j mask value yes no n) = (greatS 4 j mask value no yes n, n + 2) from rfl]
    have hc := HA.out no yes HNB.out HYB.out
    have HC := Lib.hid hc
    clear hc HS HA HE HYB HNB
    unfold sLe at eW c0 c1 c2 c3 c4 c5 HC ⊢
    generalize l ++ _ = L at *
    go_enter Try.func84, Try.ntmps84
    go_upto_region 1 with fail
    rw [← eW]
    clear eW
    go_wp2_with fail
    refine HC.out.mono ?_
    rintro e w2 hq
    obtain ⟨rfl, hq3⟩ := hq.keep HK0.out
    have HQ := Lib.hid hq3
    clear hq hq3
    go_wp2_with fail
    go_end0
    exact ⟨rfl, HQ.out⟩
  · rw [show (testS sLt j mask value yes no n) = (greatS 5 j mask value no yes n, n + 2) from rfl]
    have hc := HE.out no yes HNB.out HYB.out
    have HC := Lib.hid hc
    clear hc HS HA HE HYB HNB
    unfold sLt at eW c0 c1 c2 c3 c4 c5 HC ⊢
    generalize l ++ _ = L at *
    go_enter Try.func84, Try.ntmps84
    go_upto_region 1 with fail
    rw [← eW]
    clear eW
    go_wp2_with fail
    refine HC.out.mono ?_
    rintro e w2 hq
    obtain ⟨rfl, hq3⟩ := hq.keep HK0.out
    have HQ := Lib.hid hq3
    clear hq hq3
    go_wp2_with fail
    go_end0
    exact ⟨rfl, HQ.out⟩
  · rw [show (testS sNe j mask value yes no n) = (sameS j mask value no yes n, n + 1) from rfl]
    have hc := HS.out no yes HNB.out HYB.out
    have HC := Lib.hid hc
    clear hc HS HA HE HYB HNB
    unfold sNe at eW c0 c1 c2 c3 c4 c5 HC ⊢
    generalize l ++ _ = L at *
    go_enter Try.func84, Try.ntmps84
    go_upto_region 1 with fail
    rw [← eW]
    clear eW
    go_wp2_with fail
    refine HC.out.mono ?_
    rintro e w2 hq
    obtain ⟨rfl, hq3⟩ := hq.keep HK0.out
    have HQ := Lib.hid hq3
    clear hq hq3
    go_wp2_with fail
    go_end0
    exact ⟨rfl, HQ.out⟩
  · rw [show (testS sEq j mask value yes no n) = (sameS j mask value yes no n, n + 1) from rfl]
    have hc := HS.out yes no HYB.out HNB.out
    have HC := Lib.hid hc
    clear hc HS HA HE HYB HNB
    unfold sEq at eW c0 c1 c2 c3 c4 c5 HC ⊢
    generalize l ++ _ = L at *
    go_enter Try.func84, Try.ntmps84
    go_upto_region 1 with fail
    rw [← eW]
    clear eW
    go_wp2_with fail
    refine HC.out.mono ?_
    rintro e w2 hq
    obtain ⟨rfl, hq3⟩ := hq.keep HK0.out
    have HQ := Lib.hid hq3
    clear hq hq3
    go_wp2_with fail
    go_end0
    exact ⟨rfl, HQ.out⟩
end SWm4
section SWm5
open Go.RowKit Go.ChangeShapes
set_option linter.unusedVariables false

/-- what is said of the steps of one condition -/
def CondSays (N : Nat) : Prop := ∀ (c : Cnd), c.size ≤ N → c.fine = true → ∀ (W u : World) (k : Value) (b B : Nat) (l : List Stp) (n : Int) (v : Value) (yes no : Int), IsCnd W (cndV c k) c → W.heap.size ≤ b → Below W.heap.size W u → Mk b u B l n v →
    0 ≤ n → n + 3 * c.size ≤ 9000000 → (-9223372036854775808 ≤ yes ∧ yes ≤ 9223372036854775807) → (-9223372036854775808 ≤ no ∧ no ≤ 9223372036854775807) → l.length + 10 * c.size ≤ 800000 →
    Calls Try.prog 78 #[.pointer (some ⟨B, 0, none⟩), cndV c k, .int .i64 yes, .int .i64 no] u (MkPost b B v u (l ++ (condS c yes no n).1) (condS c yes no n).2)
theorem KeepM.bel {b B : Nat} {v v' : Value} {u u' W : World} (k : KeepM b B v u v' u') (h : W.heap.size ≤ b) (hb : Below W.heap.size W u) : Below W.heap.size W u' := k.2.1 _ _ h hb
theorem ser_step (both : Bool) (l : List Cnd) (j : Nat) (hj : j + 1 < l.length) (yes no n : Int) :
    serS both (l.drop j) yes no n = ((condS (l.getD j cndZ) (if both = true then n else yes) (if both = true then no else n) (n + 1)).1 ++ (stL n :: (serS both (l.drop (j + 1)) yes no (condS (l.getD j cndZ) (if both = true then n else yes) (if both = true then no else n) (n + 1)).2).1),
      (serS both (l.drop (j + 1)) yes no (condS (l.getD j cndZ) (if both = true then n else yes) (if both = true then no else n) (n + 1)).2).2) := by
  rw [List.drop_eq_getElem_cons (show j < l.length by omega), serS, if_neg (by rw [List.length_drop]; omega), show l.getD j cndZ = l[j] by simp [List.getD, show j < l.length by omega]]
theorem ser_last (both : Bool) (l : List Cnd) (j : Nat) (hj : j + 1 = l.length) (yes no n : Int) : serS both (l.drop j) yes no n = condS (l.getD j cndZ) yes no n := by
  rw [List.drop_eq_getElem_cons (show j < l.length by omega), serS, if_pos (by rw [List.length_drop]; omega), show l.getD j cndZ = l[j] by simp [List.getD, show j < l.length by omega]]
theorem fines_at (l : List Cnd) (j : Nat) (h : fines l = true) (hj : j < l.length) : (l.getD j cndZ).fine = true := by
  induction l generalizing j with
  | nil => simp at hj
  | cons c l ih =>
    rw [fines, Bool.and_eq_true] at h
    cases j with
    | zero => simpa using h.1
    | succ j => simpa using ih j h.2 (by simpa using hj)
theorem sizes_at (l : List Cnd) (j : Nat) (hj : j < l.length) : sizes (l.drop j) = (l.getD j cndZ).size + sizes (l.drop (j + 1)) := by
  rw [List.drop_eq_getElem_cons hj, sizes, show l.getD j cndZ = l[j] by simp [List.getD, hj]]
set_option maxRecDepth 100000 in
set_option maxHeartbeats 4000000 in
theorem wmSeries (N : Nat) (IH : CondSays N) (kind : Int) (kids : List Cnd) (arg : Int) (mask : Nat) (sign : ByteArray) (value : Nat) (hk : kind = 1 ∨ kind = 2) (hf : fines kids = true) (h2 : 2 ≤ kids.length) (hN : ∀ j, j < kids.length → (kids.getD j cndZ).size ≤ N)
    (W u : World) (k : Value) (b B : Nat) (l : List Stp) (n : Int) (v : Value) (yes no : Int) (hkk : IsCnds W k kids) (hW : W.heap.size ≤ b) (hbw : Below W.heap.size W u) (h : Mk b u B l n v)
    (hn0 : 0 ≤ n) (hnm : n + 3 * sizes kids ≤ 9000000) (hyb : -9223372036854775808 ≤ yes ∧ yes ≤ 9223372036854775807) (hnb : -9223372036854775808 ≤ no ∧ no ≤ 9223372036854775807) (hl : l.length + 10 * sizes kids ≤ 800000) :
    Calls Try.prog 83 #[.pointer (some ⟨B, 0, none⟩), .agg #[.int .i64 kind, k, .int .i64 arg, .int .u64 (mask : Nat), .string sign, .int .u64 (value : Nat)], .int .i64 yes, .int .i64 no] u (MkPost b B v u (l ++ (serS (decide (kind = 1)) kids yes no n).1) (serS (decide (kind = 1)) kids yes no n).2) := by
  obtain ⟨ka, kn, kc, rfl, hkn, hkc, hkm, hks⟩ := id hkk
  subst hkn
  obtain ⟨u0, eW, M0, K0, bx0⟩ := h.box (.cells #[.int .i64 kind, .slice ka kids.length kc, .int .i64 arg, .int .u64 (mask : Nat), .string sign, .int .u64 (value : Nat)] 31)
  have hI : (kids.length : Int) ≤ 9223372036854775807 := by omega
  have hcI : (kids.length : Int) ≤ kc := by omega
  have hcI2 : (kc : Int) ≤ 9223372036854775807 := by omega
  obtain ⟨m, hm⟩ : ∃ m, kids.length = m + 1 := ⟨kids.length - 1, by omega⟩
  have hm1 : 1 ≤ m := by omega
  have hml : IntKind.i64.wrap ((kids.length : Int) - 1) = (m : Int) := by rw [show (kids.length : Int) - 1 = m by omega]; simp [IntKind.wrap, IntKind.signed, IntKind.bits]; omega
  have hmI : (m : Int) ≤ kids.length := by omega
  have hmc : (m : Int) ≤ kc := by omega
  have hm0 : (0 : Int) ≤ m := by omega
  have hmlt : (m : Int) < kids.length := by omega
  have hbel : Below W.heap.size W u0 := K0.bel hW hbw
  have HM0 := Lib.hid M0; have HK0 := Lib.hid K0; have HX0 := Lib.hid bx0; have HB0 := Lib.hid hbel; have HKK := Lib.hid hkk; have HW := Lib.hid hW; have HYB := Lib.hid hyb; have HNB := Lib.hid hnb; have HF := Lib.hid hf; have HN := Lib.hid hN; have HI := Lib.hid IH; have HMM := Lib.hid hm; have HK := Lib.hid hk
  obtain ⟨both, hboth⟩ : ∃ both, decide (kind = 1) = both := ⟨_, rfl⟩
  rw [hboth]
  have hse : Hid (l ++ (serS both (kids.drop 0) yes no n).1 = l ++ (serS both kids yes no n).1 ∧ (serS both (kids.drop 0) yes no n).2 = (serS both kids yes no n).2) := Lib.hid ⟨rfl, rfl⟩
  obtain ⟨LT, hLT⟩ : ∃ x, x = l ++ (serS both kids yes no n).1 := ⟨_, rfl⟩
  obtain ⟨NT, hNT⟩ : ∃ x, x = (serS both kids yes no n).2 := ⟨_, rfl⟩
  rw [← hLT, ← hNT] at hse
  rw [← hLT, ← hNT]
  have HL := Lib.hid hl; have HNM := Lib.hid hnm; have HN0 := Lib.hid hn0; have HBO := Lib.hid hboth
  have c0 := below_cell (Below.refl _ _) bx0.blk 0 rfl
  have c1 := below_cell (Below.refl _ _) bx0.blk 1 rfl
  have c2 := below_cell (Below.refl _ _) bx0.blk 2 rfl
  have c3 := below_cell (Below.refl _ _) bx0.blk 3 rfl
  have c4 := below_cell (Below.refl _ _) bx0.blk 4 rfl
  have c5 := below_cell (Below.refl _ _) bx0.blk 5 rfl
  clear hm M0 K0 bx0 hbel hkk hW hyb hnb hf hN IH hk hl hnm hn0 hLT hNT h hbw h2 hboth hks
  go_enter Try.func83, Try.ntmps83
  go_upto_region 1 with fail
  rw [← eW]
  clear eW
  go_upto_region 3 with fail
  clear c0 c1 c2 c3 c4 c5
  go_loopw [21] (fun z wr => ∃ (j : Nat) (lj : List Stp) (nj : Int) (vj : Value), z = .int .i64 (j : Nat) ∧ j ≤ m ∧ Mk b wr B lj nj vj ∧ KeepM b B v u vj wr ∧ lj ++ (serS both (kids.drop j) yes no nj).1 = LT ∧ (serS both (kids.drop j) yes no nj).2 = NT ∧ lj.length + 10 * sizes (kids.drop j) ≤ 800000 ∧ nj + 3 * sizes (kids.drop j) ≤ 9000000 ∧ 0 ≤ nj ∧
    Below W.heap.size W wr ∧ Bx B wr vj u.heap.size (.cells #[.int .i64 kind, .slice ka kids.length kc, .int .i64 arg, .int .u64 (mask : Nat), .string sign, .int .u64 (value : Nat)] 31)) (fun z _ => m - (intOf z).toNat)
  case atStart => exact ⟨0, l, n, v, rfl, by omega, HM0.out, HK0.out, hse.out.1, hse.out.2, HL.out, HNM.out, HN0.out, HB0.out, HX0.out⟩
  case round =>
    obtain ⟨j, lj, nj, vj, rfl, hj, hMj, hKj, hLj, hNj, hlj, hnj, hnj0, hbj, hxj⟩ := hrel
    clear HM0 HK0 HX0 HB0 hse HL HNM HN0
    have hjlt : j < kids.length := by have := HMM.out; omega
    obtain ⟨bk, ok, k2, rfl, ⟨a2, n2, c2, rfl⟩, hI2, hcell⟩ := kid_load HKK.out (Below.refl _ W) rfl j hjlt
    have hbl := World.block_lt_of_cell? _ _ (hcell 0 _ rfl)
    have hcw : ∀ i x, ((kids.getD j cndZ).cells (.slice a2 n2 c2))[i]? = some x → wr.cell? ⟨bk, ok + j * 6 + i, none⟩ = some x := fun i x hx => (hbj.cell (p := ⟨bk, ok + j * 6 + i, none⟩) hbl).trans (hcell i x hx)
    have e0 := hcw 0 _ rfl
    have e1 := hcw 1 _ rfl
    have e2 := hcw 2 _ rfl
    have e3 := hcw 3 _ rfl
    have e4 := hcw 4 _ rfl
    have e5 := hcw 5 _ rfl
    rw [Nat.add_zero] at e0
    have hfk := fines_at kids j HF.out hjlt
    have hNk := HN.out j hjlt
    have hsz := sizes_at kids j hjlt
    have hjI : (j : Int) < kids.length := by omega
    have HMJ := Lib.hid hMj; have HKJ := Lib.hid hKj; have HBJ := Lib.hid hbj; have HXJ := Lib.hid hxj; have HCN := Lib.hid hI2
    clear hMj hKj hbj hxj hcell hcw hbl
    by_cases hlt : j < m
    · have hjm : (j : Int) < m := by omega
      have hst := ser_step both kids j (by have := HMM.out; omega) yes no nj
      have hcl := cond_len (kids.getD j cndZ) hfk (if both = true then nj else yes) (if both = true then no else nj) (nj + 1)
      have htl := tests_le_size (kids.getD j cndZ)
      have hs1 : 1 ≤ sizes (kids.drop (j + 1)) := by rw [sizes_at kids (j + 1) (by have := HMM.out; omega)]; have := Cnd.size_eq (kids.getD (j + 1) cndZ); omega
      have HS1 := Lib.hid hs1
      clear hs1
      rw [hst] at hLj hNj
      dsimp only at hLj hNj
      have HLJ := Lib.hid hLj; have HNJ := Lib.hid hNj; have HLL := Lib.hid hlj; have HNN := Lib.hid hnj; have HN0 := Lib.hid hnj0; have HSZ := Lib.hid hsz; have HCL := Lib.hid hcl; have HTL := Lib.hid htl; have HCALL := Lib.hid (fun u2 l2 nn v2 y z => HI.out (kids.getD j cndZ) hNk hfk W u2 (.slice a2 n2 c2) b B l2 nn v2 y z HCN.out HW.out)
      have HLT := Lib.hid hlt
      clear hst hcl htl hLj hNj hlj hnj hnj0 hsz hfk hNk hlt HCN
      generalize kids.getD j cndZ = cc at *
      obtain ⟨kind2, kids2, arg2, mask2, sign2, value2⟩ := cc
      unfold cndV at HCALL
      simp only [Cnd.kind, Cnd.arg, Cnd.mask, Cnd.sign, Cnd.value] at e0 e1 e2 e3 e4 e5 HCALL
      obtain ⟨w1, eW, M1, K1, bx1⟩ := HMJ.out.box (.cells #[.int .i64 kind2, .slice a2 n2 c2, .int .i64 arg2, .int .u64 (mask2 : Nat), .string sign2, .int .u64 (value2 : Nat)] 31)
      have HM1 := Lib.hid M1; have HK1 := Lib.hid (HKJ.out.trans K1); have HX1 := Lib.hid (HXJ.out.keep K1); have HY1 := Lib.hid bx1; have HB1 := Lib.hid (K1.bel HW.out HBJ.out)
      clear M1 K1 bx1
      go_upto_region 5 with fail
      rw [← eW]
      clear eW e0 e1 e2 e3 e4 e5
      generalize wr.heap.size = g1 at *
      go_wp2_with fail
      refine (wmLabel b B w1 lj nj vj HM1.out HN0.out (by have := HNN.out; omega)).mono ?_
      rintro e w2 ⟨rfl, M2, K2⟩
      have HM2 := Lib.hid M2; have HK2 := Lib.hid (HK1.out.trans K2); have HX2 := Lib.hid (HX1.out.keep K2); have HY2 := Lib.hid (HY1.out.keep K2); have HB2 := Lib.hid (K2.bel HW.out HB1.out)
      clear M2 K2 HM1 HK1 HX1 HY1 HB1
      have x0 := below_cell (Below.refl _ _) HX2.out.blk 0 rfl
      have y0 := below_cell (Below.refl _ _) HY2.out.blk 0 rfl
      have y1 := below_cell (Below.refl _ _) HY2.out.blk 1 rfl
      have y2 := below_cell (Below.refl _ _) HY2.out.blk 2 rfl
      have y3 := below_cell (Below.refl _ _) HY2.out.blk 3 rfl
      have y4 := below_cell (Below.refl _ _) HY2.out.blk 4 rfl
      have y5 := below_cell (Below.refl _ _) HY2.out.blk 5 rfl
      obtain ⟨P, hP⟩ : ∃ P, condS (Cnd.mk kind2 kids2 arg2 mask2 sign2 value2) (if both = true then nj else yes) (if both = true then no else nj) (nj + 1) = P := ⟨_, rfl⟩
      rw [hP] at HLJ HNJ HCL
      have hone : Calls Try.prog 78 #[.pointer (some ⟨B, 0, none⟩), .agg #[.int .i64 kind2, .slice a2 n2 c2, .int .i64 arg2, .int .u64 (mask2 : Nat), .string sign2, .int .u64 (value2 : Nat)], .int .i64 (if both = true then nj else yes), .int .i64 (if both = true then no else nj)] w2 (MkPost b B vj w2 (lj ++ P.1) P.2) := by
        have := HCALL.out w2 lj (nj + 1) vj (if both = true then nj else yes) (if both = true then no else nj) HB2.out HM2.out (by have := HN0.out; omega) (by have := HNN.out; have := HSZ.out; have := HS1.out; omega) (by have := HYB.out; have := HN0.out; have := HNN.out; split <;> omega) (by have := HNB.out; have := HN0.out; have := HNN.out; split <;> omega) (by have := HLL.out; have := HSZ.out; omega)
        rw [hP] at this
        exact this
      have HONE := Lib.hid hone
      clear hone hP HCALL
      have hnb2 : Hid (-9223372036854775808 ≤ nj ∧ nj ≤ 9223372036854775807) := Lib.hid (by have := HN0.out; have := HNN.out; omega)
      have hkd : (kind = 1 ∧ both = true) ∨ (kind = 2 ∧ both = false) := by
        have hb := HBO.out
        rcases HK.out with h | h
        · exact .inl ⟨h, by rw [← hb, h]; rfl⟩
        · exact .inr ⟨h, by rw [← hb, h]; rfl⟩
      rcases hkd with ⟨rfl, rfl⟩ | ⟨rfl, rfl⟩
      all_goals
        simp only [if_true, if_false, Bool.false_eq_true] at HONE
        go_wp2_with fail
        refine HONE.out.mono ?_
        rintro e w3 ⟨rfl, v3, M3, K3⟩
        have HM3 := Lib.hid M3; have HK3 := Lib.hid (HK2.out.trans K3); have HX3 := Lib.hid (HX2.out.keep K3); have HB3 := Lib.hid (K3.bel HW.out HB2.out)
        clear M3 K3 x0 y0 y1 y2 y3 y4 y5
        have hlen3 : (lj ++ P.1).length ≤ 1000000 := by rw [List.length_append]; have := HCL.out.1; have := HTL.out; have := HLL.out; have := HSZ.out; omega
        have hh := wmHere b B w3 (lj ++ P.1) P.2 v3 nj HM3.out hnb2.out hlen3
        have HH := Lib.hid hh
        clear hh hlen3
        go_wp2_with fail
        refine HH.out.mono ?_
        rintro e w4 ⟨rfl, v4, M4, K4⟩
        have HM4 := Lib.hid M4; have HK4 := Lib.hid (HK3.out.trans K4); have HX4 := Lib.hid (HX3.out.keep K4); have HB4 := Lib.hid (K4.bel HW.out HB3.out)
        clear M4 K4
        go_wp2_with fail
        go_roundw
        case rel =>
          refine ⟨j + 1, _, P.2, v4, by go_num, by have := HLT.out; omega, HM4.out, HK4.out, ?_, HNJ.out, ?_, ?_, ?_, HB4.out, HX4.out⟩
          · rw [← HLJ.out]; simp [List.append_assoc]
          · rw [List.length_append, List.length_append]; have := HCL.out.1; have := HTL.out; have := HLL.out; have := HSZ.out; simp only [List.length_cons, List.length_nil]; omega
          · have := HCL.out.2.2; have := HTL.out; have := HNN.out; have := HSZ.out; omega
          · have := HCL.out.2.1; have := HN0.out; omega
        case measure => have := HLT.out; simp [intOf]; omega
    · obtain rfl : j = m := by omega
      have hst := ser_last both kids j (by have := HMM.out; omega) yes no nj
      rw [hst] at hLj hNj
      have hcall := HI.out (kids.getD j cndZ) hNk hfk W wr (.slice a2 n2 c2) b B lj nj vj yes no HCN.out HW.out HBJ.out HMJ.out hnj0 (by omega) HYB.out HNB.out (by omega)
      rw [hLj, hNj] at hcall
      have HCALL := Lib.hid hcall
      have x1 := below_cell (Below.refl _ _) HXJ.out.blk 1 rfl
      clear hst hcall hLj hNj hlj hnj hnj0 hsz hfk hNk hlt HCN
      generalize kids.getD j cndZ = cc at *
      obtain ⟨kind2, kids2, arg2, mask2, sign2, value2⟩ := cc
      unfold cndV at HCALL
      simp only [Cnd.kind, Cnd.arg, Cnd.mask, Cnd.sign, Cnd.value] at e0 e1 e2 e3 e4 e5 HCALL
      go_wp2_with fail
      refine HCALL.out.mono ?_
      rintro e w3 hq
      obtain ⟨rfl, hq3⟩ := hq.keep HKJ.out
      have HQ := Lib.hid hq3
      clear hq hq3
      go_wp2_with fail
      go_end0
      exact ⟨rfl, HQ.out⟩
end SWm5
section SWm6
open Go.RowKit Go.ChangeShapes
set_option linter.unusedVariables false

set_option maxRecDepth 100000 in
set_option maxHeartbeats 4000000 in
theorem condSays : ∀ N, CondSays N := by
  intro N
  induction N with
  | zero => intro c hc; have := c.size_eq; omega
  | succ N ih =>
    intro c hN hf W u k b B l n v yes no hcn hW hbw h hn0 hnm hyb hnb hl
    obtain ⟨hbd, k', hv, hkk⟩ := id hcn
    obtain ⟨ka, kn, kc, e, hkn, _⟩ := id hkk
    have e1 : k = k' := by
      unfold cndV Cnd.cells at hv
      injection hv with hv
      have := congrArg Array.toList hv
      simp only [List.cons.injEq, and_true, true_and] at this
      exact this
    subst e1
    subst e
    have hal := hf
    rw [Cnd.fine_eq, Bool.and_eq_true] at hal
    have hkinds := alone_kinds c hal.1
    have hfk := hal.2
    have hse := c.size_eq
    obtain ⟨kind, kids, arg, mask, sign, value⟩ := c
    obtain ⟨u0, eW, M0, K0, bx0⟩ := h.box (.cells #[.int .i64 kind, .slice ka kn kc, .int .i64 arg, .int .u64 (mask : Nat), .string sign, .int .u64 (value : Nat)] 31)
    have hbel : Below W.heap.size W u0 := K0.bel hW hbw
    have q0 := below_cell (Below.refl _ _) bx0.blk 0 rfl
    have q1 := below_cell (Below.refl _ _) bx0.blk 1 rfl
    have q2 := below_cell (Below.refl _ _) bx0.blk 2 rfl
    have q3 := below_cell (Below.refl _ _) bx0.blk 3 rfl
    have q4 := below_cell (Below.refl _ _) bx0.blk 4 rfl
    have q5 := below_cell (Below.refl _ _) bx0.blk 5 rfl
    obtain ⟨hb1, hb2, hb3, hb4, hb5⟩ := hbd
    simp only [Cnd.kind, Cnd.kids, Cnd.arg, Cnd.mask, Cnd.sign, Cnd.value] at hkinds hfk hkk hkn hse hb1 hb2 hb3 hb4 hb5
    show Calls _ _ #[_, .agg #[.int .i64 kind, .slice ka kn kc, .int .i64 arg, .int .u64 (mask : Nat), .string sign, .int .u64 (value : Nat)], _, _] _ _
    have HK0 := Lib.hid K0
    rcases hkinds with ⟨rfl, ha0, ha5, hsg, _⟩ | ⟨hk, h2⟩ | ⟨rfl, h1⟩
    · obtain ⟨j, rfl⟩ : ∃ j : Nat, arg = j := ⟨arg.toNat, by omega⟩
      have hc := wmTest b B u0 l n v 4 ka kn kc j mask sign value yes no M0 hsg (by omega) hb3 hb5 hn0 (by omega) hyb hnb (by omega)
      have hcs : condS (.mk 4 kids (j : Nat) mask sign value) yes no n = testS sign j mask value yes no n := by rw [condS, if_neg (by decide), if_neg (by decide)]; rfl
      rw [hcs]
      have HC := Lib.hid hc
      clear hc hcs hf hal M0 bx0 hkk hfk hse hN ih hcn hW hbw h hbel hn0 hnm hyb hnb hl ha0 ha5 hsg hb1 hb2 hb3 hb4 hb5 hv K0 hkn
      generalize testS sign j mask value yes no n = P at *
      go_enter Try.func78, Try.ntmps78
      go_upto_region 1 with fail
      rw [← eW]
      clear eW
      go_wp2_with fail
      refine HC.out.mono ?_
      rintro e w2 hq
      obtain ⟨rfl, hq3⟩ := hq.keep HK0.out
      have HQ := Lib.hid hq3
      clear hq hq3
      go_wp2_with fail
      go_end0
      exact ⟨rfl, HQ.out⟩
    · have hkid : ∀ j, j < kids.length → (kids.getD j cndZ).size ≤ N := fun j hj => by have := size_kid kids j hj; omega
      have hc := wmSeries N ih kind kids arg mask sign value hk hfk h2 hkid W u0 (.slice ka kn kc) b B l n v yes no hkk hW hbel M0 hn0 (by omega) hyb hnb (by omega)
      have hcs : condS (.mk kind kids arg mask sign value) yes no n = serS (decide (kind = 1)) kids yes no n := by rw [condS, if_neg (by omega), if_pos hk]
      rw [hcs]
      have HC := Lib.hid hc
      have HK := Lib.hid hk
      clear hc hcs hf hal M0 bx0 hkk hfk hse hN ih hcn hW hbw h hbel hn0 hnm hyb hnb hl hb1 hb2 hb3 hb4 hb5 hv K0 hkn h2 hkid hk
      generalize serS (decide (kind = 1)) kids yes no n = P at *
      rcases HK.out with rfl | rfl
      all_goals
        go_enter Try.func78, Try.ntmps78
        go_upto_region 1 with fail
        rw [← eW]
        clear eW
        go_wp2_with fail
        refine HC.out.mono ?_
        rintro e w2 hq
        obtain ⟨rfl, hq3⟩ := hq.keep HK0.out
        have HQ := Lib.hid hq3
        clear hq hq3
        go_wp2_with fail
        go_end0
        exact ⟨rfl, HQ.out⟩
    · obtain ⟨bk, ok, k2, rfl, ⟨a2, n2, c2, rfl⟩, hI2, hcell⟩ := kid_load hkk (Below.refl _ W) rfl 0 (by omega)
      have hbl := World.block_lt_of_cell? _ _ (hcell 0 _ rfl)
      have hcw : ∀ i x, ((kids.getD 0 cndZ).cells (.slice a2 n2 c2))[i]? = some x → u0.cell? ⟨bk, ok + 0 * 6 + i, none⟩ = some x := fun i x hx => (hbel.cell (p := ⟨bk, ok + 0 * 6 + i, none⟩) hbl).trans (hcell i x hx)
      have e0 := hcw 0 _ rfl
      have e1 := hcw 1 _ rfl
      have e2 := hcw 2 _ rfl
      have e3 := hcw 3 _ rfl
      have e4 := hcw 4 _ rfl
      have e5 := hcw 5 _ rfl
      rw [Nat.zero_mul, Nat.add_zero] at e0 e1 e2 e3 e4 e5
      have hkn1 : kn = 1 := by omega
      subst hkn1
      have hkid := size_kid kids 0 (by omega)
      have hc := ih (kids.getD 0 cndZ) (by omega) (fines_at kids 0 hfk (by omega)) W u0 (.slice a2 n2 c2) b B l n v no yes hI2 hW hbel M0 hn0 (by omega) hnb hyb (by omega)
      have hcs : condS (.mk 3 kids arg mask sign value) yes no n = condS (kids.getD 0 cndZ) no yes n := by
        rw [condS, if_pos rfl]
        match kids, h1 with
        | [q], _ => rw [notS]; rfl
      rw [hcs]
      have hkcI : (1 : Int) ≤ kc := by obtain ⟨_, _, _, hv, _, h1, _⟩ := hkk; injection hv with _ q2 q3; subst q3; omega
      have HC := Lib.hid hc
      clear hc hcs hf hal M0 bx0 hkk hfk hse hN ih hcn hW hbw h hbel hn0 hnm hyb hnb hl hb1 hb2 hb3 hb4 hb5 hv K0 hkn hkid hcell hcw hbl hI2 h1
      generalize condS (kids.getD 0 cndZ) no yes n = P at *
      generalize kids.getD 0 cndZ = cc at *
      obtain ⟨kind2, kids2, arg2, mask2, sign2, value2⟩ := cc
      unfold cndV at HC
      simp only [Cnd.kind, Cnd.arg, Cnd.mask, Cnd.sign, Cnd.value] at e0 e1 e2 e3 e4 e5 HC
      go_enter Try.func78, Try.ntmps78
      go_upto_region 1 with fail
      rw [← eW]
      clear eW
      go_wp2_with fail
      refine HC.out.mono ?_
      rintro e w2 hq
      obtain ⟨rfl, hq3⟩ := hq.keep HK0.out
      have HQ := Lib.hid hq3
      clear hq hq3
      go_wp2_with fail
      go_end0
      exact ⟨rfl, HQ.out⟩
end SWm6
end Go.Proofs.Ytcejhfpdajbdcaa
