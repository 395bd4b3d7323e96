/- The maker of steps: a test by its sign. -/
import Derived.Test.YtcejhfpdajbdcaaWm3
namespace Go.Proofs.Ytcejhfpdajbdcaa
open Go.RowKit Go.ChangeShapes
set_option linter.unusedVariables false

set_option maxRecDepth 100000 in
theorem wmAbove (b B : Nat) (u : World) (l : List Stp) (n : Int) (v : Value) (kind : Int) (ka : Option Addr) (kn kc j mask : Nat) (sign : ByteArray) (value : Nat) (yes no : Int) (h : Mk b u B l n v) (hj : j ≤ 5) (hmk : mask ≤ 18446744073709551615) (hvl : value ≤ 18446744073709551615) (hn0 : 0 ≤ n) (hnm : n ≤ 10000000) (hyb : -9223372036854775808 ≤ yes ∧ yes ≤ 9223372036854775807) (hnb : -9223372036854775808 ≤ no ∧ no ≤ 9223372036854775807) (hl : l.length ≤ 900000) :
    Calls Try.prog 88 #[.pointer (some ⟨B, 0, none⟩), .agg #[.int .i64 kind, .slice ka kn kc, .int .i64 (j : Nat), .int .u64 (mask : Nat), .string sign, .int .u64 (value : Nat)], .int .i64 yes, .int .i64 no] u (MkPost b B v u (l ++ greatS 4 j mask value yes no n) (n + 2)) := by
  obtain ⟨u0, eW, M0, K0, bx0⟩ := h.box (.cells #[.int .i64 kind, .slice ka kn kc, .int .i64 (j : Nat), .int .u64 (mask : Nat), .string sign, .int .u64 (value : Nat)] 31)
  have hG := wmGreat b B u0 l n v kind ka kn kc j mask sign value 4 yes no (.inl rfl) M0 hj hmk hvl hn0 hnm hyb hnb hl
  have c0 := below_cell (Below.refl _ _) bx0.blk 0 rfl
  have c1 := below_cell (Below.refl _ _) bx0.blk 1 rfl
  have c2 := below_cell (Below.refl _ _) bx0.blk 2 rfl
  have c3 := below_cell (Below.refl _ _) bx0.blk 3 rfl
  have c4 := below_cell (Below.refl _ _) bx0.blk 4 rfl
  have c5 := below_cell (Below.refl _ _) bx0.blk 5 rfl
  have HG := Lib.hid hG; have HK0 := Lib.hid K0
  clear hG K0 M0 bx0 h hj hmk hvl hn0 hnm hyb hnb hl
  generalize l ++ greatS 4 j mask value yes no n = L at *
  go_enter Try.func88, Try.ntmps88
  go_upto_region 1 with fail
  rw [← eW]
  clear eW
  go_wp2_with fail
  refine HG.out.mono ?_
  rintro e w2 hq
  obtain ⟨rfl, hq3⟩ := hq.keep HK0.out
  have HQ := Lib.hid hq3
  clear hq hq3
  go_wp2_with fail
  go_end0
  exact ⟨rfl, HQ.out⟩
set_option maxRecDepth 100000 in
theorem wmLeast (b B : Nat) (u : World) (l : List Stp) (n : Int) (v : Value) (kind : Int) (ka : Option Addr) (kn kc j mask : Nat) (sign : ByteArray) (value : Nat) (yes no : Int) (h : Mk b u B l n v) (hj : j ≤ 5) (hmk : mask ≤ 18446744073709551615) (hvl : value ≤ 18446744073709551615) (hn0 : 0 ≤ n) (hnm : n ≤ 10000000) (hyb : -9223372036854775808 ≤ yes ∧ yes ≤ 9223372036854775807) (hnb : -9223372036854775808 ≤ no ∧ no ≤ 9223372036854775807) (hl : l.length ≤ 900000) :
    Calls Try.prog 89 #[.pointer (some ⟨B, 0, none⟩), .agg #[.int .i64 kind, .slice ka kn kc, .int .i64 (j : Nat), .int .u64 (mask : Nat), .string sign, .int .u64 (value : Nat)], .int .i64 yes, .int .i64 no] u (MkPost b B v u (l ++ greatS 5 j mask value yes no n) (n + 2)) := by
  obtain ⟨u0, eW, M0, K0, bx0⟩ := h.box (.cells #[.int .i64 kind, .slice ka kn kc, .int .i64 (j : Nat), .int .u64 (mask : Nat), .string sign, .int .u64 (value : Nat)] 31)
  have hG := wmGreat b B u0 l n v kind ka kn kc j mask sign value 5 yes no (.inr rfl) M0 hj hmk hvl hn0 hnm hyb hnb hl
  have c0 := below_cell (Below.refl _ _) bx0.blk 0 rfl
  have c1 := below_cell (Below.refl _ _) bx0.blk 1 rfl
  have c2 := below_cell (Below.refl _ _) bx0.blk 2 rfl
  have c3 := below_cell (Below.refl _ _) bx0.blk 3 rfl
  have c4 := below_cell (Below.refl _ _) bx0.blk 4 rfl
  have c5 := below_cell (Below.refl _ _) bx0.blk 5 rfl
  have HG := Lib.hid hG; have HK0 := Lib.hid K0
  clear hG K0 M0 bx0 h hj hmk hvl hn0 hnm hyb hnb hl
  generalize l ++ greatS 5 j mask value yes no n = L at *
  go_enter Try.func89, Try.ntmps89
  go_upto_region 1 with fail
  rw [← eW]
  clear eW
  go_wp2_with fail
  refine HG.out.mono ?_
  rintro e w2 hq
  obtain ⟨rfl, hq3⟩ := hq.keep HK0.out
  have HQ := Lib.hid hq3
  clear hq hq3
  go_wp2_with fail
  go_end0
  exact ⟨rfl, HQ.out⟩
set_option maxRecDepth 100000 in
set_option maxHeartbeats 2000000 in
theorem wmTest (b B : Nat) (u : World) (l : List Stp) (n : Int) (v : Value) (kind : Int) (ka : Option Addr) (kn kc j mask : Nat) (sign : ByteArray) (value : Nat) (yes no : Int) (h : Mk b u B l n v) (hsg : signOk sign = true) (hj : j ≤ 5) (hmk : mask ≤ 18446744073709551615) (hvl : value ≤ 18446744073709551615) (hn0 : 0 ≤ n) (hnm : n ≤ 10000000) (hyb : -9223372036854775808 ≤ yes ∧ yes ≤ 9223372036854775807) (hnb : -9223372036854775808 ≤ no ∧ no ≤ 9223372036854775807) (hl : l.length ≤ 900000) :
    Calls Try.prog 84 #[.pointer (some ⟨B, 0, none⟩), .agg #[.int .i64 kind, .slice ka kn kc, .int .i64 (j : Nat), .int .u64 (mask : Nat), .string sign, .int .u64 (value : Nat)], .int .i64 yes, .int .i64 no] u (MkPost b B v u (l ++ (testS sign j mask value yes no n).1) (testS sign j mask value yes no n).2) := by
  obtain ⟨u0, eW, M0, K0, bx0⟩ := h.box (.cells #[.int .i64 kind, .slice ka kn kc, .int .i64 (j : Nat), .int .u64 (mask : Nat), .string sign, .int .u64 (value : Nat)] 31)
  have c0 := below_cell (Below.refl _ _) bx0.blk 0 rfl
  have c1 := below_cell (Below.refl _ _) bx0.blk 1 rfl
  have c2 := below_cell (Below.refl _ _) bx0.blk 2 rfl
  have c3 := below_cell (Below.refl _ _) bx0.blk 3 rfl
  have c4 := below_cell (Below.refl _ _) bx0.blk 4 rfl
  have c5 := below_cell (Below.refl _ _) bx0.blk 5 rfl
  have hS := fun y z hy hz => wmSame b B u0 l n v kind ka kn kc j mask sign value y z M0 hj hmk hvl hn0 hnm hy hz hl
  have hA := fun y z hy hz => wmAbove b B u0 l n v kind ka kn kc j mask sign value y z M0 hj hmk hvl hn0 hnm hy hz hl
  have hE := fun y z hy hz => wmLeast b B u0 l n v kind ka kn kc j mask sign value y z M0 hj hmk hvl hn0 hnm hy hz hl
  have HS := Lib.hid hS; have HA := Lib.hid hA; have HE := Lib.hid hE; have HK0 := Lib.hid K0; have HYB := Lib.hid hyb; have HNB := Lib.hid hnb
  clear hS hA hE K0 M0 bx0 h hj hmk hvl hn0 hnm hyb hnb hl
  rcases signs6 sign hsg with ⟨rfl, _⟩ | ⟨rfl, _⟩ | ⟨rfl, _⟩ | ⟨rfl, _⟩ | ⟨rfl, _⟩ | ⟨rfl, _⟩
  · rw [show (testS sGe j mask value yes no n) = (greatS 5 j mask value yes no n, n + 2) from rfl]
    have hc := HE.out yes no HYB.out HNB.out
    have HC := Lib.hid hc
    clear hc HS HA HE HYB HNB
    unfold sGe at eW c0 c1 c2 c3 c4 c5 HC ⊢
    generalize l ++ _ = L at *
    go_enter Try.func84, Try.ntmps84
    go_upto_region 1 with fail
    rw [← eW]
    clear eW
    go_wp2_with fail
    refine HC.out.mono ?_
    rintro e w2 hq
    obtain ⟨rfl, hq3⟩ := hq.keep HK0.out
    have HQ := Lib.hid hq3
    clear hq hq3
    go_wp2_with fail
    go_end0
    exact ⟨rfl, HQ.out⟩
  · rw [show (testS sGt j mask value yes no n) = (greatS 4 j mask value yes no n, n + 2) from rfl]
    have hc := HA.out yes no HYB.out HNB.out
    have HC := Lib.hid hc
    clear hc HS HA HE HYB HNB
    unfold sGt at eW c0 c1 c2 c3 c4 c5 HC ⊢
    generalize l ++ _ = L at *
    go_enter Try.func84, Try.ntmps84
    go_upto_region 1 with fail
    rw [← eW]
    clear eW
    go_wp2_with fail
    refine HC.out.mono ?_
    rintro e w2 hq
    obtain ⟨rfl, hq3⟩ := hq.keep HK0.out
    have HQ := Lib.hid hq3
    clear hq hq3
    go_wp2_with fail
    go_end0
    exact ⟨rfl, HQ.out⟩
  · rw [show (testS sLe j mask value yes no n) = (greatS 4 j mask value no yes n, n + 2) from rfl]
    have hc := HA.out no yes HNB.out HYB.out
    have HC := Lib.hid hc
    clear hc HS HA HE HYB HNB
    unfold sLe at eW c0 c1 c2 c3 c4 c5 HC ⊢
    generalize l ++ _ = L at *
    go_enter Try.func84, Try.ntmps84
    go_upto_region 1 with fail
    rw [← eW]
    clear eW
    go_wp2_with fail
    refine HC.out.mono ?_
    rintro e w2 hq
    obtain ⟨rfl, hq3⟩ := hq.keep HK0.out
    have HQ := Lib.hid hq3
    clear hq hq3
    go_wp2_with fail
    go_end0
    exact ⟨rfl, HQ.out⟩
  · rw [show (testS sLt j mask value yes no n) = (greatS 5 j mask value no yes n, n + 2) from rfl]
    have hc := HE.out no yes HNB.out HYB.out
    have HC := Lib.hid hc
    clear hc HS HA HE HYB HNB
    unfold sLt at eW c0 c1 c2 c3 c4 c5 HC ⊢
    generalize l ++ _ = L at *
    go_enter Try.func84, Try.ntmps84
    go_upto_region 1 with fail
    rw [← eW]
    clear eW
    go_wp2_with fail
    refine HC.out.mono ?_
    rintro e w2 hq
    obtain ⟨rfl, hq3⟩ := hq.keep HK0.out
    have HQ := Lib.hid hq3
    clear hq hq3
    go_wp2_with fail
    go_end0
    exact ⟨rfl, HQ.out⟩
  · rw [show (testS sNe j mask value yes no n) = (sameS j mask value no yes n, n + 1) from rfl]
    have hc := HS.out no yes HNB.out HYB.out
    have HC := Lib.hid hc
    clear hc HS HA HE HYB HNB
    unfold sNe at eW c0 c1 c2 c3 c4 c5 HC ⊢
    generalize l ++ _ = L at *
    go_enter Try.func84, Try.ntmps84
    go_upto_region 1 with fail
    rw [← eW]
    clear eW
    go_wp2_with fail
    refine HC.out.mono ?_
    rintro e w2 hq
    obtain ⟨rfl, hq3⟩ := hq.keep HK0.out
    have HQ := Lib.hid hq3
    clear hq hq3
    go_wp2_with fail
    go_end0
    exact ⟨rfl, HQ.out⟩
  · rw [show (testS sEq j mask value yes no n) = (sameS j mask value yes no n, n + 1) from rfl]
    have hc := HS.out yes no HYB.out HNB.out
    have HC := Lib.hid hc
    clear hc HS HA HE HYB HNB
    unfold sEq at eW c0 c1 c2 c3 c4 c5 HC ⊢
    generalize l ++ _ = L at *
    go_enter Try.func84, Try.ntmps84
    go_upto_region 1 with fail
    rw [← eW]
    clear eW
    go_wp2_with fail
    refine HC.out.mono ?_
    rintro e w2 hq
    obtain ⟨rfl, hq3⟩ := hq.keep HK0.out
    have HQ := Lib.hid hq3
    clear hq hq3
    go_wp2_with fail
    go_end0
    exact ⟨rfl, HQ.out⟩
end Go.Proofs.Ytcejhfpdajbdcaa
