/- The maker of steps: conditions within conditions. -/
import Derived.Test.YtcejhfpdajbdcaaWm4
import Derived.Test.YtcejhfpdajbdcaaRef16F
namespace Go.Proofs.Ytcejhfpdajbdcaa
open Go.RowKit Go.ChangeShapes
set_option linter.unusedVariables false

/-- what is said of the steps of one condition -/
def CondSays (N : Nat) : Prop := ∀ (c : Cnd), c.size ≤ N → c.fine = true → ∀ (W u : World) (k : Value) (b B : Nat) (l : List Stp) (n : Int) (v : Value) (yes no : Int), IsCnd W (cndV c k) c → W.heap.size ≤ b → Below W.heap.size W u → Mk b u B l n v →
    0 ≤ n → n + 3 * c.size ≤ 9000000 → (-9223372036854775808 ≤ yes ∧ yes ≤ 9223372036854775807) → (-9223372036854775808 ≤ no ∧ no ≤ 9223372036854775807) → l.length + 10 * c.size ≤ 800000 →
    Calls Try.prog 78 #[.pointer (some ⟨B, 0, none⟩), cndV c k, .int .i64 yes, .int .i64 no] u (MkPost b B v u (l ++ (condS c yes no n).1) (condS c yes no n).2)
theorem KeepM.bel {b B : Nat} {v v' : Value} {u u' W : World} (k : KeepM b B v u v' u') (h : W.heap.size ≤ b) (hb : Below W.heap.size W u) : Below W.heap.size W u' := k.2.1 _ _ h hb
theorem ser_step (both : Bool) (l : List Cnd) (j : Nat) (hj : j + 1 < l.length) (yes no n : Int) :
    serS both (l.drop j) yes no n = ((condS (l.getD j cndZ) (if both = true then n else yes) (if both = true then no else n) (n + 1)).1 ++ (stL n :: (serS both (l.drop (j + 1)) yes no (condS (l.getD j cndZ) (if both = true then n else yes) (if both = true then no else n) (n + 1)).2).1),
      (serS both (l.drop (j + 1)) yes no (condS (l.getD j cndZ) (if both = true then n else yes) (if both = true then no else n) (n + 1)).2).2) := by
  rw [List.drop_eq_getElem_cons (show j < l.length by omega), serS, if_neg (by rw [List.length_drop]; omega), show l.getD j cndZ = l[j] by simp [List.getD, show j < l.length by omega]]
theorem ser_last (both : Bool) (l : List Cnd) (j : Nat) (hj : j + 1 = l.length) (yes no n : Int) : serS both (l.drop j) yes no n = condS (l.getD j cndZ) yes no n := by
  rw [List.drop_eq_getElem_cons (show j < l.length by omega), serS, if_pos (by rw [List.length_drop]; omega), show l.getD j cndZ = l[j] by simp [List.getD, show j < l.length by omega]]
theorem fines_at (l : List Cnd) (j : Nat) (h : fines l = true) (hj : j < l.length) : (l.getD j cndZ).fine = true := by
  induction l generalizing j with
  | nil => simp at hj
  | cons c l ih =>
    rw [fines, Bool.and_eq_true] at h
    cases j with
    | zero => simpa using h.1
    | succ j => simpa using ih j h.2 (by simpa using hj)
theorem sizes_at (l : List Cnd) (j : Nat) (hj : j < l.length) : sizes (l.drop j) = (l.getD j cndZ).size + sizes (l.drop (j + 1)) := by
  rw [List.drop_eq_getElem_cons hj, sizes, show l.getD j cndZ = l[j] by simp [List.getD, hj]]
set_option maxRecDepth 100000 in
set_option maxHeartbeats 4000000 in
theorem wmSeries (N : Nat) (IH : CondSays N) (kind : Int) (kids : List Cnd) (arg : Int) (mask : Nat) (sign : ByteArray) (value : Nat) (hk : kind = 1 ∨ kind = 2) (hf : fines kids = true) (h2 : 2 ≤ kids.length) (hN : ∀ j, j < kids.length → (kids.getD j cndZ).size ≤ N)
    (W u : World) (k : Value) (b B : Nat) (l : List Stp) (n : Int) (v : Value) (yes no : Int) (hkk : IsCnds W k kids) (hW : W.heap.size ≤ b) (hbw : Below W.heap.size W u) (h : Mk b u B l n v)
    (hn0 : 0 ≤ n) (hnm : n + 3 * sizes kids ≤ 9000000) (hyb : -9223372036854775808 ≤ yes ∧ yes ≤ 9223372036854775807) (hnb : -9223372036854775808 ≤ no ∧ no ≤ 9223372036854775807) (hl : l.length + 10 * sizes kids ≤ 800000) :
    Calls Try.prog 83 #[.pointer (some ⟨B, 0, none⟩), .agg #[.int .i64 kind, k, .int .i64 arg, .int .u64 (mask : Nat), .string sign, .int .u64 (value : Nat)], .int .i64 yes, .int .i64 no] u (MkPost b B v u (l ++ (serS (decide (kind = 1)) kids yes no n).1) (serS (decide (kind = 1)) kids yes no n).2) := by
  obtain ⟨ka, kn, kc, rfl, hkn, hkc, hkm, hks⟩ := id hkk
  subst hkn
  obtain ⟨u0, eW, M0, K0, bx0⟩ := h.box (.cells #[.int .i64 kind, .slice ka kids.length kc, .int .i64 arg, .int .u64 (mask : Nat), .string sign, .int .u64 (value : Nat)] 31)
  have hI : (kids.length : Int) ≤ 9223372036854775807 := by omega
  have hcI : (kids.length : Int) ≤ kc := by omega
  have hcI2 : (kc : Int) ≤ 9223372036854775807 := by omega
  obtain ⟨m, hm⟩ : ∃ m, kids.length = m + 1 := ⟨kids.length - 1, by omega⟩
  have hm1 : 1 ≤ m := by omega
  have hml : IntKind.i64.wrap ((kids.length : Int) - 1) = (m : Int) := by rw [show (kids.length : Int) - 1 = m by omega]; simp [IntKind.wrap, IntKind.signed, IntKind.bits]; omega
  have hmI : (m : Int) ≤ kids.length := by omega
  have hmc : (m : Int) ≤ kc := by omega
  have hm0 : (0 : Int) ≤ m := by omega
  have hmlt : (m : Int) < kids.length := by omega
  have hbel : Below W.heap.size W u0 := K0.bel hW hbw
  have HM0 := Lib.hid M0; have HK0 := Lib.hid K0; have HX0 := Lib.hid bx0; have HB0 := Lib.hid hbel; have HKK := Lib.hid hkk; have HW := Lib.hid hW; have HYB := Lib.hid hyb; have HNB := Lib.hid hnb; have HF := Lib.hid hf; have HN := Lib.hid hN; have HI := Lib.hid IH; have HMM := Lib.hid hm; have HK := Lib.hid hk
  obtain ⟨both, hboth⟩ : ∃ both, decide (kind = 1) = both := ⟨_, rfl⟩
  rw [hboth]
  have hse : Hid (l ++ (serS both (kids.drop 0) yes no n).1 = l ++ (serS both kids yes no n).1 ∧ (serS both (kids.drop 0) yes no n).2 = (serS both kids yes no n).2) := Lib.hid ⟨rfl, rfl⟩
  obtain ⟨LT, hLT⟩ : ∃ x, x = l ++ (serS both kids yes no n).1 := ⟨_, rfl⟩
  obtain ⟨NT, hNT⟩ : ∃ x, x = (serS both kids yes no n).2 := ⟨_, rfl⟩
  rw [← hLT, ← hNT] at hse
  rw [← hLT, ← hNT]
  have HL := Lib.hid hl; have HNM := Lib.hid hnm; have HN0 := Lib.hid hn0; have HBO := Lib.hid hboth
  have c0 := below_cell (Below.refl _ _) bx0.blk 0 rfl
  have c1 := below_cell (Below.refl _ _) bx0.blk 1 rfl
  have c2 := below_cell (Below.refl _ _) bx0.blk 2 rfl
  have c3 := below_cell (Below.refl _ _) bx0.blk 3 rfl
  have c4 := below_cell (Below.refl _ _) bx0.blk 4 rfl
  have c5 := below_cell (Below.refl _ _) bx0.blk 5 rfl
  clear hm M0 K0 bx0 hbel hkk hW hyb hnb hf hN IH hk hl hnm hn0 hLT hNT h hbw h2 hboth hks
  go_enter Try.func83, Try.ntmps83
  go_upto_region 1 with fail
  rw [← eW]
  clear eW
  go_upto_region 3 with fail
  clear c0 c1 c2 c3 c4 c5
  go_loopw [21] (fun z wr => ∃ (j : Nat) (lj : List Stp) (nj : Int) (vj : Value), z = .int .i64 (j : Nat) ∧ j ≤ m ∧ Mk b wr B lj nj vj ∧ KeepM b B v u vj wr ∧ lj ++ (serS both (kids.drop j) yes no nj).1 = LT ∧ (serS both (kids.drop j) yes no nj).2 = NT ∧ lj.length + 10 * sizes (kids.drop j) ≤ 800000 ∧ nj + 3 * sizes (kids.drop j) ≤ 9000000 ∧ 0 ≤ nj ∧
    Below W.heap.size W wr ∧ Bx B wr vj u.heap.size (.cells #[.int .i64 kind, .slice ka kids.length kc, .int .i64 arg, .int .u64 (mask : Nat), .string sign, .int .u64 (value : Nat)] 31)) (fun z _ => m - (intOf z).toNat)
  case atStart => exact ⟨0, l, n, v, rfl, by omega, HM0.out, HK0.out, hse.out.1, hse.out.2, HL.out, HNM.out, HN0.out, HB0.out, HX0.out⟩
  case round =>
    obtain ⟨j, lj, nj, vj, rfl, hj, hMj, hKj, hLj, hNj, hlj, hnj, hnj0, hbj, hxj⟩ := hrel
    clear HM0 HK0 HX0 HB0 hse HL HNM HN0
    have hjlt : j < kids.length := by have := HMM.out; omega
    obtain ⟨bk, ok, k2, rfl, ⟨a2, n2, c2, rfl⟩, hI2, hcell⟩ := kid_load HKK.out (Below.refl _ W) rfl j hjlt
    have hbl := World.block_lt_of_cell? _ _ (hcell 0 _ rfl)
    have hcw : ∀ i x, ((kids.getD j cndZ).cells (.slice a2 n2 c2))[i]? = some x → wr.cell? ⟨bk, ok + j * 6 + i, none⟩ = some x := fun i x hx => (hbj.cell (p := ⟨bk, ok + j * 6 + i, none⟩) hbl).trans (hcell i x hx)
    have e0 := hcw 0 _ rfl
    have e1 := hcw 1 _ rfl
    have e2 := hcw 2 _ rfl
    have e3 := hcw 3 _ rfl
    have e4 := hcw 4 _ rfl
    have e5 := hcw 5 _ rfl
    rw [Nat.add_zero] at e0
    have hfk := fines_at kids j HF.out hjlt
    have hNk := HN.out j hjlt
    have hsz := sizes_at kids j hjlt
    have hjI : (j : Int) < kids.length := by omega
    have HMJ := Lib.hid hMj; have HKJ := Lib.hid hKj; have HBJ := Lib.hid hbj; have HXJ := Lib.hid hxj; have HCN := Lib.hid hI2
    clear hMj hKj hbj hxj hcell hcw hbl
    by_cases hlt : j < m
    · have hjm : (j : Int) < m := by omega
      have hst := ser_step both kids j (by have := HMM.out; omega) yes no nj
      have hcl := cond_len (kids.getD j cndZ) hfk (if both = true then nj else yes) (if both = true then no else nj) (nj + 1)
      have htl := tests_le_size (kids.getD j cndZ)
      have hs1 : 1 ≤ sizes (kids.drop (j + 1)) := by rw [sizes_at kids (j + 1) (by have := HMM.out; omega)]; have := Cnd.size_eq (kids.getD (j + 1) cndZ); omega
      have HS1 := Lib.hid hs1
      clear hs1
      rw [hst] at hLj hNj
      dsimp only at hLj hNj
      have HLJ := Lib.hid hLj; have HNJ := Lib.hid hNj; have HLL := Lib.hid hlj; have HNN := Lib.hid hnj; have HN0 := Lib.hid hnj0; have HSZ := Lib.hid hsz; have HCL := Lib.hid hcl; have HTL := Lib.hid htl; have HCALL := Lib.hid (fun u2 l2 nn v2 y z => HI.out (kids.getD j cndZ) hNk hfk W u2 (.slice a2 n2 c2) b B l2 nn v2 y z HCN.out HW.out)
      have HLT := Lib.hid hlt
      clear hst hcl htl hLj hNj hlj hnj hnj0 hsz hfk hNk hlt HCN
      generalize kids.getD j cndZ = cc at *
      obtain ⟨kind2, kids2, arg2, mask2, sign2, value2⟩ := cc
      unfold cndV at HCALL
      simp only [Cnd.kind, Cnd.arg, Cnd.mask, Cnd.sign, Cnd.value] at e0 e1 e2 e3 e4 e5 HCALL
      obtain ⟨w1, eW, M1, K1, bx1⟩ := HMJ.out.box (.cells #[.int .i64 kind2, .slice a2 n2 c2, .int .i64 arg2, .int .u64 (mask2 : Nat), .string sign2, .int .u64 (value2 : Nat)] 31)
      have HM1 := Lib.hid M1; have HK1 := Lib.hid (HKJ.out.trans K1); have HX1 := Lib.hid (HXJ.out.keep K1); have HY1 := Lib.hid bx1; have HB1 := Lib.hid (K1.bel HW.out HBJ.out)
      clear M1 K1 bx1
      go_upto_region 5 with fail
      rw [← eW]
      clear eW e0 e1 e2 e3 e4 e5
      generalize wr.heap.size = g1 at *
      go_wp2_with fail
      refine (wmLabel b B w1 lj nj vj HM1.out HN0.out (by have := HNN.out; omega)).mono ?_
      rintro e w2 ⟨rfl, M2, K2⟩
      have HM2 := Lib.hid M2; have HK2 := Lib.hid (HK1.out.trans K2); have HX2 := Lib.hid (HX1.out.keep K2); have HY2 := Lib.hid (HY1.out.keep K2); have HB2 := Lib.hid (K2.bel HW.out HB1.out)
      clear M2 K2 HM1 HK1 HX1 HY1 HB1
      have x0 := below_cell (Below.refl _ _) HX2.out.blk 0 rfl
      have y0 := below_cell (Below.refl _ _) HY2.out.blk 0 rfl
      have y1 := below_cell (Below.refl _ _) HY2.out.blk 1 rfl
      have y2 := below_cell (Below.refl _ _) HY2.out.blk 2 rfl
      have y3 := below_cell (Below.refl _ _) HY2.out.blk 3 rfl
      have y4 := below_cell (Below.refl _ _) HY2.out.blk 4 rfl
      have y5 := below_cell (Below.refl _ _) HY2.out.blk 5 rfl
      obtain ⟨P, hP⟩ : ∃ P, condS (Cnd.mk kind2 kids2 arg2 mask2 sign2 value2) (if both = true then nj else yes) (if both = true then no else nj) (nj + 1) = P := ⟨_, rfl⟩
      rw [hP] at HLJ HNJ HCL
      have hone : Calls Try.prog 78 #[.pointer (some ⟨B, 0, none⟩), .agg #[.int .i64 kind2, .slice a2 n2 c2, .int .i64 arg2, .int .u64 (mask2 : Nat), .string sign2, .int .u64 (value2 : Nat)], .int .i64 (if both = true then nj else yes), .int .i64 (if both = true then no else nj)] w2 (MkPost b B vj w2 (lj ++ P.1) P.2) := by
        have := HCALL.out w2 lj (nj + 1) vj (if both = true then nj else yes) (if both = true then no else nj) HB2.out HM2.out (by have := HN0.out; omega) (by have := HNN.out; have := HSZ.out; have := HS1.out; omega) (by have := HYB.out; have := HN0.out; have := HNN.out; split <;> omega) (by have := HNB.out; have := HN0.out; have := HNN.out; split <;> omega) (by have := HLL.out; have := HSZ.out; omega)
        rw [hP] at this
        exact this
      have HONE := Lib.hid hone
      clear hone hP HCALL
      have hnb2 : Hid (-9223372036854775808 ≤ nj ∧ nj ≤ 9223372036854775807) := Lib.hid (by have := HN0.out; have := HNN.out; omega)
      have hkd : (kind = 1 ∧ both = true) ∨ (kind = 2 ∧ both = false) := by
        have hb := HBO.out
        rcases HK.out with h | h
        · exact .inl ⟨h, by rw [← hb, h]; rfl⟩
        · exact .inr ⟨h, by rw [← hb, h]; rfl⟩
      rcases hkd with ⟨rfl, rfl⟩ | ⟨rfl, rfl⟩
      all_goals
        simp only [if_true, if_false, Bool.false_eq_true] at HONE
        go_wp2_with fail
        refine HONE.out.mono ?_
        rintro e w3 ⟨rfl, v3, M3, K3⟩
        have HM3 := Lib.hid M3; have HK3 := Lib.hid (HK2.out.trans K3); have HX3 := Lib.hid (HX2.out.keep K3); have HB3 := Lib.hid (K3.bel HW.out HB2.out)
        clear M3 K3 x0 y0 y1 y2 y3 y4 y5
        have hlen3 : (lj ++ P.1).length ≤ 1000000 := by rw [List.length_append]; have := HCL.out.1; have := HTL.out; have := HLL.out; have := HSZ.out; omega
        have hh := wmHere b B w3 (lj ++ P.1) P.2 v3 nj HM3.out hnb2.out hlen3
        have HH := Lib.hid hh
        clear hh hlen3
        go_wp2_with fail
        refine HH.out.mono ?_
        rintro e w4 ⟨rfl, v4, M4, K4⟩
        have HM4 := Lib.hid M4; have HK4 := Lib.hid (HK3.out.trans K4); have HX4 := Lib.hid (HX3.out.keep K4); have HB4 := Lib.hid (K4.bel HW.out HB3.out)
        clear M4 K4
        go_wp2_with fail
        go_roundw
        case rel =>
          refine ⟨j + 1, _, P.2, v4, by go_num, by have := HLT.out; omega, HM4.out, HK4.out, ?_, HNJ.out, ?_, ?_, ?_, HB4.out, HX4.out⟩
          · rw [← HLJ.out]; simp [List.append_assoc]
          · rw [List.length_append, List.length_append]; have := HCL.out.1; have := HTL.out; have := HLL.out; have := HSZ.out; simp only [List.length_cons, List.length_nil]; omega
          · have := HCL.out.2.2; have := HTL.out; have := HNN.out; have := HSZ.out; omega
          · have := HCL.out.2.1; have := HN0.out; omega
        case measure => have := HLT.out; simp [intOf]; omega
    · obtain rfl : j = m := by omega
      have hst := ser_last both kids j (by have := HMM.out; omega) yes no nj
      rw [hst] at hLj hNj
      have hcall := HI.out (kids.getD j cndZ) hNk hfk W wr (.slice a2 n2 c2) b B lj nj vj yes no HCN.out HW.out HBJ.out HMJ.out hnj0 (by omega) HYB.out HNB.out (by omega)
      rw [hLj, hNj] at hcall
      have HCALL := Lib.hid hcall
      have x1 := below_cell (Below.refl _ _) HXJ.out.blk 1 rfl
      clear hst hcall hLj hNj hlj hnj hnj0 hsz hfk hNk hlt HCN
      generalize kids.getD j cndZ = cc at *
      obtain ⟨kind2, kids2, arg2, mask2, sign2, value2⟩ := cc
      unfold cndV at HCALL
      simp only [Cnd.kind, Cnd.arg, Cnd.mask, Cnd.sign, Cnd.value] at e0 e1 e2 e3 e4 e5 HCALL
      go_wp2_with fail
      refine HCALL.out.mono ?_
      rintro e w3 hq
      obtain ⟨rfl, hq3⟩ := hq.keep HKJ.out
      have HQ := Lib.hid hq3
      clear hq hq3
      go_wp2_with fail
      go_end0
      exact ⟨rfl, HQ.out⟩
end Go.Proofs.Ytcejhfpdajbdcaa
