/- doorwardref08.Bytes. -/
import Derived.Test.YtfpfcjgdihlieaaEnK
import Derived.Test.YtfpfcjgdihlieaaRef01Bytes
namespace Go.Proofs.Ytfpfcjgdihlieaa
open Go.RowKit
set_option linter.unusedVariables false

theorem u64_nat (n : Nat) (h : n ≤ 65535) : IntKind.u64.wrap (n : Int) = n := by simp [IntKind.wrap, IntKind.signed, IntKind.bits]; omega
theorem refB_1 (n : Nat) (w : World) (h : n ≤ 65535) : Calls Try.prog 44 #[.int .u64 n, .int .i64 1] w fun e w' => e = .returned (.tuple #[.string (numS n 1), .int .u64 (n / 256 ^ 1 : Nat)]) ∧ Below w.heap.size w w' :=
  refBytes_any n 1 w (by omega) (by omega)
theorem refB_2 (n : Nat) (w : World) (h : n ≤ 65535) : Calls Try.prog 44 #[.int .u64 n, .int .i64 2] w fun e w' => e = .returned (.tuple #[.string (numS n 2), .int .u64 (n / 256 ^ 2 : Nat)]) ∧ Below w.heap.size w w' :=
  refBytes_any n 2 w (by omega) (by omega)
theorem refNum_1 (n : Nat) (w : World) (h : n ≤ 65535) : Calls Try.prog 30 #[.int .i64 n, .int .i64 1] w fun e w' => e = .returned (.string (numS n 1)) ∧ Below w.heap.size w w' := by
  have hw := u64_nat n h
  have hI : (n : Int) ≤ 65535 := by omega
  have HB := Lib.hid (fun u => refB_1 n u h)
  clear h
  go_enter Try.func30, Try.ntmps30
  go_wp2_with fail
  refine (HB.out _).mono ?_
  rintro e w1 ⟨rfl, hb⟩
  go_wp2_with fail
  go_ret
  exact ⟨rfl, hb⟩
theorem refNum_2 (n : Nat) (w : World) (h : n ≤ 65535) : Calls Try.prog 30 #[.int .i64 n, .int .i64 2] w fun e w' => e = .returned (.string (numS n 2)) ∧ Below w.heap.size w w' := by
  have hw := u64_nat n h
  have hI : (n : Int) ≤ 65535 := by omega
  have HB := Lib.hid (fun u => refB_2 n u h)
  clear h
  go_enter Try.func30, Try.ntmps30
  go_wp2_with fail
  refine (HB.out _).mono ?_
  rintro e w1 ⟨rfl, hb⟩
  go_wp2_with fail
  go_ret
  exact ⟨rfl, hb⟩
theorem app_num (S T : List UInt8) (n k : Nat) (h : T = S ++ putL n k) : (ByteArray.mk T.toArray) = ⟨S.toArray⟩ ++ numS n k := by rw [h, numS]; exact ba_app _ _
theorem app_str (S T : List UInt8) (s : ByteArray) (h : T = S ++ s.data.toList) : (ByteArray.mk T.toArray) = ⟨S.toArray⟩ ++ s := by
  rw [h]; apply ba_ext; simp
set_option maxRecDepth 100000 in
set_option maxHeartbeats 4000000 in
theorem refBytes08 (l : List En) (v : Value) (w : World) (h : IsEns w v l) (hr : rightE l = true) : Calls Try.prog 15 #[v] w fun e' w' => e' = .returned (.string ⟨(packB l).toArray⟩) ∧ Below w.heap.size w w' := by
  obtain ⟨a, n, cap, rfl, hl, hc1, hc2, hnil, hat⟩ := h
  unfold rightE at hr
  rw [Bool.and_eq_true, decide_eq_true_eq] at hr
  obtain ⟨hl8, hr⟩ := hr
  have hent := okE_mem l none hr
  have hn8 : n ≤ 8 := by omega
  have hn8I : (n : Int) ≤ 8 := by omega
  obtain ⟨F, hF⟩ : ∃ F, putL n 1 = F := ⟨_, rfl⟩
  have hFS : numS n 1 = ⟨F.toArray⟩ := by rw [← hF]; rfl
  have HN1 := Lib.hid (fun u => refNum_1 n u (by omega))
  rw [hFS] at HN1
  have HPK : Hid (packB l = F ++ (l.take n).flatMap entB) := Lib.hid (by unfold packB; rw [hl, List.take_of_length_le (by omega), ← hF]; simp [fieldsL])
  have hFl : F.length = 1 := by rw [← hF, putL_length]
  have HFL := Lib.hid hFl
  have HL := Lib.hid hl; have HAT := Lib.hid hat; have HENT := Lib.hid hent
  clear hl hat hent hr hl8 hF hFl hFS
  go_enter Try.func15, Try.ntmps15
  go_wp2_with fail
  refine (HN1.out _).mono ?_
  rintro e' w3 ⟨rfl, hb3⟩
  have HB3 := Lib.hid hb3
  clear hb3 HN1
  go_wp2_with fail
  go_loopw [3, 13] (fun s c wr => ∃ i : Nat, i ≤ n ∧ c = .int .i64 i ∧ s = .string ⟨(F ++ (l.take i).flatMap entB).toArray⟩ ∧ Hid (Below w.heap.size w wr) ∧ Hid ((F ++ (l.take i).flatMap entB).length ≤ 1 + 79 * i)) (fun _ c _ => n - (intOf c).toNat)
  case atStart => exact ⟨0, Nat.zero_le _, rfl, by simp, HB3, Lib.hid (by simp [HFL.out])⟩
  case round =>
    clear HB3
    obtain ⟨i, hin, rfl, rfl, HW, HSZ⟩ := hrel
    by_cases hlt : i < n
    · have hltI : (i : Int) < n := by omega
      obtain ⟨b, off, rfl, hblt, hat⟩ := HAT.out.resolve_left (by omega)
      obtain ⟨hbd, va, vc, hvs, e0, e1, e2, e3⟩ := ((hat i hlt).below HW.out hblt).cell
      obtain ⟨⟨z1, z2, z3, z4⟩, hcur, hnxt, hvok⟩ := entOk_facts _ (HENT.out _ (getD_mem l i enZ (by rw [HL.out]; exact hlt)))
      have hsn := entsB_snoc l i (by rw [HL.out]; exact hlt)
      generalize l.getD i enZ = e at *
      obtain ⟨name, cur, nxt, vers⟩ := e
      simp only at hbd hvs e0 e1 e2 e3 z1 z2 z3 z4 hcur hnxt hvok
      obtain ⟨m, hm⟩ : ∃ m, vers.length = m := ⟨_, rfl⟩
      rw [hm] at hvs e3 z3 z4
      have HM := Lib.hid hm
      have hz4I : (m : Int) ≤ 6 := by omega
      have hentl : (entB ⟨name, cur, nxt, vers⟩).length ≤ 79 := by rw [entB_len]; simp only; omega
      obtain ⟨hcur0, hcur1⟩ := hcur
      obtain ⟨hnxt0, hnxt1⟩ := hnxt
      obtain ⟨cur, rfl⟩ := Int.eq_ofNat_of_zero_le hcur0
      obtain ⟨nxt, rfl⟩ := Int.eq_ofNat_of_zero_le hnxt0
      obtain ⟨S0, hS0⟩ : ∃ S0, F ++ (l.take i).flatMap entB = S0 := ⟨_, rfl⟩
      rw [hS0] at HSZ ⊢
      have hS0l := HSZ.out
      have hns : name.data.toList.length = name.size := ba_len name
      obtain ⟨S1, hS1⟩ : ∃ S1, S1 = S0 ++ putL name.size 2 := ⟨_, rfl⟩
      obtain ⟨S2, hS2⟩ : ∃ S2, S2 = S1 ++ name.data.toList := ⟨_, rfl⟩
      obtain ⟨S3, hS3⟩ : ∃ S3, S3 = S2 ++ putL cur 2 := ⟨_, rfl⟩
      obtain ⟨S4, hS4⟩ : ∃ S4, S4 = S3 ++ putL nxt 2 := ⟨_, rfl⟩
      obtain ⟨S5, hS5⟩ : ∃ S5, S5 = S4 ++ putL m 1 := ⟨_, rfl⟩
      have l1 : S1.length = S0.length + 2 := by rw [hS1, List.length_append, putL_length]
      have l2 : S2.length = S1.length + name.size := by rw [hS2, List.length_append, hns]
      have l3 : S3.length = S2.length + 2 := by rw [hS3, List.length_append, putL_length]
      have l4 : S4.length = S3.length + 2 := by rw [hS4, List.length_append, putL_length]
      have l5 : S5.length = S4.length + 1 := by rw [hS5, List.length_append, putL_length]
      have ha1 := fun u => add_run (P := Try.prog) ⟨S0.toArray⟩ (numS name.size 2) ⟨S1.toArray⟩ (app_num _ _ _ _ hS1) (by rw [ba_size, numS_size]; omega) u
      have ha2 := fun u => add_run (P := Try.prog) ⟨S1.toArray⟩ name ⟨S2.toArray⟩ (app_str _ _ _ hS2) (by rw [ba_size]; omega) u
      have ha3 := fun u => add_run (P := Try.prog) ⟨S2.toArray⟩ (numS cur 2) ⟨S3.toArray⟩ (app_num _ _ _ _ hS3) (by rw [ba_size, numS_size]; omega) u
      have ha4 := fun u => add_run (P := Try.prog) ⟨S3.toArray⟩ (numS nxt 2) ⟨S4.toArray⟩ (app_num _ _ _ _ hS4) (by rw [ba_size, numS_size]; omega) u
      have ha5 := fun u => add_run (P := Try.prog) ⟨S4.toArray⟩ (numS m 1) ⟨S5.toArray⟩ (app_num _ _ _ _ hS5) (by rw [ba_size, numS_size]; omega) u
      have hS5e : S5 = S0 ++ ((textL name).data.toList ++ fieldsL 2 [(cur : Int), (nxt : Int)] ++ fieldsL 1 [(m : Int)]) := by
        rw [hS5, hS4, hS3, hS2, hS1]
        simp [fieldsL, textL]
      have hentB : S0 ++ entB ⟨name, cur, nxt, vers⟩ = S5 ++ versB vers := by
        rw [hS5e]; unfold entB; simp only; rw [hm]; simp only [List.append_assoc]
      have hS5l : S5.length ≤ 1 + 79 * i + 19 := by omega
      have HS5L := Lib.hid hS5l
      clear hS1 hS2 hS3 hS4 hS5 hS5e l1 l2 l3 l4 l5 hns hS5l
      generalize (ByteArray.mk S0.toArray) = X0 at *
      generalize (ByteArray.mk S1.toArray) = X1 at *
      generalize (ByteArray.mk S2.toArray) = X2 at *
      generalize (ByteArray.mk S3.toArray) = X3 at *
      generalize (ByteArray.mk S4.toArray) = X4 at *
      generalize hX5 : (ByteArray.mk S5.toArray) = X5 at *
      have HX5 := Lib.hid hX5
      have HC1 := Lib.hid (fun u => refNum_2 name.size u (by omega))
      have HC2 := Lib.hid (fun u => refNum_2 cur u (by omega))
      have HC3 := Lib.hid (fun u => refNum_2 nxt u (by omega))
      have HC4 := Lib.hid (fun u => refNum_1 m u (by omega))
      generalize numS name.size 2 = N1 at *
      generalize numS cur 2 = N2 at *
      generalize numS nxt 2 = N3 at *
      generalize numS m 1 = N4 at *
      obtain ⟨hb0, hb1, hb2⟩ := hbd
      unfold i64ok at hb1 hb2
      simp only at hb0 hb1 hb2
      have HVS := Lib.hid hvs; have HVOK := Lib.hid hvok; have HSN := Lib.hid hsn; have HEL := Lib.hid hentl; have HEB := Lib.hid hentB; have HS0 := Lib.hid hS0; have HSL := Lib.hid hS0l
      have hn := heap_alloc_new wr (.cells #[.string name, .int .i64 cur, .int .i64 nxt, .slice va m vc] 36)
      have hal := (Below.refl wr.heap.size wr).alloc (Nat.le_refl _) (.cells #[.string name, .int .i64 cur, .int .i64 nxt, .slice va m vc] 36)
      have HN := Lib.hid hn; have HAL := Lib.hid hal
      clear hvs hvok hsn hn hal hat hm hentl hentB hX5 hS0 hS0l HSZ
      go_upto_region 5 with fail
      obtain ⟨w2, hW⟩ : ∃ w2, wr.alloc (.cells #[.string name, .int .i64 cur, .int .i64 nxt, .slice va m vc] 36) = w2 := ⟨_, rfl⟩
      obtain ⟨V, hV⟩ : ∃ V, wr.heap.size = V := ⟨_, rfl⟩
      have HWW := Lib.hid (HW.out.trans (HAL.out.mono HW.out.size))
      have HVS2 := Lib.hid (HVS.out.below HAL.out)
      rw [hW] at HN HWW HVS2 ⊢
      rw [hV] at HN
      (try rw [hV])
      clear hW hV e0 e1 e2 e3 HAL HVS HW
      have q0 := keep_at HN.out 0 rfl
      have q1 := keep_at HN.out 1 rfl
      have q2 := keep_at HN.out 2 rfl
      have q3 := keep_at HN.out 3 rfl
      refine wp_region_keep (w0 := w2) (by kernel_rfl) (by kernel_rfl) (Below.refl _ _) ?_
      repeat (go_big_quiet_step ((first
        | (go_at_call_of 30 (Value.int .i64 (name.size : Int)); exact keepCall (HC1.out _))
        | (go_at_call_of 30 (Value.int .i64 (cur : Int)); exact keepCall (HC2.out _))
        | (go_at_call_of 30 (Value.int .i64 (nxt : Int)); exact keepCall (HC3.out _))
        | (go_at_call_of 30 (Value.int .i64 (m : Int)); exact keepCall (HC4.out _)))))
      refine wpQuiet_nil ?_
      intro _ hw'
      obtain ⟨x, rfl⟩ := hw'
      have hb4 := x.below
      clear q0 q1 q2 q3 ha1 ha2 ha3 ha4 ha5 HC1 HC2 HC3 HC4
      generalize x.val = w4 at *
      have HW4 := Lib.hid (HWW.out.trans (hb4.mono HWW.out.size))
      have HV4 := Lib.hid (HVS2.out.below hb4)
      have q3 := below_cell hb4 HN.out 3 rfl
      clear hb4 x HWW HVS2 HN
      go_wp2_with fail
      clear q3
      obtain ⟨va', m', vc', hvv, hml, hmc1, hmc2, hmb, hmn, hmat⟩ := HV4.out
      injection hvv with e1 e2 e3
      subst e1 e2 e3
      have HMAT := Lib.hid hmat; have HMB := Lib.hid hmb
      clear hmat hmb
      generalize hwo : wr = wo at *
      clear hwo
      rw [← HX5.out]
      go_loopw [3, 42] (fun s c wr => ∃ j : Nat, j ≤ m ∧ c = .int .i64 j ∧ s = .string ⟨(S5 ++ versB (vers.take j)).toArray⟩ ∧ Hid (Below w4.heap.size w4 wr)) (fun _ c _ => m - (intOf c).toNat)
      case atStart => exact ⟨0, Nat.zero_le _, rfl, by simp [versB], Lib.hid (Below.refl _ _)⟩
      case round =>
        obtain ⟨j, hjm, rfl, rfl, HJ⟩ := hrel
        by_cases hjl : j < m
        · have hjI : (j : Int) < m := by omega
          obtain ⟨b', off', rfl, hbl', hmat⟩ := HMAT.out.resolve_left (by omega)
          obtain ⟨v0, v1, v2, v3, v4⟩ := (hmat j hjl).below HJ.out hbl'
          have hfit := verOk_fit _ (HVOK.out _ (getD_mem vers j vrZ (by rw [HM.out]; exact hjl)))
          have hvsn := versB_snoc vers j (by rw [HM.out]; exact hjl)
          have hvl : (versB (vers.take j)).length ≤ 60 := by rw [versB_len, List.length_take]; omega
          generalize vers.getD j vrZ = v at *
          obtain ⟨no, src, flt, byt, ins⟩ := v
          simp only at v0 v1 v2 v3 v4 hfit
          have e2 : (256 : Nat) ^ (2 : Int).toNat = 65536 := by decide
          rw [e2] at hfit
          clear e2
          simp only [List.forall_mem_cons, List.not_mem_nil, false_implies, implies_true, and_true] at hfit
          obtain ⟨⟨f0, g0⟩, ⟨f1, g1⟩, ⟨f2, g2⟩, ⟨f3, g3⟩, f4, g4⟩ := hfit
          obtain ⟨no, rfl⟩ := Int.eq_ofNat_of_zero_le f0
          obtain ⟨src, rfl⟩ := Int.eq_ofNat_of_zero_le f1
          obtain ⟨flt, rfl⟩ := Int.eq_ofNat_of_zero_le f2
          obtain ⟨byt, rfl⟩ := Int.eq_ofNat_of_zero_le f3
          obtain ⟨ins, rfl⟩ := Int.eq_ofNat_of_zero_le f4
          simp only [Int.toNat_natCast] at g0 g1 g2 g3 g4
          have hvb : verB ⟨(no : Int), (src : Int), (flt : Int), (byt : Int), (ins : Int)⟩ = putL no 2 ++ putL src 2 ++ putL flt 2 ++ putL byt 2 ++ putL ins 2 := by simp [verB, fieldsL]
          rw [hvb] at hvsn
          obtain ⟨Y0, hY0⟩ : ∃ Y0, Y0 = S5 ++ versB (vers.take j) := ⟨_, rfl⟩
          obtain ⟨Y1, hY1⟩ : ∃ Y1, Y1 = Y0 ++ putL no 2 := ⟨_, rfl⟩
          obtain ⟨Y2, hY2⟩ : ∃ Y2, Y2 = Y1 ++ putL src 2 := ⟨_, rfl⟩
          obtain ⟨Y3, hY3⟩ : ∃ Y3, Y3 = Y2 ++ putL flt 2 := ⟨_, rfl⟩
          obtain ⟨Y4, hY4⟩ : ∃ Y4, Y4 = Y3 ++ putL byt 2 := ⟨_, rfl⟩
          obtain ⟨Y5, hY5⟩ : ∃ Y5, Y5 = Y4 ++ putL ins 2 := ⟨_, rfl⟩
          have l0 : Y0.length ≤ 1000 := by rw [hY0, List.length_append]; have := HS5L.out; omega
          have l1 : Y1.length = Y0.length + 2 := by rw [hY1, List.length_append, putL_length]
          have l2 : Y2.length = Y1.length + 2 := by rw [hY2, List.length_append, putL_length]
          have l3 : Y3.length = Y2.length + 2 := by rw [hY3, List.length_append, putL_length]
          have l4 : Y4.length = Y3.length + 2 := by rw [hY4, List.length_append, putL_length]
          have ha1 := fun u => add_run (P := Try.prog) ⟨Y0.toArray⟩ (numS no 2) ⟨Y1.toArray⟩ (app_num _ _ _ _ hY1) (by rw [ba_size, numS_size]; omega) u
          have ha2 := fun u => add_run (P := Try.prog) ⟨Y1.toArray⟩ (numS src 2) ⟨Y2.toArray⟩ (app_num _ _ _ _ hY2) (by rw [ba_size, numS_size]; omega) u
          have ha3 := fun u => add_run (P := Try.prog) ⟨Y2.toArray⟩ (numS flt 2) ⟨Y3.toArray⟩ (app_num _ _ _ _ hY3) (by rw [ba_size, numS_size]; omega) u
          have ha4 := fun u => add_run (P := Try.prog) ⟨Y3.toArray⟩ (numS byt 2) ⟨Y4.toArray⟩ (app_num _ _ _ _ hY4) (by rw [ba_size, numS_size]; omega) u
          have ha5 := fun u => add_run (P := Try.prog) ⟨Y4.toArray⟩ (numS ins 2) ⟨Y5.toArray⟩ (app_num _ _ _ _ hY5) (by rw [ba_size, numS_size]; omega) u
          have hfin : Y5 = S5 ++ versB (vers.take (j + 1)) := by rw [hY5, hY4, hY3, hY2, hY1, hY0, hvsn]; simp only [List.append_assoc]
          rw [← hY0]
          clear hY1 hY2 hY3 hY4 hY5 l0 l1 l2 l3 l4 hvsn hvl hvb hY0
          generalize (ByteArray.mk Y0.toArray) = X0 at *
          generalize (ByteArray.mk Y1.toArray) = X1 at *
          generalize (ByteArray.mk Y2.toArray) = X2 at *
          generalize (ByteArray.mk Y3.toArray) = X3 at *
          generalize (ByteArray.mk Y4.toArray) = X4 at *
          rw [hfin] at ha5
          generalize hX6 : (ByteArray.mk (S5 ++ versB (vers.take (j + 1))).toArray) = X6 at *
          have HX6 := Lib.hid hX6
          have HC1 := Lib.hid (fun u => refNum_2 no u (by omega))
          have HC2 := Lib.hid (fun u => refNum_2 src u (by omega))
          have HC3 := Lib.hid (fun u => refNum_2 flt u (by omega))
          have HC4 := Lib.hid (fun u => refNum_2 byt u (by omega))
          have HC5 := Lib.hid (fun u => refNum_2 ins u (by omega))
          generalize numS no 2 = N1 at *
          generalize numS src 2 = N2 at *
          generalize numS flt 2 = N3 at *
          generalize numS byt 2 = N4 at *
          generalize numS ins 2 = N5 at *
          have hn := heap_alloc_new wr (.cells #[.int .i64 no, .int .i64 src, .int .i64 flt, .int .i64 byt, .int .i64 ins] 42)
          have hal := (Below.refl wr.heap.size wr).alloc (Nat.le_refl _) (.cells #[.int .i64 no, .int .i64 src, .int .i64 flt, .int .i64 byt, .int .i64 ins] 42)
          have HN := Lib.hid hn; have HAL := Lib.hid hal
          clear hn hal hmat hX6 hfin f0 f1 f2 f3 f4 g0 g1 g2 g3 g4
          go_upto_region 9 with fail
          obtain ⟨w5, hW⟩ : ∃ w5, wr.alloc (.cells #[.int .i64 no, .int .i64 src, .int .i64 flt, .int .i64 byt, .int .i64 ins] 42) = w5 := ⟨_, rfl⟩
          obtain ⟨V5, hV⟩ : ∃ V, wr.heap.size = V := ⟨_, rfl⟩
          have HJ5 := Lib.hid (HJ.out.trans (HAL.out.mono HJ.out.size))
          rw [hW] at HN HJ5 ⊢
          rw [hV] at HN
          (try rw [hV])
          clear hW hV v0 v1 v2 v3 v4 HAL HJ
          have q0 := keep_at HN.out 0 rfl
          have q1 := keep_at HN.out 1 rfl
          have q2 := keep_at HN.out 2 rfl
          have q3 := keep_at HN.out 3 rfl
          have q4 := keep_at HN.out 4 rfl
          refine wp_region_keep (w0 := w5) (by kernel_rfl) (by kernel_rfl) (Below.refl _ _) ?_
          repeat (go_big_quiet_step ((first
            | (go_at_call_of 30 (Value.int .i64 (no : Int)); exact keepCall (HC1.out _))
            | (go_at_call_of 30 (Value.int .i64 (src : Int)); exact keepCall (HC2.out _))
            | (go_at_call_of 30 (Value.int .i64 (flt : Int)); exact keepCall (HC3.out _))
            | (go_at_call_of 30 (Value.int .i64 (byt : Int)); exact keepCall (HC4.out _))
            | (go_at_call_of 30 (Value.int .i64 (ins : Int)); exact keepCall (HC5.out _)))))
          refine wpQuiet_nil ?_
          intro _ hw'
          obtain ⟨x, rfl⟩ := hw'
          have HJ6 := Lib.hid (HJ5.out.trans (x.below.mono HJ5.out.size))
          clear q0 q1 q2 q3 q4 ha1 ha2 ha3 ha4 ha5 HC1 HC2 HC3 HC4 HC5 HN HJ5
          go_wp2_with fail
          go_roundw
          case rel => exact ⟨j + 1, by omega, by go_num, by rw [HX6.out], HJ6⟩
          case measure => simp [intOf]; omega
        · have hje : j = m := by omega
          have hnl : ¬ (j : Int) < m := by omega
          have hall : vers.take j = vers := List.take_of_length_le (by rw [HM.out]; omega)
          rw [hall]
          have hfin : S5 ++ versB vers = F ++ (l.take (i + 1)).flatMap entB := by rw [HSN.out, ← List.append_assoc, HS0.out, ← HEB.out]
          rw [hfin]
          have hfl : (F ++ (l.take (i + 1)).flatMap entB).length ≤ 1 + 79 * (i + 1) := by
            have h1 := HEL.out
            have h2 := HS0.out
            rw [HSN.out, ← List.append_assoc, h2, List.length_append]
            have h4 := HSL.out
            omega
          have HFLN := Lib.hid hfl
          clear hfin hfl hall
          go_wp2_with fail
          go_roundw
          case rel => exact ⟨i + 1, by omega, by go_num, rfl, Lib.hid (HW4.out.trans (HJ.out.mono HW4.out.size)), HFLN⟩
          case measure => simp [intOf]; omega
    · obtain rfl : i = n := by omega
      have hnl : ¬ (i : Int) < i := by omega
      clear HAT HENT HSZ
      rw [← HPK.out]
      go_wp2_with fail
      go_ret
      exact ⟨rfl, HW.out⟩
end Go.Proofs.Ytfpfcjgdihlieaa
