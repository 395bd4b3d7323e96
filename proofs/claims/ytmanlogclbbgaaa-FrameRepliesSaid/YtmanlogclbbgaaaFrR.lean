/- FrL, Fr27, Fr28, Fr29, Fr30, in one text. -/
import Derived.Test.YtmanlogclbbgaaaFr26
import Derived.Test.YtmanlogclbbgaaaFr12
import Derived.Test.YtmanlogclbbgaaaRef02
import Derived.Test.YtmanlogclbbgaaaFrN
import Derived.Test.YtmanlogclbbgaaaFr23
import Derived.Test.YtmanlogclbbgaaaFr20
import Derived.Test.YtmanlogclbbgaaaRef02O
namespace Go.Proofs.Ytmanlogclbbgaaa
section SFrL
open Go.RowKit Go.Joins Go.Deep
set_option linter.unusedVariables false
set_option linter.unusedSimpArgs false

theorem LnAt.cell {w : World} {b o : Nat} {e : Ln} (h : LnAt w b o e) : e.bounded ∧ ∃ A c, Reads1 encI w (.slice A e.nos.length c) e.nos ∧ w.cell? ⟨b, o, none⟩ = some (.string e.name) ∧ w.cell? ⟨b, o + 1, none⟩ = some (.int .i64 e.cur) ∧ w.cell? ⟨b, o + 2, none⟩ = some (.slice A e.nos.length c) := by
  obtain ⟨h0, k, h1, h2, h3, h4⟩ := h
  obtain ⟨a, cap, rfl, _⟩ := reads1_form h1
  exact ⟨h0, a, cap, h1, h2, h3, h4⟩
set_option maxRecDepth 100000 in
set_option maxHeartbeats 4000000 in
theorem refLikeRp (r : Rp) (va vb : Value) (w : World) (ha : IsRp w va r) (hb : IsRp w vb r) (hl : r.lines.length ≤ 100000) (hv : ∀ e ∈ r.lines, e.nos.length ≤ 100000) :
    Calls Try.prog 19 #[va, vb] w fun e w' => e = .returned (.bool true) ∧ Below w.heap.size w w' := by
  obtain ⟨hbd, ka, rfl, hka⟩ := ha
  obtain ⟨_, kb, rfl, hkb⟩ := hb
  obtain ⟨A, c, rfl, hc1, hc2⟩ := hka.form
  obtain ⟨A', c', rfl, hc1', hc2'⟩ := hkb.form
  obtain ⟨why, at_, no, source, insns, action, l⟩ := r
  simp only [Rp.val] at *
  obtain ⟨n, hn⟩ : ∃ n, l.length = n := ⟨_, rfl⟩
  rw [hn] at hka hkb hc1 hc1' hl ⊢
  obtain ⟨a, n1, cap, e1, hl1, _, _, _, hat⟩ := hka
  injection e1 with t1 t2 t3
  subst t1 t2 t3
  obtain ⟨a, n1, cap, e1, _, _, _, _, hat'⟩ := hkb
  injection e1 with t1 t2 t3
  subst t1 t2 t3
  have hnI : (n : Int) ≤ 100000 := by omega
  have HAT := Lib.hid hat; have HAT' := Lib.hid hat'; have HV := Lib.hid hv; have HL := Lib.hid hn
  have hs1 : (source.toList == source.toList) = true := by simp
  have hX : Hid (∀ u : World, u = (w.alloc (.cells #[.int .i64 why, .int .i64 at_, .int .i64 no, .string source, .int .i64 insns, .int .u32 action, .slice A n c] 37)).alloc (.cells #[.int .i64 why, .int .i64 at_, .int .i64 no, .string source, .int .i64 insns, .int .u32 action, .slice A' n c'] 37) →
      u.heap[w.heap.size]? = some (.cells #[.int .i64 why, .int .i64 at_, .int .i64 no, .string source, .int .i64 insns, .int .u32 action, .slice A n c] 37 (0, 0)) ∧ u.heap[w.heap.size + 1]? = some (.cells #[.int .i64 why, .int .i64 at_, .int .i64 no, .string source, .int .i64 insns, .int .u32 action, .slice A' n c'] 37 (0, 0)) ∧ Below w.heap.size w u) := Lib.hid (by
    rintro u rfl
    have b0 := heap_alloc_new w (.cells #[.int .i64 why, .int .i64 at_, .int .i64 no, .string source, .int .i64 insns, .int .u32 action, .slice A n c] 37)
    have e1 := heap_alloc_new (w.alloc (.cells #[.int .i64 why, .int .i64 at_, .int .i64 no, .string source, .int .i64 insns, .int .u32 action, .slice A n c] 37)) (.cells #[.int .i64 why, .int .i64 at_, .int .i64 no, .string source, .int .i64 insns, .int .u32 action, .slice A' n c'] 37)
    rw [World.size_alloc] at e1
    exact ⟨(heap_alloc_old _ _ (lt_of_block b0)).trans b0, e1, ((Below.refl w.heap.size w).alloc (Nat.le_refl _) _).alloc (by simp) _⟩)
  clear hat hat' hl hbd hv hn hl1 hc1 hc1' hc2 hc2'
  go_enter Try.func19, Try.ntmps19
  go_upto_region 1 with fail
  obtain ⟨u, hW⟩ : ∃ u, (w.alloc (.cells #[.int .i64 why, .int .i64 at_, .int .i64 no, .string source, .int .i64 insns, .int .u32 action, .slice A n c] 37)).alloc (.cells #[.int .i64 why, .int .i64 at_, .int .i64 no, .string source, .int .i64 insns, .int .u32 action, .slice A' n c'] 37) = u := ⟨_, rfl⟩
  rw [hW]
  obtain ⟨hA, hB, hb⟩ := hX.out u hW.symm
  clear hX hW
  obtain ⟨N, hNN⟩ : ∃ N, w.heap.size = N := ⟨_, rfl⟩
  obtain ⟨M, hMM⟩ : ∃ M, w.heap.size + 1 = M := ⟨_, rfl⟩
  have HN := Lib.hid hNN
  rw [hMM] at hB ⊢
  rw [hNN] at hA ⊢
  clear hNN hMM
  have c0 := below_cell (Below.refl _ u) hA 0 rfl
  have c1 := below_cell (Below.refl _ u) hA 1 rfl
  have c2 := below_cell (Below.refl _ u) hA 2 rfl
  have c3 := below_cell (Below.refl _ u) hA 3 rfl
  have c4 := below_cell (Below.refl _ u) hA 4 rfl
  have c5 := below_cell (Below.refl _ u) hA 5 rfl
  have c6 := below_cell (Below.refl _ u) hA 6 rfl
  have e0 := below_cell (Below.refl _ u) hB 0 rfl
  have e1 := below_cell (Below.refl _ u) hB 1 rfl
  have e2 := below_cell (Below.refl _ u) hB 2 rfl
  have e3 := below_cell (Below.refl _ u) hB 3 rfl
  have e4 := below_cell (Below.refl _ u) hB 4 rfl
  have e5 := below_cell (Below.refl _ u) hB 5 rfl
  have e6 := below_cell (Below.refl _ u) hB 6 rfl
  have HB := Lib.hid hB; have HBU := Lib.hid hb
  clear hB hb hA
  go_wp2_with fail
  clear c0 c1 c2 c3 c4 c5 c6 e0 e1 e2 e3 e4 e5 e6
  go_loopw [61] (fun z wr => ∃ i : Nat, i ≤ n ∧ z = .int .i64 i ∧ Hid (Below u.heap.size u wr)) (fun z _ => n - (intOf z).toNat)
  case atStart => exact ⟨0, Nat.zero_le _, rfl, Lib.hid (Below.refl _ _)⟩
  case round =>
    obtain ⟨i, hin, rfl, HW⟩ := hrel
    by_cases hlt : i < n
    · have hltI : (i : Int) < n := by omega
      obtain ⟨b, off, rfl, hblt, hat⟩ := HAT.out.resolve_left (by omega)
      obtain ⟨b', off', rfl, hblt', hat'⟩ := HAT'.out.resolve_left (by omega)
      have HWW := Lib.hid (HBU.out.trans (HW.out.mono HBU.out.size))
      obtain ⟨_, va, vc, hvs, e0, e1, e2⟩ := ((hat i hlt).below HWW.out hblt).cell
      obtain ⟨_, va', vc', hvs', e0', e1', e2'⟩ := ((hat' i hlt).below HWW.out hblt').cell
      have hbr := below_cell HW.out HB.out 6 rfl
      have hv6 := HV.out _ (List.getElem_mem (show i < l.length by rw [HL.out]; exact hlt))
      rw [show l[i]'(show i < l.length by rw [HL.out]; exact hlt) = l.getD i lnZ from by simp [List.getD, show i < l.length by rw [HL.out]; exact hlt]] at hv6
      generalize l.getD i lnZ = e at *
      obtain ⟨name, cur, nos⟩ := e
      simp only at hvs e0 e1 e2 hvs' e0' e1' e2' hv6
      obtain ⟨m, hm⟩ : ∃ m, nos.length = m := ⟨_, rfl⟩
      rw [hm] at hvs e2 hvs' e2' hv6
      have hm6 : (m : Int) ≤ 100000 := by omega
      have HM := Lib.hid hm
      obtain ⟨wa, hwa⟩ : ∃ wa, wr.alloc (.cells #[.string name, .int .i64 cur, .slice va m vc] 66) = wa := ⟨_, rfl⟩
      obtain ⟨wb, hwb⟩ : ∃ wb, wa.alloc (.cells #[.string name, .int .i64 cur, .slice va' m vc'] 66) = wb := ⟨_, rfl⟩
      have hA : Below wr.heap.size wr wa := by rw [← hwa]; exact (Below.refl _ _).alloc (Nat.le_refl _) _
      have hA2 : wa.heap[wr.heap.size]? = some (.cells #[.string name, .int .i64 cur, .slice va m vc] 66 (0, 0)) := by rw [← hwa]; exact heap_alloc_new wr _
      have hB : Below wa.heap.size wa wb := by rw [← hwb]; exact (Below.refl _ _).alloc (Nat.le_refl _) _
      have hB2 : wb.heap[wa.heap.size]? = some (.cells #[.string name, .int .i64 cur, .slice va' m vc'] 66 (0, 0)) := by rw [← hwb]; exact heap_alloc_new wa _
      have hB3 := (hB.block _ (lt_of_block hA2)).trans hA2
      have hblr : b' < wr.heap.size := Nat.lt_of_lt_of_le hblt' HWW.out.size
      have hMr : M < wr.heap.size := Nat.lt_of_lt_of_le (lt_of_block HB.out) HW.out.size
      have d0 := (hA.cell (p := ⟨b', off' + i * 3, none⟩) hblr).trans e0'
      have d1 := (hA.cell (p := ⟨b', off' + i * 3 + 1, none⟩) hblr).trans e1'
      have d2 := (hA.cell (p := ⟨b', off' + i * 3 + 2, none⟩) hblr).trans e2'
      have dbr := (hA.cell (p := ⟨M, 6, none⟩) hMr).trans hbr
      have hWB := HW.out.trans ((hA.trans (hB.mono hA.size)).mono HW.out.size)
      have hV1 := hvs.below (hA.trans (hB.mono hA.size))
      have hV2 := hvs'.below (hA.trans (hB.mono hA.size))
      have HA2 := Lib.hid hwa; have HB2 := Lib.hid hwb; have HC := Lib.hid hB3; have HD := Lib.hid hB2; have HWB := Lib.hid hWB; have HV1 := Lib.hid hV1; have HV2 := Lib.hid hV2
      clear hwa hwb hA hA2 hB hB2 hB3 hWB hV1 hV2 hvs hvs' hm hat hat' e0' e1' e2' hbr
      go_upto_region 6 with fail
      rw [HA2.out]
      have hsz : wr.heap.size + 1 = wa.heap.size := by rw [← HA2.out, World.size_alloc]
      clear e0 e1 e2
      go_upto_region 7 with fail
      rw [HB2.out]
      (try rw [hsz])
      clear d0 d1 d2 dbr hsz HA2 HB2 HW
      obtain ⟨P, hP⟩ : ∃ P, wr.heap.size = P := ⟨_, rfl⟩
      obtain ⟨Q, hQ⟩ : ∃ Q, wa.heap.size = Q := ⟨_, rfl⟩
      rw [hP] at HC ⊢
      rw [hQ] at HD ⊢
      clear hP hQ
      have p0 := below_cell (Below.refl _ wb) HC.out 0 rfl
      have p1 := below_cell (Below.refl _ wb) HC.out 1 rfl
      have p2 := below_cell (Below.refl _ wb) HC.out 2 rfl
      have q0 := below_cell (Below.refl _ wb) HD.out 0 rfl
      have q1 := below_cell (Below.refl _ wb) HD.out 1 rfl
      have q2 := below_cell (Below.refl _ wb) HD.out 2 rfl
      have hsame : (name.toList == name.toList) = true := by simp
      go_wp2_with fail
      clear p0 p1 p2 q0 q1 q2 hsame
      obtain ⟨_, _, _, hvv, hl1, hm1, hm2, hvat⟩ := HV1.out
      injection hvv with t1 t2 t3
      subst t1 t2 t3
      obtain ⟨_, _, _, hvv', _, hm1', hm2', hvat'⟩ := HV2.out
      injection hvv' with t1 t2 t3
      subst t1 t2 t3
      have HVA := Lib.hid hvat; have HVA' := Lib.hid hvat'
      clear hvat hvat' HV1 HV2 hl1
      generalize hwo : wr = wo at *
      clear hwo
      go_loopw [95] (fun z wr => ∃ k : Nat, k ≤ m ∧ z = .int .i64 k ∧ Hid (Below wb.heap.size wb wr)) (fun z _ => m - (intOf z).toNat)
      case atStart => exact ⟨0, Nat.zero_le _, rfl, Lib.hid (Below.refl _ _)⟩
      case round =>
        obtain ⟨k, hkm, rfl, HK⟩ := hrel
        have p2 := below_cell HK.out HC.out 2 rfl
        have q2 := below_cell HK.out HD.out 2 rfl
        by_cases hk : k < m
        · have hkI : (k : Int) < m := by omega
          have hkl : k < nos.length := by rw [HM.out]; exact hk
          obtain ⟨vb, vo, rfl, hvb, hvat⟩ := HVA.out.resolve_left (by omega)
          obtain ⟨vb', vo', rfl, hvb', hvat'⟩ := HVA'.out.resolve_left (by omega)
          have c0 := (HK.out.cell (p := ⟨vb, vo + k, none⟩) hvb).trans (hvat k hkl)
          have d0 := (HK.out.cell (p := ⟨vb', vo' + k, none⟩) hvb').trans (hvat' k hkl)
          unfold encI at c0 d0
          generalize nos[k] = x at *
          clear hvat hvat'
          go_wp2_with fail
          go_quiet (fail)
          go_wp2_with fail
          go_roundw
          case rel => exact ⟨k + 1, by omega, by go_num, Lib.hid (by first | exact HK.out | exact belowN HK.out _)⟩
          case measure => simp [intOf]; omega
        · obtain rfl : k = m := by omega
          have hnl : ¬ (k : Int) < k := by omega
          go_wp2_with fail
          go_roundw
          case rel => exact ⟨i + 1, by omega, by go_num, Lib.hid (HWB.out.trans (HK.out.mono HWB.out.size))⟩
          case measure => simp [intOf]; omega
    · obtain rfl : i = n := by omega
      have hnl : ¬ (i : Int) < i := by omega
      go_wp2_with fail
      go_ret
      exact ⟨rfl, HBU.out.trans (HW.out.mono HBU.out.size)⟩
end SFrL
section SFr27
open Go.RowKit Go.Joins Go.Deep
set_option linter.unusedVariables false
set_option linter.unusedSimpArgs false

theorem u64_in (n : Nat) (h : n ≤ 4294967295) : IntKind.u64.wrap (n : Int) = n := by simp [IntKind.wrap, IntKind.signed, IntKind.bits]; omega
theorem num_size (n k : Nat) : (numS n k).size = k := by rw [← ba_len, numS_list, putL_length]
theorem app_num (S T : List UInt8) (n k : Nat) (h : T = S ++ putL n k) : (ByteArray.mk T.toArray) = ⟨S.toArray⟩ ++ numS n k := by rw [h]; apply ba_ext; rw [ba_append_list, numS_list]
theorem app_txt (S T : List UInt8) (s : ByteArray) (h : T = S ++ tx s) : (ByteArray.mk T.toArray) = ⟨S.toArray⟩ ++ textL s := by
  rw [h]; apply ba_ext; rw [ba_append_list]; rfl
theorem lnsB_snoc (l : List Ln) (i : Nat) (h : i < l.length) : (l.take (i + 1)).flatMap lnB = (l.take i).flatMap lnB ++ lnB (l.getD i lnZ) := by
  rw [← List.take_append_getElem h, List.flatMap_append, show l.getD i lnZ = l[i] from by simp [List.getD, h]]
  simp
set_option maxRecDepth 100000 in
set_option maxHeartbeats 8000000 in
theorem rfReply (r : Rp) (v : Value) (w : World) (h : IsRp w v r) (hr : rpOk r = true) :
    Calls Try.prog 21 #[v] w fun e w' => e = .returned (.string (rpB r)) ∧ Below w.heap.size w w' := by
  have hfit := rp_fits hr
  obtain ⟨hbd, ka, rfl, hka⟩ := h
  obtain ⟨a, n, cap, rfl, hlen, hc1, hc2, hnil, hat⟩ := hka
  obtain ⟨f1, f2, f3, f4, f5, f6, f7⟩ := hfit
  have hact := hbd.2.2.2.2.2
  obtain ⟨why, at_, no, source, insns, action, l⟩ := r
  simp only [Rp.val] at *
  obtain ⟨why, rfl⟩ := Int.eq_ofNat_of_zero_le f1.1
  obtain ⟨at_, rfl⟩ := Int.eq_ofNat_of_zero_le f2.1
  obtain ⟨no, rfl⟩ := Int.eq_ofNat_of_zero_le f3.1
  obtain ⟨insns, rfl⟩ := Int.eq_ofNat_of_zero_le f4.1
  obtain ⟨action, rfl⟩ := Int.eq_ofNat_of_zero_le hact.1
  have hlB := lnsB_len l f7
  obtain ⟨S1, hS1⟩ : ∃ S1, S1 = putL why 2 ++ putL at_ 2 := ⟨_, rfl⟩
  obtain ⟨S2, hS2⟩ : ∃ S2, S2 = S1 ++ putL no 2 := ⟨_, rfl⟩
  obtain ⟨S3, hS3⟩ : ∃ S3, S3 = S2 ++ tx source := ⟨_, rfl⟩
  obtain ⟨S4, hS4⟩ : ∃ S4, S4 = S3 ++ putL insns 2 := ⟨_, rfl⟩
  obtain ⟨S5, hS5⟩ : ∃ S5, S5 = S4 ++ putL action 4 := ⟨_, rfl⟩
  obtain ⟨F, hF⟩ : ∃ F, F = S5 ++ putL n 1 := ⟨_, rfl⟩
  have l1 : S1.length = 4 := by rw [hS1, List.length_append, putL_length, putL_length]
  have l2 : S2.length = 6 := by rw [hS2, List.length_append, putL_length, l1]
  have l3 : S3.length = 6 + (2 + source.size) := by rw [hS3, List.length_append, tx_len, l2]
  have l4 : S4.length = S3.length + 2 := by rw [hS4, List.length_append, putL_length]
  have l5 : S5.length = S4.length + 4 := by rw [hS5, List.length_append, putL_length]
  have l6 : F.length = S5.length + 1 := by rw [hF, List.length_append, putL_length]
  have ha1 := fun u => add_run (P := Try.prog) (numS why 2) (numS at_ 2) ⟨S1.toArray⟩ (by rw [hS1]; apply ba_ext; rw [ba_append_list, numS_list, numS_list]) (by rw [num_size, num_size]; omega) u
  have ha2 := fun u => add_run (P := Try.prog) ⟨S1.toArray⟩ (numS no 2) ⟨S2.toArray⟩ (app_num _ _ _ _ hS2) (by rw [ba_size, num_size]; omega) u
  have ha3 := fun u => add_run (P := Try.prog) ⟨S2.toArray⟩ (textL source) ⟨S3.toArray⟩ (app_txt _ _ _ hS3) (by rw [ba_size, textL_size]; omega) u
  have ha4 := fun u => add_run (P := Try.prog) ⟨S3.toArray⟩ (numS insns 2) ⟨S4.toArray⟩ (app_num _ _ _ _ hS4) (by rw [ba_size, num_size]; omega) u
  have ha5 := fun u => add_run (P := Try.prog) ⟨S4.toArray⟩ (numS action 4) ⟨S5.toArray⟩ (app_num _ _ _ _ hS5) (by rw [ba_size, num_size]; omega) u
  have ha6 := fun u => add_run (P := Try.prog) ⟨S5.toArray⟩ (numS n 1) ⟨F.toArray⟩ (app_num _ _ _ _ hF) (by rw [ba_size, num_size]; omega) u
  have hw1 := u64_in why (by omega)
  have hw2 := u64_in at_ (by omega)
  have hw3 := u64_in no (by omega)
  have hw4 := u64_in insns (by omega)
  have hw5 := u64_in action (by omega)
  have hw6 := u64_in n (by omega)
  have HPK : Hid (rpB ⟨why, at_, no, source, insns, action, l⟩ = sealL ⟨(F ++ (l.take n).flatMap lnB).toArray⟩) := Lib.hid (by
    unfold rpB rpIn headB
    rw [hF, hS5, hS4, hS3, hS2, hS1, List.take_of_length_le (by omega)]
    simp [fieldsL, hlen])
  have hFl : F.length ≤ 2100 := by omega
  have hn8 : (n : Int) ≤ 8 := by omega
  have hn8N : n ≤ 8 := by omega
  have HFL := Lib.hid hFl; have HAT := Lib.hid hat; have HL := Lib.hid hlen; have HFT := Lib.hid f7
  have HC1 := Lib.hid (fun u => refNum24 why 2 u (by omega) (by omega))
  have HC2 := Lib.hid (fun u => refNum24 at_ 2 u (by omega) (by omega))
  have HC3 := Lib.hid (fun u => refNum24 no 2 u (by omega) (by omega))
  have HC4 := Lib.hid (fun u => refText24 source u (by omega))
  have HC5 := Lib.hid (fun u => refNum24 insns 2 u (by omega) (by omega))
  have HC6 := Lib.hid (fun u => refNum24 action 4 u (by omega) (by omega))
  have HC7 := Lib.hid (fun u => refNum24 n 1 u (by omega) (by omega))
  have b0 := heap_alloc_new w (.cells #[.int .i64 why, .int .i64 at_, .int .i64 no, .string source, .int .i64 insns, .int .u32 action, .slice a n cap] 37)
  have hb0 := (Below.refl w.heap.size w).alloc (Nat.le_refl _) (.cells #[.int .i64 why, .int .i64 at_, .int .i64 no, .string source, .int .i64 insns, .int .u32 action, .slice a n cap] 37)
  clear hS1 hS2 hS3 hS4 hS5 hF l1 l2 l3 l4 l5 l6 hFl hat f1 f2 f3 f4 f5 f6 f7 hact hbd hr hlB hlen
  generalize (ByteArray.mk S1.toArray) = X1 at *
  generalize (ByteArray.mk S2.toArray) = X2 at *
  generalize (ByteArray.mk S3.toArray) = X3 at *
  generalize (ByteArray.mk S4.toArray) = X4 at *
  generalize (ByteArray.mk S5.toArray) = X5 at *
  obtain ⟨X6, hX6⟩ : ∃ X6, ByteArray.mk F.toArray = X6 := ⟨_, rfl⟩
  rw [hX6] at ha6
  have HX6 := Lib.hid hX6
  generalize numS why 2 = N1 at *
  generalize numS at_ 2 = N2 at *
  generalize numS no 2 = N3 at *
  generalize textL source = N4 at *
  generalize numS insns 2 = N5 at *
  generalize numS action 4 = N6 at *
  generalize numS n 1 = N7 at *
  clear hX6
  go_enter Try.func21, Try.ntmps21
  go_upto_region 1 with fail
  obtain ⟨u, hW⟩ : ∃ u, w.alloc (.cells #[.int .i64 why, .int .i64 at_, .int .i64 no, .string source, .int .i64 insns, .int .u32 action, .slice a n cap] 37) = u := ⟨_, rfl⟩
  rw [hW] at b0 hb0 ⊢
  clear hW
  have q0 := keep_at b0 0 rfl
  have q1 := keep_at b0 1 rfl
  have q2 := keep_at b0 2 rfl
  have q3 := keep_at b0 3 rfl
  have q4 := keep_at b0 4 rfl
  have q5 := keep_at b0 5 rfl
  have q6 := keep_at b0 6 rfl
  have HB0 := Lib.hid b0; have HBB := Lib.hid hb0
  clear b0 hb0
  refine wp_region_keep (w0 := u) (by kernel_rfl) (by kernel_rfl) (Below.refl _ _) ?_
  repeat (go_big_quiet_step ((first
    | (go_at_call_of 36 (Value.int .u64 (why : Int)); exact keepCall (HC1.out _))
    | (go_at_call_of 36 (Value.int .u64 (at_ : Int)); exact keepCall (HC2.out _))
    | (go_at_call_of 36 (Value.int .u64 (no : Int)); exact keepCall (HC3.out _))
    | (go_at_call 37; exact keepCall (HC4.out _))
    | (go_at_call_of 36 (Value.int .u64 (insns : Int)); exact keepCall (HC5.out _))
    | (go_at_call_of 36 (Value.int .u64 (action : Int)); exact keepCall (HC6.out _))
    | (go_at_call_of 36 (Value.int .u64 (n : Int)); exact keepCall (HC7.out _)))))
  refine wpQuiet_nil ?_
  intro _ hw'
  obtain ⟨x, rfl⟩ := hw'
  have hb4 := x.below
  clear q0 q1 q2 q3 q4 q5 q6 ha1 ha2 ha3 ha4 ha5 ha6 HC1 HC2 HC3 HC4 HC5 HC6 HC7 hw1 hw2 hw3 hw4 hw5 hw6
  generalize x.val = w4 at *
  have q6 := below_cell hb4 HB0.out 6 rfl
  have HW4 := Lib.hid (HBB.out.trans (hb4.mono HBB.out.size))
  clear hb4 x HB0
  go_wp2_with fail
  clear q6
  rw [← HX6.out]
  go_loopw [3, 45] (fun s c wr => ∃ i : Nat, i ≤ n ∧ c = .int .i64 i ∧ s = .string ⟨(F ++ (l.take i).flatMap lnB).toArray⟩ ∧ Hid (Below w.heap.size w wr ∧ Below w4.heap.size w4 wr) ∧ Hid ((F ++ (l.take i).flatMap lnB).length ≤ 2100 + 57 * i)) (fun _ c _ => n - (intOf c).toNat)
  case atStart => exact ⟨0, Nat.zero_le _, rfl, by simp, Lib.hid ⟨HW4.out, Below.refl _ _⟩, Lib.hid (by have := HFL.out; simp; omega)⟩
  case round =>
    obtain ⟨i, hin, rfl, rfl, HW, HSZ⟩ := hrel
    by_cases hlt : i < n
    · have hltI : (i : Int) < n := by omega
      have hil : i < l.length := by rw [HL.out]; exact hlt
      obtain ⟨b, off, rfl, hblt, hat⟩ := HAT.out.resolve_left (by omega)
      obtain ⟨_, va, vc, hvs, e0, e1, e2⟩ := ((hat i hlt).below HW.out.1 hblt).cell
      have hfe := HFT.out _ (List.getElem_mem hil)
      rw [show l[i] = l.getD i lnZ from by simp [List.getD, hil]] at hfe
      have hsn := lnsB_snoc l i hil
      generalize l.getD i lnZ = e at *
      obtain ⟨name, cur, nos⟩ := e
      obtain ⟨g1, g2, g3, g4⟩ := hfe
      simp only at hvs e0 e1 e2 g1 g2 g3 g4
      obtain ⟨cur, rfl⟩ := Int.eq_ofNat_of_zero_le g3.1
      obtain ⟨m, hm⟩ : ∃ m, nos.length = m := ⟨_, rfl⟩
      rw [hm] at hvs e2 g2
      have hmI : (m : Int) ≤ 6 := by omega
      have hentl : (lnB ⟨name, cur, nos⟩).length ≤ 57 := by rw [lnB_len]; simp only; omega
      obtain ⟨S0, hS0⟩ : ∃ S0, F ++ (l.take i).flatMap lnB = S0 := ⟨_, rfl⟩
      rw [hS0] at HSZ ⊢
      have hS0l := HSZ.out
      obtain ⟨S1, hS1⟩ : ∃ S1, S1 = S0 ++ tx name := ⟨_, rfl⟩
      obtain ⟨S2, hS2⟩ : ∃ S2, S2 = S1 ++ putL cur 2 := ⟨_, rfl⟩
      obtain ⟨S3, hS3⟩ : ∃ S3, S3 = S2 ++ putL m 1 := ⟨_, rfl⟩
      have l1 : S1.length = S0.length + (2 + name.size) := by rw [hS1, List.length_append, tx_len]
      have l2 : S2.length = S1.length + 2 := by rw [hS2, List.length_append, putL_length]
      have l3 : S3.length = S2.length + 1 := by rw [hS3, List.length_append, putL_length]
      have ha1 := fun u => add_run (P := Try.prog) ⟨S0.toArray⟩ (textL name) ⟨S1.toArray⟩ (app_txt _ _ _ hS1) (by rw [ba_size, textL_size]; omega) u
      have ha2 := fun u => add_run (P := Try.prog) ⟨S1.toArray⟩ (numS cur 2) ⟨S2.toArray⟩ (app_num _ _ _ _ hS2) (by rw [ba_size, num_size]; omega) u
      have ha3 := fun u => add_run (P := Try.prog) ⟨S2.toArray⟩ (numS m 1) ⟨S3.toArray⟩ (app_num _ _ _ _ hS3) (by rw [ba_size, num_size]; omega) u
      have hlnB : S0 ++ lnB ⟨name, cur, nos⟩ = S3 ++ fieldsL 2 nos := by
        rw [hS3, hS2, hS1]; unfold lnB; simp only; rw [hm]; simp only [List.append_assoc, Int.toNat_natCast]
      have hw1 := u64_in cur (by omega)
      have hw2 := u64_in m (by omega)
      have hS3l : S3.length ≤ 2100 + 57 * i + 45 := by omega
      clear hS1 hS2 hS3 l1 l2 l3
      generalize (ByteArray.mk S0.toArray) = X0 at *
      generalize (ByteArray.mk S1.toArray) = X1 at *
      generalize (ByteArray.mk S2.toArray) = X2 at *
      generalize hX3 : (ByteArray.mk S3.toArray) = X3 at *
      have HC1 := Lib.hid (fun u => refText24 name u (by omega))
      have HC2 := Lib.hid (fun u => refNum24 cur 2 u (by omega) (by omega))
      have HC3 := Lib.hid (fun u => refNum24 m 1 u (by omega) (by omega))
      generalize textL name = N1 at *
      generalize numS cur 2 = N2 at *
      generalize numS m 1 = N3 at *
      have HX3 := Lib.hid hX3; have HS3L := Lib.hid hS3l; have HM := Lib.hid hm; have HG4 := Lib.hid g4; have HSN := Lib.hid hsn; have HEL := Lib.hid hentl; have HLB := Lib.hid hlnB; have HS0 := Lib.hid hS0; have HSL := Lib.hid hS0l
      have hn := heap_alloc_new wr (.cells #[.string name, .int .i64 cur, .slice va m vc] 66)
      have hal := (Below.refl wr.heap.size wr).alloc (Nat.le_refl _) (.cells #[.string name, .int .i64 cur, .slice va m vc] 66)
      have HN := Lib.hid hn; have HAL := Lib.hid hal; have HVS := Lib.hid hvs
      clear hn hal hvs hX3 hS3l hm g1 g2 g3 g4 hsn hentl hlnB hS0 hS0l HSZ hat
      go_upto_region 5 with fail
      obtain ⟨w2, hW⟩ : ∃ w2, wr.alloc (.cells #[.string name, .int .i64 cur, .slice va m vc] 66) = w2 := ⟨_, rfl⟩
      obtain ⟨V, hV⟩ : ∃ V, wr.heap.size = V := ⟨_, rfl⟩
      have HWW := Lib.hid (HW.out.1.trans (HAL.out.mono HW.out.1.size))
      have HWX := Lib.hid (HW.out.2.trans (HAL.out.mono HW.out.2.size))
      have HVS2 := Lib.hid (HVS.out.below HAL.out)
      rw [hW] at HN HWW HVS2 HWX ⊢
      rw [hV] at HN
      (try rw [hV])
      clear hW hV e0 e1 e2 HAL HVS HW
      have q0 := keep_at HN.out 0 rfl
      have q1 := keep_at HN.out 1 rfl
      have q2 := keep_at HN.out 2 rfl
      refine wp_region_keep (w0 := w2) (by kernel_rfl) (by kernel_rfl) (Below.refl _ _) ?_
      repeat (go_big_quiet_step ((first
        | (go_at_call 37; exact keepCall (HC1.out _))
        | (go_at_call_of 36 (Value.int .u64 (cur : Int)); exact keepCall (HC2.out _))
        | (go_at_call_of 36 (Value.int .u64 (m : Int)); exact keepCall (HC3.out _)))))
      refine wpQuiet_nil ?_
      intro _ hw'
      obtain ⟨x, rfl⟩ := hw'
      have hb5 := x.below
      clear q0 q1 q2 ha1 ha2 ha3 HC1 HC2 HC3 hw1 hw2
      generalize x.val = w5 at *
      have HW5 := Lib.hid (HWW.out.trans (hb5.mono HWW.out.size))
      have HX5 := Lib.hid (HWX.out.trans (hb5.mono HWX.out.size))
      have HV5 := Lib.hid (HVS2.out.below hb5)
      have q2 := below_cell hb5 HN.out 2 rfl
      clear hb5 x HWW HWX HVS2 HN
      go_wp2_with fail
      clear q2
      obtain ⟨va', m', vc', hvv, hml, hmc1, hmc2, hmat⟩ := HV5.out
      injection hvv with e1 e2 e3
      subst e1 e2 e3
      have HMAT := Lib.hid hmat
      clear hmat hml
      generalize hwo : wr = wo at *
      clear hwo
      rw [← HX3.out]
      go_loopw [3, 68] (fun s c wr => ∃ j : Nat, j ≤ m ∧ c = .int .i64 j ∧ s = .string ⟨(S3 ++ fieldsL 2 (nos.take j)).toArray⟩ ∧ Hid (Below w5.heap.size w5 wr)) (fun _ c _ => m - (intOf c).toNat)
      case atStart => exact ⟨0, Nat.zero_le _, rfl, by simp [fieldsL], Lib.hid (Below.refl _ _)⟩
      case round =>
        obtain ⟨j, hjm, rfl, rfl, HJ⟩ := hrel
        by_cases hjl : j < m
        · have hjI : (j : Int) < m := by omega
          have hjn : j < nos.length := by rw [HM.out]; exact hjl
          obtain ⟨b', off', rfl, hbl', hmat⟩ := HMAT.out.resolve_left (by omega)
          have c0 := (HJ.out.cell (p := ⟨b', off' + j, none⟩) hbl').trans (hmat j hjn)
          have hx := HG4.out _ (List.getElem_mem hjn)
          have hsnf := fieldsL_snoc 2 nos j hjn
          have hfl := fieldsL_len 2 (nos.take j)
          rw [List.length_take] at hfl
          unfold encI at c0
          generalize nos[j] = xn at *
          obtain ⟨xn, rfl⟩ := Int.eq_ofNat_of_zero_le hx.1
          rw [Int.toNat_natCast] at hsnf
          obtain ⟨Y0, hY0⟩ : ∃ Y0, Y0 = S3 ++ fieldsL 2 (nos.take j) := ⟨_, rfl⟩
          obtain ⟨Y1, hY1⟩ : ∃ Y1, Y1 = Y0 ++ putL xn 2 := ⟨_, rfl⟩
          have l0 : Y0.length ≤ 3000 := by rw [hY0, List.length_append]; have := HS3L.out; omega
          have ha1 := fun u => add_run (P := Try.prog) ⟨Y0.toArray⟩ (numS xn 2) ⟨Y1.toArray⟩ (app_num _ _ _ _ hY1) (by rw [ba_size, num_size]; omega) u
          have hfin : Y1 = S3 ++ fieldsL 2 (nos.take (j + 1)) := by rw [hY1, hY0, hsnf]; simp only [List.append_assoc]
          rw [← hY0]
          have hw1 := u64_in xn (by omega)
          have HC1 := Lib.hid (fun u => refNum24 xn 2 u (by omega) (by omega))
          have HFIN := Lib.hid hfin
          clear hY0 hY1 l0 hfl hsnf hfin hx hmat
          generalize (ByteArray.mk Y0.toArray) = X0 at *
          generalize hX6 : (ByteArray.mk Y1.toArray) = X6 at *
          generalize numS xn 2 = N1 at *
          have HX6 := Lib.hid hX6
          clear hX6
          go_wp2_with (first | (go_at_call 36; refine (HC1.out _).mono ?_; rintro e w6 ⟨rfl, hb6⟩))
          go_roundw
          case rel => exact ⟨j + 1, by omega, by go_num, by rw [← HX6.out, HFIN.out], Lib.hid (HJ.out.trans (hb6.mono HJ.out.size))⟩
          case measure => simp [intOf]; omega
        · have hje : j = m := by omega
          have hnl : ¬ (j : Int) < m := by omega
          have hall : nos.take j = nos := List.take_of_length_le (by rw [HM.out]; omega)
          rw [hall]
          have hfin : S3 ++ fieldsL 2 nos = F ++ (l.take (i + 1)).flatMap lnB := by rw [HSN.out, ← List.append_assoc, HS0.out, ← HLB.out]
          rw [hfin]
          have hfl : (F ++ (l.take (i + 1)).flatMap lnB).length ≤ 2100 + 57 * (i + 1) := by
            have h1 := HEL.out
            have h2 := HS0.out
            rw [HSN.out, ← List.append_assoc, h2, List.length_append]
            have h4 := HSL.out
            omega
          have HFLN := Lib.hid hfl
          clear hfin hfl hall
          go_wp2_with fail
          go_roundw
          case rel => exact ⟨i + 1, by omega, by go_num, rfl, Lib.hid ⟨HW5.out.trans (HJ.out.mono HW5.out.size), HX5.out.trans (HJ.out.mono HX5.out.size)⟩, HFLN⟩
          case measure => simp [intOf]; omega
    · obtain rfl : i = n := by omega
      have hnl : ¬ (i : Int) < i := by omega
      have hsz := HSZ.out
      have HSE := Lib.hid (fun u => ref02Seal_any ⟨(F ++ (l.take i).flatMap lnB).toArray⟩ u (by rw [ba_size]; omega))
      have hpk := HPK.out
      obtain ⟨X, hX⟩ : ∃ X, ByteArray.mk (F ++ (l.take i).flatMap lnB).toArray = X := ⟨_, rfl⟩
      rw [hX] at hpk HSE ⊢
      have HP2 := Lib.hid hpk
      clear hX hpk HPK
      clear HAT HSZ hsz
      go_wp2_with (first | (go_at_call 35; refine (HSE.out _).mono ?_; rintro e w6 ⟨rfl, hb6⟩))
      go_ret
      exact ⟨by rw [HP2.out]; rfl, HW.out.1.trans (hb6.mono HW.out.1.size)⟩
end SFr27
section SFr28
open Go.RowKit
set_option linter.unusedVariables false
set_option linter.unusedSimpArgs false

theorem getN_sm (s : ByteArray) (p k : Int) (hk : k ≤ 2) : 0 ≤ getN s p k ∧ getN s p k ≤ 65535 := by
  unfold getN
  split
  · have h1 := getL_lt (cutL s p.toNat k.toNat)
    have h2 : (cutL s p.toNat k.toNat).length ≤ 2 := Nat.le_trans (List.length_take_le _ _) (by omega)
    have h3 : 256 ^ (cutL s p.toNat k.toNat).length ≤ 256 ^ 2 := Nat.pow_le_pow_right (by omega) h2
    rw [show (256 : Nat) ^ 2 = 65536 by decide] at h3
    omega
  · omega
theorem nN_sm (s : ByteArray) (p x k : Int) (hk : k ≤ 2) : 0 ≤ nN s p x k ∧ nN s p x k ≤ 65535 := by
  unfold nN
  split
  · exact getN_sm s p k hk
  · omega
theorem u64_i64 (g : Int) (h : 0 ≤ g ∧ g ≤ 65535) : IntKind.i64.wrap g = g := by simp [IntKind.wrap, IntKind.signed, IntKind.bits]; omega
theorem n_yes {s : ByteArray} {p k : Nat} (hk1 : 1 ≤ k) (hk : k ≤ 4) (h : p + k ≤ s.size) : nN s p 0 k = numA s p k ∧ nT s p 0 k = ((p + k : Nat) : Int) ∧ nE s p 0 k = 0 := by
  obtain ⟨h1, h2, h3⟩ := n_ok s p k hk1 (by omega) h
  exact ⟨by rw [h1, numA_get s p k hk], h2, h3⟩
/-- a line's head: the name and two numbers -/
theorem seqLn (s : ByteArray) (p : Nat) (name : ByteArray) (p1 x1 cur p2 x2 cnt p3 x3 : Int)
    (hn : tS s p 0 = name) (hp1 : tT s p 0 = p1) (hx1 : tE s p 0 = x1)
    (hc : nN s p1 x1 (2 : Nat) = cur) (hp2 : nT s p1 x1 (2 : Nat) = p2) (hx2 : nE s p1 x1 (2 : Nat) = x2)
    (hk : nN s p2 x2 (1 : Nat) = cnt) (hp3 : nT s p2 x2 (1 : Nat) = p3) (hx3 : nE s p2 x2 (1 : Nat) = x3) :
    (x3 ≠ 0 ∧ prLn s p = none) ∨ (x3 = 0 ∧ ∃ a : Nat, p3 = a ∧ a ≤ s.size ∧ prLn s p = (prNos s cnt.toNat a).bind fun d => some (⟨name, cur, d.1⟩, d.2)) := by
  have hPR : prLn s p = (prTxt s p).bind fun a => (prNum s a.2 2).bind fun b => (prNum s b.2 1).bind fun c => (prNos s c.1.toNat c.2).bind fun d => some (⟨a.1, b.1, d.1⟩, d.2) := rfl
  by_cases c1 : cutE s p = 0
  case neg =>
    rw [prTxt_no c1] at hPR
    exact .inl ⟨hx3 ▸ n_sticky _ _ _ _ (hx2 ▸ n_sticky _ _ _ _ (hx1 ▸ t_bad s p c1)), hPR⟩
  obtain ⟨u4, u5, u6⟩ := t_ok s p c1
  rw [u4] at hn; rw [u5] at hp1; rw [u6] at hx1
  subst hp1 hx1
  rw [prTxt_yes c1] at hPR
  simp only [Option.bind_some] at hPR
  by_cases c2 : cutP s p + 2 ≤ s.size
  case neg =>
    rw [prNum_no c2] at hPR
    exact .inl ⟨hx3 ▸ n_sticky _ _ _ _ (hx2 ▸ n_bad s _ 2 c2), hPR⟩
  obtain ⟨u1, u2, u3⟩ := n_yes (s := s) (p := cutP s p) (k := 2) (by omega) (by omega) c2
  rw [u1] at hc; rw [u2] at hp2; rw [u3] at hx2
  subst hp2 hx2
  rw [prNum_yes (by omega) c2] at hPR
  simp only [Option.bind_some] at hPR
  by_cases c3 : cutP s p + 2 + 1 ≤ s.size
  case neg =>
    rw [prNum_no c3] at hPR
    exact .inl ⟨hx3 ▸ n_bad s _ 1 c3, hPR⟩
  obtain ⟨u1, u2, u3⟩ := n_yes (s := s) (p := cutP s p + 2) (k := 1) (by omega) (by omega) c3
  rw [u1] at hk; rw [u2] at hp3; rw [u3] at hx3
  rw [prNum_yes (by omega) c3] at hPR
  simp only [Option.bind_some] at hPR
  refine .inr ⟨hx3.symm, _, hp3.symm, c3, ?_⟩
  rw [hPR, ← hn, ← hc, ← hk]
def RLPost (R : Nat) (s : ByteArray) (o : Option (Ln × Nat)) (w : World) (e : Ending) (w' : World) : Prop :=
  ∃ (ln : Ln) (p x : Int) (k : Value), e = .returned (.agg #[.string ln.name, .int .i64 ln.cur, k]) ∧ w'.ownsRow w.heap.size 3 1 k ln.nos.length (nosV ln.nos) ∧ RdR R s p x w' ∧ w.grownBy w' (some R) ∧
    ((x ≠ 0 ∧ o = none) ∨ (x = 0 ∧ ∃ q : Nat, p = q ∧ o = some (ln, q)))
theorem own_put2 {w : World} {base : Nat} {e : TypeId} {size : Nat} {v : Value} {n : Nat} {xs : List Value} (h : w.ownsRow base e size v n xs) {B : Nat} (hB : B < base) (i : Nat) (x : Value) : (w.setCell ⟨B, i, none⟩ x).ownsRow base e size v n xs :=
  ownsRow_setCell_below (a := ⟨B, i, none⟩) h hB x
set_option maxRecDepth 100000 in
set_option maxHeartbeats 8000000 in
theorem rfLine (s : ByteArray) (p R : Nat) (w : World) (h : RdR R s p 0 w) (hs : s.size ≤ 3000) (hpp : p ≤ 1000000) :
    Calls Try.prog 43 #[.pointer (some ⟨R, 0, none⟩)] w (RLPost R s (prLn s p) w) := by
  have hRw : R < w.heap.size := lt_of_block h
  have hal := (Below.refl w.heap.size w).alloc (Nat.le_refl _) (.cells #[.string ⟨#[]⟩, .int .i64 0, .slice none 0 0] 66)
  have hrd1 : RdR R s p 0 (w.alloc (.cells #[.string ⟨#[]⟩, .int .i64 0, .slice none 0 0] 66)) := (hal.block R hRw).trans h
  have hg1 := grown_below R hal
  have hZ1 := heap_alloc_new w (.cells #[.string ⟨#[]⟩, .int .i64 0, .slice none 0 0] 66)
  have HZ := Lib.hid hZ1; have HG := Lib.hid hg1
  clear hal hZ1 hg1 h
  obtain ⟨name, hn⟩ : ∃ x, tS s p 0 = x := ⟨_, rfl⟩
  obtain ⟨p1, hp1⟩ : ∃ x, tT s p 0 = x := ⟨_, rfl⟩
  obtain ⟨x1, hx1⟩ : ∃ x, tE s p 0 = x := ⟨_, rfl⟩
  obtain ⟨cur, hc⟩ : ∃ x, nN s p1 x1 2 = x := ⟨_, rfl⟩
  obtain ⟨p2, hp2⟩ : ∃ x, nT s p1 x1 2 = x := ⟨_, rfl⟩
  obtain ⟨x2, hx2⟩ : ∃ x, nE s p1 x1 2 = x := ⟨_, rfl⟩
  obtain ⟨cnt, hk⟩ : ∃ x, nN s p2 x2 1 = x := ⟨_, rfl⟩
  obtain ⟨p3, hp3⟩ : ∃ x, nT s p2 x2 1 = x := ⟨_, rfl⟩
  obtain ⟨x3, hx3⟩ : ∃ x, nE s p2 x2 1 = x := ⟨_, rfl⟩
  have hseq := seqLn s p name p1 x1 cur p2 x2 cnt p3 x3 hn hp1 hx1 hc hp2 hx2 hk hp3 hx3
  have l1 : p1 ≤ 1000000 := by rw [← hp1]; exact tT_le s p 0 hs (by omega)
  have l2 : p2 ≤ 1000000 := by rw [← hp2]; exact nT_le _ _ _ _ hs l1
  have l3 : p3 ≤ 1000000 := by rw [← hp3]; exact nT_le _ _ _ _ hs l2
  have k1 : 0 ≤ cur ∧ cur ≤ 65535 := by rw [← hc]; exact nN_sm _ _ _ _ (by omega)
  have k2 : 0 ≤ cnt ∧ cnt ≤ 65535 := by rw [← hk]; exact nN_sm _ _ _ _ (by omega)
  have HT1 := Lib.hid (fun u hu => rText s p 0 R u hu hs (by omega))
  have HN2 := Lib.hid (fun u hu => rNext s p1 x1 2 R u hu hs l1)
  have HN3 := Lib.hid (fun u hu => rNext s p2 x2 1 R u hu hs l2)
  rw [hn, hp1, hx1] at HT1
  rw [hc, hp2, hx2] at HN2
  rw [hk, hp3, hx3] at HN3
  have hw1 := u64_i64 cur k1
  have hw2 := u64_i64 cnt k2
  obtain ⟨c, rfl⟩ := Int.eq_ofNat_of_zero_le k2.1
  rw [Int.toNat_natCast] at hseq
  have HSEQ := Lib.hid hseq
  generalize prLn s p = PR at *
  have hcI : (c : Int) ≤ 65535 := k2.2
  clear hn hp1 hx1 hc hp2 hx2 hk hp3 hx3 hseq l1 l2
  go_enter Try.func43, Try.ntmps43
  go_wp2_with fail
  refine (HT1.out _ hrd1).mono ?_
  rintro e' w2 ⟨rfl, hrd2, hg2⟩
  have HG2 := Lib.hid (grown_trans HG.out hg2)
  have HZ2 := Lib.hid ((hg2.block _ (lt_of_block HZ.out) (fun e => absurd (Option.some.inj e) (by omega))).trans HZ.out)
  clear hg2 HG HT1 HZ
  have HG3 := Lib.hid (grown_alloc HG2.out (.cells #[.string name, .int .i64 0, .slice none 0 0] 66))
  have hrd3 : RdR R s p1 x1 (w2.alloc (.cells #[.string name, .int .i64 0, .slice none 0 0] 66)) := (heap_alloc_old w2 _ (lt_of_block hrd2)).trans hrd2
  have HZ3 := Lib.hid ((heap_alloc_old w2 (.cells #[.string name, .int .i64 0, .slice none 0 0] 66) (lt_of_block HZ2.out)).trans HZ2.out)
  have HE3 := Lib.hid (heap_alloc_new w2 (.cells #[.string name, .int .i64 0, .slice none 0 0] 66))
  have hwE : w.heap.size < w2.heap.size := lt_of_block HZ2.out
  clear HG2 HZ2 hrd2 hrd1
  go_upto_region 2 with fail
  obtain ⟨w3, hW⟩ : ∃ w3, w2.alloc (.cells #[.string name, .int .i64 0, .slice none 0 0] 66) = w3 := ⟨_, rfl⟩
  obtain ⟨E, hEE⟩ : ∃ E, w2.heap.size = E := ⟨_, rfl⟩
  have hBv : w3.heap.size = E + 1 := by rw [← hW, World.size_alloc, hEE]
  rw [hW] at HG3 hrd3 HZ3 HE3 ⊢
  rw [hEE] at HE3 hwE
  (try rw [hEE])
  clear hW hEE
  have hER : E ≠ R := by omega
  have hZR : w.heap.size ≠ R := by omega
  go_wp2_with fail
  refine (HN2.out _ hrd3).mono ?_
  rintro e' w4 ⟨rfl, hrd4, hg4⟩
  have HE4 := (hg4.block E (lt_of_block HE3.out) (fun e => hER (Option.some.inj e))).trans HE3.out
  have HZ4 := (hg4.block _ (lt_of_block HZ3.out) (fun e => hZR (Option.some.inj e))).trans HZ3.out
  have f4 := block_frozen HE4 1
  have e4 := below_cell (Below.refl _ w4) HE4 1 rfl
  have HE5 := Lib.hid (block_set HE4 1 (.int .i64 cur))
  have HZ5 := Lib.hid ((Below.heap_setCell w4 ⟨E, 1, none⟩ (.int .i64 cur) w.heap.size (by show w.heap.size ≠ E; omega)).trans HZ4)
  have HG5 := Lib.hid (grown_new (grown_trans HG3.out hg4) (E := E) (by omega) 1 (.int .i64 cur))
  have hrd5 : RdR R s p2 x2 (w4.setCell ⟨E, 1, none⟩ (.int .i64 cur)) := (Below.heap_setCell w4 ⟨E, 1, none⟩ (.int .i64 cur) R (by show R ≠ E; omega)).trans hrd4
  have hz5 : E + 1 ≤ (w4.setCell ⟨E, 1, none⟩ (.int .i64 cur)).heap.size := by rw [World.size_setCell]; have := hg4.size; omega
  clear hg4 HE4 HZ4 hrd4 HG3 HZ3 HE3 hrd3 hBv HN2
  go_upto_region 3 with fail
  obtain ⟨w5, hW⟩ : ∃ w5, w4.setCell ⟨E, 1, none⟩ (.int .i64 cur) = w5 := ⟨_, rfl⟩
  rw [hW] at HE5 HZ5 HG5 hrd5 hz5 ⊢
  clear hW f4 e4
  go_wp2_with fail
  refine (HN3.out _ hrd5).mono ?_
  rintro e' w6 ⟨rfl, hrd6, hg6⟩
  have HG6 := Lib.hid (grown_trans HG5.out hg6)
  have HZ6 := Lib.hid ((hg6.block _ (lt_of_block HZ5.out) (fun e => hZR (Option.some.inj e))).trans HZ5.out)
  have HE6 := Lib.hid ((hg6.block E (lt_of_block HE5.out) (fun e => hER (Option.some.inj e))).trans HE5.out)
  have hBz6 := Nat.le_trans hz5 hg6.size
  have HO6 := Lib.hid (World.ownsRow_nil w6 (E + 1) 3 1)
  clear hg6 HG5 HZ5 HE5 hrd5 hz5 HN3
  go_wp2_with fail
  go_loopw [5] (fun z wr => ∃ (j : Nat) (p x : Int) (tv : Value) (acc : List Int), j ≤ c ∧ z = .int .i64 j ∧ RdR R s p x wr ∧ E + 1 ≤ wr.heap.size ∧ Hid (acc.length = j) ∧
      Hid ((x ≠ 0 ∧ PR = none) ∨ (x = 0 ∧ ∃ a : Nat, p = a ∧ a ≤ 3000 ∧ PR = (concI acc (prNos s (c - j) a)).bind fun d => some (⟨name, cur, d.1⟩, d.2))) ∧
      Hid (w.grownBy wr (some R)) ∧ Hid (wr.heap[w.heap.size]? = some (.cells #[.string ⟨#[]⟩, .int .i64 0, .slice none 0 0] 66 (0, 0))) ∧ Hid (wr.heap[E]? = some (.cells #[.string name, .int .i64 cur, tv] 66 (0, 0))) ∧ Hid (wr.ownsRow (E + 1) 3 1 tv j (nosV acc))) (fun z _ => c - (intOf z).toNat)
  case atStart => exact ⟨0, p3, x3, _, [], Nat.zero_le _, rfl, hrd6, hBz6, Lib.hid rfl, Lib.hid (by
    rcases HSEQ.out with h | ⟨h1, a, h2, h3, h4⟩
    · exact .inl h
    · refine .inr ⟨h1, a, h2, by omega, ?_⟩
      rw [h4, Nat.sub_zero]
      unfold concI
      cases prNos s c a <;> simp), HG6, HZ6, HE6, HO6⟩
  case round =>
    clear HG6 HZ6 HE6 HO6 hrd6 hBz6 HSEQ l3
    obtain ⟨j, p, x, tv, acc, hjc, rfl, hrd, hBz, hA, HK, hgT, hZ, hE, hO⟩ := hrel
    obtain ⟨ta, tc, rfl, _⟩ := own_formS hO.out
    have cR := below_cell (Below.refl _ wr) (show wr.heap[R]? = _ from hrd) 2 rfl
    by_cases hgo : j < c ∧ x = 0
    · obtain ⟨hlt, rfl⟩ := hgo
      have hltI : (j : Int) < c := by omega
      obtain ⟨a, rfl, ha3, hPR⟩ : ∃ a : Nat, p = a ∧ a ≤ 3000 ∧ PR = (concI acc (prNos s (c - j) a)).bind fun d => some (⟨name, cur, d.1⟩, d.2) := by
        rcases HK.out with ⟨h, _⟩ | ⟨_, h⟩
        · exact absurd rfl h
        · exact h
      have c3 := below_cell (Below.refl _ wr) hE.out 2 rfl
      have c3a := fun o : Obj => (World.cell?_of_block (a := ⟨E, 2, none⟩) (Below.heap_alloc wr o E (lt_of_block hE.out))).trans c3
      have hcj : c - j = (c - (j + 1)) + 1 := by omega
      obtain ⟨m1, hm1⟩ : ∃ m, nN s a 0 2 = m := ⟨_, rfl⟩
      obtain ⟨q1, hq1⟩ : ∃ m, nT s a 0 2 = m := ⟨_, rfl⟩
      obtain ⟨y1, hy1⟩ : ∃ m, nE s a 0 2 = m := ⟨_, rfl⟩
      have hK2 : (y1 ≠ 0 ∧ PR = none) ∨ (y1 = 0 ∧ ∃ a' : Nat, q1 = a' ∧ a' ≤ 3000 ∧ PR = (concI (acc ++ [m1]) (prNos s (c - (j + 1)) a')).bind fun d => some (⟨name, cur, d.1⟩, d.2)) := by
        by_cases h2 : a + 2 ≤ s.size
        · obtain ⟨u1, u2, u3⟩ := n_yes (s := s) (p := a) (k := 2) (by omega) (by omega) h2
          have u1 : nN s a 0 2 = numA s a 2 := u1
          have u2 : nT s a 0 2 = ((a + 2 : Nat) : Int) := u2
          have u3 : nE s a 0 2 = 0 := u3
          refine .inr ⟨by rw [← hy1, u3], a + 2, by rw [← hq1, u2], by omega, ?_⟩
          rw [hPR, hcj, concI_some h2, ← hm1, u1]
        · refine .inl ⟨by rw [← hy1]; exact n_bad s a 2 h2, ?_⟩
          rw [hPR, hcj, concI_none h2]; rfl
      have HK2 := Lib.hid hK2
      have hb1 : 0 ≤ m1 ∧ m1 ≤ 65535 := by rw [← hm1]; exact nN_sm _ _ _ _ (by omega)
      have hwm := u64_i64 m1 hb1
      have HN := Lib.hid (fun u hu => rNext s a 0 2 R u hu hs (by omega))
      rw [hm1, hq1, hy1] at HN
      clear hm1 hq1 hy1 hK2 hPR HK hcj hb1
      go_upto_region 7 with fail
      clear cR
      obtain ⟨iI, hNI, hzI0, hzI1, hzI2⟩ := info_parts infoInt
      go_region_law (first
        | (go_simp; go_at_call 32; refine (HN.out _ (by exact hrd)).mono ?_; rintro e' w7 ⟨rfl, hrd, hgr⟩; have hgT := Lib.hid (show w.grownBy w7 (some R) from (by first | exact grown_trans hgT.out hgr | exact grown_trans hgT.out (grown_drew hgr))); have hE := Lib.hid ((hgr.block E (lt_of_block (by exact hE.out)) (fun e => hER (Option.some.inj e))).trans (by exact hE.out)); have hZ := Lib.hid ((hgr.block w.heap.size (lt_of_block (by exact hZ.out)) (fun e => hZR (Option.some.inj e))).trans (by exact hZ.out)); have hO := Lib.hid (World.ownsRow.kept (w := _) (by first | exact hO.out | exact hO.out.drew) hgr (.inr (fun e => absurd (hO.out.lt R e).1 (by omega)))); have hBz := Nat.le_trans hBz hgr.size; have c3 := below_cell (Below.refl _ w7) hE.out 2 rfl; have c3a := fun o : Obj => (World.cell?_of_block (a := ⟨E, 2, none⟩) (Below.heap_alloc w7 o E (lt_of_block hE.out))).trans c3; go_simp)
        | (refine step_push (m := 1) (c := 1) (Operand.tmp 29) (Operand.tmp 33) 64 3 [.int .i64 m1] (hO.out.alloc _) ((Below.refl _ _).alloc hBz _) hBz Try.underlying64 hNI hzI0 hzI1 hzI2 rfl (by decide) (by rfl) (by rfl) (by rfl) (by rfl) (cells_new _ [.int .i64 m1] 3) (by rfl) (by intro u hu; simp only [List.mem_cons, List.not_mem_nil, or_false] at hu; rcases hu with rfl; rfl) ⟨by omega, by omega⟩ ?_; intro v8 w8 hown8 hb8 hgr8; obtain ⟨ta8, tc8, rfl, _⟩ := own_formS hown8; have hE8 := (hb8.block E (by omega)).trans hE.out; have hE8c := below_cell (Below.refl _ w8) hE8 2 rfl; have hE8f := block_frozen hE8 2)
        | fail)
      all_goals
        have hE9 := Lib.hid (block_set hE8 2 (.slice ta8 (j + 1) tc8))
        have hZ9 := Lib.hid ((Below.heap_setCell w8 ⟨E, 2, none⟩ (.slice ta8 (j + 1) tc8) w.heap.size (by show w.heap.size ≠ E; omega)).trans ((hb8.block _ (by omega)).trans hZ.out))
        have hO9 := Lib.hid (ownsRow_setCell_below (a := ⟨E, 2, none⟩) hown8 (by show E < E + 1; omega) (.slice ta8 (j + 1) tc8))
        have hg9 := Lib.hid (grown_new (below_grown hgT.out hb8 (by omega)) (E := E) (by omega) 2 (.slice ta8 (j + 1) tc8))
        have hrd9 : RdR R s q1 y1 (w8.setCell ⟨E, 2, none⟩ (.slice ta8 (j + 1) tc8)) :=
          (Below.heap_setCell w8 ⟨E, 2, none⟩ _ R (by show R ≠ E; omega)).trans ((hb8.block R (by omega)).trans hrd)
        have hBz9 : E + 1 ≤ (w8.setCell ⟨E, 2, none⟩ (.slice ta8 (j + 1) tc8)).heap.size := by rw [World.size_setCell]; exact Nat.le_trans hBz hb8.size
        have hcs : nosV (acc ++ [m1]) = nosV acc ++ [.int .i64 m1] := by simp [nosV]
        have hA9 : Hid ((acc ++ [m1]).length = j + 1) := Lib.hid (by rw [List.length_append, hA.out]; rfl)
        rw [← hcs] at hO9
        clear hE8c hE8f hE8 hb8 hgr8 hown8 hE hZ hO hgT c3 c3a hrd hcs hBz hNI hzI0 hzI1 hzI2
        go_wp2_with fail
        go_roundw
        case rel => exact ⟨j + 1, q1, y1, _, _, by omega, by go_num, hrd9, hBz9, hA9, HK2, hg9, hZ9, hE9, hO9⟩
        case measure => simp [intOf]; omega
    · have hEND : RLPost R s PR w (.returned (.agg #[.string name, .int .i64 cur, .slice ta j tc])) (((wr.setCell ⟨w.heap.size, 0, none⟩ (.string name)).setCell ⟨w.heap.size, 1, none⟩ (.int .i64 cur)).setCell ⟨w.heap.size, 2, none⟩ (.slice ta j tc)) := by
        have HGF := grown_new (grown_new (grown_new hgT.out (E := w.heap.size) (Nat.le_refl _) 0 (.string name)) (E := w.heap.size) (Nat.le_refl _) 1 (.int .i64 cur)) (E := w.heap.size) (Nat.le_refl _) 2 (.slice ta j tc)
        have hzE : w.heap.size < E + 1 := by omega
        have HOF := own_put2 (own_put2 (own_put2 hO.out hzE 0 (.string name)) hzE 1 (.int .i64 cur)) hzE 2 (.slice ta j tc)
        have hrdF : RdR R s p x (((wr.setCell ⟨w.heap.size, 0, none⟩ (.string name)).setCell ⟨w.heap.size, 1, none⟩ (.int .i64 cur)).setCell ⟨w.heap.size, 2, none⟩ (.slice ta j tc)) := by
          unfold RdR
          rw [Below.heap_setCell _ _ _ _ (by show R ≠ w.heap.size; omega), Below.heap_setCell _ _ _ _ (by show R ≠ w.heap.size; omega), Below.heap_setCell _ _ _ _ (by show R ≠ w.heap.size; omega)]
          exact hrd
        refine ⟨⟨name, cur, acc⟩, p, x, _, rfl, ?_, hrdF, HGF, ?_⟩
        · show World.ownsRow _ _ _ _ _ acc.length (nosV acc)
          rw [hA.out]
          exact own_base HOF (by omega)
        · rcases HK.out with h | ⟨h1, a, h2, h3, h4⟩
          · exact .inl h
          · have hj : c - j = 0 := by
              have : ¬ j < c := fun h => hgo ⟨h, h1⟩
              omega
            refine .inr ⟨h1, a, h2, ?_⟩
            rw [h4, hj]
            simp [prNos, concI]
      have HEND := Lib.hid hEND
      clear hEND HK
      have c0 := below_cell (Below.refl _ wr) hE.out 0 rfl
      have c1 := below_cell (Below.refl _ wr) hE.out 1 rfl
      have c2 := below_cell (Below.refl _ wr) hE.out 2 rfl
      have z0 := below_cell (Below.refl _ wr) hZ.out 0 rfl
      have z1 := below_cell (Below.refl _ wr) hZ.out 1 rfl
      have z2 := below_cell (Below.refl _ wr) hZ.out 2 rfl
      have f0 := block_frozen hZ.out 0
      have f1 := block_frozen hZ.out 1
      have f2 := block_frozen hZ.out 2
      have HSET := Lib.hid (block_set (block_set (block_set hZ.out 0 (.string name)) 1 (.int .i64 cur)) 2 (.slice ta j tc))
      by_cases hjc2 : j < c
      · have hx0 : x ≠ 0 := fun h => hgo ⟨hjc2, h⟩
        have hxq : (x == 0) = false := by simpa using hx0
        have hltI : (j : Int) < c := by omega
        clear hgo hx0
        go_wp2_with fail
        refine bodyPost_ret (results_cell_row rfl _ _ w.heap.size _ _ _ _ rfl HSET.out Try.underlying66 rfl (by kernel_rfl)) rfl HEND.out
      · have hnl : ¬ (j : Int) < c := by omega
        clear hgo
        go_wp2_with fail
        refine bodyPost_ret (results_cell_row rfl _ _ w.heap.size _ _ _ _ rfl HSET.out Try.underlying66 rfl (by kernel_rfl)) rfl HEND.out
end SFr28
section SFr29
open Go.RowKit
set_option linter.unusedVariables false
set_option linter.unusedSimpArgs false

theorem getN_4 (s : ByteArray) (p k : Int) (hk : k ≤ 4) : 0 ≤ getN s p k ∧ getN s p k ≤ 4294967295 := by
  unfold getN
  split
  · have h1 := getL_lt (cutL s p.toNat k.toNat)
    have h2 : (cutL s p.toNat k.toNat).length ≤ 4 := Nat.le_trans (List.length_take_le _ _) (by omega)
    have h3 : 256 ^ (cutL s p.toNat k.toNat).length ≤ 256 ^ 4 := Nat.pow_le_pow_right (by omega) h2
    rw [show (256 : Nat) ^ 4 = 4294967296 by decide] at h3
    omega
  · omega
theorem nN_4 (s : ByteArray) (p x k : Int) (hk : k ≤ 4) : 0 ≤ nN s p x k ∧ nN s p x k ≤ 4294967295 := by
  unfold nN
  split
  · exact getN_4 s p k hk
  · omega
theorem u64_u32 (g : Int) (h : 0 ≤ g ∧ g ≤ 4294967295) : IntKind.u32.wrap g = g := by simp [IntKind.wrap, IntKind.signed, IntKind.bits]; omega
theorem num_case (s : ByteArray) (p k : Nat) (h1 : 1 ≤ k) (h4 : k ≤ 4) :
    (p + k ≤ s.size ∧ nT s p 0 k = ((p + k : Nat) : Int) ∧ nE s p 0 k = 0 ∧ prNum s p k = some (nN s p 0 k, p + k)) ∨ (nE s p 0 k ≠ 0 ∧ prNum s p k = none) := by
  by_cases h : p + k ≤ s.size
  · obtain ⟨a, b, c⟩ := n_yes (s := s) (p := p) (k := k) h1 h4 h
    exact .inl ⟨h, b, c, by rw [a]; exact prNum_yes h4 h⟩
  · exact .inr ⟨n_bad s p k h, prNum_no h⟩
theorem txt_case (s : ByteArray) (p : Nat) :
    (∃ q : Nat, tT s p 0 = q ∧ tE s p 0 = 0 ∧ prTxt s p = some (tS s p 0, q)) ∨ (tE s p 0 ≠ 0 ∧ prTxt s p = none) := by
  by_cases h : cutE s p = 0
  · obtain ⟨a, b, c⟩ := t_ok s p h
    exact .inl ⟨_, b, c, by rw [a]; exact prTxt_yes h⟩
  · exact .inr ⟨t_bad s p h, prTxt_no h⟩
theorem seqRp (t : ByteArray) (e : Int) (v0 p0 x0 v1 p1 x1 v2 p2 x2 p3 x3 v4 p4 x4 v5 p5 x5 v6 p6 x6 : Int) (v3 : ByteArray)
    (hv0 : nN t (0 : Nat) e (2 : Nat) = v0) (hp0 : nT t (0 : Nat) e (2 : Nat) = p0) (hx0 : nE t (0 : Nat) e (2 : Nat) = x0)
    (hv1 : nN t p0 x0 (2 : Nat) = v1) (hp1 : nT t p0 x0 (2 : Nat) = p1) (hx1 : nE t p0 x0 (2 : Nat) = x1)
    (hv2 : nN t p1 x1 (2 : Nat) = v2) (hp2 : nT t p1 x1 (2 : Nat) = p2) (hx2 : nE t p1 x1 (2 : Nat) = x2)
    (hv3 : tS t p2 x2 = v3) (hp3 : tT t p2 x2 = p3) (hx3 : tE t p2 x2 = x3)
    (hv4 : nN t p3 x3 (2 : Nat) = v4) (hp4 : nT t p3 x3 (2 : Nat) = p4) (hx4 : nE t p3 x3 (2 : Nat) = x4)
    (hv5 : nN t p4 x4 (4 : Nat) = v5) (hp5 : nT t p4 x4 (4 : Nat) = p5) (hx5 : nE t p4 x4 (4 : Nat) = x5)
    (hv6 : nN t p5 x5 (1 : Nat) = v6) (hp6 : nT t p5 x5 (1 : Nat) = p6) (hx6 : nE t p5 x5 (1 : Nat) = x6) :
    (x6 ≠ 0 ∧ (e ≠ 0 ∨ prRp t = none)) ∨ (x6 = 0 ∧ e = 0 ∧ v3.size ≤ 9223372036854775807 ∧ ∃ a : Nat, p6 = a ∧ a ≤ t.size ∧ prRp t = (prLns t v6.toNat a).bind fun l => some (⟨v0, v1, v2, v3, v4, v5, l.1⟩, l.2)) := by
  have s6 : x5 ≠ 0 → x6 ≠ 0 := fun h => hx6 ▸ n_sticky _ _ _ _ h
  have s5 : x4 ≠ 0 → x6 ≠ 0 := fun h => s6 (hx5 ▸ n_sticky _ _ _ _ h)
  have s4 : x3 ≠ 0 → x6 ≠ 0 := fun h => s5 (hx4 ▸ n_sticky _ _ _ _ h)
  have s3 : x2 ≠ 0 → x6 ≠ 0 := fun h => s4 (hx3 ▸ t_sticky _ _ _ h)
  have s2 : x1 ≠ 0 → x6 ≠ 0 := fun h => s3 (hx2 ▸ n_sticky _ _ _ _ h)
  have s1 : x0 ≠ 0 → x6 ≠ 0 := fun h => s2 (hx1 ▸ n_sticky _ _ _ _ h)
  have s0 : e ≠ 0 → x6 ≠ 0 := fun h => s1 (hx0 ▸ n_sticky _ _ _ _ h)
  by_cases he : e = 0
  case neg => exact .inl ⟨s0 he, .inl he⟩
  subst he
  have hPR : prRp t = (prNum t 0 2).bind fun a => (prNum t a.2 2).bind fun b => (prNum t b.2 2).bind fun c => (prTxt t c.2).bind fun d => (prNum t d.2 2).bind fun e => (prNum t e.2 4).bind fun f => (prNum t f.2 1).bind fun g => (prLns t g.1.toNat g.2).bind fun l => some (⟨a.1, b.1, c.1, d.1, e.1, f.1, l.1⟩, l.2) := by
    unfold prRp prHead
    simp only [Option.bind_assoc, Option.bind_some, Rp.with_]
  rcases num_case t 0 2 (by omega) (by omega) with ⟨_, b0, c0, d0⟩ | ⟨h, h'⟩
  case inr => exact .inl ⟨s1 (hx0 ▸ h), .inr (by rw [hPR, h']; rfl)⟩
  rw [d0, Option.bind_some] at hPR; rw [b0] at hp0; rw [c0] at hx0; rw [hv0] at hPR
  simp only at hPR
  subst hp0 hx0
  rcases num_case t (0 + 2) 2 (by omega) (by omega) with ⟨_, b0, c0, d0⟩ | ⟨h, h'⟩
  case inr => exact .inl ⟨s2 (hx1 ▸ h), .inr (by rw [hPR, h']; rfl)⟩
  rw [d0, Option.bind_some] at hPR; rw [b0] at hp1; rw [c0] at hx1; rw [hv1] at hPR
  simp only at hPR
  subst hp1 hx1
  rcases num_case t (0 + 2 + 2) 2 (by omega) (by omega) with ⟨_, b0, c0, d0⟩ | ⟨h, h'⟩
  case inr => exact .inl ⟨s3 (hx2 ▸ h), .inr (by rw [hPR, h']; rfl)⟩
  rw [d0, Option.bind_some] at hPR; rw [b0] at hp2; rw [c0] at hx2; rw [hv2] at hPR
  simp only at hPR
  subst hp2 hx2
  rcases txt_case t (0 + 2 + 2 + 2) with ⟨q, b0, c0, d0⟩ | ⟨h, h'⟩
  case inr => exact .inl ⟨s4 (hx3 ▸ h), .inr (by rw [hPR, h']; rfl)⟩
  have hts := text_size t (0 + 2 + 2 + 2)
  rw [d0, Option.bind_some] at hPR; rw [b0] at hp3; rw [c0] at hx3; rw [hv3] at hPR
  have hcE : cutE t (0 + 2 + 2 + 2 : Nat) = 0 := by
    have : tE t (0 + 2 + 2 + 2 : Nat) 0 = cutE t (0 + 2 + 2 + 2 : Nat) := by unfold tE; rw [if_pos rfl]
    rw [← this]; exact c0
  have hvs : v3.size ≤ 65535 := by
    rw [← hv3, (t_ok t _ hcE).1]; exact hts hcE
  simp only at hPR
  subst hp3 hx3
  rcases num_case t q 2 (by omega) (by omega) with ⟨_, b0, c0, d0⟩ | ⟨h, h'⟩
  case inr => exact .inl ⟨s5 (hx4 ▸ h), .inr (by rw [hPR, h']; rfl)⟩
  rw [d0, Option.bind_some] at hPR; rw [b0] at hp4; rw [c0] at hx4; rw [hv4] at hPR
  simp only at hPR
  subst hp4 hx4
  rcases num_case t (q + 2) 4 (by omega) (by omega) with ⟨_, b0, c0, d0⟩ | ⟨h, h'⟩
  case inr => exact .inl ⟨s6 (hx5 ▸ h), .inr (by rw [hPR, h']; rfl)⟩
  rw [d0, Option.bind_some] at hPR; rw [b0] at hp5; rw [c0] at hx5; rw [hv5] at hPR
  simp only at hPR
  subst hp5 hx5
  rcases num_case t (q + 2 + 4) 1 (by omega) (by omega) with ⟨hsz, b0, c0, d0⟩ | ⟨h, h'⟩
  case inr => exact .inl ⟨hx6 ▸ h, .inr (by rw [hPR, h']; rfl)⟩
  rw [d0, Option.bind_some] at hPR; rw [b0] at hp6; rw [c0] at hx6; rw [hv6] at hPR
  simp only at hPR
  exact .inr ⟨hx6.symm, rfl, by omega, _, hp6.symm, hsz, hPR⟩
end SFr29
section SFr30
open Go.RowKit
set_option linter.unusedVariables false
set_option linter.unusedSimpArgs false

set_option maxRecDepth 100000 in
set_option maxHeartbeats 8000000 in
theorem rfReadReply (s : ByteArray) (w : World) (hs : s.size ≤ 3000) :
    Calls Try.prog 18 #[.string s] w fun e w' => ReadPost s w e w' := by
  have HO := Lib.hid (fun u => ref02Open_any s u (by omega))
  have hts : (openS s).size ≤ 3000 := by
    unfold openS
    split
    · rw [ByteArray.size_extract]; omega
    · show 0 ≤ 3000; omega
  have hq := readR_iff s
  obtain ⟨t, ht⟩ : ∃ t, openS s = t := ⟨_, rfl⟩
  obtain ⟨ee, hee⟩ : ∃ x, openE s = x := ⟨_, rfl⟩
  rw [ht, hee] at HO
  rw [ht, hee] at hq
  rw [ht] at hts
  obtain ⟨v0, hv0⟩ : ∃ y, nN t (0 : Nat) ee (2 : Nat) = y := ⟨_, rfl⟩
  obtain ⟨p0, hp0⟩ : ∃ y, nT t (0 : Nat) ee (2 : Nat) = y := ⟨_, rfl⟩
  obtain ⟨x0, hx0⟩ : ∃ y, nE t (0 : Nat) ee (2 : Nat) = y := ⟨_, rfl⟩
  obtain ⟨v1, hv1⟩ : ∃ y, nN t p0 x0 (2 : Nat) = y := ⟨_, rfl⟩
  obtain ⟨p1, hp1⟩ : ∃ y, nT t p0 x0 (2 : Nat) = y := ⟨_, rfl⟩
  obtain ⟨x1, hx1⟩ : ∃ y, nE t p0 x0 (2 : Nat) = y := ⟨_, rfl⟩
  obtain ⟨v2, hv2⟩ : ∃ y, nN t p1 x1 (2 : Nat) = y := ⟨_, rfl⟩
  obtain ⟨p2, hp2⟩ : ∃ y, nT t p1 x1 (2 : Nat) = y := ⟨_, rfl⟩
  obtain ⟨x2, hx2⟩ : ∃ y, nE t p1 x1 (2 : Nat) = y := ⟨_, rfl⟩
  obtain ⟨v3, hv3⟩ : ∃ y, tS t p2 x2 = y := ⟨_, rfl⟩
  obtain ⟨p3, hp3⟩ : ∃ y, tT t p2 x2 = y := ⟨_, rfl⟩
  obtain ⟨x3, hx3⟩ : ∃ y, tE t p2 x2 = y := ⟨_, rfl⟩
  obtain ⟨v4, hv4⟩ : ∃ y, nN t p3 x3 (2 : Nat) = y := ⟨_, rfl⟩
  obtain ⟨p4, hp4⟩ : ∃ y, nT t p3 x3 (2 : Nat) = y := ⟨_, rfl⟩
  obtain ⟨x4, hx4⟩ : ∃ y, nE t p3 x3 (2 : Nat) = y := ⟨_, rfl⟩
  obtain ⟨v5, hv5⟩ : ∃ y, nN t p4 x4 (4 : Nat) = y := ⟨_, rfl⟩
  obtain ⟨p5, hp5⟩ : ∃ y, nT t p4 x4 (4 : Nat) = y := ⟨_, rfl⟩
  obtain ⟨x5, hx5⟩ : ∃ y, nE t p4 x4 (4 : Nat) = y := ⟨_, rfl⟩
  obtain ⟨v6, hv6⟩ : ∃ y, nN t p5 x5 (1 : Nat) = y := ⟨_, rfl⟩
  obtain ⟨p6, hp6⟩ : ∃ y, nT t p5 x5 (1 : Nat) = y := ⟨_, rfl⟩
  obtain ⟨x6, hx6⟩ : ∃ y, nE t p5 x5 (1 : Nat) = y := ⟨_, rfl⟩
  have hseq := seqRp t ee v0 p0 x0 v1 p1 x1 v2 p2 x2 p3 x3 v4 p4 x4 v5 p5 x5 v6 p6 x6 v3 hv0 hp0 hx0 hv1 hp1 hx1 hv2 hp2 hx2 hv3 hp3 hx3 hv4 hp4 hx4 hv5 hp5 hx5 hv6 hp6 hx6
  have l0 : p0 ≤ 1000000 := by rw [← hp0]; exact nT_le _ _ _ _ hts (by omega)
  have HN0 := Lib.hid (fun R u hu => rNext t 0 ee 2 R u hu hts (by omega))
  rw [show nN t 0 ee 2 = v0 from hv0, show nT t 0 ee 2 = p0 from hp0, show nE t 0 ee 2 = x0 from hx0] at HN0
  have k0 : 0 ≤ v0 ∧ v0 ≤ 65535 := by rw [← hv0]; exact nN_sm _ _ _ _ (by omega)
  have hw0 := u64_i64 v0 k0
  have l1 : p1 ≤ 1000000 := by rw [← hp1]; exact nT_le _ _ _ _ hts l0
  have HN1 := Lib.hid (fun R u hu => rNext t p0 x0 2 R u hu hts l0)
  rw [show nN t p0 x0 2 = v1 from hv1, show nT t p0 x0 2 = p1 from hp1, show nE t p0 x0 2 = x1 from hx1] at HN1
  have k1 : 0 ≤ v1 ∧ v1 ≤ 65535 := by rw [← hv1]; exact nN_sm _ _ _ _ (by omega)
  have hw1 := u64_i64 v1 k1
  have l2 : p2 ≤ 1000000 := by rw [← hp2]; exact nT_le _ _ _ _ hts l1
  have HN2 := Lib.hid (fun R u hu => rNext t p1 x1 2 R u hu hts l1)
  rw [show nN t p1 x1 2 = v2 from hv2, show nT t p1 x1 2 = p2 from hp2, show nE t p1 x1 2 = x2 from hx2] at HN2
  have k2 : 0 ≤ v2 ∧ v2 ≤ 65535 := by rw [← hv2]; exact nN_sm _ _ _ _ (by omega)
  have hw2 := u64_i64 v2 k2
  have l3 : p3 ≤ 1000000 := by rw [← hp3]; exact tT_le _ _ _ hts l2
  have HN3 := Lib.hid (fun R u hu => rText t p2 x2 R u hu hts l2)
  rw [hv3, hp3, hx3] at HN3
  have l4 : p4 ≤ 1000000 := by rw [← hp4]; exact nT_le _ _ _ _ hts l3
  have HN4 := Lib.hid (fun R u hu => rNext t p3 x3 2 R u hu hts l3)
  rw [show nN t p3 x3 2 = v4 from hv4, show nT t p3 x3 2 = p4 from hp4, show nE t p3 x3 2 = x4 from hx4] at HN4
  have k4 : 0 ≤ v4 ∧ v4 ≤ 65535 := by rw [← hv4]; exact nN_sm _ _ _ _ (by omega)
  have hw4 := u64_i64 v4 k4
  have l5 : p5 ≤ 1000000 := by rw [← hp5]; exact nT_le _ _ _ _ hts l4
  have HN5 := Lib.hid (fun R u hu => rNext t p4 x4 4 R u hu hts l4)
  rw [show nN t p4 x4 4 = v5 from hv5, show nT t p4 x4 4 = p5 from hp5, show nE t p4 x4 4 = x5 from hx5] at HN5
  have k5 : 0 ≤ v5 ∧ v5 ≤ 4294967295 := by rw [← hv5]; exact nN_4 _ _ _ _ (by omega)
  have hw5 := u64_u32 v5 k5
  have l6 : p6 ≤ 1000000 := by rw [← hp6]; exact nT_le _ _ _ _ hts l5
  have HN6 := Lib.hid (fun R u hu => rNext t p5 x5 1 R u hu hts l5)
  rw [show nN t p5 x5 1 = v6 from hv6, show nT t p5 x5 1 = p6 from hp6, show nE t p5 x5 1 = x6 from hx6] at HN6
  have k6 : 0 ≤ v6 ∧ v6 ≤ 65535 := by rw [← hv6]; exact nN_sm _ _ _ _ (by omega)
  have hw6 := u64_i64 v6 k6
  obtain ⟨c, rfl⟩ := Int.eq_ofNat_of_zero_le k6.1
  have hcI : (c : Int) ≤ 65535 := k6.2
  rw [Int.toNat_natCast] at hseq
  have hbd : v3.size ≤ 9223372036854775807 → (⟨v0, v1, v2, v3, v4, v5, []⟩ : Rp).bounded := fun h => ⟨⟨by show (-9223372036854775808 : Int) ≤ v0; omega, by show v0 ≤ (9223372036854775807 : Int); omega⟩, ⟨by show (-9223372036854775808 : Int) ≤ v1; omega, by show v1 ≤ (9223372036854775807 : Int); omega⟩, ⟨by show (-9223372036854775808 : Int) ≤ v2; omega, by show v2 ≤ (9223372036854775807 : Int); omega⟩, h, ⟨by show (-9223372036854775808 : Int) ≤ v4; omega, by show v4 ≤ (9223372036854775807 : Int); omega⟩, k5⟩
  have HSEQ := Lib.hid hseq; have HBD := Lib.hid hbd; have HQ := Lib.hid hq
  generalize prRp t = PR at *
  have htI : (t.size : Int) ≤ 3000 := by omega
  clear hseq hq hbd ht hee hv0 hp0 hx0 hv1 hp1 hx1 hv2 hp2 hx2 hv3 hp3 hx3 hv4 hp4 hx4 hv5 hp5 hx5 hv6 hp6 hx6 l0 l1 l2 l3 l4 l5 l6 k0 k1 k2 k4 k5 k6
  have HN := Lib.hid (heap_alloc_new w (.cells #[.int .i64 0, .int .i64 0, .int .i64 0, .string ⟨#[]⟩, .int .i64 0, .int .u32 0, .slice none 0 0] 37))
  have HBN := Lib.hid ((Below.refl w.heap.size w).alloc (Nat.le_refl _) (.cells #[.int .i64 0, .int .i64 0, .int .i64 0, .string ⟨#[]⟩, .int .i64 0, .int .u32 0, .slice none 0 0] 37))
  go_enter Try.func18, Try.ntmps18
  go_upto_region 2 with (first | (go_at_call 31; refine (HO.out _).mono ?_; rintro e w1 ⟨rfl, hb1⟩))
  have hN1 := (hb1.block _ (lt_of_block HN.out)).trans HN.out
  have hb1' := HBN.out.trans (hb1.mono HBN.out.size)
  have hrd2 : RdR w1.heap.size t 0 ee (w1.alloc (.cells #[.string t, .int .i64 0, .int .i64 ee] 60)) := heap_alloc_new w1 _
  have hN2 := (heap_alloc_old w1 (.cells #[.string t, .int .i64 0, .int .i64 ee] 60) (lt_of_block hN1)).trans hN1
  have hb2 := hb1'.alloc hb1'.size (.cells #[.string t, .int .i64 0, .int .i64 ee] 60)
  have hz2 : (w1.alloc (.cells #[.string t, .int .i64 0, .int .i64 ee] 60)).heap.size = w1.heap.size + 1 := World.size_alloc _ _
  have hNR : w.heap.size < w1.heap.size := lt_of_block hN1
  have HN2' := Lib.hid hN2; have HB2 := Lib.hid hb2
  clear hN1 hb1' hN2 hb2 hb1 HN HBN HO
  go_upto_region 3 with fail
  obtain ⟨R, hR⟩ : ∃ R, w1.heap.size = R := ⟨_, rfl⟩
  obtain ⟨w2, hW⟩ : ∃ w2, w1.alloc (.cells #[.string t, .int .i64 0, .int .i64 ee] 60) = w2 := ⟨_, rfl⟩
  rw [hW] at hrd2 hz2 HN2' HB2 ⊢
  rw [hR] at hrd2 hz2 hNR ⊢
  clear hW hR
  have hNR' : w.heap.size ≠ R := by omega
  have HIN := Lib.hid (fun (A u : World) (h : Below w.heap.size w A) (hg : A.grownBy u (some R)) => (show Below w.heap.size w u from h.grown hg h.size (fun k hk => by injection hk with hk; omega)))
  go_upto_region 4 with (first | (go_at_call 32; refine (HN0.out R _ hrd2).mono ?_; rintro e w3 ⟨rfl, hrd3, hg3⟩))
  have hN3 := (hg3.block _ (lt_of_block HN2'.out) (fun e => hNR' (Option.some.inj e))).trans HN2'.out
  have hb3 := HIN.out _ _ HB2.out hg3
  have hRw3 : R < w3.heap.size := by have := hg3.size; omega
  have hQ3 := heap_alloc_new w3 (.cells #[.int .i64 v0, .int .i64 0, .int .i64 0, .string ⟨#[]⟩, .int .i64 0, .int .u32 0, .slice none 0 0] 37)
  have hN3' := (heap_alloc_old w3 (.cells #[.int .i64 v0, .int .i64 0, .int .i64 0, .string ⟨#[]⟩, .int .i64 0, .int .u32 0, .slice none 0 0] 37) (lt_of_block hN3)).trans hN3
  have hrd3' : RdR R t p0 x0 (w3.alloc (.cells #[.int .i64 v0, .int .i64 0, .int .i64 0, .string ⟨#[]⟩, .int .i64 0, .int .u32 0, .slice none 0 0] 37)) := (heap_alloc_old w3 _ hRw3).trans hrd3
  have hb3' := hb3.alloc hb3.size (.cells #[.int .i64 v0, .int .i64 0, .int .i64 0, .string ⟨#[]⟩, .int .i64 0, .int .u32 0, .slice none 0 0] 37)
  have hbs3 := hb3.size
  have hEz : (w3.alloc (.cells #[.int .i64 v0, .int .i64 0, .int .i64 0, .string ⟨#[]⟩, .int .i64 0, .int .u32 0, .slice none 0 0] 37)).heap.size = w3.heap.size + 1 := World.size_alloc _ _
  obtain ⟨E, hE⟩ : ∃ E, w3.heap.size = E := ⟨_, rfl⟩
  obtain ⟨u0, hW⟩ : ∃ u0, w3.alloc (.cells #[.int .i64 v0, .int .i64 0, .int .i64 0, .string ⟨#[]⟩, .int .i64 0, .int .u32 0, .slice none 0 0] 37) = u0 := ⟨_, rfl⟩
  rw [hW] at hQ3 hN3' hrd3' hb3' hEz ⊢
  rw [hE] at hQ3 hRw3 hbs3 hEz ⊢
  have hER : E ≠ R := by omega
  have hEN : w.heap.size ≤ E := by omega
  have hNlt : w.heap.size < E := by have := lt_of_block hN3; omega
  have hNE : w.heap.size ≠ E := by omega
  have hz0 : E + 1 ≤ u0.heap.size := by omega
  have HQ0 := Lib.hid hQ3; have HM0 := Lib.hid hN3'; have HG0 := Lib.hid hb3'
  clear hW hE hQ3 hN3' hb3' hN3 hb3 hg3 hbs3 hrd3 HN0 HB2 HN2' hz2 hrd2 hEz
  have hr0 := hrd3'
  clear hrd3'
  go_upto_region 5 with (first | (go_at_call 32; refine (HN1.out R _ hr0).mono ?_; rintro e y1 ⟨rfl, hrv, hgv⟩; have hQv := (hgv.block E (lt_of_block HQ0.out) (fun e => hER (Option.some.inj e))).trans HQ0.out; have fv := block_frozen hQv 1; have cv := below_cell (Below.refl _ y1) hQv 1 rfl))
  have hMv := (hgv.block _ (lt_of_block HM0.out) (fun e => hNR' (Option.some.inj e))).trans HM0.out
  have hGv := HIN.out _ _ HG0.out hgv
  have HQ1 := Lib.hid (block_set hQv 1 (.int .i64 v1))
  have HM1 := Lib.hid ((Below.heap_setCell y1 ⟨E, 1, none⟩ (.int .i64 v1) w.heap.size (by show w.heap.size ≠ E; omega)).trans hMv)
  have HG1 := Lib.hid (hGv.setCell (p := ⟨E, 1, none⟩) hEN (.int .i64 v1))
  have hr1 := (Below.heap_setCell y1 ⟨E, 1, none⟩ (.int .i64 v1) R (by show R ≠ E; omega)).trans hrv
  have hz1 : E + 1 ≤ (y1.setCell ⟨E, 1, none⟩ (.int .i64 v1)).heap.size := by rw [World.size_setCell]; exact Nat.le_trans hz0 hgv.size
  obtain ⟨u1, hW⟩ : ∃ u1, y1.setCell ⟨E, 1, none⟩ (.int .i64 v1) = u1 := ⟨_, rfl⟩
  rw [hW] at HQ1 HM1 HG1 hr1 hz1 ⊢
  clear hW fv cv hQv hMv hGv hgv hrv hr0 HQ0 HM0 HG0 HN1 hz0
  go_upto_region 6 with (first | (go_at_call 32; refine (HN2.out R _ hr1).mono ?_; rintro e y2 ⟨rfl, hrv, hgv⟩; have hQv := (hgv.block E (lt_of_block HQ1.out) (fun e => hER (Option.some.inj e))).trans HQ1.out; have fv := block_frozen hQv 2; have cv := below_cell (Below.refl _ y2) hQv 2 rfl))
  have hMv := (hgv.block _ (lt_of_block HM1.out) (fun e => hNR' (Option.some.inj e))).trans HM1.out
  have hGv := HIN.out _ _ HG1.out hgv
  have HQ2 := Lib.hid (block_set hQv 2 (.int .i64 v2))
  have HM2 := Lib.hid ((Below.heap_setCell y2 ⟨E, 2, none⟩ (.int .i64 v2) w.heap.size (by show w.heap.size ≠ E; omega)).trans hMv)
  have HG2 := Lib.hid (hGv.setCell (p := ⟨E, 2, none⟩) hEN (.int .i64 v2))
  have hr2 := (Below.heap_setCell y2 ⟨E, 2, none⟩ (.int .i64 v2) R (by show R ≠ E; omega)).trans hrv
  have hz2 : E + 1 ≤ (y2.setCell ⟨E, 2, none⟩ (.int .i64 v2)).heap.size := by rw [World.size_setCell]; exact Nat.le_trans hz1 hgv.size
  obtain ⟨u2, hW⟩ : ∃ u2, y2.setCell ⟨E, 2, none⟩ (.int .i64 v2) = u2 := ⟨_, rfl⟩
  rw [hW] at HQ2 HM2 HG2 hr2 hz2 ⊢
  clear hW fv cv hQv hMv hGv hgv hrv hr1 HQ1 HM1 HG1 HN2 hz1
  go_upto_region 7 with (first | (go_at_call 33; refine (HN3.out R _ hr2).mono ?_; rintro e y3 ⟨rfl, hrv, hgv⟩; have hQv := (hgv.block E (lt_of_block HQ2.out) (fun e => hER (Option.some.inj e))).trans HQ2.out; have fv := block_frozen hQv 3; have cv := below_cell (Below.refl _ y3) hQv 3 rfl))
  have hMv := (hgv.block _ (lt_of_block HM2.out) (fun e => hNR' (Option.some.inj e))).trans HM2.out
  have hGv := HIN.out _ _ HG2.out hgv
  have HQ3 := Lib.hid (block_set hQv 3 (.string v3))
  have HM3 := Lib.hid ((Below.heap_setCell y3 ⟨E, 3, none⟩ (.string v3) w.heap.size (by show w.heap.size ≠ E; omega)).trans hMv)
  have HG3 := Lib.hid (hGv.setCell (p := ⟨E, 3, none⟩) hEN (.string v3))
  have hr3 := (Below.heap_setCell y3 ⟨E, 3, none⟩ (.string v3) R (by show R ≠ E; omega)).trans hrv
  have hz3 : E + 1 ≤ (y3.setCell ⟨E, 3, none⟩ (.string v3)).heap.size := by rw [World.size_setCell]; exact Nat.le_trans hz2 hgv.size
  obtain ⟨u3, hW⟩ : ∃ u3, y3.setCell ⟨E, 3, none⟩ (.string v3) = u3 := ⟨_, rfl⟩
  rw [hW] at HQ3 HM3 HG3 hr3 hz3 ⊢
  clear hW fv cv hQv hMv hGv hgv hrv hr2 HQ2 HM2 HG2 HN3 hz2
  go_upto_region 8 with (first | (go_at_call 32; refine (HN4.out R _ hr3).mono ?_; rintro e y4 ⟨rfl, hrv, hgv⟩; have hQv := (hgv.block E (lt_of_block HQ3.out) (fun e => hER (Option.some.inj e))).trans HQ3.out; have fv := block_frozen hQv 4; have cv := below_cell (Below.refl _ y4) hQv 4 rfl))
  have hMv := (hgv.block _ (lt_of_block HM3.out) (fun e => hNR' (Option.some.inj e))).trans HM3.out
  have hGv := HIN.out _ _ HG3.out hgv
  have HQ4 := Lib.hid (block_set hQv 4 (.int .i64 v4))
  have HM4 := Lib.hid ((Below.heap_setCell y4 ⟨E, 4, none⟩ (.int .i64 v4) w.heap.size (by show w.heap.size ≠ E; omega)).trans hMv)
  have HG4 := Lib.hid (hGv.setCell (p := ⟨E, 4, none⟩) hEN (.int .i64 v4))
  have hr4 := (Below.heap_setCell y4 ⟨E, 4, none⟩ (.int .i64 v4) R (by show R ≠ E; omega)).trans hrv
  have hz4 : E + 1 ≤ (y4.setCell ⟨E, 4, none⟩ (.int .i64 v4)).heap.size := by rw [World.size_setCell]; exact Nat.le_trans hz3 hgv.size
  obtain ⟨u4, hW⟩ : ∃ u4, y4.setCell ⟨E, 4, none⟩ (.int .i64 v4) = u4 := ⟨_, rfl⟩
  rw [hW] at HQ4 HM4 HG4 hr4 hz4 ⊢
  clear hW fv cv hQv hMv hGv hgv hrv hr3 HQ3 HM3 HG3 HN4 hz3
  go_upto_region 9 with (first | (go_at_call 32; refine (HN5.out R _ hr4).mono ?_; rintro e y5 ⟨rfl, hrv, hgv⟩; have hQv := (hgv.block E (lt_of_block HQ4.out) (fun e => hER (Option.some.inj e))).trans HQ4.out; have fv := block_frozen hQv 5; have cv := below_cell (Below.refl _ y5) hQv 5 rfl))
  have hMv := (hgv.block _ (lt_of_block HM4.out) (fun e => hNR' (Option.some.inj e))).trans HM4.out
  have hGv := HIN.out _ _ HG4.out hgv
  have HQ5 := Lib.hid (block_set hQv 5 (.int .u32 v5))
  have HM5 := Lib.hid ((Below.heap_setCell y5 ⟨E, 5, none⟩ (.int .u32 v5) w.heap.size (by show w.heap.size ≠ E; omega)).trans hMv)
  have HG5 := Lib.hid (hGv.setCell (p := ⟨E, 5, none⟩) hEN (.int .u32 v5))
  have hr5 := (Below.heap_setCell y5 ⟨E, 5, none⟩ (.int .u32 v5) R (by show R ≠ E; omega)).trans hrv
  have hz5 : E + 1 ≤ (y5.setCell ⟨E, 5, none⟩ (.int .u32 v5)).heap.size := by rw [World.size_setCell]; exact Nat.le_trans hz4 hgv.size
  obtain ⟨u5, hW⟩ : ∃ u5, y5.setCell ⟨E, 5, none⟩ (.int .u32 v5) = u5 := ⟨_, rfl⟩
  rw [hW] at HQ5 HM5 HG5 hr5 hz5 ⊢
  clear hW fv cv hQv hMv hGv hgv hrv hr4 HQ4 HM4 HG4 HN5 hz4
  go_upto_region 10 with (first | (go_at_call 32; refine (HN6.out R _ hr5).mono ?_; rintro e y6 ⟨rfl, hr6, hgv⟩))
  have HQ6 : Hid (y6.heap[E]? = some (.cells #[.int .i64 v0, .int .i64 v1, .int .i64 v2, .string v3, .int .i64 v4, .int .u32 v5, .slice none 0 0] 37 (0, 0))) := Lib.hid ((hgv.block E (lt_of_block HQ5.out) (fun e => hER (Option.some.inj e))).trans HQ5.out)
  have HM6 := Lib.hid ((hgv.block _ (lt_of_block HM5.out) (fun e => hNR' (Option.some.inj e))).trans HM5.out)
  have HG6 := Lib.hid (HIN.out _ _ HG5.out hgv)
  have hz6 := Nat.le_trans hz5 hgv.size
  have HO6 := Lib.hid (World.ownsRow_nil y6 (E + 1) 66 3)
  clear hgv hr5 HQ5 HM5 HG5 HN6 hz5
  go_wp2_with fail
  go_loopw [9] (fun z wr => ∃ (i : Nat) (p x : Int) (v : Value) (xs : List Value) (acc : List Ln), i ≤ c ∧ z = .int .i64 i ∧ RdR R t p x wr ∧ E + 1 ≤ wr.heap.size ∧
      Hid ((x ≠ 0 ∧ (ee ≠ 0 ∨ PR = none)) ∨ (x = 0 ∧ ee = 0 ∧ v3.size ≤ 9223372036854775807 ∧ acc.length = i ∧ RowV wr (E + 1) xs acc ∧ ∃ a : Nat, p = a ∧ a ≤ 3000 ∧ PR = (concL acc (prLns t (c - i) a)).bind fun l => some (⟨v0, v1, v2, v3, v4, v5, l.1⟩, l.2))) ∧
      Hid (Below w.heap.size w wr) ∧ Hid (wr.heap[w.heap.size]? = some (.cells #[.int .i64 0, .int .i64 0, .int .i64 0, .string ⟨#[]⟩, .int .i64 0, .int .u32 0, .slice none 0 0] 37 (0, 0))) ∧ Hid (wr.heap[E]? = some (.cells #[.int .i64 v0, .int .i64 v1, .int .i64 v2, .string v3, .int .i64 v4, .int .u32 v5, v] 37 (0, 0))) ∧ Hid (wr.ownsRow (E + 1) 66 3 v i xs)) (fun z _ => c - (intOf z).toNat)
  case atStart => exact ⟨0, p6, x6, _, [], [], Nat.zero_le _, rfl, hr6, hz6, Lib.hid (by
    rcases HSEQ.out with h | ⟨h1, h2, h3, a, h4, h5, h6⟩
    · exact .inl h
    · refine .inr ⟨h1, h2, h3, rfl, ⟨rfl, fun j hj => by simp at hj⟩, a, h4, by omega, ?_⟩
      rw [h6, Nat.sub_zero]
      unfold concL
      cases prLns t c a <;> simp), HG6, HM6, HQ6, HO6⟩
  case round =>
    clear HG6 HM6 HQ6 HO6 hr6 hz6 HSEQ
    obtain ⟨i, p, x, v, xs, acc, hic, rfl, hrd, hBz, HK, hG, hM, hB, hO⟩ := hrel
    obtain ⟨ta, tc, rfl, _⟩ := own_formS hO.out
    have cR := below_cell (Below.refl _ wr) (show wr.heap[R]? = _ from hrd) 2 rfl
    by_cases hgo : i < c ∧ x = 0
    · obtain ⟨hlt, rfl⟩ := hgo
      have hltI : (i : Int) < c := by omega
      obtain ⟨he0, h3s, hai, hV, a, rfl, ha3, hPR⟩ : ee = 0 ∧ v3.size ≤ 9223372036854775807 ∧ acc.length = i ∧ RowV wr (E + 1) xs acc ∧ ∃ a : Nat, p = a ∧ a ≤ 3000 ∧ PR = (concL acc (prLns t (c - i) a)).bind fun l => some (⟨v0, v1, v2, v3, v4, v5, l.1⟩, l.2) := by
        rcases HK.out with ⟨h, _⟩ | ⟨_, h⟩
        · exact absurd rfl h
        · exact h
      have c3 := below_cell (Below.refl _ wr) hB.out 6 rfl
      have c3a := fun o : Obj => (World.cell?_of_block (a := ⟨E, 6, none⟩) (Below.heap_alloc wr o E (lt_of_block hB.out))).trans c3
      have hci : c - i = (c - (i + 1)) + 1 := by omega
      have hNN : ∀ (ln : Ln) (q y : Int), ((y ≠ 0 ∧ prLn t a = none) ∨ (y = 0 ∧ ∃ q' : Nat, q = q' ∧ prLn t a = some (ln, q'))) →
          (y ≠ 0 ∧ PR = none) ∨ (y = 0 ∧ ln.bounded ∧ ∃ a' : Nat, q = a' ∧ a' ≤ 3000 ∧ PR = (concL (acc ++ [ln]) (prLns t (c - (i + 1)) a')).bind fun l => some (⟨v0, v1, v2, v3, v4, v5, l.1⟩, l.2)) := by
        rintro ln q y (⟨h1, h2⟩ | ⟨h1, q', h2, h3⟩)
        · exact .inl ⟨h1, by rw [hPR, hci, prLns_none h2]; rfl⟩
        · obtain ⟨_, f2, f3, _⟩ := prLn_in h3
          exact .inr ⟨h1, f3, q', h2, by omega, by rw [hPR, hci, prLns_some h3]⟩
      have HNN := Lib.hid hNN
      have HC := Lib.hid (fun u hu => rfLine t a R u hu hts (by omega))
      unfold RLPost at HC
      have hV := Lib.hid hV; have HE0 := Lib.hid he0; have H3S := Lib.hid h3s; have HAI := Lib.hid hai
      clear hNN hPR HK hci he0 h3s hai
      go_upto_region 13 with fail
      clear cR
      obtain ⟨iL, hNL, hzL0, hzL1, hzL2⟩ := info_parts infoLn
      go_region_law (first
        | (go_simp; go_at_call 43; refine (HC.out _ (by exact hrd)).mono ?_; rintro e' w7 ⟨⟨name, cur, nos⟩, q, y, k, rfl, hk, hrd, hgr, hcs⟩; have hk := own_base (b' := E + 1) hk (by exact hBz); have hG := Lib.hid (show Below w.heap.size w w7 from (by first | exact HIN.out _ _ hG.out hgr | exact HIN.out _ _ hG.out (grown_drew hgr))); have hM := Lib.hid ((hgr.block w.heap.size (lt_of_block (by exact hM.out)) (fun e => hNR' (Option.some.inj e))).trans (by exact hM.out)); have hB := Lib.hid ((hgr.block E (lt_of_block (by exact hB.out)) (fun e => hER (Option.some.inj e))).trans (by exact hB.out)); have hO := Lib.hid (World.ownsRow.kept (w := _) (by first | exact hO.out | exact hO.out.drew) hgr (.inr (fun e => absurd (hO.out.lt R e).1 (by omega)))); have hV := Lib.hid (RowV.kept (w := _) (by first | exact hV.out | exact hV.out.drew) hgr (.inl (by omega))); have hBz := Nat.le_trans hBz hgr.size; have c3 := below_cell (Below.refl _ w7) hB.out 6 rfl; have c3a := fun o : Obj => (World.cell?_of_block (a := ⟨E, 6, none⟩) (Below.heap_alloc w7 o E (lt_of_block hB.out))).trans c3; obtain ⟨ka, kc, rfl, _⟩ := own_formS hk; go_simp)
        | (refine step_push (m := 1) (c := 1) (Operand.tmp 58) (Operand.tmp 61) 35 66 [.string name, .int .i64 cur, .slice ka nos.length kc] (hO.out.alloc _) ((Below.refl _ _).alloc hBz _) hBz Try.underlying35 hNL hzL0 hzL1 hzL2 rfl (by decide) (by rfl) (by rfl) (by rfl) (by rfl) (cells_new _ [.string name, .int .i64 cur, .slice ka nos.length kc] 66) (by rfl) (by intro u hu; simp only [List.mem_cons, List.not_mem_nil, or_false] at hu; rcases hu with rfl | rfl | rfl <;> rfl) ⟨by omega, by omega⟩ ?_; intro v8 w8 hown8 hb8 hgr8; obtain ⟨ta8, tc8, rfl, _⟩ := own_formS hown8; have hB8 := (hb8.block E (by omega)).trans hB.out; have c08 := below_cell (Below.refl _ w8) hB8 6 rfl; have f08 := block_frozen hB8 6)
        | fail)
      all_goals
        have hK9 : Hid ((y ≠ 0 ∧ (ee ≠ 0 ∨ PR = none)) ∨ (y = 0 ∧ ee = 0 ∧ v3.size ≤ 9223372036854775807 ∧ (acc ++ [(⟨name, cur, nos⟩ : Ln)]).length = i + 1 ∧ RowV (w8.setCell ⟨E, 6, none⟩ (.slice ta8 (i + 1) tc8)) (E + 1) (xs ++ [.string name, .int .i64 cur, .slice ka nos.length kc]) (acc ++ [⟨name, cur, nos⟩]) ∧ ∃ a : Nat, q = a ∧ a ≤ 3000 ∧ PR = (concL (acc ++ [⟨name, cur, nos⟩]) (prLns t (c - (i + 1)) a)).bind fun l => some (⟨v0, v1, v2, v3, v4, v5, l.1⟩, l.2))) := Lib.hid (by
          rcases HNN.out ⟨name, cur, nos⟩ q y hcs with ⟨h1, h2⟩ | ⟨h1, hbd, h2⟩
          · exact .inl ⟨h1, .inr h2⟩
          · refine .inr ⟨h1, HE0.out, H3S.out, by rw [List.length_append, HAI.out]; rfl, ?_, h2⟩
            have hV0 := RowV.snoc (e := ⟨name, cur, nos⟩) hV.out hbd hk
            have hV1 : RowV w8 (E + 1) (xs ++ [.string name, .int .i64 cur, .slice ka nos.length kc]) (acc ++ [⟨name, cur, nos⟩]) := RowV.grew hV0 hown8 (grown_trans (World.grownBy_alloc w7 _ _) hgr8) hO.out
            exact RowV.kept hV1 (grown_set (R := E) (w := w8) ⟨rfl, rfl, rfl, Nat.le_refl _, fun _ _ _ => rfl⟩ 6 (.slice ta8 (i + 1) tc8)) (.inl (by omega)))
        have hB9 := Lib.hid (block_set hB8 6 (.slice ta8 (i + 1) tc8))
        have hM9 := Lib.hid ((Below.heap_setCell w8 ⟨E, 6, none⟩ (.slice ta8 (i + 1) tc8) w.heap.size (by show w.heap.size ≠ E; omega)).trans ((hb8.block _ (by omega)).trans hM.out))
        have hO9 := Lib.hid (ownsRow_setCell_below (a := ⟨E, 6, none⟩) hown8 (by show E < E + 1; omega) (.slice ta8 (i + 1) tc8))
        have hG9 := Lib.hid ((hG.out.trans (hb8.mono (by omega))).setCell (p := ⟨E, 6, none⟩) hEN (.slice ta8 (i + 1) tc8))
        have hrd9 : RdR R t q y (w8.setCell ⟨E, 6, none⟩ (.slice ta8 (i + 1) tc8)) :=
          (Below.heap_setCell w8 ⟨E, 6, none⟩ _ R (by show R ≠ E; omega)).trans ((hb8.block R (by omega)).trans hrd)
        have hBz9 : E + 1 ≤ (w8.setCell ⟨E, 6, none⟩ (.slice ta8 (i + 1) tc8)).heap.size := by rw [World.size_setCell]; exact Nat.le_trans hBz hb8.size
        clear hB8 c08 f08 hb8 hgr8 hown8 hB hO hV hG hM c3 c3a hrd hBz hk hcs hNL hzL0 hzL1 hzL2
        go_wp2_with fail
        go_roundw
        case rel => exact ⟨i + 1, q, y, _, _, _, by omega, by go_num, hrd9, hBz9, hK9, hG9, hM9, hB9, hO9⟩
        case measure => simp [intOf]; omega
    · have cR1 := below_cell (Below.refl _ wr) (show wr.heap[R]? = _ from hrd) 1 rfl
      have c0 := below_cell (Below.refl _ wr) hB.out 0 rfl
      have c1 := below_cell (Below.refl _ wr) hB.out 1 rfl
      have c2 := below_cell (Below.refl _ wr) hB.out 2 rfl
      have c3 := below_cell (Below.refl _ wr) hB.out 3 rfl
      have c4 := below_cell (Below.refl _ wr) hB.out 4 rfl
      have c5 := below_cell (Below.refl _ wr) hB.out 5 rfl
      have c6 := below_cell (Below.refl _ wr) hB.out 6 rfl
      have hM0 := hM.out
      have HS0 := Lib.hid (setRow_heap wr w.heap.size _ #[.int .i64 0, .int .i64 0, .int .i64 0, .string ⟨#[]⟩, .int .i64 0, .int .u32 0, .slice none 0 0] _ _ hM.out)
      have HF0 := Lib.hid (below_setRow hG.out (Nat.le_refl _) #[.int .i64 0, .int .i64 0, .int .i64 0, .string ⟨#[]⟩, .int .i64 0, .int .u32 0, .slice none 0 0])
      by_cases hx : x = 0
      case neg =>
        have R1 : Hid (readR s = none) := Lib.hid (by
          rcases HK.out with ⟨_, h⟩ | ⟨h, _⟩
          · rw [HQ.out]
            by_cases he : ee = 0
            · rw [if_pos he]
              rcases h with h | h
              · exact absurd he h
              · rw [h]; rfl
            · rw [if_neg he]
          · exact absurd h hx)
        have hxq : (x == 0) = false := by simpa using hx
        have hxn : (x != 0) = true := by simpa using hx
        clear HK HQ
        by_cases hic2 : i < c
        · have hltI : (i : Int) < c := by omega
          clear hgo hx
          go_wp2_with (first | (refine wpList_store_row rfl 37 _ _ rfl w.heap.size #[.int .i64 0, .int .i64 0, .int .i64 0, .string ⟨#[]⟩, .int .i64 0, .int .u32 0, .slice none 0 0] rfl rfl 37 _ hM0 (by kernel_rfl) rfl (by simp [Value.oneCell']) ?_))
          exact bodyPost_ret (results_row_tmp rfl _ _ w.heap.size _ _ _ _ rfl HS0.out Try.underlying37 rfl (by kernel_rfl)) rfl (by exact rpost_no R1.out HF0.out)
        · have hnl : ¬ (i : Int) < c := by omega
          clear hgo hx
          go_wp2_with (first | (refine wpList_store_row rfl 37 _ _ rfl w.heap.size #[.int .i64 0, .int .i64 0, .int .i64 0, .string ⟨#[]⟩, .int .i64 0, .int .u32 0, .slice none 0 0] rfl rfl 37 _ hM0 (by kernel_rfl) rfl (by simp [Value.oneCell']) ?_))
          exact bodyPost_ret (results_row_tmp rfl _ _ w.heap.size _ _ _ _ rfl HS0.out Try.underlying37 rfl (by kernel_rfl)) rfl (by exact rpost_no R1.out HF0.out)
      subst hx
      obtain ⟨he0, h3s, hai, hV, a, rfl, ha3, hPR⟩ : ee = 0 ∧ v3.size ≤ 9223372036854775807 ∧ acc.length = i ∧ RowV wr (E + 1) xs acc ∧ ∃ a : Nat, p = a ∧ a ≤ 3000 ∧ PR = (concL acc (prLns t (c - i) a)).bind fun l => some (⟨v0, v1, v2, v3, v4, v5, l.1⟩, l.2) := by
        rcases HK.out with ⟨h, _⟩ | ⟨_, h⟩
        · exact absurd rfl h
        · exact h
      have hic2 : ¬ i < c := fun h => hgo ⟨h, rfl⟩
      have hci : c - i = 0 := by omega
      have hnl : ¬ (i : Int) < c := by omega
      have hPS : PR = some (⟨v0, v1, v2, v3, v4, v5, acc⟩, a) := by rw [hPR, hci]; simp [prLns, concL]
      have hRQ := HQ.out
      rw [if_pos he0, hPS, Option.bind_some] at hRQ
      simp only at hRQ
      clear hPR hPS HK HQ hgo he0 hci hic2
      by_cases hat : a = t.size
      case neg =>
        have R1 : Hid (readR s = none) := Lib.hid (by rw [hRQ, if_neg (fun h => hat h.2)])
        have hq : ((a : Int) != (t.size : Int)) = true := by simp; omega
        clear hRQ hV hai hat
        go_wp2_with (first | (refine wpList_store_row rfl 37 _ _ rfl w.heap.size #[.int .i64 0, .int .i64 0, .int .i64 0, .string ⟨#[]⟩, .int .i64 0, .int .u32 0, .slice none 0 0] rfl rfl 37 _ hM0 (by kernel_rfl) rfl (by simp [Value.oneCell']) ?_))
        exact bodyPost_ret (results_row_tmp rfl _ _ w.heap.size _ _ _ _ rfl HS0.out Try.underlying37 rfl (by kernel_rfl)) rfl (by exact rpost_no R1.out HF0.out)
      have hIs : IsRp wr (.agg #[.int .i64 v0, .int .i64 v1, .int .i64 v2, .string v3, .int .i64 v4, .int .u32 v5, .slice ta i tc]) ⟨v0, v1, v2, v3, v4, v5, acc⟩ :=
        ⟨HBD.out h3s, _, rfl, by have := hV.row.reads hO.out hai (Below.refl _ _); exact this⟩
      have HI := Lib.hid (rfIsReply ⟨v0, v1, v2, v3, v4, v5, acc⟩ _ wr hIs)
      have hq : ((a : Int) != (t.size : Int)) = false := by simp; omega
      have HRQ := Lib.hid hRQ; have HAT := Lib.hid hat
      cases hok : rpOk ⟨v0, v1, v2, v3, v4, v5, acc⟩ with
      | false =>
        rw [hok] at HI
        have R1 : Hid (readR s = none) := Lib.hid (by rw [HRQ.out, if_neg (fun h => by rw [hok] at h; cases h.1)])
        clear hRQ hV hai hat hIs hok HRQ HAT
        go_upto_region 15 with (first | (go_at_call 20; refine HI.out.mono ?_; rintro e u9 ⟨rfl, hb9⟩))
        have hM9 := (hb9.block _ (lt_of_block hM.out)).trans hM.out
        have HS9 := Lib.hid (setRow_heap u9 w.heap.size _ #[.int .i64 0, .int .i64 0, .int .i64 0, .string ⟨#[]⟩, .int .i64 0, .int .u32 0, .slice none 0 0] _ _ hM9)
        have HF9 := Lib.hid (below_setRow (hG.out.trans (hb9.mono hG.out.size)) (Nat.le_refl _) #[.int .i64 0, .int .i64 0, .int .i64 0, .string ⟨#[]⟩, .int .i64 0, .int .u32 0, .slice none 0 0])
        clear hb9 hM0
        go_wp2_with (first | (refine wpList_store_row rfl 37 _ _ rfl w.heap.size #[.int .i64 0, .int .i64 0, .int .i64 0, .string ⟨#[]⟩, .int .i64 0, .int .u32 0, .slice none 0 0] rfl rfl 37 _ hM9 (by kernel_rfl) rfl (by simp [Value.oneCell']) ?_))
        exact bodyPost_ret (results_row_tmp rfl _ _ w.heap.size _ _ _ _ rfl HS9.out Try.underlying37 rfl (by kernel_rfl)) rfl (by exact rpost_no R1.out HF9.out)
      | true =>
        rw [hok] at HI
        have R1 : Hid (readR s = some ⟨v0, v1, v2, v3, v4, v5, acc⟩) := Lib.hid (by rw [HRQ.out, if_pos ⟨hok, HAT.out⟩])
        have HV := Lib.hid hV; have HAI := Lib.hid hai; have HBB := Lib.hid (show (⟨v0, v1, v2, v3, v4, v5, acc⟩ : Rp).bounded from HBD.out h3s)
        clear hRQ hV hai hat hIs hok HRQ HAT
        go_upto_region 16 with (first | (go_at_call 20; refine HI.out.mono ?_; rintro e u9 ⟨rfl, hb9⟩))
        have hM9 := (hb9.block _ (lt_of_block hM.out)).trans hM.out
        have hB9 := (hb9.block _ (lt_of_block hB.out)).trans hB.out
        have d0 := below_cell (Below.refl _ u9) hB9 0 rfl
        have d1 := below_cell (Below.refl _ u9) hB9 1 rfl
        have d2 := below_cell (Below.refl _ u9) hB9 2 rfl
        have d3 := below_cell (Below.refl _ u9) hB9 3 rfl
        have d4 := below_cell (Below.refl _ u9) hB9 4 rfl
        have d5 := below_cell (Below.refl _ u9) hB9 5 rfl
        have d6 := below_cell (Below.refl _ u9) hB9 6 rfl
        have HIS := Lib.hid (fun cs => isrp_kept (N := w.heap.size) (cs := cs) HBB.out hO.out HV.out HAI.out hb9 (by omega))
        have HS9 := Lib.hid (setRow_heap u9 w.heap.size _ #[.int .i64 v0, .int .i64 v1, .int .i64 v2, .string v3, .int .i64 v4, .int .u32 v5, .slice ta i tc] _ _ hM9)
        have HF9 := Lib.hid (below_setRow (hG.out.trans (hb9.mono hG.out.size)) (Nat.le_refl _) #[.int .i64 v0, .int .i64 v1, .int .i64 v2, .string v3, .int .i64 v4, .int .u32 v5, .slice ta i tc])
        clear hb9 hM0 hB9
        go_wp2_with (first | (refine wpList_store_row rfl 37 _ _ rfl w.heap.size #[.int .i64 v0, .int .i64 v1, .int .i64 v2, .string v3, .int .i64 v4, .int .u32 v5, .slice ta i tc] rfl rfl 37 _ hM9 (by kernel_rfl) rfl (by simp [Value.oneCell']) ?_))
        exact bodyPost_ret (results_row_tmp rfl _ _ w.heap.size _ _ _ _ rfl HS9.out Try.underlying37 rfl (by kernel_rfl)) rfl (by exact rpost_yes R1.out (HIS.out _) HF9.out)
end SFr30
end Go.Proofs.Ytmanlogclbbgaaa
