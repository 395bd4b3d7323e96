/- The walk of EmitCodes. -/
import Derived.Test.YtnlmdajoifjddaaEmL
import Derived.Test.YtnlmdajoifjddaaEmC
import Derived.Test.YtnlmdajoifjddaaInsnPut
import Derived.Test.YtnlmdajoifjddaaKnown
namespace Go.Proofs.Ytnlmdajoifjddaa.lawEmitCodes
open Go.ChangeShapes Go.WideShapes Go.ChangeAt Go.RowKit Go.Joins Go.Deep
set_option linter.unusedVariables false

theorem put_ok {i : Ins} {r : Nat} (h : codeOk i r) : insPutE i = 0 := by
  unfold insPutE
  rw [if_pos]
  unfold Ins.fits
  rcases h with ⟨h1, h2, h3⟩ | ⟨h1, h2, h3, _⟩ | ⟨h1, h2, h3, _⟩ <;> omega
theorem known_ok {i : Ins} {r : Nat} (h : codeOk i r) : insKnown i.code = true := by
  rcases h with ⟨h1, _⟩ | ⟨h1, _⟩ | ⟨h1, _⟩
  · rcases h1 with h | h | h <;> rw [h] <;> decide +kernel
  · rw [h1]; decide +kernel
  · rcases h1 with h | h | h <;> rw [h] <;> decide +kernel
set_option maxRecDepth 100000 in
set_option maxHeartbeats 2000000 in
theorem walk (v0 : Value) (l0 : List Stp) (w : World) (w0 : IsOps w v0 l0) :
    Calls Try.prog 7 #[v0] w fun e w' => e = .returned (.bool true) ∧ Below w.heap.size w w' := by
  obtain ⟨a, len, cap, rfl, hlen, hc1, hc2, htk⟩ := w0.take
  obtain ⟨n, hn, hn1, hn2, hn3⟩ := min_if len 200 (by omega)
  have hmi : min (len : Int) 200 = n := by omega
  have hl := htk n hn1
  have hll : (l0.take n).length ≤ 200 := by rw [List.length_take]; omega
  generalize l0.take n = l at *
  have hncI : (n : Int) ≤ cap := by omega
  have hcI : (cap : Int) ≤ 9223372036854775807 := by omega
  have hA := fun u hu => emAssemble_any l (.slice a n cap) u hu (by omega)
  have HL := Lib.hid hl; have HA := Lib.hid hA
  have hcod := fun s (h : asmA l = some s) => asmA_codes l s h
  unfold AsmPost at HA
  clear htk w0 hlen hl hA hn3
  go_enter Try.func7, Try.ntmps7
  go_wp2_with fail
  refine (HA.out _ HL.out).mono ?_
  rintro e w2 ⟨he, hb2⟩
  have HW2 := Lib.hid hb2
  clear hb2
  have bad : ∀ y : Int, y ≠ 0 → e = .returned (.tuple #[.slice none 0 0, .int .i64 y]) → True := fun _ _ _ => trivial
  clear bad
  cases hs : asmA l with
  | none =>
    rw [hs] at he
    have he2 : e = .returned (.tuple #[.slice none 0 0, .int .i64 1]) := he
    subst he2
    clear he hs hcod
    go_wp2_with fail
    refine (emAlive _).mono ?_
    rintro e w4 ⟨rfl, hb4⟩
    have HW4 := Lib.hid (HW2.out.trans (hb4.mono HW2.out.size))
    clear hb4
    go_wp2_with fail
    go_ret
    exact ⟨rfl, HW4.out⟩
  | some s =>
    rw [hs] at he
    have he : if 4096 < s.c.length then e = .returned (.tuple #[.slice none 0 0, .int .i64 64]) else ∃ g, e = .returned (.tuple #[.slice (some ⟨g, 0, none⟩) s.c.length s.c.length, .int .i64 0]) ∧ IsIns w2 (.slice (some ⟨g, 0, none⟩) s.c.length s.c.length) s.c := he
    by_cases hbig : 4096 < s.c.length
    · rw [if_pos hbig] at he
      subst he
      clear hs hcod
      go_wp2_with fail
      refine (emAlive _).mono ?_
      rintro e w4 ⟨rfl, hb4⟩
      have HW4 := Lib.hid (HW2.out.trans (hb4.mono HW2.out.size))
      clear hb4
      go_wp2_with fail
      go_ret
      exact ⟨rfl, HW4.out⟩
    · rw [if_neg hbig] at he
      obtain ⟨g, rfl, hI, _⟩ := he
      have hco := hcod s hs
      have hat := fun i (hi : i < s.c.length) => codesOk_at s.c i hco hi
      obtain ⟨_, _, _, hv, hNl, _, _, hbd, hrd⟩ := hI
      injection hv with e1 e2 e3
      subst e1 e2 e3
      have hbd2 : ∀ i, i < s.c.length → (s.c.getD i insZ).bounded := fun i hi => by
        rw [List.getD_eq_getElem?_getD, List.getElem?_eq_getElem hi]
        exact hbd _ (List.getElem_mem _)
      generalize s.c = c at *
      obtain ⟨N, hN⟩ : ∃ N, c.length = N := ⟨_, rfl⟩
      rw [hN] at hat hrd hbd2 hbig ⊢
      have hNI : (N : Int) ≤ 4096 := by omega
      have HAT := Lib.hid hat; have HRD := Lib.hid hrd; have HBD := Lib.hid hbd2
      clear hat hrd hbd hbd2 hs hco hcod hNl hN
      go_wp2_with fail
      go_loopw [28] (fun z wr => ∃ j : Nat, z = .int .i64 j ∧ j ≤ N ∧ Below w.heap.size w wr ∧ Below w2.heap.size w2 wr) (fun z _ => N - (intOf z).toNat)
      case atStart => exact ⟨0, rfl, by omega, HW2.out, Below.refl _ _⟩
      case round =>
        obtain ⟨j, rfl, hj, hwr, hw2r⟩ := hrel
        have HWR := Lib.hid hwr; have HW2R := Lib.hid hw2r
        clear hwr hw2r
        by_cases hlt : j < N
        · obtain ⟨b, off, hab, hbl, hat⟩ := HRD.out.resolve_left (by omega)
          injection hab with hab
          injection hab with hab hab2
          subst hab hab2
          have hi := (hat j hlt).below HW2R.out hbl
          have hbi := HBD.out j hlt
          have hok := HAT.out j hlt
          have hP := fun u => insnPut_any (c.getD j insZ) u hbi
          have hK := fun u => insnKnown_any (c.getD j insZ).code u
          rw [put_ok hok] at hP
          rw [known_ok hok] at hK
          generalize c.getD j insZ = i at *
          obtain ⟨cc, jt, jf, k⟩ := i
          obtain ⟨c0, c1, c2, c3⟩ := hi
          obtain ⟨_, _, _, bk, bk1⟩ := hbi
          unfold Ins.value at hP
          dsimp only at hP hK c0 c1 c2 c3 bk bk1
          rw [Nat.zero_add] at c0 c1 c2 c3
          generalize insPutS ⟨cc, jt, jf, k⟩ = sB at *
          have hjI : (j : Int) < N := by omega
          have HP := Lib.hid hP; have HK := Lib.hid hK; have HOK := Lib.hid hok
          clear hP hK hok hat
          go_upto_region 7 with fail
          have hA2 := heap_alloc_new wr (Obj.cells #[.int .i64 cc, .int .i64 jt, .int .i64 jf, .int .u32 k] 44)
          have HWA := Lib.hid (HWR.out.alloc HWR.out.size (Obj.cells #[.int .i64 cc, .int .i64 jt, .int .i64 jf, .int .u32 k] 44))
          have HWB := Lib.hid (HW2R.out.alloc HW2R.out.size (Obj.cells #[.int .i64 cc, .int .i64 jt, .int .i64 jf, .int .u32 k] 44))
          clear c0 c1 c2 c3
          generalize wr.alloc (Obj.cells #[.int .i64 cc, .int .i64 jt, .int .i64 jf, .int .u32 k] 44) = wA at *
          generalize wr.heap.size = gA at *
          have i0 := below_cell (v := .int .i64 cc) (Below.refl _ wA) hA2 0 rfl
          have i1 := below_cell (v := .int .i64 jt) (Below.refl _ wA) hA2 1 rfl
          have i2 := below_cell (v := .int .i64 jf) (Below.refl _ wA) hA2 2 rfl
          have i3 := below_cell (v := .int .u32 k) (Below.refl _ wA) hA2 3 rfl
          have HA2 := Lib.hid hA2
          clear hA2
          go_wp2_with fail
          refine (HP.out _).mono ?_
          rintro e w5 ⟨rfl, hb5⟩
          have hA5 := (hb5.block _ (lt_of_block HA2.out)).trans HA2.out
          have HW5 := Lib.hid (HWA.out.trans (hb5.mono HWA.out.size))
          have HV5 := Lib.hid (HWB.out.trans (hb5.mono HWB.out.size))
          have j0 := below_cell (v := .int .i64 cc) (Below.refl _ w5) hA5 0 rfl
          have HA5 := Lib.hid hA5
          clear hb5 hA5 i0 i1 i2 i3
          go_wp2_with fail
          refine (HK.out _).mono ?_
          rintro e w6 ⟨rfl, hb6⟩
          have hA6 := (hb6.block _ (lt_of_block HA5.out)).trans HA5.out
          have HW6 := Lib.hid (HW5.out.trans (hb6.mono HW5.out.size))
          have HV6 := Lib.hid (HV5.out.trans (hb6.mono HV5.out.size))
          have i0 := below_cell (v := .int .i64 cc) (Below.refl _ w6) hA6 0 rfl
          have i1 := below_cell (v := .int .i64 jt) (Below.refl _ w6) hA6 1 rfl
          have i2 := below_cell (v := .int .i64 jf) (Below.refl _ w6) hA6 2 rfl
          have i3 := below_cell (v := .int .u32 k) (Below.refl _ w6) hA6 3 rfl
          clear hb6 hA6 j0
          have hb1 : decide ((N : Int) < (j : Int) + 1) = false := decide_eq_false (by omega)
          have hb3 : decide (N ≤ j) = false := decide_eq_false (by omega)
          rcases HOK.out with ⟨h1, h2, h3⟩ | ⟨h1, h2, h3, h4⟩ | ⟨h1, h2, h3, h4⟩
          · dsimp only at h1 h2 h3
            subst h2 h3
            have n5 : (cc == 5) = false := by rw [beq_eq_false_iff_ne]; omega
            have hle : (j : Int) + 1 ≤ N := by omega
            clear h1 HOK
            go_wp2_with fail
            go_roundw
            case rel => exact ⟨j + 1, by go_num, by omega, HW6.out, HV6.out⟩
            case measure => simp [intOf]; omega
          · dsimp only at h1 h2 h3 h4
            subst h1 h2 h3
            have hle : (j : Int) + 1 ≤ N := by omega
            have hle2 : decide ((N : Int) < (j : Int) + 1 + k) = false := decide_eq_false (by omega)
            clear h4 HOK
            go_wp2_with fail
            go_roundw
            case rel => exact ⟨j + 1, by go_num, by omega, HW6.out, HV6.out⟩
            case measure => simp [intOf]; omega
          · dsimp only at h1 h2 h3 h4
            subst h2 h3
            have n5 : (cc == 5) = false := by rw [beq_eq_false_iff_ne]; omega
            have hle : (j : Int) + 1 ≤ N := by omega
            have hle2 : decide ((N : Int) < (j : Int) + 1 + 1) = false := decide_eq_false (by omega)
            have hle3 : decide ((N : Int) ≤ (j : Int) + 1) = false := decide_eq_false (by omega)
            have hle4 : decide (N ≤ j + 1) = false := decide_eq_false (by omega)
            clear h1 h4 HOK
            go_wp2_with fail
            go_roundw
            case rel => exact ⟨j + 1, by go_num, by omega, HW6.out, HV6.out⟩
            case measure => simp [intOf]; omega
        · obtain rfl : j = N := by omega
          go_wp2_with fail
          refine (emAlive _).mono ?_
          rintro e w4 ⟨rfl, hb4⟩
          have HW4 := Lib.hid (HWR.out.trans (hb4.mono HWR.out.size))
          clear hb4
          go_wp2_with fail
          go_ret
          exact ⟨rfl, HW4.out⟩
end Go.Proofs.Ytnlmdajoifjddaa.lawEmitCodes
