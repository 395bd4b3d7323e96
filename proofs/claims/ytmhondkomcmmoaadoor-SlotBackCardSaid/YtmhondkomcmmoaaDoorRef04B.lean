/- The reference of layer 4: a head's bytes, and whether two are the same. -/
import Derived.Test.YtmhondkomcmmoaaDoorRef04H
namespace Go.Proofs.YtmhondkomcmmoaaDoor
open Go.RowKit
set_option linter.unusedVariables false

def hd3 (E S : Int) (n : Nat) : List UInt8 := (([2] ++ putL E.toNat 6) ++ putL S.toNat 1) ++ putL n 1
theorem headL_eq (E S : Int) (l : List Int) : headL E S l = hd3 E S l.length ++ fieldsL 2 l := by
  unfold headL hd3
  congr 1
theorem hd3_len (E S : Int) (n : Nat) : (hd3 E S n).length = 9 := by simp [hd3, putL_length]
set_option maxRecDepth 100000 in
set_option maxHeartbeats 1000000 in
theorem ref4Head_any (E S : Int) (tv : Value) (l : List Int) (w : World) (hv : Reads1 encI w tv l) (h : headOk E S l = true) :
    Calls Tryd.prog 17 #[.agg #[.int .i64 E, .int .i64 S, tv]] w fun e w' => e = .returned (.string (layS (headL E S l))) ∧ Below w.heap.size w w' := by
  obtain ⟨a, len, cap, rfl, hlen, hc1, hc2, hat⟩ := hv
  subst hlen
  unfold headOk at h
  rw [Bool.and_eq_true, Bool.and_eq_true] at h
  obtain ⟨h1, h2, h3⟩ := h
  obtain ⟨h4, h5⟩ := okT_fit l h3
  have hE := of_decide_eq_true h1
  have hS := of_decide_eq_true h2
  have hlI : (l.length : Int) ≤ 40 := by omega
  have HN6 := Lib.hid (fun u => ref4Number_any E 6 u (by omega) (by omega) (by omega))
  have HN1 := Lib.hid (fun u => ref4Number_any S 1 u (by omega) (by omega) (by omega))
  have HNL := Lib.hid (fun u => ref4Number_any (l.length : Int) 1 u (by omega) (by omega) (by omega))
  have HNT := Lib.hid (fun t (ht : t ∈ l) u => ref4Number_any t 2 u (h5 t ht).1 (by have := (of_decide_eq_true h3).2.2.1 t ht; omega) (by omega))
  have HLY := Lib.hid (fun u => ref4Lay_any (headL E S l) u (by rw [headL_len]; omega))
  rw [Int.toNat_natCast] at HNL
  obtain ⟨M1, hM1⟩ : ∃ M, [2] ++ putL E.toNat 6 = M := ⟨_, rfl⟩
  obtain ⟨M2, hM2⟩ : ∃ M, M1 ++ putL S.toNat 1 = M := ⟨_, rfl⟩
  have hm1 : M1.length = 7 := by rw [← hM1, List.length_append, putL_length]; rfl
  have hm2 : M2.length = 8 := by rw [← hM2, List.length_append, putL_length, hm1]
  have hadd : ∀ u, (Op.stringOp .add ⟨#[2]⟩ ⟨(putL E.toNat 6).toArray⟩).run Tryd.prog u = .ok (.string ⟨M1.toArray⟩) u :=
    add_run _ _ _ (by rw [← hM1]; exact ba_app [2] _) (by rw [ba_size, ba_size, putL_length]; decide)
  have hadd2 : ∀ u, (Op.stringOp .add ⟨M1.toArray⟩ ⟨(putL S.toNat 1).toArray⟩).run Tryd.prog u = .ok (.string ⟨M2.toArray⟩) u :=
    add_run _ _ _ (by rw [← hM2]; exact ba_app _ _) (by rw [ba_size, ba_size, putL_length, hm1]; decide)
  have hadd3 : ∀ u, (Op.stringOp .add ⟨M2.toArray⟩ ⟨(putL l.length 1).toArray⟩).run Tryd.prog u = .ok (.string ⟨(hd3 E S l.length).toArray⟩) u :=
    add_run _ _ _ (by rw [show hd3 E S l.length = M2 ++ putL l.length 1 by rw [← hM2, ← hM1]; rfl]; exact ba_app _ _) (by rw [ba_size, ba_size, putL_length, hm2]; decide)
  obtain ⟨f, hf⟩ : ∃ f : Nat → ByteArray, ∀ j, f j = ⟨(hd3 E S l.length ++ fieldsL 2 (l.take j)).toArray⟩ := ⟨_, fun _ => rfl⟩
  have HADD := Lib.hid (fun (j : Nat) (hj : j < l.length) u => add_run (P := Tryd.prog) (f j) ⟨(putL (l[j]).toNat 2).toArray⟩ (f (j + 1))
    (by rw [hf, hf, fieldsL_snoc 2 l j hj, ← List.append_assoc]; exact ba_app _ _) (by rw [hf, ba_size, ba_size, putL_length, List.length_append, hd3_len, fieldsL_len]; have : (l.take j).length ≤ j := List.length_take_le _ _; omega) u)
  have HST := Lib.hid (show (ByteArray.mk (hd3 E S l.length).toArray) = f 0 by rw [hf]; simp [fieldsL])
  have HFIN := Lib.hid (show f l.length = ⟨(headL E S l).toArray⟩ by rw [hf, List.take_length, headL_eq])
  clear hf
  have HAT := Lib.hid hat
  generalize (ByteArray.mk (putL E.toNat 6).toArray) = F1 at *
  generalize (ByteArray.mk (putL S.toNat 1).toArray) = F2 at *
  generalize (ByteArray.mk (putL l.length 1).toArray) = F3 at *
  generalize (ByteArray.mk M1.toArray) = F4 at *
  generalize (ByteArray.mk M2.toArray) = F5 at *
  generalize (ByteArray.mk (hd3 E S l.length).toArray) = F6 at *
  generalize (ByteArray.mk (headL E S l).toArray) = F7 at *
  generalize layS (headL E S l) = R at *
  clear hM1 hM2 hm1 hm2 hat h1 h2 h3 h5
  go_enter Tryd.func17, Tryd.ntmps17
  go_wp2_with fail
  have hblk := heap_alloc_new w (.cells #[.int .i64 E, .int .i64 S, .slice a l.length cap] 24)
  have hbel := (Below.refl w.heap.size w).alloc (Nat.le_refl _) (.cells #[.int .i64 E, .int .i64 S, .slice a l.length cap] 24)
  obtain ⟨W, hW⟩ : ∃ W, w.alloc (.cells #[.int .i64 E, .int .i64 S, .slice a l.length cap] 24) = W := ⟨_, rfl⟩
  rw [hW] at hblk hbel ⊢
  clear hW
  have q0 := keep_at hblk 0 rfl
  have q1 := keep_at hblk 1 rfl
  have q2 := keep_at hblk 2 rfl
  have HB := Lib.hid hblk
  clear hblk
  refine wp_region_keep (w0 := W) (by kernel_rfl) (by kernel_rfl) (Below.refl _ _) ?_
  repeat (go_big_quiet_step ((first | (go_at_call_of 31 (Value.int .i64 E); exact keepCall (HN6.out _)) | (go_at_call_of 31 (Value.int .i64 S); exact keepCall (HN1.out _)) | (go_at_call_of 31 (Value.int .i64 (l.length : Int)); exact keepCall (HNL.out _)))))
  refine wpQuiet_nil ?_
  intro _ hw'
  obtain ⟨x, rfl⟩ := hw'
  have hz := x.below
  clear q0 q1 q2
  generalize x.val = wz at *
  have p2 := below_cell hz HB.out 2 rfl
  have hwz : Below w.heap.size w wz := hbel.trans (hz.mono hbel.size)
  clear hz x HB hbel HN6 HN1 HNL hadd hadd2 hadd3
  go_wp2_with fail
  clear p2
  go_loopw [3, 22] (fun s z wr => ∃ j : Nat, j ≤ l.length ∧ z = .int .i64 j ∧ s = .string (f j) ∧ Below w.heap.size w wr) (fun _ z _ => l.length - (intOf z).toNat)
  case atStart => exact ⟨0, by omega, rfl, by rw [HST.out], hwz⟩
  case round =>
    clear HST hwz
    obtain ⟨j, hj, rfl, rfl, hwr⟩ := hrel
    by_cases hlt : j < l.length
    · have hltI : (j : Int) < l.length := by omega
      obtain ⟨b, off, rfl, hb, hat⟩ := HAT.out.resolve_left (by omega)
      have hcell : wr.cell? ⟨b, off + j, none⟩ = some (.int .i64 l[j]) := (hwr.cell (p := ⟨b, off + j, none⟩) hb).trans (hat j hlt)
      have HNN := Lib.hid (HNT.out l[j] (List.getElem_mem hlt))
      have hadd := HADD.out j hlt
      generalize l[j] = t at *
      generalize (ByteArray.mk (putL t.toNat 2).toArray) = Z at *
      clear hat
      go_wp2_with fail
      refine (HNN.out _).mono ?_
      rintro e w2 ⟨rfl, hb2⟩
      have hw2 := hwr.trans (hb2.mono hwr.size)
      clear hb2 hwr hcell
      go_wp2_with fail
      go_roundw
      case rel => exact ⟨j + 1, by omega, by go_num, rfl, hw2⟩
      case measure => simp [intOf]; omega
    · obtain rfl : j = l.length := by omega
      have hfin := HFIN.out
      generalize f l.length = fl at *
      subst hfin
      go_wp2_with fail
      refine (HLY.out _).mono ?_
      rintro e w2 ⟨rfl, hb2⟩
      go_wp2_with fail
      go_ret
      exact ⟨rfl, hwr.trans (hb2.mono hwr.size)⟩
set_option maxRecDepth 100000 in
set_option maxHeartbeats 1000000 in
theorem ref4LikeHead_any (va vb : Value) (x y : Hd) (w : World) (ha : IsHd w va x) (hb : IsHd w vb y) :
    Calls Tryd.prog 24 #[va, vb] w fun e w' => e = .returned (.bool (decide (x = y))) ∧ Below w.heap.size w w' := by
  obtain ⟨E, S, L⟩ := x
  obtain ⟨E', S', L'⟩ := y
  obtain ⟨tv, rfl, a, len, cap, rfl, hlen, hc1, hc2, hat⟩ := ha
  obtain ⟨tv', rfl, a', len', cap', rfl, hlen', hc1', hc2', hat'⟩ := hb
  dsimp only at *
  subst hlen hlen'
  have hlI : (L.length : Int) ≤ 9223372036854775807 := by omega
  have hlI' : (L'.length : Int) ≤ 9223372036854775807 := by omega
  obtain ⟨res, hres⟩ : ∃ res, decide ((⟨E, S, L⟩ : Hd) = ⟨E', S', L'⟩) = res := ⟨_, rfl⟩
  rw [hres]
  have hb2 : Below w.heap.size w ((w.alloc (.cells #[.int .i64 E, .int .i64 S, .slice a L.length cap] 24)).alloc (.cells #[.int .i64 E', .int .i64 S', .slice a' L'.length cap'] 24)) := ((Below.refl _ w).alloc (Nat.le_refl _) _).alloc (by simp) _
  have hA : ((w.alloc (.cells #[.int .i64 E, .int .i64 S, .slice a L.length cap] 24)).alloc (.cells #[.int .i64 E', .int .i64 S', .slice a' L'.length cap'] 24)).heap[w.heap.size]? = some (.cells #[.int .i64 E, .int .i64 S, .slice a L.length cap] 24 (0, 0)) := (Below.heap_alloc _ _ _ (by simp)).trans (heap_alloc_new w _)
  have hB : ((w.alloc (.cells #[.int .i64 E, .int .i64 S, .slice a L.length cap] 24)).alloc (.cells #[.int .i64 E', .int .i64 S', .slice a' L'.length cap'] 24)).heap[w.heap.size + 1]? = some (.cells #[.int .i64 E', .int .i64 S', .slice a' L'.length cap'] 24 (0, 0)) := by
    have := heap_alloc_new (w.alloc (.cells #[.int .i64 E, .int .i64 S, .slice a L.length cap] 24)) (.cells #[.int .i64 E', .int .i64 S', .slice a' L'.length cap'] 24)
    rwa [World.size_alloc] at this
  by_cases hEE : E = E'
  · by_cases hSS : S = S'
    · by_cases hll : L.length = L'.length
      · subst hEE hSS
        have HRES := Lib.hid hres
        have HAT := Lib.hid hat; have HAT' := Lib.hid hat'
        have HLL := Lib.hid hll
        rw [← hll] at hb2 hA hB hlI' ⊢
        clear hres hat hat' hll
        go_enter Tryd.func24, Tryd.ntmps24
        go_upto_region 4 with fail
        obtain ⟨w1, hW1⟩ : ∃ w1, ((w.alloc (.cells #[.int .i64 E, .int .i64 S, .slice a L.length cap] 24)).alloc (.cells #[.int .i64 E, .int .i64 S, .slice a' L.length cap'] 24)) = w1 := ⟨_, rfl⟩
        rw [hW1] at hb2 hA hB ⊢
        clear hW1
        have x2 := below_cell (Below.refl _ w1) hA 2 rfl
        have y2 := below_cell (Below.refl _ w1) hB 2 rfl
        have HA := Lib.hid hA; have HB := Lib.hid hB
        clear x2 y2
        go_loopw [30] (fun z wr => ∃ j : Nat, j ≤ L.length ∧ z = .int .i64 j ∧ L.take j = L'.take j ∧ Below w1.heap.size w1 wr) (fun z _ => L.length - (intOf z).toNat)
        case atStart => exact ⟨0, by omega, rfl, by simp, Below.refl _ _⟩
        case round =>
          obtain ⟨j, hj, rfl, hpre, hwr⟩ := hrel
          have HPRE := Lib.hid hpre
          clear hpre
          by_cases hlt : j < L.length
          · have hltI : (j : Int) < L.length := by omega
            have hlt' : j < L'.length := by rw [← HLL.out]; exact hlt
            obtain ⟨b, off, rfl, hb, hat⟩ := HAT.out.resolve_left (by omega)
            obtain ⟨b', off', rfl, hb', hat'⟩ := HAT'.out.resolve_left (by omega)
            have hww := hb2.trans (hwr.mono hb2.size)
            have c1 : wr.cell? ⟨b, off + j, none⟩ = some (.int .i64 L[j]) := (hww.cell (p := ⟨b, off + j, none⟩) hb).trans (hat j hlt)
            have c2 : wr.cell? ⟨b', off' + j, none⟩ = some (.int .i64 L'[j]) := (hww.cell (p := ⟨b', off' + j, none⟩) hb').trans (hat' j hlt')
            have x2 := below_cell hwr HA.out 2 rfl
            have y2 := below_cell hwr HB.out 2 rfl
            clear hat hat' hww
            by_cases ht : L[j] = L'[j]
            · have hpre : L.take (j + 1) = L'.take (j + 1) := by rw [← List.take_append_getElem hlt, ← List.take_append_getElem hlt', HPRE.out, ht]
              rw [← ht] at c2
              have HP1 := Lib.hid hpre
              generalize L[j] = t at *
              clear ht hpre
              go_upto_region 6 with fail
              go_region
              go_wp2_with fail
              go_roundw
              case rel => exact ⟨j + 1, by omega, by go_num, HP1.out, hwr.drew⟩
              case measure => simp [intOf]; omega
            · have hne : ¬ L = L' := fun h => ht (by subst h; rfl)
              have hr : res = false := by rw [← HRES.out]; exact decide_eq_false (fun h => hne (by injection h))
              have HR := Lib.hid hr
              have hneb : (L[j] == L'[j]) = false := by rw [beq_eq_false_iff_ne]; exact ht
              have hneb2 : (L[j] != L'[j]) = true := bne_iff_ne.2 ht
              generalize L[j] = t at *
              generalize L'[j] = t' at *
              clear hne hr
              go_upto_region 6 with fail
              go_region
              go_wp2_with fail
              go_ret
              exact ⟨by rw [HR.out]; rfl, hb2.trans (hwr.drew.mono hb2.size)⟩
          · obtain rfl : j = L.length := by omega
            have hr : res = true := by
              rw [← HRES.out]
              have := HPRE.out
              rw [List.take_length, HLL.out, List.take_length] at this
              rw [this]
              exact decide_eq_true rfl
            have HR := Lib.hid hr
            clear hr
            go_wp2_with fail
            go_ret
            exact ⟨by rw [HR.out]; rfl, hb2.trans (hwr.mono hb2.size)⟩
      · have hr : res = false := by rw [← hres]; exact decide_eq_false (fun h => hll (by injection h with _ _ h; rw [h]))
        have HRES := Lib.hid hr
        have hneb : ((L.length : Int) == (L'.length : Int)) = false := by rw [beq_eq_false_iff_ne]; omega
        clear hr hres
        subst hEE hSS
        clear hat hat'
        go_enter Tryd.func24, Tryd.ntmps24
        go_wp2_with fail
        go_ret
        exact ⟨by rw [HRES.out]; rfl, hb2⟩
    · have hr : res = false := by rw [← hres]; exact decide_eq_false (fun h => hSS (by injection h))
      have HRES := Lib.hid hr
      have hneb : (S == S') = false := by rw [beq_eq_false_iff_ne]; exact hSS
      clear hr hres
      subst hEE
      clear hat hat'
      go_enter Tryd.func24, Tryd.ntmps24
      go_wp2_with fail
      go_ret
      exact ⟨by rw [HRES.out]; rfl, hb2⟩
  · have hr : res = false := by rw [← hres]; exact decide_eq_false (fun h => hEE (by injection h))
    have HRES := Lib.hid hr
    have hneb : (E == E') = false := by rw [beq_eq_false_iff_ne]; exact hEE
    clear hr hres
    clear hat hat'
    go_enter Tryd.func24, Tryd.ntmps24
    go_wp2_with fail
    go_ret
    exact ⟨by rw [HRES.out]; rfl, hb2⟩
end Go.Proofs.YtmhondkomcmmoaaDoor
