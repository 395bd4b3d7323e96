/- How many conditions there are in one, up to a limit. -/
import Derived.Test.YtbcoooaoofbboaaCnd3
import Derived.Test.YtbcoooaoofbboaaPush
namespace Go.Proofs.Ytbcoooaoofbboaa
open Go.RowKit Go.ChangeShapes Go.Deep
set_option linter.unusedVariables false

theorem KsOk.at {w : World} : ∀ {l : List Cnd} {ks : List Value} (i : Nat), KsOk w l ks → i < l.length → ∃ k, IsCnds w k (l.getD i cndZ).kids ∧ (l.getD i cndZ).bounded ∧ ∀ j x, j < 6 → ((l.getD i cndZ).cells k)[j]? = some x → (cndCells l ks)[i * 6 + j]? = some x
  | [], [], i, _, h => by simp at h
  | c :: l, k :: ks, 0, h, _ => ⟨k, h.2.1, h.1, fun j x hj hx => by rw [cndCells, Nat.zero_mul, Nat.zero_add, List.getElem?_append_left (by simp [Cnd.cells]; omega)]; exact hx⟩
  | c :: l, k :: ks, i + 1, h, hi => by
    obtain ⟨k', h1, h2, h3⟩ := KsOk.at i h.2.2 (by simpa using hi)
    refine ⟨k', by simpa using h1, by simpa using h2, fun j x hj hx => ?_⟩
    rw [cndCells, List.getElem?_append_right (by simp [Cnd.cells]; omega), show (c.cells k).length = 6 from rfl, show (i + 1) * 6 + j - 6 = i * 6 + j by omega]
    exact h3 j x hj (by simpa using hx)
  | [], _ :: _, _, h, _ => h.elim
  | _ :: _, [], _, h, _ => h.elim
theorem sizes_drop (q : List Cnd) (i : Nat) (h : i < q.length) : sizes (q.drop i) = 1 + sizes (q.getD i cndZ).kids + sizes (q.drop (i + 1)) := by
  rw [List.drop_eq_getElem_cons h, sizes, Cnd.size_eq]
  simp [List.getD, h]
/-- as many kids as are still put behind -/
def putN (L n k : Nat) : Nat := min k (L + 1 - n)
theorem many_step (q kids : List Cnd) (i L S : Nat) (hi : i < q.length) (hk : kids = (q.getD i cndZ).kids) (hq : q.length ≤ L) (hS : i + sizes (q.drop i) = S) :
    (q.length + kids.length ≤ L → i + 1 + sizes ((q ++ kids).drop (i + 1)) = S) ∧ (L < q.length + kids.length → L < S) := by
  have h1 := sizes_drop q i hi
  rw [← hk] at h1
  have h2 := sizes_len (q.drop (i + 1))
  have h3 := sizes_len kids
  rw [List.length_drop] at h2
  refine ⟨fun _ => ?_, fun _ => by omega⟩
  rw [List.drop_append_of_le_length (by omega), sizes_app]
  omega
set_option maxRecDepth 100000 in
set_option maxHeartbeats 4000000 in
theorem refMany_any (c : Cnd) (v : Value) (L : Nat) (w : World) (h : IsCnd w v c) (hL1 : 1 ≤ L) (hL2 : L ≤ 1000) :
    Calls Try.prog 8 #[v, .int .i64 (L : Nat)] w fun e w' => e = .returned (.int .i64 ((min c.size (L + 1) : Nat) : Int)) ∧ Below w.heap.size w w' := by
  obtain ⟨iI, hNI, hzI0, hzI1, hzI2⟩ := info_parts infoCnd
  obtain ⟨hb, k, rfl, hk⟩ := h
  have hS : 0 + sizes ([c].drop 0) = c.size := by simp [sizes]
  obtain ⟨S, hSS⟩ : ∃ S, c.size = S := ⟨_, rfl⟩
  rw [hSS] at hS ⊢
  have hks : KsOk w [c] [k] := ⟨hb, hk, trivial⟩
  have hLI : (L : Int) ≤ 1000 := by omega
  have hLI1 : (1 : Int) ≤ L := by omega
  obtain ⟨ka, kn, kc, rfl, _⟩ := hk
  have hw1 := (Below.refl w.heap.size w).alloc (Nat.le_refl _) (.cells (c.cells (.slice ka kn kc)).toArray 25)
  have hown := World.ownsRow_lit (base := w.heap.size) (e := 25) (size := 6) (w.alloc (.cells (c.cells (.slice ka kn kc)).toArray 25)) (c.cells (.slice ka kn kc)).toArray 1 (by simp) (by unfold maxLen; omega) rfl
  have hw2 := hw1.alloc (by simp) (.cells (c.cells (.slice ka kn kc)).toArray 25)
  rw [World.size_alloc] at hown
  have hown : ((w.alloc (.cells (c.cells (.slice ka kn kc)).toArray 25)).alloc (.cells (c.cells (.slice ka kn kc)).toArray 25)).ownsRow w.heap.size 25 6 (.slice (some ⟨w.heap.size + 1, 0, none⟩) 1 1) [c].length (cndCells [c] [.slice ka kn kc]) := by
    simpa [cndCells] using hown
  have HKS := Lib.hid hks; have HOW := Lib.hid hown; have HW2 := Lib.hid hw2; have HS0 := Lib.hid hS
  clear hks hown hw2 hw1 hSS hb hS
  obtain ⟨q0, hq0⟩ : ∃ q, q = [c] := ⟨_, rfl⟩
  rw [← hq0] at HKS HOW HS0
  have hql : q0.length = 1 := by rw [hq0]; rfl
  show Calls _ _ #[.agg #[.int .i64 c.kind, .slice ka kn kc, .int .i64 c.arg, .int .u64 (c.mask : Nat), .string c.sign, .int .u64 (c.value : Nat)], _] _ _
  obtain ⟨kind, kids, arg, mask, sign, value⟩ := c
  clear hq0
  simp only [Cnd.cells, Cnd.kind, Cnd.arg, Cnd.mask, Cnd.sign, Cnd.value] at HOW HW2 ⊢
  go_enter Try.func8, Try.ntmps8
  go_wp2_with fail
  go_loopw [5, 6] (fun z n wr => ∃ (i : Nat) (q : List Cnd) (ks : List Value), n = .int .i64 (i : Nat) ∧ KsOk w q ks ∧ wr.ownsRow w.heap.size 25 6 z q.length (cndCells q ks) ∧ Below w.heap.size w wr ∧ q.length ≤ L + 1 ∧ ((q.length ≤ L ∧ i ≤ q.length ∧ i + sizes (q.drop i) = S) ∨ (q.length = L + 1 ∧ L < S ∧ i ≤ 100000))) (fun _ n _ => (100000 - intOf n).toNat)
  case atStart => exact ⟨0, q0, _, rfl, HKS.out, by rw [hql] at *; exact HOW.out, HW2.out, by omega, .inl ⟨by omega, by omega, HS0.out⟩⟩
  case round =>
    obtain ⟨i, q, ks, rfl, hks, hown, hwr, hqL, hst⟩ := hrel
    obtain ⟨A, cp, rfl, hcp1, hcp2, hA⟩ := own_form6 hown
    by_cases hlt : i < q.length ∧ q.length ≤ L
    · obtain ⟨hlt, hqLe⟩ := hlt
      obtain ⟨_, hiq, hSq⟩ := hst.resolve_right (by omega)
      obtain ⟨g, rfl⟩ := hA (by omega)
      obtain ⟨kv, hkv, _, hkc⟩ := hks.at i hlt
      have c1 := (hown.cellAt (i * 6 + 1) (by omega)).trans (hkc 1 _ (by omega) rfl)
      obtain ⟨kA, kn, kc2, rfl, hkn, hkle, hkmax, hknone, hkat⟩ := hkv
      have hstep := many_step q _ i L S hlt rfl hqLe hSq
      obtain ⟨kd, hkd⟩ : ∃ kd, (q.getD i cndZ).kids = kd := ⟨_, rfl⟩
      rw [hkd] at hstep hkn hkat
      obtain ⟨N, hN⟩ : ∃ N, q.length = N := ⟨_, rfl⟩
      rw [hN] at hown hqL hstep hlt hqLe hcp1 hiq ⊢
      have hNbI : (N : Int) ≤ L := by omega
      have hiI : (i : Int) < N := by omega
      have hknI : (kn : Int) ≤ 9223372036854775807 := by omega
      have HKS := Lib.hid hks; have HOWN := Lib.hid hown; have HWR := Lib.hid hwr; have HSTEP := Lib.hid hstep; have HKAT := Lib.hid hkat; have HKN := Lib.hid hkn; have HNN := Lib.hid hN
      clear hks hown hwr hstep hkat hkn hN hkle hkmax hknone hkd hkc hSq hst hcp1 hcp2 hA hqL hiq
      go_upto_region 6 with fail
      have hx : KsOk w (q ++ kd.take (putN L N 0)) ks ∧ wr.ownsRow w.heap.size 25 6 (.slice (some ⟨g, 0, none⟩) N cp) (N + putN L N 0) (cndCells (q ++ kd.take (putN L N 0)) ks) := by
        rw [show putN L N 0 = 0 by unfold putN; omega, List.take_zero, List.append_nil]
        exact ⟨HKS.out, HOWN.out⟩
      have HX := Lib.hid hx
      clear hx HKS HOWN
      generalize wr = wo at *
      go_loopw [5, 29] (fun z n ws => ∃ (j : Nat) (ks2 : List Value), n = .int .i64 (j : Nat) ∧ j ≤ kn ∧ KsOk w (q ++ kd.take (putN L N j)) ks2 ∧ ws.ownsRow w.heap.size 25 6 z (N + putN L N j) (cndCells (q ++ kd.take (putN L N j)) ks2) ∧ Below w.heap.size w ws) (fun _ n _ => kn - (intOf n).toNat)
      case atStart => exact ⟨0, ks, rfl, by omega, HX.out.1, HX.out.2, HWR.out⟩
      case round =>
        clear HX HWR
        obtain ⟨j, ks2, rfl, hj, hks, hown, hwr⟩ := hrel
        obtain ⟨A2, cp2, rfl, _, _, _⟩ := own_form6 hown
        have hpL : putN L N j ≤ L + 1 - N := by unfold putN; omega
        by_cases hjlt : j < kn
        · obtain ⟨b, o, rfl, hb, hka⟩ := HKAT.out.resolve_left (by omega)
          have hjl : j < kd.length := by have := HKN.out; omega
          obtain ⟨hbd, k2, hk2, d0, d1, d2, d3, d4, d5⟩ := (kidsAt_get w kd b o j hka hjl).cell
          have e0 := (hwr.cell (p := ⟨b, o + j * 6, none⟩) hb).trans d0
          have e1 := (hwr.cell (p := ⟨b, o + j * 6 + 1, none⟩) hb).trans d1
          have e2 := (hwr.cell (p := ⟨b, o + j * 6 + 2, none⟩) hb).trans d2
          have e3 := (hwr.cell (p := ⟨b, o + j * 6 + 3, none⟩) hb).trans d3
          have e4 := (hwr.cell (p := ⟨b, o + j * 6 + 4, none⟩) hb).trans d4
          have e5 := (hwr.cell (p := ⟨b, o + j * 6 + 5, none⟩) hb).trans d5
          have htk : kd.take (j + 1) = kd.take j ++ [kd.getD j cndZ] := by
            rw [List.take_succ_eq_append_getElem hjl]
            simp [List.getD, hjl]
          obtain ⟨kc, hkc⟩ : ∃ kc, kd.getD j cndZ = kc := ⟨_, rfl⟩
          rw [hkc] at hbd hk2 e0 e2 e3 e4 e5 htk
          obtain ⟨a2, n2, c2, rfl, _⟩ := id hk2
          have hjI : (j : Int) < kn := by omega
          have HKS := Lib.hid hks; have HWR := Lib.hid hwr; have HTK := Lib.hid htk; have HK2 := Lib.hid hk2; have HBD := Lib.hid hbd; have HOWN := Lib.hid hown
          clear hks hwr htk hk2 hbd hka d0 d1 d2 d3 d4 d5 hkc hjl hown
          obtain ⟨kind2, kids2, arg2, mask2, sign2, value2⟩ := kc
          simp only [Cnd.kind, Cnd.arg, Cnd.mask, Cnd.sign, Cnd.value] at e0 e2 e3 e4 e5
          have hO1 := HOWN.out.alloc (.cells #[.int .i64 kind2, .slice a2 n2 c2, .int .i64 arg2, .int .u64 (mask2 : Nat), .string sign2, .int .u64 (value2 : Nat)] 25)
          have hb1 := HWR.out.alloc HWR.out.size (.cells #[.int .i64 kind2, .slice a2 n2 c2, .int .i64 arg2, .int .u64 (mask2 : Nat), .string sign2, .int .u64 (value2 : Nat)] 25)
          have hnw := heap_alloc_new wr (.cells #[.int .i64 kind2, .slice a2 n2 c2, .int .i64 arg2, .int .u64 (mask2 : Nat), .string sign2, .int .u64 (value2 : Nat)] 25)
          have HO1 := Lib.hid hO1; have HB1 := Lib.hid hb1
          clear hO1 hb1 HOWN HWR
          go_upto_region 8 with fail
          generalize wr.alloc (.cells #[.int .i64 kind2, .slice a2 n2 c2, .int .i64 arg2, .int .u64 (mask2 : Nat), .string sign2, .int .u64 (value2 : Nat)] 25) = wa at *
          have q0 := below_cell (Below.refl _ _) hnw 0 rfl
          have q1 := below_cell (Below.refl _ _) hnw 1 rfl
          have q2 := below_cell (Below.refl _ _) hnw 2 rfl
          have q3 := below_cell (Below.refl _ _) hnw 3 rfl
          have q4 := below_cell (Below.refl _ _) hnw 4 rfl
          have q5 := below_cell (Below.refl _ _) hnw 5 rfl
          clear hnw e0 e1 e2 e3 e4 e5
          by_cases hfit : N + j ≤ L
          · have hp0 : putN L N j = j := by unfold putN; omega
            have hp1 : putN L N (j + 1) = j + 1 := by unfold putN; omega
            rw [hp0] at HO1 HKS ⊢
            have hk3 : KsOk w (q ++ kd.take (putN L N (j + 1))) (ks2 ++ [.slice a2 n2 c2]) ∧ cndCells (q ++ kd.take (putN L N (j + 1))) (ks2 ++ [.slice a2 n2 c2]) = cndCells (q ++ kd.take j) ks2 ++ [.int .i64 kind2, .slice a2 n2 c2, .int .i64 arg2, .int .u64 (mask2 : Nat), .string sign2, .int .u64 (value2 : Nat)] := by
              rw [hp1, HTK.out, ← List.append_assoc]
              exact HKS.out.app (m := [Cnd.mk kind2 kids2 arg2 mask2 sign2 value2]) (js := [.slice a2 n2 c2]) ⟨HBD.out, HK2.out, trivial⟩
            have HK3 := Lib.hid hk3
            have hfitI : (N : Int) + j ≤ L := by omega
            have HP1 := Lib.hid hp1
            clear hp0 hp1 hk3 hfit hpL
            go_wp2_with (first | (at_builtin; go_must (refine wpList_pushes (m := 1) (news := [.int .i64 kind2, .slice a2 n2 c2, .int .i64 arg2, .int .u64 (mask2 : Nat), .string sign2, .int .u64 (value2 : Nat)]) _ _ 22 25 HO1.out HB1.out (Nat.le_refl _) Try.underlying22 hNI hzI0 hzI1 hzI2 rfl (by decide) rfl rfl rfl rfl rfl (by simp [Value.oneCell']) ?c7 ?_)))
            case c7 => omega
            intro v7 w7 hown7 hb7
            rw [← HK3.out.2] at hown7
            have HO7 := Lib.hid hown7; have HB7 := Lib.hid hb7
            clear hown7 hb7
            go_wp2_with fail
            go_roundw
            case rel => exact ⟨j + 1, ks2 ++ [.slice a2 n2 c2], by go_num, by omega, HK3.out.1, by rw [HP1.out] at *; exact HO7.out, HB7.out⟩
            case measure => simp [intOf]; omega
          · have hp0 : putN L N j = L + 1 - N := by unfold putN; omega
            have hp1 : putN L N (j + 1) = L + 1 - N := by unfold putN; omega
            rw [hp0] at HO1 HKS ⊢
            have hfitI : ¬ ((N + (L + 1 - N) : Nat) : Int) ≤ L := by omega
            have HP1 := Lib.hid hp1
            clear hp0 hp1 hfit hpL
            go_wp2_with fail
            go_roundw
            case rel => exact ⟨j + 1, ks2, by go_num, by omega, by rw [HP1.out]; exact HKS.out, by rw [HP1.out]; exact HO1.out, HB1.out⟩
            case measure => simp [intOf]; omega
        · obtain rfl : j = kn := by omega
          have hnew : (q ++ kd.take (putN L N j)).length = N + putN L N j := by rw [List.length_append, List.length_take, HNN.out, ← HKN.out]; unfold putN; omega
          have hst2 : ((N + putN L N j ≤ L ∧ i + 1 ≤ N + putN L N j ∧ i + 1 + sizes ((q ++ kd.take (putN L N j)).drop (i + 1)) = S) ∨ (N + putN L N j = L + 1 ∧ L < S ∧ i + 1 ≤ 100000)) := by
            by_cases hle : N + kd.length ≤ L
            · have hp : putN L N j = j := by unfold putN; have := HKN.out; omega
              rw [hp, List.take_of_length_le (by have := HKN.out; omega)]
              exact .inl ⟨by have := HKN.out; omega, by omega, HSTEP.out.1 hle⟩
            · have hS := HSTEP.out.2 (by omega)
              have hp : N + putN L N j = L + 1 := by unfold putN; have := HKN.out; omega
              exact .inr ⟨hp, hS, by omega⟩
          have HKS := Lib.hid hks; have HWR := Lib.hid hwr; have HNEW := Lib.hid hnew; have HST2 := Lib.hid hst2; have HOWN := Lib.hid hown
          clear hks hwr hnew hst2 hown
          go_wp2_with fail
          go_roundw
          case rel => exact ⟨i + 1, q ++ kd.take (putN L N j), ks2, by go_num, HKS.out, by rw [HNEW.out]; exact HOWN.out, HWR.out, by rw [HNEW.out]; omega, by rw [HNEW.out]; exact HST2.out⟩
          case measure => simp [intOf]; omega
    · have hres : min S (L + 1) = q.length := by
        rcases hst with ⟨h1, h2, h3⟩ | ⟨h1, h2, h3⟩
        · have : i = q.length := by
            rcases Nat.lt_or_ge i q.length with h | h
            · exact absurd ⟨h, h1⟩ hlt
            · omega
          rw [List.drop_of_length_le (by omega), sizes] at h3
          omega
        · omega
      have HRES := Lib.hid hres; have HWR := Lib.hid hwr
      obtain ⟨N, hN⟩ : ∃ N, q.length = N := ⟨_, rfl⟩
      rw [hN] at HRES hlt hst ⊢
      by_cases hi : i < N
      · have hNL : ¬ (N : Int) ≤ L := by have : ¬ N ≤ L := fun h => hlt ⟨hi, h⟩; omega
        have hiI : (i : Int) < N := by omega
        clear hlt hst hres hwr hown hks hA hqL hN
        go_wp2_with fail
        go_ret
        exact ⟨by rw [HRES.out]; rfl, HWR.out⟩
      · have hiI : ¬ (i : Int) < N := by omega
        clear hlt hst hres hwr hown hks hA hqL hN
        go_wp2_with fail
        go_ret
        exact ⟨by rw [HRES.out]; rfl, HWR.out⟩
end Go.Proofs.Ytbcoooaoofbboaa
