/- Tn3, To1, in one text. -/
import Derived.Test.YtcejhfpdajbdcaaPkB
namespace Go.Proofs.Ytcejhfpdajbdcaa
section STn3
open Go.RowKit Go.Sort
set_option linter.unusedVariables false
set_option linter.unusedSimpArgs false

theorem getD_atN (l : List Nat) (j : Nat) (h : j < l.length) : l.getD j 0 = l[j] := by simp [List.getD, h]
def lenN : Value → Nat | .slice _ n _ => n | _ => 0
theorem own_u32s {w : World} {base : Nat} {A : Option Addr} {c k : Nat} {L : List Nat} (h : w.ownsRow base 22 1 (.slice A k c) k (L.map u32V)) (hk : L.length = k) (hL : ∀ x ∈ L, x ≤ 4294967295) : IsU32s w (.slice A k c) L := by
  rcases h.2 with ⟨e, h0⟩ | ⟨g, cap', cur, e, hg, hh, hn, hc, hcs, htake⟩
  · injection e with e1 e2 e3
    subst e1 e2 e3
    exact ⟨_, _, _, rfl, hk, Nat.le_refl _, by omega, hL, fun _ => rfl, .inl rfl⟩
  · injection e with e1 e2 e3
    subst e1 e3
    refine ⟨_, _, _, rfl, hk, hn, by unfold maxLen at hc; exact hc, hL, (fun e => by cases e), .inr ⟨g, 0, rfl, lt_of_block hh, fun i hi => ?_⟩⟩
    have h0 := h.cells (g := g) rfl i (u32V (L.getD i 0)) (by simp [List.getD, show i < L.length by omega])
    rw [addr_add] at h0
    exact h0
theorem own_last {w : World} {base : Nat} {A : Option Addr} {c k : Nat} {L : List Nat} (h : w.ownsRow base 22 1 (.slice A (k + 1) c) (k + 1) ((L.take (k + 1)).map u32V)) (hk : k + 1 ≤ L.length) : ∃ g, A = some ⟨g, 0, none⟩ ∧ w.cell? ⟨g, k, none⟩ = some (.int .u32 (L.getD k 0 : Nat)) := by
  rcases h.2 with ⟨e, h0⟩ | ⟨g, cap', cur, e, hg, hh, hn, hc, hcs, htake⟩
  · injection e with e1 e2 e3
    omega
  · injection e with e1 e2 e3
    subst e1 e3
    refine ⟨g, rfl, ?_⟩
    have h0 := h.cells (g := g) rfl k (u32V (L.getD k 0)) (by simp [List.getD, show k < L.length by omega, List.getElem?_take])
    rw [addr_add, Nat.zero_add] at h0
    exact h0
set_option maxRecDepth 100000 in
set_option maxHeartbeats 4000000 in
theorem refNumbers20 (v : Value) (t : Typ) (w : World) (h : IsTyp w v t) (hfl : (flatN t.rules).length ≤ 1000000) :
    Calls Try.prog 10 #[v] w fun e w' => (∃ v', e = .returned v' ∧ IsU32s w' v' (nrsU (flatN t.rules))) ∧ Below w.heap.size w w' := by
  obtain ⟨i0, hi, hz0, hz1, hz2⟩ := info_parts infoU32n
  obtain ⟨ht1, ht2, k, rfl, hk⟩ := h
  obtain ⟨A, n, c, rfl, hl, hc1, hc2, _⟩ := id hk
  have hmt := fun u (hu : Below w.heap.size w u) j hj => typ_at hk hu j hj
  have hall : ∀ x ∈ flatN t.rules, x ≤ 4294967295 := fun x hx => by
    obtain ⟨m, hm, hx⟩ := List.mem_flatMap.1 hx
    obtain ⟨j, hj, rfl⟩ := List.mem_iff_getElem.1 hm
    obtain ⟨b, off, _, hat⟩ := hmt w (Below.refl _ _) j (by omega)
    obtain ⟨_, _, ⟨_, _, _, _, _, _, _, hle, _⟩, _⟩ := hat
    rw [show t.rules.getD j mtcZ = t.rules[j] by simp [List.getD, hj]] at hle
    exact hle x hx
  have hnI : (n : Int) ≤ 9223372036854775807 := by omega
  obtain ⟨F, hF⟩ : ∃ F, flatN t.rules = F := ⟨_, rfl⟩
  rw [hF] at hall hfl ⊢
  have hLa : ∀ x ∈ nrsU F, x ≤ 4294967295 := fun x hx => hall x ((nrsU_mem F x).1 hx)
  have hLn := nrsU_len F
  have hbst := fun k hk => bst_num F hall k hk
  generalize nrsU F = L at *
  have HLA := Lib.hid hLa; have HBST := Lib.hid hbst
  have hLI : L.length ≤ 1000000 := by omega
  have HFD := Lib.hid (fun j hj => flatN_drop t.rules j (by rw [hl]; exact hj))
  have HF0 := Lib.hid (show flatN (t.rules.drop 0) = F from hF); have HFN := Lib.hid (show flatN (t.rules.drop n) = [] from by rw [← hl, List.drop_length]; rfl)
  have hnw := heap_alloc_new w (.cells #[.int .u32 (t.arch : Nat), .int .u32 (t.dflt : Nat), .slice A n c] 25)
  have hw1 := (Below.refl w.heap.size w).alloc (Nat.le_refl _) (.cells #[.int .u32 (t.arch : Nat), .int .u32 (t.dflt : Nat), .slice A n c] 25)
  have HNW := Lib.hid hnw; have HW1 := Lib.hid hw1; have HMT := Lib.hid hmt
  clear hnw hw1 hmt hl hk hc1 hc2 ht1 ht2 hall hfl hF hLa hLn hbst
  go_enter Try.func10, Try.ntmps10
  go_upto_region 1 with fail
  obtain ⟨B, hB⟩ : ∃ B, w.heap.size = B := ⟨_, rfl⟩
  obtain ⟨u, hU⟩ : ∃ u, w.alloc (.cells #[.int .u32 (t.arch : Nat), .int .u32 (t.dflt : Nat), .slice A n c] 25) = u := ⟨_, rfl⟩
  rw [hU] at HNW HW1 ⊢
  rw [hB] at HNW
  (try rw [hB])
  have HBQ := Lib.hid hB
  clear hU hB
  go_upto_region 2 with fail
  have hn2 := heap_alloc_new u (.cells #[] 22)
  have ha2 := (Below.refl u.heap.size u).alloc (Nat.le_refl _) (.cells #[] 22)
  obtain ⟨G0, hG0⟩ : ∃ G0, u.heap.size = G0 := ⟨_, rfl⟩
  have hG0w : w.heap.size ≤ G0 := by rw [← hG0]; exact HW1.out.size
  obtain ⟨u2, hU2⟩ : ∃ u2, u.alloc (.cells #[] 22) = u2 := ⟨_, rfl⟩
  rw [hU2] at hn2 ha2 ⊢
  rw [hG0] at hn2
  (try rw [hG0])
  have hown2 : u2.ownsRow w.heap.size 22 1 (.slice (some ⟨G0, 0, none⟩) 0 0) 0 [] := ⟨rfl, .inr ⟨G0, 0, #[], rfl, hG0w, hn2, by omega, by unfold maxLen; omega, rfl, rfl⟩⟩
  have HO2 := Lib.hid hown2; have HB2 := Lib.hid (HW1.out.trans (ha2.mono HW1.out.size))
  have HK2 := Lib.hid ((ha2.block _ (lt_of_block HNW.out)).trans HNW.out)
  clear hn2 ha2 hG0 hG0w hU2 hown2 HW1 HNW
  go_loopw [3] (fun z3 wr => ∃ (k : Nat) (A3 : Option Addr) (c3 : Nat), z3 = .slice A3 k c3 ∧ k ≤ L.length ∧ Hid (wr.ownsRow w.heap.size 22 1 (.slice A3 k c3) k ((L.take k).map u32V)) ∧ Hid (Below w.heap.size w wr) ∧ Hid (wr.heap[B]? = some (.cells #[.int .u32 (t.arch : Nat), .int .u32 (t.dflt : Nat), .slice A n c] 25 (0, 0)))) (fun z3 _ => L.length + 1 - lenN z3)
  case atStart => exact ⟨0, some ⟨G0, 0, none⟩, 0, rfl, by omega, HO2, HB2, HK2⟩
  case round =>
    clear HO2 HB2 HK2
    obtain ⟨k, A3, c3, rfl, hkL, HO, HWR, HKB⟩ := hrel
    obtain ⟨R, hR⟩ : ∃ R, F.foldl (bstN L k) 4294967296 = R := ⟨_, rfl⟩
    have hRR := HBST.out k hkL
    rw [hR] at hRR
    have HRR := Lib.hid hRR; have HR := Lib.hid hR
    clear hRR hR
    have y2 := below_cell (Below.refl _ wr) HKB.out 2 rfl
    have hkI : (k : Int) ≤ 1000000 := by omega
    go_upto_region 4 with fail
    clear y2
    go_loopw [4, 14] (fun z4 z14 wq => ∃ (j b : Nat), z14 = .int .i64 (j : Nat) ∧ z4 = .int .u64 (b : Nat) ∧ j ≤ n ∧ b ≤ 4294967296 ∧ Hid ((flatN (t.rules.drop j)).foldl (bstN L k) b = R) ∧ Hid (wq.ownsRow w.heap.size 22 1 (.slice A3 k c3) k ((L.take k).map u32V)) ∧ Hid (Below w.heap.size w wq) ∧ Hid (wq.heap[B]? = some (.cells #[.int .u32 (t.arch : Nat), .int .u32 (t.dflt : Nat), .slice A n c] 25 (0, 0)))) (fun _ z _ => n - (intOf z).toNat)
    case atStart => exact ⟨0, 4294967296, rfl, rfl, by omega, by omega, Lib.hid (by rw [HF0.out]; exact HR.out), HO, HWR, HKB⟩
    case round =>
      clear HO HWR HKB
      obtain ⟨j, b, rfl, rfl, hj, hb32, HFO, HO, HWR, HKB⟩ := hrel
      by_cases hlt : j < n
      · obtain ⟨bb, off, rfl, hat⟩ := HMT.out wr HWR.out j hlt
        obtain ⟨_, hbd, ka, kn, kc, ca, cn, cc, hu, hkc, e0, e1, e2, e3, e4, e5, e6, e7⟩ := hat.cell
        have hjI : (j : Int) < n := by omega
        have hkn : (t.rules.getD j mtcZ).nrs.length = kn := by obtain ⟨_, _, _, hv, h1, _⟩ := hu; injection hv with _ q2 _; rw [h1, q2]
        have hknI : (kn : Int) ≤ 9223372036854775807 := by obtain ⟨_, _, _, hv, h1, h2, h3, _⟩ := hu; injection hv with _ q2 q3; subst q2 q3; omega
        have hfd := HFD.out j hlt
        generalize t.rules.getD j mtcZ = m at *
        obtain ⟨nrs, cd, act⟩ := m
        simp only at hkn hfd hu e0 e1 e2 e3 e4 e5 e6 e7
        have hfo := HFO.out
        rw [hfd, List.foldl_append] at hfo
        obtain ⟨R1, hR1⟩ : ∃ R1, nrs.foldl (bstN L k) b = R1 := ⟨_, rfl⟩
        rw [hR1] at hfo
        have HR1 := Lib.hid hR1; have HFO2 := Lib.hid hfo; have HU := Lib.hid hu; have HKN := Lib.hid hkn; have HLT := Lib.hid hlt
        clear hfd hfo hR1 hu hat hbd hkc hlt hkn HFO
        obtain ⟨kind, kids, arg, mask, sign, value⟩ := cd
        simp only [Cnd.kind, Cnd.arg, Cnd.mask, Cnd.sign, Cnd.value] at e1 e3 e4 e5 e6
        go_upto_region 6 with fail
        have hn7 := heap_alloc_new wr (.cells #[.slice ka kn kc, .int .i64 kind, .slice ca cn cc, .int .i64 arg, .int .u64 (mask : Nat), .string sign, .int .u64 (value : Nat), .int .u32 (act : Nat)] 33)
        have hy7 := (Below.refl wr.heap.size wr).alloc (Nat.le_refl _) (.cells #[.slice ka kn kc, .int .i64 kind, .slice ca cn cc, .int .i64 arg, .int .u64 (mask : Nat), .string sign, .int .u64 (value : Nat), .int .u32 (act : Nat)] 33)
        generalize wr.alloc (.cells #[.slice ka kn kc, .int .i64 kind, .slice ca cn cc, .int .i64 arg, .int .u64 (mask : Nat), .string sign, .int .u64 (value : Nat), .int .u32 (act : Nat)] 33) = w7 at *
        have HB7 := Lib.hid (HWR.out.trans (hy7.mono HWR.out.size))
        have HU7 := Lib.hid (HU.out.below hy7)
        have HO7 := Lib.hid (own_keep2N HO.out hy7)
        have HK7 := Lib.hid ((hy7.block _ (lt_of_block HKB.out)).trans HKB.out)
        generalize wr.heap.size = b7 at *
        have y0 := below_cell (Below.refl _ w7) hn7 0 rfl
        clear e0 e1 e2 e3 e4 e5 e6 e7 hn7 hy7 HO HU HWR HKB
        go_upto_region 7 with fail
        go_loopw [4, 21] (fun z4 z21 wy => ∃ (i b : Nat), z21 = .int .i64 (i : Nat) ∧ z4 = .int .u64 (b : Nat) ∧ i ≤ kn ∧ b ≤ 4294967296 ∧ wy = w7 ∧ Hid ((nrs.drop i).foldl (bstN L k) b = R1)) (fun _ z _ => kn - (intOf z).toNat)
        case atStart => exact ⟨0, b, rfl, rfl, by omega, hb32, rfl, Lib.hid (by rw [List.drop_zero]; exact HR1.out)⟩
        case round =>
          clear HR1 hb32
          obtain ⟨i, b1, rfl, rfl, hik, hb32, rfl, HFI⟩ := hrel
          by_cases hit : i < kn
          · obtain ⟨bn, on, rfl, hcn, hx32, _⟩ := u32_at HU7.out (Below.refl _ _) i hit
            have hfi := HFI.out
            rw [List.drop_eq_getElem_cons (show i < nrs.length by rw [HKN.out]; exact hit), ← getD_atN nrs i (by rw [HKN.out]; exact hit), List.foldl_cons] at hfi
            generalize nrs.getD i 0 = x at *
            have hiI : (i : Int) < kn := by omega
            have HFI2 := Lib.hid hfi
            clear hfi HFI
            have hxI : (x : Int) ≤ 4294967295 := by omega
            have hend : ∀ b2, bstN L k b1 x = b2 → (nrs.drop (i + 1)).foldl (bstN L k) b2 = R1 := fun b2 e => by rw [← e]; exact HFI2.out
            have HEND := Lib.hid hend
            clear hend HFI2
            by_cases hk0 : k = 0
            · subst hk0
              have hav : abvN L 0 x = true := rfl
              by_cases hxb : x < b1
              · have hxbI : (x : Int) < b1 := by omega
                have HE := Lib.hid (HEND.out x (by unfold bstN; rw [hav, decide_eq_true hxb]; rfl))
                clear hav HEND
                go_wp2_with fail
                go_roundw
                case rel => exact ⟨i + 1, x, by go_num, rfl, by omega, by omega, by first | trivial | rfl, HE⟩
                case measure => simp [intOf]; omega
              · have hxbI : ¬ (x : Int) < b1 := by omega
                have HE := Lib.hid (HEND.out b1 (by unfold bstN; rw [hav, decide_eq_false hxb]; rfl))
                clear hav HEND
                go_wp2_with fail
                go_roundw
                case rel => exact ⟨i + 1, b1, by go_num, rfl, by omega, by omega, by first | trivial | rfl, HE⟩
                case measure => simp [intOf]; omega
            · obtain ⟨kk, hkk⟩ : ∃ kk, k = kk + 1 := ⟨k - 1, by omega⟩
              have hlast : ∃ g, A3 = some ⟨g, 0, none⟩ ∧ wr.cell? ⟨g, kk, none⟩ = some (.int .u32 (L.getD kk 0 : Nat)) := by
                have h7 := HO7.out
                rw [hkk] at h7
                exact own_last h7 (by omega)
              obtain ⟨g, hA3, hcl⟩ := hlast
              subst hA3
              have hab : abvN L k x = decide (L.getD kk 0 < x) := by rw [hkk]; unfold abvN; rw [decide_eq_false (by omega)]; rfl
              have hkB : ((k : Int) == 0) = false := by rw [beq_eq_false_iff_ne]; omega
              have hkN : (k == 0) = false := by rw [beq_eq_false_iff_ne]; omega
              have hkZ : ¬ (k : Int) = 0 := by omega
              have hks : (k : Int) - 1 = (kk : Nat) := by omega
              have hkl : (kk : Int) < k := by omega
              clear hkk
              generalize L.getD kk 0 = y at *
              by_cases hyx : y < x
              · have hyxI : (y : Int) < x := by omega
                by_cases hxb : x < b1
                · have hxbI : (x : Int) < b1 := by omega
                  have HE := Lib.hid (HEND.out x (by unfold bstN; rw [hab, decide_eq_true hyx, decide_eq_true hxb]; rfl))
                  clear hab HEND
                  go_wp2_with fail
                  go_roundw
                  case rel => exact ⟨i + 1, x, by go_num, rfl, by omega, by omega, by first | trivial | rfl, HE⟩
                  case measure => simp [intOf]; omega
                · have hxbI : ¬ (x : Int) < b1 := by omega
                  have HE := Lib.hid (HEND.out b1 (by unfold bstN; rw [hab, decide_eq_true hyx, decide_eq_false hxb]; rfl))
                  clear hab HEND
                  go_wp2_with fail
                  go_roundw
                  case rel => exact ⟨i + 1, b1, by go_num, rfl, by omega, by omega, by first | trivial | rfl, HE⟩
                  case measure => simp [intOf]; omega
              · have hyxI : ¬ (y : Int) < x := by omega
                have HE := Lib.hid (HEND.out b1 (by unfold bstN; rw [hab, decide_eq_false hyx]; rfl))
                clear hab HEND
                go_wp2_with fail
                go_roundw
                case rel => exact ⟨i + 1, b1, by go_num, rfl, by omega, by omega, by first | trivial | rfl, HE⟩
                case measure => simp [intOf]; omega
          · obtain rfl : i = kn := by omega
            have hfi := HFI.out
            rw [List.drop_of_length_le (by rw [HKN.out]; omega), List.foldl_nil] at hfi
            have HFI2 := Lib.hid hfi
            clear hfi HFI
            have hkk : ¬ (i : Int) < i := by omega
            go_wp2_with fail
            go_roundw
            case rel => exact ⟨j + 1, b1, by go_num, rfl, by have := HLT.out; omega, hb32, Lib.hid (by rw [HFI2.out]; exact HFO2.out), HO7, HB7, HK7⟩
            case measure => have := HLT.out; simp [intOf]; omega
      · obtain rfl : j = n := by omega
        have hfo := HFO.out
        rw [HFN.out, List.foldl_nil] at hfo
        subst hfo
        have hjj : ¬ (j : Int) < j := by omega
        clear HFO
        by_cases hkl : k < L.length
        · have hrr := HRR.out
          rw [if_pos hkl] at hrr
          have hx32 := HLA.out (L.getD k 0) (by rw [getD_atN L k hkl]; exact List.getElem_mem _)
          have htk : L.take (k + 1) = L.take k ++ [L.getD k 0] := by rw [List.take_succ_eq_append_getElem hkl, getD_atN L k hkl]
          have HTK := Lib.hid htk
          generalize L.getD k 0 = X at *
          subst hrr
          have hbI : ¬ (b : Int) = 4294967296 := by omega
          have hbB : ((b : Int) == 4294967296) = false := by rw [beq_eq_false_iff_ne]; omega
          have hbN : (b == 4294967296) = false := by rw [beq_eq_false_iff_ne]; omega
          have hbI2 : (b : Int) ≤ 4294967295 := by omega
          have hLI2 : (L.length : Int) ≤ 1000000 := by omega
          clear htk HRR HR hjj
          go_wp2_with (first
            | (at_builtin; go_must (refine wpList_push2 _ _ 27 22 (u32V b) HO.out HWR.out (Nat.le_refl _) Try.underlying27 hi hz0 hz1 hz2 rfl rfl rfl rfl rfl rfl ?c1 ?_)))
          case c1 => omega
          intro v' w8 hown8 hbel8 hkeep8
          have HK8 := Lib.hid (hkeep8 B _ _ HKB.out (by decide))
          obtain ⟨A4, c4, rfl, _, _⟩ := own_form1 hown8
          have hmap : (L.take k).map u32V ++ [u32V b] = (L.take (k + 1)).map u32V := by rw [HTK.out, List.map_append]; rfl
          have hown9 : w8.ownsRow w.heap.size 22 1 (.slice A4 (k + 1) c4) (k + 1) ((L.take (k + 1)).map u32V) := by rw [← hmap]; first | exact hown8 | simpa using hown8
          have HO8 := Lib.hid hown9; have HB8 := Lib.hid hbel8
          clear hkeep8 hown8 hown9 hbel8 hmap HO HWR HKB
          go_wp2_with fail
          exact ⟨⟨k + 1, A4, c4, rfl, by omega, HO8, HB8, HK8⟩, by simp [lenN]; omega⟩
        · have hrr := HRR.out
          rw [if_neg hkl] at hrr
          obtain rfl : k = L.length := by omega
          subst hrr
          have ho := HO.out
          rw [List.take_length] at ho
          have HIS := Lib.hid (own_u32s ho rfl HLA.out)
          clear ho HRR HR hjj hkl HO HKB HLA
          go_wp2_with fail
          first
          | (go_ret; exact ⟨⟨_, rfl, HIS.out⟩, HWR.out⟩)
          | (refine bodyPost_ret (results_tmp rfl _ _ _) rfl ?_; exact ⟨⟨_, rfl, HIS.out⟩, HWR.out⟩)
end STn3
section STo1
open Go.RowKit Go.ChangeShapes
set_option linter.unusedVariables false

def sumU (l : List Mtc) : Nat := (l.map fun m => (nrsU m.nrs).length).sum
theorem sumU_app (a b : List Mtc) : sumU (a ++ b) = sumU a + sumU b := by unfold sumU; rw [List.map_append, List.sum_append_nat]
theorem flatN_app (a b : List Mtc) : flatN (a ++ b) = flatN a ++ flatN b := by unfold flatN; rw [List.flatMap_append]
theorem nrs_app_le (p q : List Nat) : (nrsU (p ++ q)).length ≤ (nrsU p).length + (nrsU q).length := by
  rw [← List.length_append]
  refine strict_len _ _ (nrsU_strict _) fun x hx => ?_
  rw [nrsU_mem, List.mem_append] at hx
  rw [List.mem_append, nrsU_mem, nrsU_mem]
  exact hx
theorem nrs_app_lt (p q : List Nat) (x : Nat) (hp : x ∈ p) (hq : x ∈ q) : (nrsU (p ++ q)).length + 1 ≤ (nrsU p).length + (nrsU q).length := by
  have hq' : x ∈ nrsU q := (nrsU_mem q x).2 hq
  have h := strict_len (nrsU (p ++ q)) (nrsU p ++ (nrsU q).erase x) (nrsU_strict _) fun y hy => by
    rw [nrsU_mem, List.mem_append] at hy
    rw [List.mem_append, nrsU_mem]
    by_cases e : y = x
    · subst e; exact .inl hp
    · rcases hy with hy | hy
      · exact .inl hy
      · exact .inr ((List.mem_erase_of_ne e).2 ((nrsU_mem q y).2 hy))
  rw [List.length_append, List.length_erase_of_mem hq'] at h
  have := List.length_pos_of_mem hq'
  omega
theorem sumU_le : ∀ l : List Mtc, (nrsU (flatN l)).length ≤ sumU l
  | [] => nrsU_len []
  | m :: l => by
    have h := nrs_app_le m.nrs (flatN l)
    have ih := sumU_le l
    have e : sumU (m :: l) = (nrsU m.nrs).length + sumU l := by simp [sumU]
    rw [show flatN (m :: l) = m.nrs ++ flatN l from rfl, e]
    omega
theorem parts_apart (a b : List Mtc) (h : sumU (a ++ b) = (nrsU (flatN (a ++ b))).length) (x : Nat) : ¬ (x ∈ flatN a ∧ x ∈ flatN b) := fun ⟨h1, h2⟩ => by
  have h3 := nrs_app_lt _ _ x h1 h2
  rw [sumU_app, flatN_app] at h
  have := sumU_le a
  have := sumU_le b
  omega
theorem ans_app' (d nr : Nat) (args : List Nat) (k : List Mtc) : ∀ l, ansR d nr args (l ++ k) = ansR (ansR d nr args k) nr args l
  | [] => rfl
  | m :: l => by rw [List.cons_append, ansR, ansR, ans_app' d nr args k l]
theorem ans_miss (d nr : Nat) (args : List Nat) (l : List Mtc) (h : nr ∉ flatN l) : ansR d nr args l = d :=
  ans_none d nr args l fun m hm hx => h (List.mem_flatMap.2 ⟨m, hm, hx⟩)
theorem ans_swap (d nr : Nat) (args : List Nat) (a b : List Mtc) (h : sumU (a ++ b) = (nrsU (flatN (a ++ b))).length) : ansR d nr args (b ++ a) = ansR d nr args (a ++ b) := by
  rw [ans_app', ans_app']
  by_cases ha : nr ∈ flatN a
  · have hb : nr ∉ flatN b := fun hb => parts_apart a b h nr ⟨ha, hb⟩
    rw [ans_miss _ _ _ b hb, ans_miss _ _ _ b hb]
  · rw [ans_miss _ _ _ a ha, ans_miss _ _ _ a ha]
end STo1
end Go.Proofs.Ytcejhfpdajbdcaa
