/- The reference's few policies. -/
import Derived.Test.YtbcoooaoofbboaaPol
import Derived.Test.YtbcoooaoofbboaaRef15M
import Derived.Test.YtbcoooaoofbboaaResRow
import Derived.Outline
namespace Go.Proofs.Ytbcoooaoofbboaa
open Go.RowKit Go.ChangeShapes
set_option linter.unusedVariables false

theorem set4_block {w : World} {g : Nat} {T : TypeId} {x0 x1 x2 x3 : Value} (h : w.heap[g]? = some (.cells #[x0, x1, x2, x3] T (0, 0))) (v0 v1 v2 v3 : Value) :
    ((((w.setCell ⟨g, 0, none⟩ v0).setCell ⟨g, 1, none⟩ v1).setCell ⟨g, 2, none⟩ v2).setCell ⟨g, 3, none⟩ v3).heap[g]? = some (.cells #[v0, v1, v2, v3] T (0, 0)) := block_set (block_set (block_set (block_set h 0 v0) 1 v1) 2 v2) 3 v3
theorem set4_below {B : Nat} {a w : World} {g : Nat} (h : Below B a w) (hg : B ≤ g) (v0 v1 v2 v3 : Value) : Below B a ((((w.setCell ⟨g, 0, none⟩ v0).setCell ⟨g, 1, none⟩ v1).setCell ⟨g, 2, none⟩ v2).setCell ⟨g, 3, none⟩ v3) :=
  (((h.setCell (p := ⟨g, 0, none⟩) hg _).setCell (p := ⟨g, 1, none⟩) hg _).setCell (p := ⟨g, 2, none⟩) hg _).setCell (p := ⟨g, 3, none⟩) hg _
def Rul.few (m : Rul) : Bool := decide (m.names.length ≤ 60) && decide (m.cnd.size ≤ 100)
def Pol.few (p : Pol) : Bool := decide (p.rules.length ≤ 30) && p.rules.all Rul.few
theorem rfew_yes (l : List Rul) (n : Nat) (hn : l.length = n) (h : ∀ i, i < n → (l.getD i rulZ).few = true) : l.all Rul.few = true := by
  rw [List.all_eq_true]
  intro m hm
  obtain ⟨i, hi, rfl⟩ := List.mem_iff_getElem.1 hm
  have := h i (by omega)
  rwa [show l.getD i rulZ = l[i] by simp [List.getD, hi]] at this
theorem rfew_no (l : List Rul) (n : Nat) (hn : l.length = n) (i : Nat) (hi : i < n) (h : (l.getD i rulZ).few = false) : l.all Rul.few = false := by
  rw [← Bool.not_eq_true, List.all_eq_true]
  intro hall
  have := hall l[i] (List.getElem_mem _)
  rw [show l.getD i rulZ = l[i] by simp [List.getD, show i < l.length by omega]] at h
  rw [this] at h
  cases h
theorem Pol.few_le {p : Pol} (h : p.few = true) : p.rules.length ≤ 30 ∧ ∀ m ∈ p.rules, m.names.length ≤ 60 ∧ m.cnd.size ≤ 100 := by
  unfold Pol.few at h
  rw [Bool.and_eq_true, List.all_eq_true] at h
  refine ⟨of_decide_eq_true h.1, fun m hm => ?_⟩
  have := h.2 m hm
  unfold Rul.few at this
  rw [Bool.and_eq_true] at this
  exact ⟨of_decide_eq_true this.1, of_decide_eq_true this.2⟩
set_option maxRecDepth 100000 in
set_option maxHeartbeats 4000000 in
theorem refFew15 (p : Pol) (v : Value) (w : World) (h : IsPol w v p) :
    Calls Try.prog 14 #[v] w fun e w' => e = .returned (.tuple #[v, .bool p.few]) ∧ Below w.heap.size w w' := by
  obtain ⟨ht1, ht2, ht3, k, rfl, hk⟩ := h
  obtain ⟨A, n, c, rfl, hl, hc1, hc2, _⟩ := id hk
  have hw1 := ((Below.refl w.heap.size w).alloc (Nat.le_refl _) (.cells #[.string p.arch, .string p.dflt, .int .u64 (p.data : Nat), .slice A n c] 32)).alloc (by simp) (.cells #[.string ⟨#[]⟩, .string ⟨#[]⟩, .int .u64 0, .slice none 0 0] 32)
  have hB := (heap_alloc_old (w.alloc (.cells #[.string p.arch, .string p.dflt, .int .u64 (p.data : Nat), .slice A n c] 32)) (.cells #[.string ⟨#[]⟩, .string ⟨#[]⟩, .int .u64 0, .slice none 0 0] 32) (r := w.heap.size) (by simp)).trans (heap_alloc_new w (.cells #[.string p.arch, .string p.dflt, .int .u64 (p.data : Nat), .slice A n c] 32))
  have hR := heap_alloc_new (w.alloc (.cells #[.string p.arch, .string p.dflt, .int .u64 (p.data : Nat), .slice A n c] 32)) (.cells #[.string ⟨#[]⟩, .string ⟨#[]⟩, .int .u64 0, .slice none 0 0] 32)
  rw [World.size_alloc] at hR
  have hM := fun (cn : Cnd) (v : Value) (u : World) (h : IsCnd u v cn) => refMany_any cn v 100 u h (by omega) (by omega)
  have hnI : (n : Int) ≤ 9223372036854775807 := by omega
  have hfw : p.few = (decide (n ≤ 30) && p.rules.all Rul.few) := by rw [← hl]; rfl
  have HYES := Lib.hid (rfew_yes p.rules n hl); have HNO := Lib.hid (rfew_no p.rules n hl)
  have HK := Lib.hid hk; have HM := Lib.hid hM; have HFW := Lib.hid hfw
  clear hM hfw hl hk hc1 hc2 ht1 ht2 ht3
  generalize p.few = F at *
  go_enter Try.func14, Try.ntmps14
  go_upto_region 1 with fail
  generalize (w.alloc (.cells #[.string p.arch, .string p.dflt, .int .u64 (p.data : Nat), .slice A n c] 32)).alloc (.cells #[.string ⟨#[]⟩, .string ⟨#[]⟩, .int .u64 0, .slice none 0 0] 32) = W at *
  have HB := Lib.hid hB; have HR := Lib.hid hR; have HW1 := Lib.hid hw1
  clear hB hR hw1
  have y3 := below_cell (Below.refl _ W) HB.out 3 rfl
  by_cases h30 : n ≤ 30
  · have h30I : ¬ (30 : Int) < n := by omega
    have hF : F = p.rules.all Rul.few := by rw [HFW.out, decide_eq_true h30]; rfl
    have HF := Lib.hid hF
    have HMT := Lib.hid (fun u (hu : Below W.heap.size W u) j hj => rul_at (HK.out.below HW1.out) hu j hj)
    clear hF HFW
    go_upto_region 4 with fail
    clear y3
    go_loopw [14] (fun z wr => ∃ j : Nat, z = .int .i64 (j : Nat) ∧ j ≤ n ∧ Hid (∀ i, i < j → (p.rules.getD i rulZ).few = true) ∧ Hid (Below W.heap.size W wr)) (fun z _ => n - (intOf z).toNat)
    case atStart => exact ⟨0, rfl, by omega, Lib.hid (fun i hi => absurd hi (Nat.not_lt_zero i)), Lib.hid (Below.refl _ _)⟩
    case round =>
      obtain ⟨j, rfl, hj, HEV, HWR⟩ := hrel
      by_cases hlt : j < n
      · obtain ⟨b, off, rfl, _, hat⟩ := HMT.out wr HWR.out j hlt
        have hno := HNO.out j hlt
        obtain ⟨hbd, na, nn, nc, ca, cn, cc, hst, hkc, e0, e1, e2, e3, e4, e5, e6, e7, e8⟩ := hat.cell
        have hjI : (j : Int) < n := by omega
        have hkn : (p.rules.getD j rulZ).names.length = nn := by obtain ⟨_, _, _, hv, h1, _⟩ := hst; injection hv with _ q2 _; rw [h1, q2]
        have hnext : (p.rules.getD j rulZ).few = true → ∀ i, i < j + 1 → (p.rules.getD i rulZ).few = true := fun h i hi => by
          by_cases e : i < j
          · exact HEV.out i e
          · obtain rfl : i = j := by omega
            exact h
        have hfe : (p.rules.getD j rulZ).few = (decide (nn ≤ 60) && decide ((p.rules.getD j rulZ).cnd.size ≤ 100)) := by rw [← hkn]; rfl
        rw [hfe] at hno hnext
        generalize p.rules.getD j rulZ = m at *
        obtain ⟨act, data, names, cd⟩ := m
        simp only at hfe hno hnext hkc e0 e1 e2 e3 e4 e5 e6 e7 e8
        have hi : IsCnd wr (.agg #[.int .i64 cd.kind, .slice ca cn cc, .int .i64 cd.arg, .int .u64 (cd.mask : Nat), .string cd.sign, .int .u64 (cd.value : Nat)]) cd := ⟨hbd.2.2, _, rfl, hkc⟩
        obtain ⟨S, hS⟩ : ∃ S, cd.size = S := ⟨_, rfl⟩
        rw [hS] at hno hnext
        have HI := Lib.hid hi; have HNN := Lib.hid hno; have HNX := Lib.hid hnext; have HLT := Lib.hid hlt; have HS := Lib.hid hS
        clear hi hno hnext hat hbd hkc hst hlt HNO HEV hkn hfe hS
        obtain ⟨kind, kids, arg, mask, sign, value⟩ := cd
        simp only [Cnd.kind, Cnd.arg, Cnd.mask, Cnd.sign, Cnd.value] at HI e3 e5 e6 e7 e8
        go_upto_region 6 with fail
        have hn7 := heap_alloc_new wr (.cells #[.string act, .int .u64 (data : Nat), .slice na nn nc, .int .i64 kind, .slice ca cn cc, .int .i64 arg, .int .u64 (mask : Nat), .string sign, .int .u64 (value : Nat)] 46)
        have hy7 := (Below.refl wr.heap.size wr).alloc (Nat.le_refl _) (.cells #[.string act, .int .u64 (data : Nat), .slice na nn nc, .int .i64 kind, .slice ca cn cc, .int .i64 arg, .int .u64 (mask : Nat), .string sign, .int .u64 (value : Nat)] 46)
        generalize wr.alloc (.cells #[.string act, .int .u64 (data : Nat), .slice na nn nc, .int .i64 kind, .slice ca cn cc, .int .i64 arg, .int .u64 (mask : Nat), .string sign, .int .u64 (value : Nat)] 46) = w7 at *
        have hb7 := HWR.out.trans (hy7.mono HWR.out.size)
        have hI7 := HI.out.below hy7
        generalize wr.heap.size = b7 at *
        have y2 := below_cell (Below.refl _ _) hn7 2 rfl
        have y3 := below_cell (Below.refl _ _) hn7 3 rfl
        have y4 := below_cell (Below.refl _ _) hn7 4 rfl
        have y5 := below_cell (Below.refl _ _) hn7 5 rfl
        have y6 := below_cell (Below.refl _ _) hn7 6 rfl
        have y7 := below_cell (Below.refl _ _) hn7 7 rfl
        have y8 := below_cell (Below.refl _ _) hn7 8 rfl
        have HB7 := Lib.hid hb7
        have hcall := HM.out _ _ _ hI7
        rw [HS.out] at hcall
        have HC := Lib.hid hcall
        clear hn7 hy7 hb7 hI7 hcall e0 e1 e2 e3 e4 e5 e6 e7 e8 HI HWR HS
        by_cases h60 : nn ≤ 60
        · have h60I : ¬ (60 : Int) < nn := by omega
          have hd60 : decide (nn ≤ 60) = true := decide_eq_true h60
          rw [hd60] at HNN HNX
          clear h60 hd60
          go_wp2_with fail
          refine HC.out.mono ?_
          rintro e w8 ⟨rfl, hb8⟩
          have HB8 := Lib.hid (HB7.out.trans (hb8.mono HB7.out.size))
          clear y2 y3 y4 y5 y6 y7 y8 hb8
          by_cases hs : S ≤ 100
          · have hmin : ¬ (100 : Int) < ((min S (100 + 1) : Nat) : Int) := by omega
            have hn2 := HNX.out (by rw [decide_eq_true hs]; rfl)
            have HN2 := Lib.hid hn2
            clear hs hn2 HNX HNN
            generalize min S (100 + 1) = M at *
            go_wp2_with fail
            go_roundw
            case rel => exact ⟨j + 1, by go_num, by have := HLT.out; omega, HN2, HB8⟩
            case measure => have := HLT.out; simp [intOf]; omega
          · have hmin : (100 : Int) < ((min S (100 + 1) : Nat) : Int) := by omega
            have hn2 := HNN.out (by rw [decide_eq_false hs]; rfl)
            have HN2 := Lib.hid hn2
            clear hs hn2 HNX HNN
            generalize min S (100 + 1) = M at *
            have hF2 : F = false := by rw [HF.out, HN2.out]
            have HF3 := Lib.hid hF2
            clear hF2
            have d0 := below_cell HB8.out HB.out 0 rfl
            have d1 := below_cell HB8.out HB.out 1 rfl
            have d2 := below_cell HB8.out HB.out 2 rfl
            have d3 := below_cell HB8.out HB.out 3 rfl
            have hR2 := (HB8.out.block _ (lt_of_block HR.out)).trans HR.out
            have z0 := below_cell (Below.refl _ _) hR2 0 rfl
            have z1 := below_cell (Below.refl _ _) hR2 1 rfl
            have z2 := below_cell (Below.refl _ _) hR2 2 rfl
            have z3 := below_cell (Below.refl _ _) hR2 3 rfl
            have f0 := block_frozen hR2 0
            have f1 := block_frozen hR2 1
            have f2 := block_frozen hR2 2
            have f3 := block_frozen hR2 3
            have HR2 := Lib.hid hR2; have HUU := Lib.hid (HW1.out.trans (HB8.out.mono HW1.out.size))
            clear hR2
            go_wp2_with fail
            exact bodyPost_ret (results_row_tmp rfl _ _ (w.heap.size + 1) 32 #[.string p.arch, .string p.dflt, .int .u64 (p.data : Nat), .slice (some ⟨b, off, none⟩) n c] (0, 0) _ rfl (set4_block HR2.out _ _ _ _) Try.underlying32 rfl (by kernel_rfl)) rfl ⟨by rw [HF3.out]; rfl, set4_below HUU.out (by omega) _ _ _ _⟩
        · have h60I : (60 : Int) < nn := by omega
          have hn2 := HNN.out (by rw [decide_eq_false h60]; rfl)
          have HN2 := Lib.hid hn2
          clear h60 hn2 HNX HNN y3 y4 y5 y6 y7 y8
          have hF2 : F = false := by rw [HF.out, HN2.out]
          have HF3 := Lib.hid hF2
          clear hF2
          have d0 := below_cell HB7.out HB.out 0 rfl
          have d1 := below_cell HB7.out HB.out 1 rfl
          have d2 := below_cell HB7.out HB.out 2 rfl
          have d3 := below_cell HB7.out HB.out 3 rfl
          have hR2 := (HB7.out.block _ (lt_of_block HR.out)).trans HR.out
          have z0 := below_cell (Below.refl _ _) hR2 0 rfl
          have z1 := below_cell (Below.refl _ _) hR2 1 rfl
          have z2 := below_cell (Below.refl _ _) hR2 2 rfl
          have z3 := below_cell (Below.refl _ _) hR2 3 rfl
          have f0 := block_frozen hR2 0
          have f1 := block_frozen hR2 1
          have f2 := block_frozen hR2 2
          have f3 := block_frozen hR2 3
          have HR2 := Lib.hid hR2; have HUU := Lib.hid (HW1.out.trans (HB7.out.mono HW1.out.size))
          clear hR2
          go_wp2_with fail
          exact bodyPost_ret (results_row_tmp rfl _ _ (w.heap.size + 1) 32 #[.string p.arch, .string p.dflt, .int .u64 (p.data : Nat), .slice (some ⟨b, off, none⟩) n c] (0, 0) _ rfl (set4_block HR2.out _ _ _ _) Try.underlying32 rfl (by kernel_rfl)) rfl ⟨by rw [HF3.out]; rfl, set4_below HUU.out (by omega) _ _ _ _⟩
      · obtain rfl : j = n := by omega
        have hy := HYES.out HEV.out
        have HY := Lib.hid hy
        clear hy HYES HNO HEV
        have hF2 : F = true := by rw [HF.out, HY.out]
        have HF3 := Lib.hid hF2
        clear hF2
        have d0 := below_cell HWR.out HB.out 0 rfl
        have d1 := below_cell HWR.out HB.out 1 rfl
        have d2 := below_cell HWR.out HB.out 2 rfl
        have d3 := below_cell HWR.out HB.out 3 rfl
        have hR2 := (HWR.out.block _ (lt_of_block HR.out)).trans HR.out
        have z0 := below_cell (Below.refl _ _) hR2 0 rfl
        have z1 := below_cell (Below.refl _ _) hR2 1 rfl
        have z2 := below_cell (Below.refl _ _) hR2 2 rfl
        have z3 := below_cell (Below.refl _ _) hR2 3 rfl
        have f0 := block_frozen hR2 0
        have f1 := block_frozen hR2 1
        have f2 := block_frozen hR2 2
        have f3 := block_frozen hR2 3
        have HR2 := Lib.hid hR2; have HUU := Lib.hid (HW1.out.trans (HWR.out.mono HW1.out.size))
        clear hR2
        go_wp2_with fail
        exact bodyPost_ret (results_row_tmp rfl _ _ (w.heap.size + 1) 32 #[.string p.arch, .string p.dflt, .int .u64 (p.data : Nat), .slice A j c] (0, 0) _ rfl (set4_block HR2.out _ _ _ _) Try.underlying32 rfl (by kernel_rfl)) rfl ⟨by rw [HF3.out]; rfl, set4_below HUU.out (by omega) _ _ _ _⟩
  · have h30I : (30 : Int) < n := by omega
    have hF : F = false := by rw [HFW.out, decide_eq_false h30]; rfl
    have HF := Lib.hid hF
    have hbW := Below.refl W.heap.size W
    clear hF HFW HYES HNO h30
    have d0 := below_cell hbW HB.out 0 rfl
    have d1 := below_cell hbW HB.out 1 rfl
    have d2 := below_cell hbW HB.out 2 rfl
    have hR2 := (hbW.block _ (lt_of_block HR.out)).trans HR.out
    have z0 := below_cell (Below.refl _ _) hR2 0 rfl
    have z1 := below_cell (Below.refl _ _) hR2 1 rfl
    have z2 := below_cell (Below.refl _ _) hR2 2 rfl
    have z3 := below_cell (Below.refl _ _) hR2 3 rfl
    have f0 := block_frozen hR2 0
    have f1 := block_frozen hR2 1
    have f2 := block_frozen hR2 2
    have f3 := block_frozen hR2 3
    have HR2 := Lib.hid hR2; have HUU := Lib.hid (HW1.out.trans (hbW.mono HW1.out.size))
    clear hR2
    go_wp2_with fail
    exact bodyPost_ret (results_row_tmp rfl _ _ (w.heap.size + 1) 32 #[.string p.arch, .string p.dflt, .int .u64 (p.data : Nat), .slice A n c] (0, 0) _ rfl (set4_block HR2.out _ _ _ _) Try.underlying32 rfl (by kernel_rfl)) rfl ⟨by rw [HF.out]; rfl, set4_below HUU.out (by omega) _ _ _ _⟩
end Go.Proofs.Ytbcoooaoofbboaa
