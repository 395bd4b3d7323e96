/- The walk of TypesChecks. -/
import Derived.Test.YtbcoooaoofbboaaPo7
import Derived.Test.YtbcoooaoofbboaaPkP
import Derived.Test.YtbcoooaoofbboaaPo11
import Derived.Outline
namespace Go.Proofs.Ytbcoooaoofbboaa.lawTypesChecks
open Go.RowKit Go.ChangeShapes
set_option linter.unusedVariables false
set_option linter.unusedSimpArgs false

/-- what the checking answers -/
def outT (p : Pol) : Typ := if p.err = 0 then p.typ else ⟨0, 0, []⟩
theorem out_of {p : Pol} {e : Ending} {w' : World} (h : CheckPost p e w') : ∃ (A : Option Addr) (m c : Nat), e = .returned (.tuple #[.agg #[.int .u32 ((outT p).arch : Nat), .int .u32 ((outT p).dflt : Nat), .slice A m c], .int .i64 p.err]) ∧ IsMtcs w' (.slice A m c) (outT p).rules := by
  unfold CheckPost at h
  unfold outT
  by_cases h0 : p.err = 0
  · rw [if_pos h0] at h
    rw [if_pos h0]
    obtain ⟨k, rfl, hk⟩ := h
    obtain ⟨A, m, c, rfl, _⟩ := id hk
    exact ⟨A, m, c, by rw [h0], hk⟩
  · rw [if_neg h0] at h
    rw [if_neg h0]
    exact ⟨none, 0, 0, h, none, 0, 0, rfl, rfl, Nat.le_refl _, by decide, fun _ => rfl, .inl rfl⟩
theorem out_typ (p : Pol) {w : World} {k : Value} (h : IsMtcs w k (outT p).rules) : IsTyp w (.agg #[.int .u32 ((outT p).arch : Nat), .int .u32 ((outT p).dflt : Nat), k]) (outT p) := by
  refine ⟨?_, ?_, k, rfl, h⟩
  · unfold outT
    split
    · exact arch_le p.arch
    · decide
  · unfold outT
    split
    · exact act_le p.dflt (p.data : Int)
    · decide
theorem out_size (p : Pol) (h : ∀ m ∈ p.rules, m.cnd.size ≤ 100) : ∀ m ∈ (outT p).rules, m.cnd.size ≤ 1000 := by
  unfold outT
  split
  · intro m hm
    obtain ⟨r, hr, rfl⟩ := List.mem_map.1 (show m ∈ p.rules.map (Rul.mtc _) from hm)
    exact Nat.le_trans (h r hr) (by decide)
  · intro m hm
    cases hm
set_option maxRecDepth 100000 in
set_option maxHeartbeats 8000000 in
theorem walk (v0 : Value) (p : Pol) (w : World) (w0 : IsPol w v0 p) :
    Calls Try.prog 4 #[v0] w fun e w' => e = .returned (.bool true) ∧ Below w.heap.size w w' := by
  have HFW := Lib.hid (fun u (hu : Below w.heap.size w u) => refFew15 p v0 u (w0.below hu))
  have HPL := Lib.hid w0
  obtain ⟨ht1, ht2, ht3, k, rfl, hk⟩ := id w0
  obtain ⟨A, n, c, rfl, hl, hc1, hc2, _⟩ := id hk
  have hnI : (n : Int) ≤ 9223372036854775807 := by omega
  have HAL := Lib.hid (fun u => tyAlive u)
  obtain ⟨B, hBB⟩ : ∃ B, w.heap.size = B := ⟨_, rfl⟩
  have hb1 := (Below.refl w.heap.size w).alloc (Nat.le_refl _) (.cells #[.string p.arch, .string p.dflt, .int .u64 (p.data : Nat), .slice A n c] 32)
  have hn1 := heap_alloc_new w (.cells #[.string p.arch, .string p.dflt, .int .u64 (p.data : Nat), .slice A n c] 32)
  have HT := Lib.hid (And.intro ht1 (And.intro ht2 ht3)); have HL := Lib.hid hl
  clear ht1 ht2 ht3 hl hc1 hc2 hk w0
  go_enter Try.func4, Try.ntmps4
  go_upto_region 1 with fail
  obtain ⟨W, hW⟩ : ∃ W, w.alloc (.cells #[.string p.arch, .string p.dflt, .int .u64 (p.data : Nat), .slice A n c] 32) = W := ⟨_, rfl⟩
  rw [hW] at hb1 hn1 ⊢
  rw [hBB] at hn1
  (try rw [hBB])
  have HB0 := Lib.hid hb1; have HN0 := Lib.hid hn1; have HBB := Lib.hid hBB
  clear hW hb1 hn1 hBB
  have d0 := below_cell (Below.refl _ W) HN0.out 0 rfl
  have d1 := below_cell (Below.refl _ W) HN0.out 1 rfl
  have d2 := below_cell (Below.refl _ W) HN0.out 2 rfl
  have d3 := below_cell (Below.refl _ W) HN0.out 3 rfl
  obtain ⟨fw, hfw⟩ : ∃ fw, p.few = fw := ⟨_, rfl⟩
  rw [hfw] at HFW
  go_upto_region 2 with (first | (go_at_call 14; refine (HFW.out _ HB0.out).mono ?_; rintro e w2 ⟨rfl, hb2⟩; have hN2 := (hb2.block _ (lt_of_block HN0.out)).trans HN0.out; have e0 := below_cell (Below.refl _ w2) hN2 0 rfl; have e1 := below_cell (Below.refl _ w2) hN2 1 rfl; have e2 := below_cell (Below.refl _ w2) hN2 2 rfl; have e3 := below_cell (Below.refl _ w2) hN2 3 rfl; have f0 := block_frozen hN2 0; have f1 := block_frozen hN2 1; have f2 := block_frozen hN2 2; have f3 := block_frozen hN2 3))
  have hN3 := set4_block hN2 (.string p.arch) (.string p.dflt) (.int .u64 (p.data : Nat)) (.slice A n c)
  have hb3 := set4_below (HB0.out.trans (hb2.mono HB0.out.size)) (show w.heap.size ≤ B by rw [HBB.out]; exact Nat.le_refl _) (.string p.arch) (.string p.dflt) (.int .u64 (p.data : Nat)) (.slice A n c)
  obtain ⟨w3, hw3⟩ : ∃ w3, (((w2.setCell ⟨B, 0, none⟩ (.string p.arch)).setCell ⟨B, 1, none⟩ (.string p.dflt)).setCell ⟨B, 2, none⟩ (.int .u64 (p.data : Nat))).setCell ⟨B, 3, none⟩ (.slice A n c) = w3 := ⟨_, rfl⟩
  rw [hw3] at hN3 hb3 ⊢
  have HB3 := Lib.hid hb3; have HN3 := Lib.hid hN3
  clear hw3 hN3 hb3 hN2 hb2 d0 d1 d2 d3 e0 e1 e2 e3 f0 f1 f2 f3 HB0 HN0 HFW
  cases fw with
  | false =>
    go_wp2_with (first | (go_at_call 9; refine (HAL.out _).mono ?_; rintro e w5 ⟨rfl, hb5⟩))
    first
    | (go_ret; exact ⟨by first | rfl | simp, HB3.out.trans (hb5.mono HB3.out.size)⟩)
    | (refine bodyPost_ret (results_tmp rfl _ _ _) rfl ?_; exact ⟨by first | rfl | simp, HB3.out.trans (hb5.mono HB3.out.size)⟩)
  | true =>
    have HNM := Lib.hid (few_names hfw)
    have HNM5 := Lib.hid (show ∀ m ∈ p.rules, m.names.length ≤ 500 from fun m hm => by have := ((Pol.few_le hfw).2 m hm).1; omega)
    have HSZ := Lib.hid (out_size p (fun m hm => ((Pol.few_le hfw).2 m hm).2))
    clear hfw
    have HC := Lib.hid (fun u (hu : Below w.heap.size w u) => (tyCheck p _ u (HPL.out.below hu) HNM.out).mono (fun e w' h => (And.intro (out_of h.1) h.2)))
    have HD := Lib.hid (fun u (hu : Below w.heap.size w u) => (refCheck p _ u (HPL.out.below hu) HNM5.out).mono (fun e w' h => (And.intro (out_of h.1) h.2)))
    have HTY := Lib.hid (fun u k h => @out_typ p u k h)
    have HLK := Lib.hid (fun va vb u ha hb => refLike16 (outT p) va vb u ha hb HSZ.out)
    generalize p.err = ER at *
    generalize outT p = T at *
    have d0 := below_cell (Below.refl _ w3) HN3.out 0 rfl
    have d1 := below_cell (Below.refl _ w3) HN3.out 1 rfl
    have d2 := below_cell (Below.refl _ w3) HN3.out 2 rfl
    have d3 := below_cell (Below.refl _ w3) HN3.out 3 rfl
    go_upto_region 5 with (first | (go_at_call 15; refine (HC.out _ HB3.out).mono ?_; rintro e w4 ⟨⟨A4, m4, c4, rfl, hr4⟩, hb4⟩))
    clear d0 d1 d2 d3
    have hA := heap_alloc_new w4 (.cells #[.int .u32 (T.arch : Nat), .int .u32 (T.dflt : Nat), .slice A4 m4 c4] 38)
    have hA1 := (Below.refl w4.heap.size w4).alloc (Nat.le_refl _) (.cells #[.int .u32 (T.arch : Nat), .int .u32 (T.dflt : Nat), .slice A4 m4 c4] 38)
    obtain ⟨w5, hw5⟩ : ∃ w5, w4.alloc (.cells #[.int .u32 (T.arch : Nat), .int .u32 (T.dflt : Nat), .slice A4 m4 c4] 38) = w5 := ⟨_, rfl⟩
    obtain ⟨b4, hb4'⟩ : ∃ b4, w4.heap.size = b4 := ⟨_, rfl⟩
    rw [hw5] at hA hA1 ⊢
    rw [hb4'] at hA
    (try rw [hb4'])
    have hb5 := hb4.trans (hA1.mono hb4.size)
    have HB5 := Lib.hid (HB3.out.trans (hb5.mono HB3.out.size)); have HN5 := Lib.hid ((hb5.block _ (lt_of_block HN3.out)).trans HN3.out); have HA5 := Lib.hid hA; have HR5 := Lib.hid (hr4.below hA1)
    clear hw5 hA hA1 hb4 hb4' hb5 hr4 HB3 HN3
    have d0 := below_cell (Below.refl _ w5) HN5.out 0 rfl
    have d1 := below_cell (Below.refl _ w5) HN5.out 1 rfl
    have d2 := below_cell (Below.refl _ w5) HN5.out 2 rfl
    have d3 := below_cell (Below.refl _ w5) HN5.out 3 rfl
    go_upto_region 6 with (first | (go_at_call 16; refine (HD.out _ HB5.out).mono ?_; rintro e w7 ⟨⟨A7, m7, c7, rfl, hr7⟩, hb7⟩))
    clear d0 d1 d2 d3
    have hA := heap_alloc_new w7 (.cells #[.int .u32 (T.arch : Nat), .int .u32 (T.dflt : Nat), .slice A7 m7 c7] 38)
    have hA1 := (Below.refl w7.heap.size w7).alloc (Nat.le_refl _) (.cells #[.int .u32 (T.arch : Nat), .int .u32 (T.dflt : Nat), .slice A7 m7 c7] 38)
    obtain ⟨w8, hw8⟩ : ∃ w8, w7.alloc (.cells #[.int .u32 (T.arch : Nat), .int .u32 (T.dflt : Nat), .slice A7 m7 c7] 38) = w8 := ⟨_, rfl⟩
    obtain ⟨b7, hb7'⟩ : ∃ b7, w7.heap.size = b7 := ⟨_, rfl⟩
    rw [hw8] at hA hA1 ⊢
    rw [hb7'] at hA
    (try rw [hb7'])
    have hb8 := hb7.trans (hA1.mono hb7.size)
    have HB8 := Lib.hid (HB5.out.trans (hb8.mono HB5.out.size)); have HA8 := Lib.hid ((hb8.block _ (lt_of_block HA5.out)).trans HA5.out); have HC8 := Lib.hid hA; have HR8 := Lib.hid (HR5.out.below hb8); have HS8 := Lib.hid (hr7.below hA1)
    clear hw8 hA hA1 hb7 hb7' hb8 hr7 HB5 HN5 HA5 HR5
    go_wp2_with (first
      | (go_at_call 9; refine (HAL.out _).mono ?_; rintro e w9 ⟨rfl, hb9⟩; have a0 := below_cell hb9 HA8.out 0 rfl; have a1 := below_cell hb9 HA8.out 1 rfl; have a2 := below_cell hb9 HA8.out 2 rfl; have k0 := below_cell hb9 HC8.out 0 rfl; have k1 := below_cell hb9 HC8.out 1 rfl; have k2 := below_cell hb9 HC8.out 2 rfl)
      | (go_at_call 17; refine (HLK.out _ _ _ (HTY.out _ _ (HR8.out.below hb9)) (HTY.out _ _ (HS8.out.below hb9))).mono ?_; rintro e w10 ⟨rfl, hb10⟩))
    have hfin := HB8.out.trans ((hb9.trans (hb10.mono hb9.size)).mono HB8.out.size)
    first
    | (go_ret; exact ⟨by first | rfl | simp, hfin⟩)
    | (refine bodyPost_ret (results_tmp rfl _ _ _) rfl ?_; exact ⟨by first | rfl | simp, hfin⟩)
end Go.Proofs.Ytbcoooaoofbboaa.lawTypesChecks
