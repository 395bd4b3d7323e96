/- The walk of TypesBare. -/
import Derived.Test.YtbcoooaoofbboaaPo7
import Derived.Outline
namespace Go.Proofs.Ytbcoooaoofbboaa.lawTypesBare
open Go.RowKit Go.ChangeShapes
set_option linter.unusedVariables false
set_option linter.unusedSimpArgs false

set_option maxRecDepth 100000 in
set_option maxHeartbeats 8000000 in
theorem walk (v0 : Value) (p : Pol) (w : World) (w0 : IsPol w v0 p) :
    Calls Try.prog 7 #[v0] w fun e w' => e = .returned (.bool true) ∧ Below w.heap.size w w' := by
  have HFW := Lib.hid (fun u (hu : Below w.heap.size w u) => refFew15 p v0 u (w0.below hu))
  have HPL := Lib.hid w0
  obtain ⟨ht1, ht2, ht3, k, rfl, hk⟩ := id w0
  obtain ⟨A, n, c, rfl, hl, hc1, hc2, _⟩ := id hk
  have hnI : (n : Int) ≤ 9223372036854775807 := by omega
  have HAL := Lib.hid (fun u => tyAlive u)
  obtain ⟨B, hBB⟩ : ∃ B, w.heap.size = B := ⟨_, rfl⟩
  have hb1 := (Below.refl w.heap.size w).alloc (Nat.le_refl _) (.cells #[.string p.arch, .string p.dflt, .int .u64 (p.data : Nat), .slice A n c] 32)
  have hn1 := heap_alloc_new w (.cells #[.string p.arch, .string p.dflt, .int .u64 (p.data : Nat), .slice A n c] 32)
  have HT := Lib.hid (And.intro ht1 (And.intro ht2 ht3)); have HL := Lib.hid hl
  clear ht1 ht2 ht3 hl hc1 hc2 hk w0
  go_enter Try.func7, Try.ntmps7
  go_upto_region 1 with fail
  obtain ⟨W, hW⟩ : ∃ W, w.alloc (.cells #[.string p.arch, .string p.dflt, .int .u64 (p.data : Nat), .slice A n c] 32) = W := ⟨_, rfl⟩
  rw [hW] at hb1 hn1 ⊢
  rw [hBB] at hn1
  (try rw [hBB])
  have HB0 := Lib.hid hb1; have HN0 := Lib.hid hn1; have HBB := Lib.hid hBB
  clear hW hb1 hn1 hBB
  have d0 := below_cell (Below.refl _ W) HN0.out 0 rfl
  have d1 := below_cell (Below.refl _ W) HN0.out 1 rfl
  have d2 := below_cell (Below.refl _ W) HN0.out 2 rfl
  have d3 := below_cell (Below.refl _ W) HN0.out 3 rfl
  obtain ⟨fw, hfw⟩ : ∃ fw, p.few = fw := ⟨_, rfl⟩
  rw [hfw] at HFW
  go_upto_region 2 with (first | (go_at_call 14; refine (HFW.out _ HB0.out).mono ?_; rintro e w2 ⟨rfl, hb2⟩; have hN2 := (hb2.block _ (lt_of_block HN0.out)).trans HN0.out; have e0 := below_cell (Below.refl _ w2) hN2 0 rfl; have e1 := below_cell (Below.refl _ w2) hN2 1 rfl; have e2 := below_cell (Below.refl _ w2) hN2 2 rfl; have e3 := below_cell (Below.refl _ w2) hN2 3 rfl; have f0 := block_frozen hN2 0; have f1 := block_frozen hN2 1; have f2 := block_frozen hN2 2; have f3 := block_frozen hN2 3))
  have hN3 := set4_block hN2 (.string p.arch) (.string p.dflt) (.int .u64 (p.data : Nat)) (.slice A n c)
  have hb3 := set4_below (HB0.out.trans (hb2.mono HB0.out.size)) (show w.heap.size ≤ B by rw [HBB.out]; exact Nat.le_refl _) (.string p.arch) (.string p.dflt) (.int .u64 (p.data : Nat)) (.slice A n c)
  obtain ⟨w3, hw3⟩ : ∃ w3, (((w2.setCell ⟨B, 0, none⟩ (.string p.arch)).setCell ⟨B, 1, none⟩ (.string p.dflt)).setCell ⟨B, 2, none⟩ (.int .u64 (p.data : Nat))).setCell ⟨B, 3, none⟩ (.slice A n c) = w3 := ⟨_, rfl⟩
  rw [hw3] at hN3 hb3 ⊢
  have HB3 := Lib.hid hb3; have HN3 := Lib.hid hN3
  clear hw3 hN3 hb3 hN2 hb2 d0 d1 d2 d3 e0 e1 e2 e3 f0 f1 f2 f3 HB0 HN0 HFW
  cases fw with
  | false =>
    go_wp2_with (first | (go_at_call 9; refine (HAL.out _).mono ?_; rintro e w5 ⟨rfl, hb5⟩))
    first
    | (go_ret; exact ⟨by first | rfl | simp, HB3.out.trans (hb5.mono HB3.out.size)⟩)
    | (refine bodyPost_ret (results_tmp rfl _ _ _) rfl ?_; exact ⟨by first | rfl | simp, HB3.out.trans (hb5.mono HB3.out.size)⟩)
  | true =>
    have HNM := Lib.hid (few_names hfw)
    clear hfw
    have HC := Lib.hid (fun u (hu : Below w.heap.size w u) => tyCheckF p _ u (HPL.out.below hu) HNM.out)
    have HC1 := Lib.hid (fun u => tyCheckF ⟨p.arch, p.dflt, p.data, []⟩ (.agg #[.string p.arch, .string p.dflt, .int .u64 (p.data : Nat), .slice none 0 0]) u ⟨HT.out.1, HT.out.2.1, HT.out.2.2, _, rfl, none, 0, 0, rfl, rfl, Nat.le_refl _, by decide, fun _ => rfl, .inl rfl⟩ (fun m hm => absurd hm (by simp)))
    have HEB := Lib.hid (err_bare p)
    generalize p.err = ER at *
    generalize p.typ.arch = TA at *
    generalize p.typ.dflt = TD at *
    generalize (⟨p.arch, p.dflt, p.data, []⟩ : Pol).err = ER1 at *
    have d0 := below_cell (Below.refl _ w3) HN3.out 0 rfl
    have d1 := below_cell (Below.refl _ w3) HN3.out 1 rfl
    have d2 := below_cell (Below.refl _ w3) HN3.out 2 rfl
    have d3 := below_cell (Below.refl _ w3) HN3.out 3 rfl
    go_upto_region 5 with (first | (go_at_call 15; refine (HC.out _ HB3.out).mono ?_; rintro e w4 ⟨⟨x, y, A4, m4, c4, rfl, hr4⟩, hb4⟩))
    clear d0 d1 d2 d3
    have hA := heap_alloc_new w4 (.cells #[.int .u32 (x : Nat), .int .u32 (y : Nat), .slice A4 m4 c4] 38)
    have hA1 := (Below.refl w4.heap.size w4).alloc (Nat.le_refl _) (.cells #[.int .u32 (x : Nat), .int .u32 (y : Nat), .slice A4 m4 c4] 38)
    obtain ⟨w5, hw5⟩ : ∃ w5, w4.alloc (.cells #[.int .u32 (x : Nat), .int .u32 (y : Nat), .slice A4 m4 c4] 38) = w5 := ⟨_, rfl⟩
    obtain ⟨b4, hb4'⟩ : ∃ b4, w4.heap.size = b4 := ⟨_, rfl⟩
    rw [hw5] at hA hA1 ⊢
    rw [hb4'] at hA
    (try rw [hb4'])
    have hb5 := hb4.trans (hA1.mono hb4.size)
    have HB5 := Lib.hid (HB3.out.trans (hb5.mono HB3.out.size)); have HN5 := Lib.hid ((hb5.block _ (lt_of_block HN3.out)).trans HN3.out); have HA5 := Lib.hid hA; have HR4 := Lib.hid hr4
    clear hw5 hA hA1 hb4 hb4' hb5 hr4 HB3 HN3
    have d0 := below_cell (Below.refl _ w5) HN5.out 0 rfl
    have d1 := below_cell (Below.refl _ w5) HN5.out 1 rfl
    have d2 := below_cell (Below.refl _ w5) HN5.out 2 rfl
    have d3 := below_cell (Below.refl _ w5) HN5.out 3 rfl
    have hq := heap_alloc_new w5 (.cells #[.string p.arch, .string p.dflt, .int .u64 (p.data : Nat), .slice A n c] 32)
    have hq1 := (Below.refl w5.heap.size w5).alloc (Nat.le_refl _) (.cells #[.string p.arch, .string p.dflt, .int .u64 (p.data : Nat), .slice A n c] 32)
    go_upto_region 6 with fail
    clear d0 d1 d2 d3
    obtain ⟨w6, hw6⟩ : ∃ w6, w5.alloc (.cells #[.string p.arch, .string p.dflt, .int .u64 (p.data : Nat), .slice A n c] 32) = w6 := ⟨_, rfl⟩
    obtain ⟨Q, hQ⟩ : ∃ Q, w5.heap.size = Q := ⟨_, rfl⟩
    rw [hw6] at hq hq1 ⊢
    have hQl : w.heap.size ≤ Q ∧ B < Q ∧ b4 < Q := by rw [← hQ]; exact ⟨HB5.out.size, lt_of_block HN5.out, lt_of_block HA5.out⟩
    rw [hQ] at hq
    (try rw [hQ])
    have HB6 := Lib.hid (HB5.out.trans (hq1.mono HB5.out.size)); have HN6 := Lib.hid ((hq1.block _ (lt_of_block HN5.out)).trans HN5.out); have HA6 := Lib.hid ((hq1.block _ (lt_of_block HA5.out)).trans HA5.out); have HQL := Lib.hid hQl
    have z3 := below_cell (Below.refl _ w6) hq 3 rfl
    have f3 := block_frozen hq 3
    have hq7 := block_set hq 3 (.slice none 0 0)
    clear hw6 hQ hq1 HB5 HN5 HA5
    go_upto_region 7 with fail
    obtain ⟨w7, hw7⟩ : ∃ w7, w6.setCell ⟨Q, 3, none⟩ (.slice none 0 0) = w7 := ⟨_, rfl⟩
    have hoth : ∀ V, V ≠ Q → w7.heap[V]? = w6.heap[V]? := fun V hV => by rw [← hw7]; exact Below.heap_setCell _ _ _ _ hV
    have HB7 := Lib.hid (show Below w.heap.size w w7 by rw [← hw7]; exact HB6.out.setCell (p := ⟨Q, 3, none⟩) HQL.out.1 _)
    rw [hw7] at hq7 ⊢
    have HN7 := Lib.hid ((hoth B (by have := HQL.out.2.1; omega)).trans HN6.out); have HA7 := Lib.hid ((hoth b4 (by have := HQL.out.2.2; omega)).trans HA6.out)
    have HQ7 := Lib.hid (show w7.heap[Q]? = some (.cells #[.string p.arch, .string p.dflt, .int .u64 (p.data : Nat), .slice none 0 0] 32 (0, 0)) from hq7)
    clear hw7 hoth hq7 z3 f3 hq HB6 HN6 HA6
    have d0 := below_cell (Below.refl _ w7) HQ7.out 0 rfl
    have d1 := below_cell (Below.refl _ w7) HQ7.out 1 rfl
    have d2 := below_cell (Below.refl _ w7) HQ7.out 2 rfl
    have d3 := below_cell (Below.refl _ w7) HQ7.out 3 rfl
    go_upto_region 8 with (first | (go_at_call 15; refine (HC1.out _).mono ?_; rintro e w8 ⟨⟨x1, y1, A8, m8, c8, rfl, hr8⟩, hb8⟩))
    clear d0 d1 d2 d3
    have hA := heap_alloc_new w8 (.cells #[.int .u32 (x1 : Nat), .int .u32 (y1 : Nat), .slice A8 m8 c8] 38)
    have hA1 := (Below.refl w8.heap.size w8).alloc (Nat.le_refl _) (.cells #[.int .u32 (x1 : Nat), .int .u32 (y1 : Nat), .slice A8 m8 c8] 38)
    obtain ⟨w9, hw9⟩ : ∃ w9, w8.alloc (.cells #[.int .u32 (x1 : Nat), .int .u32 (y1 : Nat), .slice A8 m8 c8] 38) = w9 := ⟨_, rfl⟩
    obtain ⟨b8, hb8'⟩ : ∃ b8, w8.heap.size = b8 := ⟨_, rfl⟩
    rw [hw9] at hA hA1 ⊢
    rw [hb8'] at hA
    (try rw [hb8'])
    have hb9 := hb8.trans (hA1.mono hb8.size)
    have HB9 := Lib.hid (HB7.out.trans (hb9.mono HB7.out.size)); have HN9 := Lib.hid ((hb9.block _ (lt_of_block HN7.out)).trans HN7.out); have HA9 := Lib.hid ((hb9.block _ (lt_of_block HA7.out)).trans HA7.out); have HQ9 := Lib.hid ((hb9.block _ (lt_of_block HQ7.out)).trans HQ7.out); have HC9 := Lib.hid hA; have HR8 := Lib.hid hr8
    clear hw9 hA hA1 hb8 hb8' hb9 hr8 HB7 HN7 HA7 HQ7 HC1 HC
    have a0 := below_cell (Below.refl _ w9) HA9.out 0 rfl
    have a1 := below_cell (Below.refl _ w9) HA9.out 1 rfl
    have k0 := below_cell (Below.refl _ w9) HC9.out 0 rfl
    have k1 := below_cell (Below.refl _ w9) HC9.out 1 rfl
    have k2 := below_cell (Below.refl _ w9) HC9.out 2 rfl
    go_cut [56] (fun v wx => v = .bool false ∧ w9 = wx)
    case first =>
      by_cases he : ER = 0
      · obtain ⟨h1, h2, h3⟩ := HEB.out he
        obtain ⟨rfl, rfl, rfl⟩ := HR4.out he
        obtain ⟨g1, g2, g3⟩ := HR8.out h1
        rw [h2] at g1
        rw [h3] at g2
        subst g1 g2 g3
        subst he
        subst h1
        go_wp2_with fail
        go_meet
        exact ⟨rfl, rfl⟩
      · have heB : (ER == 0) = false := by rw [beq_eq_false_iff_ne]; exact he
        clear he
        go_wp2_with fail
        go_meet
        exact ⟨rfl, rfl⟩
    case rest =>
    obtain ⟨rfl, rfl⟩ := hcut
    clear a0 a1 k0 k1 k2 HA9 HC9 HR4 HR8 HEB
    have d3 := below_cell (Below.refl _ w9) HQ9.out 3 rfl
    have e1 := below_cell (Below.refl _ w9) HN9.out 1 rfl
    have e2 := below_cell (Below.refl _ w9) HN9.out 2 rfl
    obtain ⟨iM, hi, hz0, hz1, hz2⟩ := info_parts infoRul
    have HSZ9 := Lib.hid (Nat.le_refl w9.heap.size)
    have HON := Lib.hid (World.ownsRow_nil w9 w9.heap.size 46 9)
    obtain ⟨BS, hBS⟩ : ∃ BS, w9.heap.size = BS := ⟨_, rfl⟩
    have HBS := Lib.hid hBS
    clear hBS
    go_wp2_with (first
      | (at_builtin; go_must (refine wpList_push_at _ _ 30 46 (news := [.string p.dflt, .int .u64 (p.data : Nat), .slice none 0 0, .int .i64 0, .slice none 0 0, .int .i64 0, .int .u64 0, .string ⟨#[]⟩, .int .u64 0]) HON.out HSZ9.out Try.underlying30 hi hz0 hz1 hz2 rfl (by decide) rfl rfl rfl rfl rfl (by intro u hu; simp only [List.mem_cons, List.not_mem_nil, or_false] at hu; rcases hu with rfl | rfl | rfl | rfl | rfl | rfl | rfl | rfl | rfl <;> rfl) ?c1 ?_)))
    case c1 => omega
    intro v' w10 own10 gr10 at10
    have own10' : w10.ownsRow w9.heap.size 46 9 v' 1 [.string p.dflt, .int .u64 (p.data : Nat), .slice none 0 0, .int .i64 0, .slice none 0 0, .int .i64 0, .int .u64 0, .string ⟨#[]⟩, .int .u64 0] := by first | exact own10 | simpa using own10
    obtain ⟨A10, c10, rfl, _⟩ := own_one HT.out.2.1 HT.out.2.2 own10'
    have hQlt := lt_of_block HQ9.out
    have hneQ : (Value.slice A10 1 c10).ownBlock ≠ some Q := fun e => by have := (own10'.lt Q e).1; omega
    have hQ9a := (heap_alloc_old w9 (.cells #[.string p.dflt, .int .u64 (p.data : Nat), .slice none 0 0, .int .i64 0, .slice none 0 0, .int .i64 0, .int .u64 0, .string ⟨#[]⟩, .int .u64 0] 46) hQlt).trans HQ9.out
    have hQ10 := (gr10.block Q (lt_of_block hQ9a) (fun e => by cases e)).trans hQ9a
    have hb10 := (HB9.out.alloc HB9.out.size (.cells #[.string p.dflt, .int .u64 (p.data : Nat), .slice none 0 0, .int .i64 0, .slice none 0 0, .int .i64 0, .int .u64 0, .string ⟨#[]⟩, .int .u64 0] 46)).grown gr10 (HB9.out.alloc HB9.out.size (.cells #[.string p.dflt, .int .u64 (p.data : Nat), .slice none 0 0, .int .i64 0, .slice none 0 0, .int .i64 0, .int .u64 0, .string ⟨#[]⟩, .int .u64 0] 46)).size (fun k hk => by cases hk)
    have z3 := below_cell (Below.refl _ w10) hQ10 3 rfl
    have f3 := block_frozen hQ10 3
    have HQ11 := Lib.hid (block_set hQ10 3 (.slice A10 1 c10))
    have HO11 := Lib.hid (own_put own10' hneQ 3 (.slice A10 1 c10))
    have HB11 := Lib.hid (hb10.setCell (p := ⟨Q, 3, none⟩) HQL.out.1 (.slice A10 1 c10))
    clear own10 own10' gr10 at10 hQlt hneQ hQ9a hQ10 hb10 d3 e1 e2 HB9 HN9 HQ9 HON HSZ9 HBS
    go_upto_region 11 with fail
    obtain ⟨w11, hw11⟩ : ∃ w11, w10.setCell ⟨Q, 3, none⟩ (.slice A10 1 c10) = w11 := ⟨_, rfl⟩
    rw [hw11] at HQ11 HO11 HB11 ⊢
    have hq11 : w11.heap[Q]? = some (.cells #[.string p.arch, .string p.dflt, .int .u64 (p.data : Nat), .slice A10 1 c10] 32 (0, 0)) := HQ11.out
    obtain ⟨_, _, hv, hrl⟩ := own_one HT.out.2.1 HT.out.2.2 HO11.out
    have hc11 := tyCheckF ⟨p.arch, p.dflt, p.data, [⟨p.dflt, p.data, [], cndZ⟩]⟩ (.agg #[.string p.arch, .string p.dflt, .int .u64 (p.data : Nat), .slice A10 1 c10]) w11 ⟨HT.out.1, HT.out.2.1, HT.out.2.2, _, rfl, hrl⟩ (fun m hm => by rw [List.mem_singleton.1 hm]; exact Nat.zero_le _)
    rw [err_one] at hc11
    have HC11 := Lib.hid hc11
    have d0 := below_cell (Below.refl _ w11) hq11 0 rfl
    have d1 := below_cell (Below.refl _ w11) hq11 1 rfl
    have d2 := below_cell (Below.refl _ w11) hq11 2 rfl
    have d3 := below_cell (Below.refl _ w11) hq11 3 rfl
    clear hw11 hq11 hv hrl hc11 z3 f3 HQ11 HO11
    go_wp2_with (first
      | (go_at_call 15; refine HC11.out.mono ?_; rintro e w12 ⟨⟨x2, y2, A12, m12, c12, rfl, _⟩, hb12⟩; have HB12 := Lib.hid (HB11.out.trans (hb12.mono HB11.out.size)))
      | (go_at_call 9; refine (HAL.out _).mono ?_; rintro e w13 ⟨rfl, hb13⟩))
    have hfin := (HB12.out.alloc HB12.out.size (.cells #[.int .u32 (x2 : Nat), .int .u32 (y2 : Nat), .slice A12 m12 c12] 38))
    have hfin2 := hfin.trans (hb13.mono hfin.size)
    first
    | (go_ret; exact ⟨by first | rfl | simp, hfin2⟩)
    | (refine bodyPost_ret (results_tmp rfl _ _ _) rfl ?_; exact ⟨by first | rfl | simp, hfin2⟩)
end Go.Proofs.Ytbcoooaoofbboaa.lawTypesBare
