/- doorwardlaw24.few. -/
import Derived.Test.YtmanlogclbbgaaaLnR
import Derived.Test.YtmanlogclbbgaaaOrdS
import Derived.Test.YtmanlogclbbgaaaResRow
namespace Go.Proofs.Ytmanlogclbbgaaa
open Go.RowKit
set_option linter.unusedVariables false
set_option linter.unusedSimpArgs false

theorem addr_zero (g k : Nat) : (⟨g, 0, none⟩ : Addr).add k = ⟨g, k, none⟩ := by rw [addr_add, Nat.zero_add]
set_option maxRecDepth 100000 in
set_option maxHeartbeats 4000000 in
theorem frFewR (r : Rp) (v : Value) (W0 w : World) (h : IsRp W0 v r) (hW0 : Below W0.heap.size W0 w) : Calls Try.prog 15 #[v] w fun e' w' => ∃ A4 c4 xs, e' = .returned ((fewR r).val (.slice A4 (fewL r.lines).length c4)) ∧ RowL W0 xs (fewL r.lines) ∧ w'.ownsRow (w.heap.size + 1 + 1) 66 3 (.slice A4 (fewL r.lines).length c4) (fewL r.lines).length xs ∧ Below w.heap.size w w' := by
  obtain ⟨hbd, k, rfl, hk⟩ := h
  obtain ⟨iI, hNI, hzI0, hzI1, hzI2⟩ := info_parts infoLn
  have hfv : ∀ k', (fewR r).val k' = .agg #[.int .i64 r.why, .int .i64 r.at_, .int .i64 r.no, .string (cutR r.source 2100), .int .i64 r.insns, .int .u32 r.action, k'] := fun _ => rfl
  have hs1 := hbd.2.2.2.1
  obtain ⟨s2, hs2⟩ : ∃ s2, cutR r.source 2100 = s2 := ⟨_, rfl⟩
  have hsx : s2 = r.source.extract 0 (min r.source.size 2100) := hs2.symm
  simp only [hfv]
  rw [hs2]
  clear hfv
  obtain ⟨why, at_, no, source, insns, action, l⟩ := r
  simp only [Rp.val] at *
  obtain ⟨a, cap, rfl, hc1, hc2⟩ := hk.form
  obtain ⟨n, hn⟩ : ∃ n, l.length = n := ⟨_, rfl⟩
  rw [hn] at hk hc1 ⊢
  have m1 : min source.size 2100 ≤ source.size := Nat.min_le_left _ _
  have i1 : min (source.size : Int) 2100 = ((min source.size 2100 : Nat) : Int) := by omega
  have j1 : (if (2100 : Int) < source.size then (2100 : Int) else source.size) = ((min source.size 2100 : Nat) : Int) := by split <;> omega
  generalize min source.size 2100 = n0 at *
  obtain ⟨p, hp, hp1, hp2, hp3⟩ := min_if n 12 (by omega)
  have hpp : min (n : Int) 12 = p := by omega
  have hpI : (p : Int) ≤ 12 := by omega
  have hpn : (p : Int) ≤ n := by omega
  have hp20 : l.take p = l.take 12 := by
    rw [hp3, show (12 : Int).toNat = 12 from rfl]
    by_cases hh : n ≤ 12
    · rw [Nat.min_eq_left hh, List.take_of_length_le (by omega), List.take_of_length_le (by omega)]
    · rw [Nat.min_eq_right (by omega)]
  obtain ⟨xs, hx1, hx2, hx3⟩ := lns_source hk p hp1
  have hpl : (l.take p).length = p := by rw [List.length_take]; omega
  obtain ⟨L, hL⟩ : ∃ L, l.take p = L := ⟨_, rfl⟩
  have hLp : L.length = p := by rw [← hL]; exact hpl
  have hF : fewL l = fewU L p := by unfold fewL fewU; rw [← hp20, hL, List.take_of_length_le (by omega), List.drop_eq_nil_of_le (by omega), List.append_nil]
  have HFL : Hid (fewL l = fewU L p ∧ (fewU L p).length = p) := Lib.hid ⟨hF, by rw [fewU_len]; exact hLp⟩
  rw [hF, fewU_len, hLp]
  rw [hL] at hx3 hpl
  have hxl : xs.length = p * 3 := by rw [hx3.1, hpl]
  have hnI : (n : Int) ≤ 9223372036854775807 := by omega
  have hcI : (n : Int) ≤ cap := by omega
  have hcapI : (cap : Int) ≤ 9223372036854775807 := by omega
  have HW0 := Lib.hid hW0; have HL := Lib.hid hk; have HXL := Lib.hid hxl; have HX1 := Lib.hid hx1; have HX2 := Lib.hid hx2; have HX3 := Lib.hid hx3; have HPL := Lib.hid hpl; have HSX := Lib.hid hsx
  have b0 := heap_alloc_new w (.cells #[.int .i64 why, .int .i64 at_, .int .i64 no, .string source, .int .i64 insns, .int .u32 action, .slice a n cap] 37)
  have HX : Hid (∀ u : World, u = (w.alloc (.cells #[.int .i64 why, .int .i64 at_, .int .i64 no, .string source, .int .i64 insns, .int .u32 action, .slice a n cap] 37)).alloc (.cells #[.int .i64 0, .int .i64 0, .int .i64 0, .string ⟨#[]⟩, .int .i64 0, .int .u32 0, .slice none 0 0] 37) →
      u.heap[w.heap.size]? = some (.cells #[.int .i64 why, .int .i64 at_, .int .i64 no, .string source, .int .i64 insns, .int .u32 action, .slice a n cap] 37 (0, 0)) ∧ u.heap[w.heap.size + 1]? = some (.cells #[.int .i64 0, .int .i64 0, .int .i64 0, .string ⟨#[]⟩, .int .i64 0, .int .u32 0, .slice none 0 0] 37 (0, 0)) ∧ Below w.heap.size w u ∧ u.heap.size = w.heap.size + 1 + 1) := Lib.hid (by
    rintro u rfl
    have e1 := heap_alloc_new (w.alloc (.cells #[.int .i64 why, .int .i64 at_, .int .i64 no, .string source, .int .i64 insns, .int .u32 action, .slice a n cap] 37)) (.cells #[.int .i64 0, .int .i64 0, .int .i64 0, .string ⟨#[]⟩, .int .i64 0, .int .u32 0, .slice none 0 0] 37)
    rw [World.size_alloc] at e1
    exact ⟨(heap_alloc_old _ _ (lt_of_block b0)).trans b0, e1, ((Below.refl w.heap.size w).alloc (Nat.le_refl _) _).alloc (by simp) _, by rw [World.size_alloc, World.size_alloc]⟩)
  clear hW0 hp20 hF hLp hxl hx1 hx2 hx3 hpl hp3 hL hk hn hc1 hc2 hs2 hsx hbd b0
  go_enter Try.func15, Try.ntmps15
  go_upto_region 1 with fail
  obtain ⟨u, hW⟩ : ∃ u, (w.alloc (.cells #[.int .i64 why, .int .i64 at_, .int .i64 no, .string source, .int .i64 insns, .int .u32 action, .slice a n cap] 37)).alloc (.cells #[.int .i64 0, .int .i64 0, .int .i64 0, .string ⟨#[]⟩, .int .i64 0, .int .u32 0, .slice none 0 0] 37) = u := ⟨_, rfl⟩
  rw [hW]
  obtain ⟨hA, hZ, hb, hz⟩ := HX.out u hW.symm
  clear hW HX
  have d3 := below_cell (Below.refl _ _) hA 3 rfl
  have f3 := block_frozen hA 3
  have hA1 := Lib.hid (block_set hA 3 (.string s2))
  have hZ1 := Lib.hid ((Below.heap_setCell u ⟨w.heap.size, 3, none⟩ (.string s2) (w.heap.size + 1) (by show w.heap.size + 1 ≠ w.heap.size; omega)).trans hZ)
  have hb1 := Lib.hid (hb.setCell (p := ⟨w.heap.size, 3, none⟩) (Nat.le_refl _) (.string s2))
  have hz1 : (u.setCell ⟨w.heap.size, 3, none⟩ (.string s2)).heap.size = w.heap.size + 1 + 1 := by rw [World.size_setCell]; exact hz
  have hsx := HSX.out
  go_upto_region 2 with fail
  rw [← HSX.out]
  clear d3 f3 hA hZ hb hz hsx i1 j1 m1
  obtain ⟨u1, hW⟩ : ∃ u1, u.setCell ⟨w.heap.size, 3, none⟩ (.string s2) = u1 := ⟨_, rfl⟩
  rw [hW] at hA1 hZ1 hb1 hz1 ⊢
  clear hW
  have hA1' : u1.heap[w.heap.size]? = some (.cells #[.int .i64 why, .int .i64 at_, .int .i64 no, .string s2, .int .i64 insns, .int .u32 action, .slice a n cap] 37 (0, 0)) := hA1.out
  have hown0 : (u1.alloc (.cells #[] 66)).ownsRow (w.heap.size + 1 + 1) 66 3 (.slice (some ⟨u1.heap.size, 0, none⟩) 0 0) 0 [] := by
    have := World.ownsRow_made (e := 66) (size := 3) (base := w.heap.size + 1 + 1) u1 #[] 0 (by omega) (by unfold maxLen; omega) rfl
    exact this
  have hA2 := (heap_alloc_old u1 (.cells #[] 66) (lt_of_block hA1')).trans hA1'
  have HZ2 := Lib.hid ((heap_alloc_old u1 (.cells #[] 66) (lt_of_block hZ1.out)).trans hZ1.out)
  have HB2 := Lib.hid (hb1.out.alloc hb1.out.size (.cells #[] 66))
  have hx2' : (a = none ∧ p = 0 ∧ cap = 0 ∧ xs = []) ∨ ∃ ad, a = some ad ∧ ∀ j u, xs[j]? = some u → (u1.alloc (.cells #[] 66)).cell? (ad.add j) = some u := by
    rcases HX2.out with h | ⟨ad, h1, h2⟩
    · exact .inl h
    · refine .inr ⟨ad, h1, fun j x hx => ?_⟩
      have := h2 j x hx
      have hlt := World.block_lt_of_cell? _ _ this
      exact ((HW0.out.trans (HB2.out.mono HW0.out.size)).cell (p := ad.add j) hlt).trans this
  have d6 := below_cell (Below.refl _ _) hA2 6 rfl
  have HA2 := Lib.hid hA2; have HOW := Lib.hid hown0; have HX2' := Lib.hid hx2'
  have hz2 : (u1.alloc (.cells #[] 66)).heap.size = w.heap.size + 1 + 1 + 1 := by rw [World.size_alloc, hz1]
  have HZ1 := Lib.hid hz1; have HZZ2 := Lib.hid hz2
  clear hx2' hA2 hown0 hA1 hA1' hZ1 hb1 HX2 hz1 hz2
  go_upto_region 3 with (first | (at_builtin; go_must (refine wpList_extend _ _ 35 66 (w0 := u1.alloc (.cells #[] 66)) xs HOW.out (Below.refl _ _) (by rw [HZZ2.out]; omega) Try.underlying35 hNI hzI0 hzI1 hzI2 rfl (by decide) rfl rfl rfl rfl HX2'.out HXL.out HX1.out ?c2 ?_)))
  case c2 => omega
  intro v4 w4 hown4 hb4
  have hown4 : w4.ownsRow (w.heap.size + 1 + 1) 66 3 v4 p xs := by simpa using hown4
  obtain ⟨A4, c4, rfl, hpc, hc4, hA4⟩ := own_formS hown4
  have hA5 := (hb4.block w.heap.size (by omega)).trans HA2.out
  have hZ5 := (hb4.block (w.heap.size + 1) (by omega)).trans HZ2.out
  have hB5 := HB2.out.trans (hb4.mono (by omega))
  have e6 := below_cell (Below.refl _ w4) hA5 6 rfl
  have f6 := block_frozen hA5 6
  have HA6 := Lib.hid (block_set hA5 6 (.slice A4 p c4))
  have HZ6 := Lib.hid ((Below.heap_setCell w4 ⟨w.heap.size, 6, none⟩ (.slice A4 p c4) (w.heap.size + 1) (by show w.heap.size + 1 ≠ w.heap.size; omega)).trans hZ5)
  have HO6 := Lib.hid (ownsRow_setCell_below (a := ⟨w.heap.size, 6, none⟩) hown4 (by show w.heap.size < w.heap.size + 1 + 1; omega) (.slice A4 p c4))
  have HB6 := Lib.hid (hB5.setCell (p := ⟨w.heap.size, 6, none⟩) (Nat.le_refl _) (.slice A4 p c4))
  have HA4 := Lib.hid hA4
  have hpcI : (p : Int) ≤ c4 := by omega
  clear hown4 hb4 hA4 hA5 hZ5 hB5 HOW HX2' HXL HX1 HA2 HZ2 HB2 d6 HZZ2 HZ1
  go_upto_region 3 with fail
  obtain ⟨w6, hW⟩ : ∃ w6, w4.setCell ⟨w.heap.size, 6, none⟩ (.slice A4 p c4) = w6 := ⟨_, rfl⟩
  rw [hW] at HA6 HZ6 HO6 HB6 ⊢
  clear hW e6 f6
  have hA6 : w6.heap[w.heap.size]? = some (.cells #[.int .i64 why, .int .i64 at_, .int .i64 no, .string s2, .int .i64 insns, .int .u32 action, .slice A4 p c4] 37 (0, 0)) := HA6.out
  have e6 := below_cell (Below.refl _ w6) hA6 6 rfl
  have HA7 := Lib.hid hA6
  clear HA6 hA6
  go_wp2_with fail
  go_loopw [26] (fun c wr => ∃ (i : Nat) (ys : List Value), i ≤ p ∧ c = .int .i64 i ∧ Hid (wr.heap[w.heap.size]? = some (.cells #[.int .i64 why, .int .i64 at_, .int .i64 no, .string s2, .int .i64 insns, .int .u32 action, .slice A4 p c4] 37 (0, 0))) ∧ Hid (wr.heap[w.heap.size + 1]? = some (.cells #[.int .i64 0, .int .i64 0, .int .i64 0, .string ⟨#[]⟩, .int .i64 0, .int .u32 0, .slice none 0 0] 37 (0, 0))) ∧ Hid (wr.ownsRow (w.heap.size + 1 + 1) 66 3 (.slice A4 p c4) p ys) ∧ Hid (RowL W0 ys (fewU L i)) ∧ Hid (Below w.heap.size w wr)) (fun c _ => p - (intOf c).toNat)
  case atStart => exact ⟨0, xs, Nat.zero_le _, rfl, HA7, HZ6, HO6, Lib.hid (by unfold fewU; exact HX3.out), HB6⟩
  case round =>
    clear HO6 HB6 HX3 HA7 HZ6 e6
    obtain ⟨i, ys, hip, rfl, HA, HZ, HO, HY, HW⟩ := hrel
    by_cases hlt : i < p
    · have hltI : (i : Int) < p := by omega
      obtain ⟨g, rfl⟩ := HA4.out (by omega)
      have hiL : i < L.length := by rw [HPL.out]; exact hlt
      have hset := HY.out.set i (by rw [fewU_len]; exact hiL)
      obtain ⟨hbd, y0, y1, k, y2, hk⟩ := HY.out.2 i (by rw [fewU_len]; exact hiL)
      have hsucc := fewU_succ L i hiL
      rw [fewU_get L i hiL] at hbd y0 y1 hk hset
      generalize L.getD i lnZ = e at *
      obtain ⟨name, cur, nos⟩ := e
      obtain ⟨va, vc, rfl, hmc, hcm⟩ := reads1_form hk
      obtain ⟨m, hm⟩ : ∃ m, nos.length = m := ⟨_, rfl⟩
      simp only at hbd y0 y1 hk hset hm y2
      simp only [hm] at hk y2 hmc
      obtain ⟨q, hq, hq1, hq2, hq3⟩ := min_if m 12 (by omega)
      have hqq : min (m : Int) 12 = q := by omega
      have hqm : (q : Int) ≤ m := by omega
      have hqI : (q : Int) ≤ 12 := by omega
      have htk : nos.take q = nos.take 12 := by
        rw [hq3, show (12 : Int).toNat = 12 from rfl]
        by_cases hh : m ≤ 12
        · rw [Nat.min_eq_left hh, List.take_of_length_le (by omega), List.take_of_length_le (by omega)]
        · rw [Nat.min_eq_right (by omega)]
      have hkq := reads1_take hk q hq1
      rw [htk] at hkq
      have hk2 := hset (cutR name 60) (.slice va q vc) (nos.take 12) hkq ⟨(by have := cutR_size name 60; simp only; omega), hbd.2.1, fun n hn => hbd.2.2 n (List.mem_of_mem_take hn)⟩
      have hsucc' : fewU L (i + 1) = (fewU L i).set i ⟨cutR name 60, cur, nos.take 12⟩ := hsucc
      rw [← hsucc'] at hk2
      have hnx : cutR name 60 = name.extract 0 (min name.size 60) := rfl
      have hnz := hbd.1
      have m1 : min name.size 60 ≤ name.size := Nat.min_le_left _ _
      have i1 : min (name.size : Int) 60 = ((min name.size 60 : Nat) : Int) := by omega
      have j1 : (if (60 : Int) < name.size then (60 : Int) else name.size) = ((min name.size 60 : Nat) : Int) := by split <;> omega
      generalize min name.size 60 = n1 at *
      rw [hnx] at hk2
      have hmcI : (m : Int) ≤ vc := by omega
      have hcmI : (vc : Int) ≤ 9223372036854775807 := by omega
      have hadd : ∀ j, (⟨g, 0, none⟩ : Addr).add j = ⟨g, j, none⟩ := fun j => by unfold Addr.add; split <;> simp_all
      have c0 := HO.out.cells (g := g) rfl _ _ y0
      have c1 := HO.out.cells (g := g) rfl _ _ y1
      have c2 := HO.out.cells (g := g) rfl _ _ y2
      rw [hadd] at c0 c1 c2
      have e6 := below_cell (Below.refl _ wr) HA.out 6 rfl
      have hgl : g < wr.heap.size := (HO.out.lt g rfl).2
      have hn := heap_alloc_new wr (.cells #[.string name, .int .i64 cur, .slice va m vc] 66)
      have hal := (Below.refl wr.heap.size wr).alloc (Nat.le_refl _) (.cells #[.string name, .int .i64 cur, .slice va m vc] 66)
      have ho2 := own_stay HO.out hal
      have HN := Lib.hid hn; have HK2 := Lib.hid hk2; have HO2 := Lib.hid ho2
      have HW2 := Lib.hid (HW.out.alloc HW.out.size (.cells #[.string name, .int .i64 cur, .slice va m vc] 66))
      have HAA := Lib.hid ((heap_alloc_old wr (.cells #[.string name, .int .i64 cur, .slice va m vc] 66) (lt_of_block HA.out)).trans HA.out)
      have HZZ := Lib.hid ((heap_alloc_old wr (.cells #[.string name, .int .i64 cur, .slice va m vc] 66) (lt_of_block HZ.out)).trans HZ.out)
      clear hset y0 y1 y2 hsucc hsucc' hm hq3 hk2 htk hkq hk hn hal ho2 hadd HO HY hbd hnx HA HZ
      go_upto_region 6 with fail
      obtain ⟨w5, hW⟩ : ∃ w5, wr.alloc (.cells #[.string name, .int .i64 cur, .slice va m vc] 66) = w5 := ⟨_, rfl⟩
      obtain ⟨V, hV⟩ : ∃ V, wr.heap.size = V := ⟨_, rfl⟩
      rw [hW] at HN HO2 HW2 HAA HZZ ⊢
      rw [hV] at HN hgl
      (try rw [hV])
      clear hW hV c0 c1 c2 e6
      have v0 := keep_at HN.out 0 rfl
      have v2 := keep_at HN.out 2 rfl
      have a6 := keep_at HAA.out 6 rfl
      have hCS : ∀ z : World, (∃ x : KeepT w5, z = x.val) → (z.cell? ⟨w.heap.size, 6, none⟩ = some (.slice (some ⟨g, 0, none⟩) p c4) ∧ z.cell? ⟨V, 0, none⟩ = some (.string name) ∧ z.cell? ⟨V, 2, none⟩ = some (.slice va m vc)) := fun z hz => by
        obtain ⟨x, rfl⟩ := hz
        exact ⟨a6 x, v0 x, v2 x⟩
      refine wp_region_ordS (fun i => decide (20 ≤ i)) (fun w' => ∃ x : KeepT w5, w' = x.val) (fun z => z.cell? ⟨w.heap.size, 6, none⟩ = some (.slice (some ⟨g, 0, none⟩) p c4) ∧ z.cell? ⟨V, 0, none⟩ = some (.string name) ∧ z.cell? ⟨V, 2, none⟩ = some (.slice va m vc)) (by kernel_rfl) ⟨⟨_, (Below.refl _ w5).drew⟩, rfl⟩ ?_
      refine ordS_held (i := 0) (v := .pointer (some ⟨w.heap.size, 6, none⟩)) rfl (by kernel_rfl) (by rfl) hCS (by kernel_rfl) (by kernel_rfl) (fun _ _ _ h => h) (by rfl) (fun w hSw => ?_) ?_
      · obtain ⟨s1, s2, s3⟩ := hSw
        go_simp
      try simp only [Act.put, List.setIfInBounds_toArray, List.set_cons_zero, List.set_cons_succ]
      refine ordS_held (i := 1) (v := .slice (some ⟨g, 0, none⟩) p c4) rfl (by kernel_rfl) (by rfl) hCS (by kernel_rfl) (by kernel_rfl) (fun _ _ _ h => h) (by rfl) (fun w hSw => ?_) ?_
      · obtain ⟨s1, s2, s3⟩ := hSw
        go_simp
      try simp only [Act.put, List.setIfInBounds_toArray, List.set_cons_zero, List.set_cons_succ]
      refine ordS_held (i := 2) (v := .int .i64 (i : Nat)) rfl (by kernel_rfl) (by rfl) hCS (by kernel_rfl) (by kernel_rfl) (fun _ _ _ h => h) (by rfl) (fun w hSw => ?_) ?_
      · obtain ⟨s1, s2, s3⟩ := hSw
        go_simp
      try simp only [Act.put, List.setIfInBounds_toArray, List.set_cons_zero, List.set_cons_succ]
      refine ordS_held (i := 3) (v := .pointer (some ⟨w.heap.size, 6, none⟩)) rfl (by kernel_rfl) (by rfl) hCS (by kernel_rfl) (by kernel_rfl) (fun _ _ _ h => h) (by rfl) (fun w hSw => ?_) ?_
      · obtain ⟨s1, s2, s3⟩ := hSw
        go_simp
      try simp only [Act.put, List.setIfInBounds_toArray, List.set_cons_zero, List.set_cons_succ]
      refine ordS_held (i := 4) (v := .slice (some ⟨g, 0, none⟩) p c4) rfl (by kernel_rfl) (by rfl) hCS (by kernel_rfl) (by kernel_rfl) (fun _ _ _ h => h) (by rfl) (fun w hSw => ?_) ?_
      · obtain ⟨s1, s2, s3⟩ := hSw
        go_simp
      try simp only [Act.put, List.setIfInBounds_toArray, List.set_cons_zero, List.set_cons_succ]
      refine ordS_held (i := 5) (v := .int .i64 (i : Nat)) rfl (by kernel_rfl) (by rfl) hCS (by kernel_rfl) (by kernel_rfl) (fun _ _ _ h => h) (by rfl) (fun w hSw => ?_) ?_
      · obtain ⟨s1, s2, s3⟩ := hSw
        go_simp
      try simp only [Act.put, List.setIfInBounds_toArray, List.set_cons_zero, List.set_cons_succ]
      refine ordS_held (i := 6) (v := .pointer (some ⟨V, 0, none⟩)) rfl (by kernel_rfl) (by rfl) hCS (by kernel_rfl) (by kernel_rfl) (fun _ _ _ h => h) (by rfl) (fun w hSw => ?_) ?_
      · obtain ⟨s1, s2, s3⟩ := hSw
        go_simp
      try simp only [Act.put, List.setIfInBounds_toArray, List.set_cons_zero, List.set_cons_succ]
      refine ordS_held (i := 7) (v := .string name) rfl (by kernel_rfl) (by rfl) hCS (by kernel_rfl) (by kernel_rfl) (fun _ _ _ h => h) (by rfl) (fun w hSw => ?_) ?_
      · obtain ⟨s1, s2, s3⟩ := hSw
        go_simp
      try simp only [Act.put, List.setIfInBounds_toArray, List.set_cons_zero, List.set_cons_succ]
      refine ordS_held (i := 8) (v := .pointer (some ⟨V, 0, none⟩)) rfl (by kernel_rfl) (by rfl) hCS (by kernel_rfl) (by kernel_rfl) (fun _ _ _ h => h) (by rfl) (fun w hSw => ?_) ?_
      · obtain ⟨s1, s2, s3⟩ := hSw
        go_simp
      try simp only [Act.put, List.setIfInBounds_toArray, List.set_cons_zero, List.set_cons_succ]
      refine ordS_held (i := 9) (v := .string name) rfl (by kernel_rfl) (by rfl) hCS (by kernel_rfl) (by kernel_rfl) (fun _ _ _ h => h) (by rfl) (fun w hSw => ?_) ?_
      · obtain ⟨s1, s2, s3⟩ := hSw
        go_simp
      try simp only [Act.put, List.setIfInBounds_toArray, List.set_cons_zero, List.set_cons_succ]
      refine ordS_held (i := 10) (v := .int .i64 (name.size : Nat)) rfl (by kernel_rfl) (by rfl) hCS (by kernel_rfl) (by kernel_rfl) (fun _ _ _ h => h) (by rfl) (fun w hSw => ?_) ?_
      · obtain ⟨s1, s2, s3⟩ := hSw
        go_simp
      try simp only [Act.put, List.setIfInBounds_toArray, List.set_cons_zero, List.set_cons_succ]
      refine ordS_held (i := 11) (v := .int .i64 (n1 : Nat)) rfl (by kernel_rfl) (by rfl) hCS (by kernel_rfl) (by kernel_rfl) (fun _ _ _ h => h) (by rfl) (fun w hSw => ?_) ?_
      · obtain ⟨s1, s2, s3⟩ := hSw
        go_simp
      try simp only [Act.put, List.setIfInBounds_toArray, List.set_cons_zero, List.set_cons_succ]
      refine ordS_held (i := 12) (v := .string (name.extract 0 n1)) rfl (by kernel_rfl) (by rfl) hCS (by kernel_rfl) (by kernel_rfl) (fun _ _ _ h => h) (by rfl) (fun w hSw => ?_) ?_
      · obtain ⟨s1, s2, s3⟩ := hSw
        go_simp
      try simp only [Act.put, List.setIfInBounds_toArray, List.set_cons_zero, List.set_cons_succ]
      refine ordS_held (i := 13) (v := .pointer (some ⟨V, 2, none⟩)) rfl (by kernel_rfl) (by rfl) hCS (by kernel_rfl) (by kernel_rfl) (fun _ _ _ h => h) (by rfl) (fun w hSw => ?_) ?_
      · obtain ⟨s1, s2, s3⟩ := hSw
        go_simp
      try simp only [Act.put, List.setIfInBounds_toArray, List.set_cons_zero, List.set_cons_succ]
      refine ordS_held (i := 14) (v := .slice va m vc) rfl (by kernel_rfl) (by rfl) hCS (by kernel_rfl) (by kernel_rfl) (fun _ _ _ h => h) (by rfl) (fun w hSw => ?_) ?_
      · obtain ⟨s1, s2, s3⟩ := hSw
        go_simp
      try simp only [Act.put, List.setIfInBounds_toArray, List.set_cons_zero, List.set_cons_succ]
      refine ordS_held (i := 15) (v := .pointer (some ⟨V, 2, none⟩)) rfl (by kernel_rfl) (by rfl) hCS (by kernel_rfl) (by kernel_rfl) (fun _ _ _ h => h) (by rfl) (fun w hSw => ?_) ?_
      · obtain ⟨s1, s2, s3⟩ := hSw
        go_simp
      try simp only [Act.put, List.setIfInBounds_toArray, List.set_cons_zero, List.set_cons_succ]
      refine ordS_held (i := 16) (v := .slice va m vc) rfl (by kernel_rfl) (by rfl) hCS (by kernel_rfl) (by kernel_rfl) (fun _ _ _ h => h) (by rfl) (fun w hSw => ?_) ?_
      · obtain ⟨s1, s2, s3⟩ := hSw
        go_simp
      try simp only [Act.put, List.setIfInBounds_toArray, List.set_cons_zero, List.set_cons_succ]
      refine ordS_held (i := 17) (v := .int .i64 (m : Nat)) rfl (by kernel_rfl) (by rfl) hCS (by kernel_rfl) (by kernel_rfl) (fun _ _ _ h => h) (by rfl) (fun w hSw => ?_) ?_
      · obtain ⟨s1, s2, s3⟩ := hSw
        go_simp
      try simp only [Act.put, List.setIfInBounds_toArray, List.set_cons_zero, List.set_cons_succ]
      refine ordS_held (i := 18) (v := .int .i64 (q : Nat)) rfl (by kernel_rfl) (by rfl) hCS (by kernel_rfl) (by kernel_rfl) (fun _ _ _ h => h) (by rfl) (fun w hSw => ?_) ?_
      · obtain ⟨s1, s2, s3⟩ := hSw
        go_simp
      try simp only [Act.put, List.setIfInBounds_toArray, List.set_cons_zero, List.set_cons_succ]
      refine ordS_held (i := 19) (v := .slice va q vc) rfl (by kernel_rfl) (by rfl) hCS (by kernel_rfl) (by kernel_rfl) (fun _ _ _ h => h) (by rfl) (fun w hSw => ?_) ?_
      · obtain ⟨s1, s2, s3⟩ := hSw
        (go_simp; intro hx; omega)
      try simp only [Act.put, List.setIfInBounds_toArray, List.set_cons_zero, List.set_cons_succ]
      refine ordS_tail (by kernel_rfl) (by kernel_rfl) ?_
      intro y hy
      have hA9 := (show y.heap[w.heap.size]? = _ from by obtain ⟨x, rfl⟩ := hy; exact (x.below.block _ (lt_of_block HAA.out)).trans HAA.out)
      have hV9 := (show y.heap[V]? = _ from by obtain ⟨x, rfl⟩ := hy; exact (x.below.block _ (lt_of_block HN.out)).trans HN.out)
      have hZ9 := (show y.heap[w.heap.size + 1]? = _ from by obtain ⟨x, rfl⟩ := hy; exact (x.below.block _ (lt_of_block HZZ.out)).trans HZZ.out)
      have hO9 := (show y.ownsRow (w.heap.size + 1 + 1) 66 3 (.slice (some ⟨g, 0, none⟩) p c4) p ys from by obtain ⟨x, rfl⟩ := hy; exact own_stay HO2.out x.below)
      have hB9 := (show Below w.heap.size w y from by obtain ⟨x, rfl⟩ := hy; exact HW2.out.trans (x.below.mono HW2.out.size))
      have hS9 := hCS y hy
      have hyl : ys.length = p * 3 := hO9.1
      have hg9 := hO9.lt g rfl
      clear hy v0 v2 a6 HAA HZZ HO2 HW2
      have hi3 : i * 3 < ys.length := by rw [hyl]; omega
      have hi4 : i * 3 + 2 < (ys.set (i * 3) (.string (name.extract 0 n1))).length := by rw [List.length_set, hyl]; omega
      have o1 := hO9.cells (g := g) rfl (i * 3) (ys[i * 3]'hi3) (List.getElem?_eq_getElem hi3)
      rw [addr_zero] at o1
      have f1 := hO9.frozenAt (i * 3)
      have hO10 := (hO9.stored (i * 3) (.string (name.extract 0 n1))).1
      have o2 := hO10.cells (g := g) rfl (i * 3 + 2) ((ys.set (i * 3) (.string (name.extract 0 n1)))[i * 3 + 2]'hi4) (List.getElem?_eq_getElem hi4)
      rw [addr_zero] at o2
      have f2 := hO10.frozenAt (i * 3 + 2)
      have HO11 := Lib.hid (hO10.stored (i * 3 + 2) (.slice va q vc)).1
      have hgA : w.heap.size ≠ g := by omega
      have hgZ : w.heap.size + 1 ≠ g := by omega
      have hgV : V ≠ g := by omega
      have hA10 := (Below.heap_setCell y ⟨g, i * 3, none⟩ (.string (name.extract 0 n1)) w.heap.size (by show w.heap.size ≠ g; omega)).trans hA9
      have hV10 := (Below.heap_setCell y ⟨g, i * 3, none⟩ (.string (name.extract 0 n1)) V (by show V ≠ g; omega)).trans hV9
      have hA11 := (Below.heap_setCell (y.setCell ⟨g, i * 3, none⟩ (.string (name.extract 0 n1))) ⟨g, i * 3 + 2, none⟩ (.slice va q vc) w.heap.size (by show w.heap.size ≠ g; omega)).trans hA10
      have hV11 := (Below.heap_setCell (y.setCell ⟨g, i * 3, none⟩ (.string (name.extract 0 n1))) ⟨g, i * 3 + 2, none⟩ (.slice va q vc) V (by show V ≠ g; omega)).trans hV10
      have HS10 := Lib.hid (And.intro (below_cell (Below.refl _ _) hA10 6 rfl) (And.intro (below_cell (Below.refl _ _) hV10 0 rfl) (below_cell (Below.refl _ _) hV10 2 rfl)))
      have HS11 := Lib.hid (And.intro (below_cell (Below.refl _ _) hA11 6 rfl) (And.intro (below_cell (Below.refl _ _) hV11 0 rfl) (below_cell (Below.refl _ _) hV11 2 rfl)))
      have HA11 := Lib.hid hA11
      have HZ11 := Lib.hid ((Below.heap_setCell (y.setCell ⟨g, i * 3, none⟩ (.string (name.extract 0 n1))) ⟨g, i * 3 + 2, none⟩ (.slice va q vc) (w.heap.size + 1) (by show w.heap.size + 1 ≠ g; omega)).trans ((Below.heap_setCell y ⟨g, i * 3, none⟩ (.string (name.extract 0 n1)) (w.heap.size + 1) (by show w.heap.size + 1 ≠ g; omega)).trans hZ9))
      have HB11 := Lib.hid ((hB9.setCell (p := ⟨g, i * 3, none⟩) (show w.heap.size ≤ g by omega) (.string (name.extract 0 n1))).setCell (p := ⟨g, i * 3 + 2, none⟩) (show w.heap.size ≤ g by omega) (.slice va q vc))
      clear hO9 hO10 hA9 hZ9 hB9 hA10 hA11 hV9 hV10 hV11
      refine wpAnyH_take (i := 20) (v := .pointer (some ⟨g, i * 3, none⟩)) rfl (by kernel_rfl) (by kernel_rfl) (by kernel_rfl) (fun _ _ _ h => h) (Or.inl ⟨by rfl, fun w hSw => ?_⟩) hS9 ?_
      · go_simp
      try simp only [Act.put, List.setIfInBounds_toArray, List.set_cons_zero, List.set_cons_succ]
      refine wpAnyH_take (i := 21) (v := .pointer (some ⟨g, i * 3, none⟩)) rfl (by kernel_rfl) (by kernel_rfl) (by kernel_rfl) (fun _ _ _ h => h) (Or.inl ⟨by rfl, fun w hSw => ?_⟩) hS9 ?_
      · go_simp
      try simp only [Act.put, List.setIfInBounds_toArray, List.set_cons_zero, List.set_cons_succ]
      refine heldOne (i := 22) rfl (by kernel_rfl) (by rfl) (fun K hK => ?_)
      have HK := Lib.hid hK
      clear hK
      go_simp
      refine HK.out _ _ HS10.out ?_
      clear HK K
      try simp only [Act.put, List.setIfInBounds_toArray, List.set_cons_zero, List.set_cons_succ]
      refine wpAnyH_take (i := 23) (v := .pointer (some ⟨g, i * 3, none⟩)) rfl (by kernel_rfl) (by kernel_rfl) (by kernel_rfl) (fun _ _ _ h => h) (Or.inl ⟨by rfl, fun w hSw => ?_⟩) HS10.out ?_
      · go_simp
      try simp only [Act.put, List.setIfInBounds_toArray, List.set_cons_zero, List.set_cons_succ]
      refine wpAnyH_take (i := 24) (v := .pointer (some ⟨g, i * 3 + 2, none⟩)) rfl (by kernel_rfl) (by kernel_rfl) (by kernel_rfl) (fun _ _ _ h => h) (Or.inl ⟨by rfl, fun w hSw => ?_⟩) HS10.out ?_
      · go_simp
      try simp only [Act.put, List.setIfInBounds_toArray, List.set_cons_zero, List.set_cons_succ]
      refine heldOne (i := 25) rfl (by kernel_rfl) (by rfl) (fun K hK => ?_)
      have HK := Lib.hid hK
      clear hK
      go_simp
      refine HK.out _ _ HS11.out ?_
      clear HK K
      try simp only [Act.put, List.setIfInBounds_toArray, List.set_cons_zero, List.set_cons_succ]
      refine wpAnyH_done (by kernel_rfl) ?_ _
      go_upto_region 7 with fail
      obtain ⟨z, hz⟩ : ∃ z, (y.setCell ⟨g, i * 3, none⟩ (.string (name.extract 0 n1))).setCell ⟨g, i * 3 + 2, none⟩ (.slice va q vc) = z := ⟨_, rfl⟩
      rw [hz] at HO11 HA11 HZ11 HB11 ⊢
      clear hz o1 o2 f1 f2
      go_wp2_with fail
      go_roundw
      case rel => exact ⟨i + 1, _, by omega, by go_num, HA11, HZ11, HO11, HK2, HB11⟩
      case measure => simp [intOf]; omega
    · obtain rfl : i = p := by omega
      have hnl : ¬ (i : Int) < i := by omega
      have a0 := below_cell (Below.refl _ wr) HA.out 0 rfl
      have a1 := below_cell (Below.refl _ wr) HA.out 1 rfl
      have a2 := below_cell (Below.refl _ wr) HA.out 2 rfl
      have a3 := below_cell (Below.refl _ wr) HA.out 3 rfl
      have a4 := below_cell (Below.refl _ wr) HA.out 4 rfl
      have a5 := below_cell (Below.refl _ wr) HA.out 5 rfl
      have a6 := below_cell (Below.refl _ wr) HA.out 6 rfl
      have HS := Lib.hid (setRow_heap wr (w.heap.size + 1) _ #[.int .i64 why, .int .i64 at_, .int .i64 no, .string s2, .int .i64 insns, .int .u32 action, .slice A4 i c4] _ _ HZ.out)
      have hsr : Below wr.heap.size wr (wr.setRow (w.heap.size + 1) #[.int .i64 why, .int .i64 at_, .int .i64 no, .string s2, .int .i64 insns, .int .u32 action, .slice A4 i c4]) ∨ True := .inr trivial
      have hrow : (wr.setRow (w.heap.size + 1) #[.int .i64 why, .int .i64 at_, .int .i64 no, .string s2, .int .i64 insns, .int .u32 action, .slice A4 i c4]).ownsRow (w.heap.size + 1 + 1) 66 3 (.slice A4 i c4) i ys := HO.out.kept (row := some (w.heap.size + 1)) ⟨rfl, rfl, rfl, by rw [setRow_size]; exact Nat.le_refl _, fun k _ hk => setRow_other wr (w.heap.size + 1) k _ (fun e => hk (by rw [e]))⟩ (.inr (fun e => absurd (HO.out.lt _ e).1 (by omega)))
      have HF := Lib.hid (below_setRow HW.out (show w.heap.size ≤ w.heap.size + 1 by omega) #[.int .i64 why, .int .i64 at_, .int .i64 no, .string s2, .int .i64 insns, .int .u32 action, .slice A4 i c4])
      have HRW := Lib.hid hrow
      have HYY := HY
      have hZ := HZ.out
      clear hrow hsr HA HZ HO HY HW
      go_wp2_with (first | (refine wpList_store_row rfl 37 _ _ rfl (w.heap.size + 1) #[.int .i64 why, .int .i64 at_, .int .i64 no, .string s2, .int .i64 insns, .int .u32 action, .slice A4 i c4] rfl rfl 37 _ hZ (by kernel_rfl) rfl (by simp [Value.oneCell']) ?_))
      refine bodyPost_ret (results_cell_row rfl _ _ (w.heap.size + 1) _ _ _ _ rfl HS.out Try.underlying37 rfl (by kernel_rfl)) rfl ⟨A4, c4, by rfl, ys, HYY.out, HRW.out, HF.out⟩
theorem frFew (r : Rp) (v : Value) (w : World) (h : IsRp w v r) : Calls Try.prog 15 #[v] w fun e' w' => ∃ v', e' = .returned v' ∧ IsRp w' v' (fewR r) ∧ Below w.heap.size w w' := by
  have hbd := h.1
  have hrb : (fewR r).bounded := ⟨hbd.1, hbd.2.1, hbd.2.2.1, (by have := cutR_size r.source 2100; show (cutR r.source 2100).size ≤ _; omega), hbd.2.2.2.2⟩
  refine (frFewR r v w w h (Below.refl _ _)).mono ?_
  rintro e' w' ⟨A4, c4, xs, rfl, h1, h2, h3⟩
  exact ⟨_, rfl, ⟨hrb, _, rfl, h1.reads h2 rfl h3⟩, h3⟩
end Go.Proofs.Ytmanlogclbbgaaa
