/- The walk of LexJoins. -/
import Derived.Test.YtpkpbohkdkmoiaaDoorLxE
import Derived.Test.YtpkpbohkdkmoiaaDoorLxD
import Derived.Laws.Tables
namespace Go.Proofs.YtpkpbohkdkmoiaaDoor.lawLexJoins
open Go.RowKit
set_option linter.unusedVariables false

theorem neqTk (K : Int) (X : ByteArray) (p : Int) (u : World) : (binOp .neq 34 (.agg #[.int .i64 K, .string X, .int .i64 p]) (.agg #[.int .i64 K, .string X, .int .i64 p])).run Tryd.prog u = .ok (.bool false) u := by
  have u3 := Tryd.underlying3
  have u9 := Tryd.underlying9
  have z3 := Tryd.sizeOf3
  have z9 := Tryd.sizeOf9
  go_simp
theorem below_row {w w' : World} {b j : Nat} {v : Value} (hb : Below w.heap.size w w') (hlt : b < w.heap.size) (h : w.cell? ⟨b, j, none⟩ = some v) : w'.cell? ⟨b, j, none⟩ = some v :=
  (hb.cell (p := ⟨b, j, none⟩) hlt).trans h
/-- a row's cells of one token -/
def C3 (w : World) (b i : Nat) (K : Int) (X : ByteArray) (p : Int) : Prop := w.cell? ⟨b, i * 3, none⟩ = some (.int .i64 K) ∧ w.cell? ⟨b, i * 3 + 1, none⟩ = some (.string X) ∧ w.cell? ⟨b, i * 3 + 2, none⟩ = some (.int .i64 p)
theorem C3.below {w w' : World} {b i : Nat} {K : Int} {X : ByteArray} {p : Int} (h : C3 w b i K X p) (hb : Below w.heap.size w w') (hlt : b < w.heap.size) : C3 w' b i K X p :=
  ⟨(hb.cell (p := ⟨b, i * 3, none⟩) hlt).trans h.1, (hb.cell (p := ⟨b, i * 3 + 1, none⟩) hlt).trans h.2.1, (hb.cell (p := ⟨b, i * 3 + 2, none⟩) hlt).trans h.2.2⟩
theorem row_c3 {w : World} {b : Nat} {L : List Tk} (h : ∀ i (h : i < L.length), w.cell? ⟨b, i * 3, none⟩ = some (.int .i64 L[i].kind) ∧ w.cell? ⟨b, i * 3 + 1, none⟩ = some (.string L[i].text) ∧ w.cell? ⟨b, i * 3 + 2, none⟩ = some (.int .i64 (L[i].pos : Int)))
    (i : Nat) (T : Tk) (hT : L[i]? = some T) : C3 w b i T.kind T.text T.pos := by
  obtain ⟨hi, e⟩ := List.getElem?_eq_some_iff.1 hT
  have := h i hi
  rw [e] at this
  exact this
theorem placed_pos {s : ByteArray} : ∀ (l : List Tk) (p : Nat), Placed s p l → ∀ T ∈ l, T.pos ≤ s.size := by
  intro l
  induction l with
  | nil => intro p _ T hT; cases hT
  | cons t r ih =>
    intro p h T hT
    obtain ⟨_, h2, h3, _, _, h6⟩ := h
    rcases List.mem_cons.1 hT with rfl | hT
    · omega
    · exact ih _ h6 T hT
theorem pairs {w : World} {b1 b2 b3 : Nat} {la lb : List Tk} {s t : ByteArray}
    (h1 : ∀ i T, (la ++ [endTk s])[i]? = some T → C3 w b1 i T.kind T.text T.pos)
    (h2 : ∀ i T, (lb ++ [endTk t])[i]? = some T → C3 w b2 i T.kind T.text T.pos)
    (h3 : ∀ i T, (la ++ [(⟨4, ⟨#[10]⟩, s.size⟩ : Tk)] ++ (lb ++ [endTk t]).map (·.at (s.size + 1)))[i]? = some T → C3 w b3 i T.kind T.text T.pos) (h4 : ∀ T ∈ lb, T.pos ≤ t.size) :
    (∀ j, j < la.length → ∃ K X p, C3 w b1 j K X p ∧ C3 w b3 j K X p) ∧ C3 w b3 la.length 4 ⟨#[10]⟩ s.size ∧
    (∀ j, j < lb.length + 1 → ∃ K X, ∃ p : Nat, p ≤ t.size ∧ C3 w b2 j K X p ∧ C3 w b3 (la.length + 1 + j) K X ((s.size + 1 + p : Nat) : Int)) := by
  refine ⟨fun j hj => ⟨_, _, _, h1 j la[j] ?_, h3 j la[j] ?_⟩, h3 la.length ⟨4, ⟨#[10]⟩, s.size⟩ ?_, fun j hj => ?_⟩
  · rw [List.getElem?_append_left hj, List.getElem?_eq_getElem hj]
  · rw [List.append_assoc, List.getElem?_append_left hj, List.getElem?_eq_getElem hj]
  · rw [List.append_assoc, List.getElem?_append_right (Nat.le_refl _)]; simp
  · have hlt : j < (lb ++ [endTk t]).length := by simp; omega
    have hps : (lb ++ [endTk t])[j].pos ≤ t.size := by
      rcases List.mem_append.1 (List.getElem_mem hlt) with h | h
      · exact h4 _ h
      · rw [List.mem_singleton.1 h]; exact Nat.le_refl _
    refine ⟨_, _, _, hps, h2 j _ (List.getElem?_eq_getElem hlt), h3 (la.length + 1 + j) (((lb ++ [endTk t])[j]).at (s.size + 1)) ?_⟩
    rw [List.getElem?_append_right (by simp)]
    simp only [List.length_append, List.length_singleton, Nat.add_sub_cancel_left, List.getElem?_map]
    rw [List.getElem?_eq_getElem (by simpa using hlt)]
    rfl
set_option maxRecDepth 100000 in
set_option maxHeartbeats 8000000 in
theorem walk (s0 t0 : ByteArray) (w : World) (w0 : s0.size ≤ maxLen) (w1 : t0.size ≤ maxLen) (hE : Errs w) :
    Calls Tryd.prog 7 #[.string s0, .string t0] w fun e w' => e = .returned (.bool true) ∧ Below w.heap.size w w' := by
  have hsI0 : (s0.size : Int) ≤ 9223372036854775807 := by unfold maxLen at w0; omega
  have htI0 : (t0.size : Int) ≤ 9223372036854775807 := by unfold maxLen at w1; omega
  obtain ⟨s, hS⟩ : ∃ s, s0.extract 0 (min (s0.size : Int) 900).toNat = s := ⟨_, rfl⟩
  obtain ⟨t, hT⟩ : ∃ t, t0.extract 0 (min (t0.size : Int) 900).toNat = t := ⟨_, rfl⟩
  have hss : s.size ≤ 900 := by rw [← hS, ByteArray.size_extract]; omega
  have hts : t.size ≤ 900 := by rw [← hT, ByteArray.size_extract]; omega
  have hsI : (s.size : Int) ≤ 900 := by omega
  have htI : (t.size : Int) ≤ 900 := by omega
  have HS := Lib.hid hS; have HT := Lib.hid hT
  clear hS hT
  have hEd : ∀ u : World, u.heap = w.heap → Errs u := by
    intro u hu
    obtain ⟨x1, x2, x3, x4, x5, x6⟩ := hE
    exact ⟨x1, x2, x3, x4, (World.cell?_of_block (a := ⟨1, 0, none⟩) (by rw [hu])).trans x5, (World.cell?_of_block (a := ⟨2, 0, none⟩) (by rw [hu])).trans x6⟩
  have HJ := Lib.hid (lexJoin s t hss hts)
  obtain ⟨U, hU⟩ : ∃ U, s ++ ⟨#[10]⟩ = U := ⟨_, rfl⟩
  obtain ⟨M, hM⟩ : ∃ M, s ++ ⟨#[10]⟩ ++ t = M := ⟨_, rfl⟩
  have hUs : U.size = s.size + 1 := by rw [← hU, ByteArray.size_append]; rfl
  have hMs : M.size = s.size + 1 + t.size := by rw [← hM, ByteArray.size_append, hU, hUs]
  have hadd1 := fun u => add_run (P := Tryd.prog) s ⟨#[10]⟩ U hU.symm (by show s.size + 1 ≤ _; omega) u
  have hadd2 := fun u => add_run (P := Tryd.prog) U t M (by rw [← hU]; exact hM.symm) (by omega) u
  rw [hM] at HJ
  have HG1 := Lib.hid (fun u hu => lxGot s u (by omega) hu)
  have HG2 := Lib.hid (fun u hu => lxGot t u (by omega) hu)
  have HG3 := Lib.hid (fun u hu => lxGot M u (by omega) hu)
  unfold LexGot at HG1 HG2 HG3
  have g1 := lexGood s
  have g2 := lexGood t
  have e60s := lexE_cases (s := s) (by omega)
  have e60t := lexE_cases (s := t) (by omega)
  clear hM hU
  generalize lexE s = ES at *
  generalize lexE t = ET at *
  generalize lexE M = EM at *
  generalize lexAt s = AS at *
  generalize lexAt t = AT at *
  generalize lexAt M = AM at *
  generalize lexToks s = TS at *
  generalize lexToks t = TT at *
  generalize hTM : lexToks M = TM at *
  clear hTM
  by_cases hs0 : ES = 0
  case neg =>
    obtain ⟨j1, j2, j3⟩ := HJ.out.2.1 hs0
    rw [if_neg hs0] at g1
    obtain rfl : ES = 60 := j2
    obtain rfl := j1
    have hAI : (AM : Int) ≤ (s.size : Int) + 1 + (t.size : Int) := by omega
    clear HJ g1 hs0 e60s
    rcases e60t with rfl | rfl
    all_goals
      clear g2
      go_enter Tryd.func7, Tryd.ntmps7
      go_wp2_with fail
      go_region
      rw [HS.out, HT.out]
      go_wp2_with fail
      refine (HG1.out _ (hEd _ (by rfl))).mono ?_
      rintro e w1 ⟨v1, rfl, h1, hb1⟩
      have hb1' : Below w.heap.size w w1 := (belowN (Below.refl _ w) _).trans hb1
      go_wp2_with fail
      refine (HG2.out _ (hE.keep hb1')).mono ?_
      rintro e w2 ⟨v2, rfl, h2, hb2⟩
      have hb2' := hb1'.trans (hb2.mono hb1'.size)
      go_wp2_with fail
      refine (HG3.out _ (hE.keep hb2')).mono ?_
      rintro e w3 ⟨v3, rfl, h3, hb3⟩
      have hb3' := hb2'.trans (hb3.mono hb2'.size)
      go_wp2_with fail
      refine (lxAlive _ (hE.keep hb3')).mono ?_
      rintro e w4 ⟨rfl, hb4⟩
      go_wp2_with fail
      go_ret
      exact ⟨rfl, hb3'.trans (hb4.mono hb3'.size)⟩
  obtain rfl := hs0
  by_cases ht0 : ET = 0
  case neg =>
    obtain ⟨j1, j2, j3⟩ := HJ.out.2.2 rfl ht0
    obtain rfl : ET = 60 := j2
    obtain rfl := j1
    have hAI : (AM : Int) ≤ (s.size : Int) + 1 + (t.size : Int) := by omega
    clear HJ g1 g2 ht0 e60t e60s
    go_enter Tryd.func7, Tryd.ntmps7
    go_wp2_with fail
    go_region
    rw [HS.out, HT.out]
    go_wp2_with fail
    refine (HG1.out _ (hEd _ (by rfl))).mono ?_
    rintro e w1 ⟨v1, rfl, h1, hb1⟩
    have hb1' : Below w.heap.size w w1 := (belowN (Below.refl _ w) _).trans hb1
    go_wp2_with fail
    refine (HG2.out _ (hE.keep hb1')).mono ?_
    rintro e w2 ⟨v2, rfl, h2, hb2⟩
    have hb2' := hb1'.trans (hb2.mono hb1'.size)
    go_wp2_with fail
    refine (HG3.out _ (hE.keep hb2')).mono ?_
    rintro e w3 ⟨v3, rfl, h3, hb3⟩
    have hb3' := hb2'.trans (hb3.mono hb2'.size)
    go_wp2_with fail
    refine (lxAlive _ (hE.keep hb3')).mono ?_
    rintro e w4 ⟨rfl, hb4⟩
    go_wp2_with fail
    go_ret
    exact ⟨rfl, hb3'.trans (hb4.mono hb3'.size)⟩
  obtain rfl := ht0
  obtain ⟨rfl, la, lb, rfl, rfl, rfl⟩ := HJ.out.1 rfl rfl
  have hpt : ∀ T ∈ lb, T.pos ≤ t.size := by
    rw [if_pos rfl] at g2
    obtain ⟨l, hl, hP⟩ := g2
    obtain rfl : lb = l := by simpa using hl
    exact placed_pos lb 0 hP
  have HPT := Lib.hid hpt
  clear HJ g1 g2 e60s e60t hpt
  go_enter Tryd.func7, Tryd.ntmps7
  go_wp2_with fail
  go_region
  rw [HS.out, HT.out]
  go_wp2_with fail
  refine (HG1.out _ (hEd _ (by rfl))).mono ?_
  rintro e w1 ⟨v1, rfl, h1, hb1⟩
  have hb1' : Below w.heap.size w w1 := (belowN (Below.refl _ w) _).trans hb1
  go_wp2_with fail
  refine (HG2.out _ (hE.keep hb1')).mono ?_
  rintro e w2 ⟨v2, rfl, h2, hb2⟩
  have hb2' := hb1'.trans (hb2.mono hb1'.size)
  go_wp2_with fail
  refine (HG3.out _ (hE.keep hb2')).mono ?_
  rintro e w3 ⟨v3, rfl, h3, hb3⟩
  have hb3' := hb2'.trans (hb3.mono hb2'.size)
  have h1' := (h1.below hb2).below (w' := w3) (by first | exact hb3 | exact (hb3.mono (Nat.le_refl _)))
  have h2' := h2.below hb3
  clear h1 h2
  obtain ⟨a1, c1, rfl, hc11, hc12, hat1⟩ := h1'
  obtain ⟨a2, c2, rfl, hc21, hc22, hat2⟩ := h2'
  obtain ⟨a3, c3, rfl, hc31, hc32, hat3⟩ := h3
  obtain ⟨N1, hN1⟩ : ∃ N, la.length + 1 = N := ⟨_, rfl⟩
  obtain ⟨N2, hN2⟩ : ∃ N, lb.length + 1 = N := ⟨_, rfl⟩
  have hl1 : (la ++ [endTk s]).length = N1 := by rw [← hN1]; simp
  have hl2 : (lb ++ [endTk t]).length = N2 := by rw [← hN2]; simp
  have hl3 : (la ++ [(⟨4, ⟨#[10]⟩, s.size⟩ : Tk)] ++ (lb ++ [endTk t]).map (·.at (s.size + 1))).length = N1 + N2 := by rw [← hN1, ← hN2]; simp; omega
  rcases hat1 with h0 | ⟨b1, rfl, hlt1, hat1⟩
  · omega
  rcases hat2 with h0 | ⟨b2, rfl, hlt2, hat2⟩
  · omega
  rcases hat3 with h0 | ⟨b3, rfl, hlt3, hat3⟩
  · omega
  obtain ⟨PA, PM, PB⟩ := pairs (row_c3 hat1) (row_c3 hat2) (row_c3 hat3) HPT.out
  rw [hN1] at PB
  rw [hN2] at PB
  obtain ⟨n1, hn1⟩ : ∃ n, la.length = n := ⟨_, rfl⟩
  rw [hn1] at PA PM hN1
  obtain ⟨N3, hN3⟩ : ∃ N, N1 + N2 = N := ⟨_, rfl⟩
  rw [hN3] at hl3
  rw [hl1] at hc11 ⊢
  rw [hl2] at hc21 ⊢
  rw [hl3] at hc31 ⊢
  have HPA := Lib.hid PA; have HPM := Lib.hid PM; have HPB := Lib.hid PB
  have HN1 := Lib.hid hN1; have HN3 := Lib.hid hN3
  have HB3 := Lib.hid hb3'
  have q1 : ((N1 : Int) == 0) = false := by rw [beq_eq_false_iff_ne]; omega
  have q2 : ((N2 : Int) == 0) = false := by rw [beq_eq_false_iff_ne]; omega
  have q3 : (N1 : Int) + (N2 : Int) = (N3 : Int) := by omega
  have q5 : (N1 : Int) - 1 = (n1 : Int) := by omega
  have hN1a : 0 < N1 := by omega
  have hN2a : 0 < N2 := by omega
  clear PA PM PB hat1 hat2 hat3 hN1 hN2 hN3 hl1 hl2 hl3 hn1 hb1 hb2 hb3 hb1' hb2' hb3'
  go_wp2_with fail
  go_loopw [106] (fun z wr => ∃ (j : Nat), z = .int .i64 j ∧ j ≤ N3 ∧ Hid (Below w3.heap.size w3 wr)) (fun z _ => N3 - (intOf z).toNat)
  case atStart => exact ⟨0, rfl, by omega, Lib.hid (Below.refl _ _)⟩
  case round =>
    obtain ⟨j, rfl, hj, HW⟩ := hrel
    by_cases hjn : j < N3
    case neg =>
      obtain rfl : j = N3 := by omega
      have HALL := Lib.hid (HB3.out.trans (HW.out.mono HB3.out.size))
      have HE2 := Lib.hid (hE.keep HALL.out)
      go_wp2_with fail
      refine (lxAlive _ HE2.out).mono ?_
      rintro e w7 ⟨rfl, hb7⟩
      go_wp2_with fail
      go_ret
      exact ⟨rfl, HALL.out.trans (hb7.mono HALL.out.size)⟩
    have hjI : (j : Int) < N3 := by omega
    have e1 := HN1.out
    have e3 := HN3.out
    obtain ⟨B5, hB5⟩ : ∃ B, wr.heap.size = B := ⟨_, rfl⟩
    have HB5 := Lib.hid hB5
    by_cases hj1 : j < n1
    · obtain ⟨K, X, p, f1, f3⟩ := HPA.out j hj1
      obtain ⟨f30, f31, f32⟩ := f3.below HW.out hlt3
      have hjn1 : (j : Int) < n1 := by omega
      have hjN1 : (j : Int) < N1 := by omega
      have hne := fun u => neqTk K X p u
      have hV1 := HW.out.alloc HW.out.size (.cells #[.int .i64 K, .string X, .int .i64 p] 34)
      have hV2 := hV1.alloc hV1.size (.cells #[.int .i64 4, .string ⟨#[10]⟩, .int .i64 s.size] 34)
      have h5 := (heap_alloc_old (wr.alloc (.cells #[.int .i64 K, .string X, .int .i64 p] 34)) (.cells #[.int .i64 4, .string ⟨#[10]⟩, .int .i64 s.size] 34) (by rw [World.size_alloc]; omega)).trans (heap_alloc_new wr (.cells #[.int .i64 K, .string X, .int .i64 p] 34))
      have h6 := heap_alloc_new (wr.alloc (.cells #[.int .i64 K, .string X, .int .i64 p] 34)) (.cells #[.int .i64 4, .string ⟨#[10]⟩, .int .i64 s.size] 34)
      rw [World.size_alloc, hB5] at h6
      rw [hB5] at h5
      have HV := Lib.hid hV2; have H5 := Lib.hid h5; have H6 := Lib.hid h6
      clear hV1 hV2 h5 h6 hB5 f3 e1 e3
      go_upto_region 14 with fail
      rw [HB5.out]
      generalize (wr.alloc (.cells #[.int .i64 K, .string X, .int .i64 p] 34)).alloc (.cells #[.int .i64 4, .string ⟨#[10]⟩, .int .i64 s.size] 34) = V at *
      obtain ⟨f10, f11, f12⟩ := f1.below HV.out hlt1
      have HZ5 := Lib.hid ((setRow_other V (B5 + 1) B5 #[.int .i64 K, .string X, .int .i64 p] (by omega)).trans H5.out)
      have HZ6 := Lib.hid (setRow_heap V (B5 + 1) _ #[.int .i64 K, .string X, .int .i64 p] _ _ H6.out)
      have HZB := Lib.hid (below_setRow HV.out (show w3.heap.size ≤ B5 + 1 by have := HB5.out; have := HW.out.size; omega) #[.int .i64 K, .string X, .int .i64 p])
      clear f30 f31 f32 f1
      go_upto_region 18 with (first | (refine wpList_store_row rfl 34 _ _ rfl (B5 + 1) #[.int .i64 K, .string X, .int .i64 p] rfl rfl 34 _ H6.out (by kernel_rfl) rfl (by simp [Value.oneCell']) ?_))
      generalize V.setRow (B5 + 1) #[.int .i64 K, .string X, .int .i64 p] = Z at *
      have x0 := below_cell (Below.refl _ Z) HZ5.out 0 rfl
      have x1 := below_cell (Below.refl _ Z) HZ5.out 1 rfl
      have x2 := below_cell (Below.refl _ Z) HZ5.out 2 rfl
      have y0 := below_cell (Below.refl _ Z) HZ6.out 0 rfl
      have y1 := below_cell (Below.refl _ Z) HZ6.out 1 rfl
      have y2 := below_cell (Below.refl _ Z) HZ6.out 2 rfl
      clear f10 f11 f12
      go_wp2_with fail
      go_roundw
      case rel => exact ⟨j + 1, by go_num, by omega, HZB⟩
      case measure => simp [intOf]; omega
    by_cases hj2 : j = n1
    · subst hj2
      obtain ⟨f30, f31, f32⟩ := HPM.out.below HW.out hlt3
      have hjN1 : (j : Int) < N1 := by omega
      have hne := fun u => neqTk 4 ⟨#[10]⟩ s.size u
      have hV1 := HW.out.alloc HW.out.size (.cells #[.int .i64 4, .string ⟨#[10]⟩, .int .i64 s.size] 34)
      have hV2 := hV1.alloc hV1.size (.cells #[.int .i64 4, .string ⟨#[10]⟩, .int .i64 s.size] 34)
      have h5 := (heap_alloc_old (wr.alloc (.cells #[.int .i64 4, .string ⟨#[10]⟩, .int .i64 s.size] 34)) (.cells #[.int .i64 4, .string ⟨#[10]⟩, .int .i64 s.size] 34) (by rw [World.size_alloc]; omega)).trans (heap_alloc_new wr (.cells #[.int .i64 4, .string ⟨#[10]⟩, .int .i64 s.size] 34))
      have h6 := heap_alloc_new (wr.alloc (.cells #[.int .i64 4, .string ⟨#[10]⟩, .int .i64 s.size] 34)) (.cells #[.int .i64 4, .string ⟨#[10]⟩, .int .i64 s.size] 34)
      rw [World.size_alloc, hB5] at h6
      rw [hB5] at h5
      have HV := Lib.hid hV2; have H5 := Lib.hid h5; have H6 := Lib.hid h6
      clear hV1 hV2 h5 h6 hB5 e1 e3
      go_upto_region 18 with fail
      rw [HB5.out]
      generalize (wr.alloc (.cells #[.int .i64 4, .string ⟨#[10]⟩, .int .i64 s.size] 34)).alloc (.cells #[.int .i64 4, .string ⟨#[10]⟩, .int .i64 s.size] 34) = Z at *
      have x0 := below_cell (Below.refl _ Z) H5.out 0 rfl
      have x1 := below_cell (Below.refl _ Z) H5.out 1 rfl
      have x2 := below_cell (Below.refl _ Z) H5.out 2 rfl
      have y0 := below_cell (Below.refl _ Z) H6.out 0 rfl
      have y1 := below_cell (Below.refl _ Z) H6.out 1 rfl
      have y2 := below_cell (Below.refl _ Z) H6.out 2 rfl
      clear f30 f31 f32
      go_wp2_with fail
      go_roundw
      case rel => exact ⟨j + 1, by go_num, by omega, HV⟩
      case measure => simp [intOf]; omega
    · obtain ⟨i, hi⟩ : ∃ i, j = N1 + i := ⟨j - N1, by omega⟩
      have hi2 : i < N2 := by omega
      obtain ⟨K, X, p, hpt, f2, f3⟩ := HPB.out i hi2
      rw [← hi] at f3
      obtain ⟨q, hq⟩ : ∃ q, s.size + 1 + p = q := ⟨_, rfl⟩
      rw [hq] at f3
      obtain ⟨f30, f31, f32⟩ := f3.below HW.out hlt3
      have hjn1 : (n1 : Int) ≤ j := by omega
      have hjN1 : (N1 : Int) ≤ j := by omega
      have hji : (j : Int) - (N1 : Int) = (i : Int) := by omega
      have hiI : (i : Int) < N2 := by omega
      have hpq : (p : Int) + ((s.size : Int) + 1) = (q : Int) := by omega
      have hqI : (q : Int) ≤ 2000 := by omega
      have hne := fun u => neqTk K X q u
      have hV1 := HW.out.alloc HW.out.size (.cells #[.int .i64 K, .string X, .int .i64 q] 34)
      have hV2 := hV1.alloc hV1.size (.cells #[.int .i64 4, .string ⟨#[10]⟩, .int .i64 s.size] 34)
      have h5 := (heap_alloc_old (wr.alloc (.cells #[.int .i64 K, .string X, .int .i64 q] 34)) (.cells #[.int .i64 4, .string ⟨#[10]⟩, .int .i64 s.size] 34) (by rw [World.size_alloc]; omega)).trans (heap_alloc_new wr (.cells #[.int .i64 K, .string X, .int .i64 q] 34))
      have h6 := heap_alloc_new (wr.alloc (.cells #[.int .i64 K, .string X, .int .i64 q] 34)) (.cells #[.int .i64 4, .string ⟨#[10]⟩, .int .i64 s.size] 34)
      rw [World.size_alloc, hB5] at h6
      rw [hB5] at h5
      have HV := Lib.hid hV2; have H5 := Lib.hid h5; have H6 := Lib.hid h6; have HI := Lib.hid hi; have HQ := Lib.hid hq
      clear hV1 hV2 h5 h6 hB5 f3 e1 e3 hi hq
      go_upto_region 16 with fail
      rw [HB5.out]
      generalize (wr.alloc (.cells #[.int .i64 K, .string X, .int .i64 q] 34)).alloc (.cells #[.int .i64 4, .string ⟨#[10]⟩, .int .i64 s.size] 34) = V at *
      obtain ⟨f20, f21, f22⟩ := f2.below HV.out hlt2
      have hsz : w3.heap.size ≤ B5 + 1 := by have := HB5.out; have := HW.out.size; omega
      have HZ5 := Lib.hid ((setRow_other V (B5 + 1) B5 #[.int .i64 K, .string X, .int .i64 p] (by omega)).trans H5.out)
      have HZ6 := Lib.hid (setRow_heap V (B5 + 1) _ #[.int .i64 K, .string X, .int .i64 p] _ _ H6.out)
      have HZB := Lib.hid (below_setRow HV.out hsz #[.int .i64 K, .string X, .int .i64 p])
      clear f30 f31 f32 f2
      go_upto_region 17 with (first | (refine wpList_store_row rfl 34 _ _ rfl (B5 + 1) #[.int .i64 K, .string X, .int .i64 p] rfl rfl 34 _ H6.out (by kernel_rfl) rfl (by simp [Value.oneCell']) ?_))
      generalize V.setRow (B5 + 1) #[.int .i64 K, .string X, .int .i64 p] = Z at *
      have y2 := below_cell (Below.refl _ Z) HZ6.out 2 rfl
      have yf := block_frozen HZ6.out 2
      have HT5 := Lib.hid ((Below.heap_setCell Z ⟨B5 + 1, 2, none⟩ (.int .i64 (q : Int)) B5 (by show B5 ≠ B5 + 1; omega)).trans HZ5.out)
      have HT6 := Lib.hid (block_set HZ6.out 2 (.int .i64 (q : Int)))
      have HTB := Lib.hid (HZB.out.setCell (p := ⟨B5 + 1, 2, none⟩) hsz (.int .i64 (q : Int)))
      clear f20 f21 f22
      go_upto_region 18 with fail
      generalize Z.setCell ⟨B5 + 1, 2, none⟩ (.int .i64 (q : Int)) = Y at *
      have x0 := below_cell (Below.refl _ Y) HT5.out 0 rfl
      have x1 := below_cell (Below.refl _ Y) HT5.out 1 rfl
      have x2 := below_cell (Below.refl _ Y) HT5.out 2 rfl
      have y0 := below_cell (Below.refl _ Y) HT6.out 0 rfl
      have y1 := below_cell (Below.refl _ Y) HT6.out 1 rfl
      have y3 := below_cell (Below.refl _ Y) HT6.out 2 rfl
      clear y2 yf
      go_wp2_with fail
      go_roundw
      case rel => exact ⟨j + 1, by go_num, by omega, HTB⟩
      case measure => simp [intOf]; omega
end Go.Proofs.YtpkpbohkdkmoiaaDoor.lawLexJoins
