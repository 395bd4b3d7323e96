/- The walk of TypesNots. -/
import Derived.Test.YtbcoooaoofbboaaTyAlive
import Derived.Test.YtbcoooaoofbboaaRef15M
import Derived.Test.YtbcoooaoofbboaaCnd5
namespace Go.Proofs.Ytbcoooaoofbboaa.lawTypesNots
open Go.RowKit Go.ChangeShapes Go.Deep
set_option linter.unusedVariables false

def notC (c : Cnd) : Cnd := .mk 3 [c] 0 0 ⟨#[]⟩ 0
def lessC : Cnd := .mk 4 [] 0 0 ⟨#[60]⟩ 0
def twoC (c : Cnd) : Cnd := .mk 1 [notC c, lessC] 0 0 ⟨#[]⟩ 0
mutual
theorem tests_size' : ∀ c : Cnd, c.tests ≤ c.size
  | .mk k kids _ _ _ _ => by
    rw [Cnd.tests, Cnd.size]
    have := testss_sizes' kids
    split <;> omega
theorem testss_sizes' : ∀ l : List Cnd, testss l ≤ sizes l
  | [] => Nat.le_refl _
  | k :: ks => by rw [testss, sizes]; have := tests_size' k; have := testss_sizes' ks; omega
end
theorem not_facts (c : Cnd) (h : c.size ≤ 90) : (notC c).right = c.right ∧ (twoC c).right = c.right ∧ (c.right = true → (notC c).testN = c.testN ∧ (twoC c).testN = c.testN + 1) := by
  have s1 : (notC c).size = 1 + c.size := by simp [notC, Cnd.size, sizes]
  have s2 : (twoC c).size = c.size + 3 := by simp [twoC, lessC, Cnd.size, sizes, s1]; omega
  have a1 : (notC c).alone = true := rfl
  have a2 : (twoC c).alone = true := rfl
  have a3 : lessC.fine = true := rfl
  have f1 : (notC c).fine = c.fine := by rw [Cnd.fine_eq, a1]; simp [notC, Cnd.kids, fines]
  have f2 : (twoC c).fine = c.fine := by rw [Cnd.fine_eq, a2]; simp [twoC, Cnd.kids, fines, f1, a3]
  have t1 : (notC c).tests = c.tests := by simp [notC, Cnd.tests, testss]
  have t2 : (twoC c).tests = c.tests + 1 := by simp [twoC, lessC, Cnd.tests, testss, t1]
  have r1 : (notC c).right = c.right := by unfold Cnd.right; rw [s1, f1, decide_eq_true (by omega), decide_eq_true (by omega)]
  have r2 : (twoC c).right = c.right := by unfold Cnd.right; rw [s2, f2, decide_eq_true (by omega), decide_eq_true (by omega)]
  refine ⟨r1, r2, fun hr => ⟨?_, ?_⟩⟩
  · unfold Cnd.testN; rw [r1, hr, t1]
  · unfold Cnd.testN; rw [r2, hr, t2]; rfl
set_option maxRecDepth 100000 in
set_option maxHeartbeats 8000000 in
theorem walk (v : Value) (c : Cnd) (w : World) (w0 : IsCnd w v c) :
    Calls Try.prog 6 #[v] w fun e w' => e = .returned (.bool true) ∧ Below w.heap.size w w' := by
  obtain ⟨hb, k, rfl, hk⟩ := id w0
  have hw1 := (Below.refl w.heap.size w).alloc (Nat.le_refl _) (.cells #[.int .i64 c.kind, k, .int .i64 c.arg, .int .u64 (c.mask : Nat), .string c.sign, .int .u64 (c.value : Nat)] 25)
  have hnw := heap_alloc_new w (.cells #[.int .i64 c.kind, k, .int .i64 c.arg, .int .u64 (c.mask : Nat), .string c.sign, .int .u64 (c.value : Nat)] 25)
  have hM := refMany_any c _ 90 _ (w0.below hw1) (by omega) (by omega)
  have hR := fun (c : Cnd) v u (hu : IsCnd u v c) => tyRight_any c v u hu
  have hT := fun (c : Cnd) v u (hu : IsCnd u v c) => tyTests_any c v u hu
  have HA := Lib.hid (fun u => tyAlive u)
  obtain ⟨ka, kn, kc, rfl, _⟩ := id hk
  have HM := Lib.hid hM; have HR := Lib.hid hR; have HT := Lib.hid hT; have HW1 := Lib.hid hw1; have HNW := Lib.hid hnw; have HC0 := Lib.hid w0; have HB := Lib.hid hb; have HK := Lib.hid hk
  clear hM hR hT hw1 hnw hb w0 hk
  show Calls _ _ #[.agg #[.int .i64 c.kind, .slice ka kn kc, .int .i64 c.arg, .int .u64 (c.mask : Nat), .string c.sign, .int .u64 (c.value : Nat)]] _ _
  obtain ⟨S, hS⟩ : ∃ S, c.size = S := ⟨_, rfl⟩
  rw [hS] at HM
  have HSS := Lib.hid hS
  clear hS
  go_enter Try.func6, Try.ntmps6
  go_wp2_with fail
  refine HM.out.mono ?_
  rintro e w2 ⟨rfl, hb2⟩
  have HX2 := Lib.hid hb2
  have HW2 := Lib.hid (HW1.out.trans (hb2.mono HW1.out.size))
  clear hb2 HM
  by_cases hs : 90 < S
  · have hmin : (90 : Int) < ((min S (90 + 1) : Nat) : Int) := by omega
    clear hs
    generalize min S (90 + 1) = M at *
    go_wp2_with fail
    refine (HA.out _).mono ?_
    rintro e w3 ⟨rfl, hb3⟩
    have HW3 := Lib.hid (HW2.out.trans (hb3.mono HW2.out.size))
    clear hb3
    go_wp2_with fail
    go_ret
    exact ⟨rfl, HW3.out⟩
  · have hmin : ¬ (90 : Int) < ((min S (90 + 1) : Nat) : Int) := by omega
    have hnf := not_facts c (by have := HSS.out; omega)
    clear hs HSS
    generalize min S (90 + 1) = M at *
    have q0 := below_cell HX2.out HNW.out 0 rfl
    have q1 := below_cell HX2.out HNW.out 1 rfl
    have q2 := below_cell HX2.out HNW.out 2 rfl
    have q3 := below_cell HX2.out HNW.out 3 rfl
    have q4 := below_cell HX2.out HNW.out 4 rfl
    have q5 := below_cell HX2.out HNW.out 5 rfl
    have hz1 := (Below.refl w2.heap.size w2).alloc (Nat.le_refl _) (.cells #[.int .i64 c.kind, .slice ka kn kc, .int .i64 c.arg, .int .u64 (c.mask : Nat), .string c.sign, .int .u64 (c.value : Nat)] 25)
    have hz2 := (Below.refl (w2.alloc (.cells #[.int .i64 c.kind, .slice ka kn kc, .int .i64 c.arg, .int .u64 (c.mask : Nat), .string c.sign, .int .u64 (c.value : Nat)] 25)).heap.size (w2.alloc (.cells #[.int .i64 c.kind, .slice ka kn kc, .int .i64 c.arg, .int .u64 (c.mask : Nat), .string c.sign, .int .u64 (c.value : Nat)] 25))).alloc (Nat.le_refl _) (.cells #[.int .i64 3, .slice (some ⟨w2.heap.size, 0, none⟩) 1 1, .int .i64 0, .int .u64 0, .string ⟨#[]⟩, .int .u64 0] 25)
    have hb4 := hz1.trans (hz2.mono hz1.size)
    have hk4 : IsCnds ((w2.alloc (.cells #[.int .i64 c.kind, .slice ka kn kc, .int .i64 c.arg, .int .u64 (c.mask : Nat), .string c.sign, .int .u64 (c.value : Nat)] 25)).alloc (.cells #[.int .i64 3, .slice (some ⟨w2.heap.size, 0, none⟩) 1 1, .int .i64 0, .int .u64 0, .string ⟨#[]⟩, .int .u64 0] 25)) (.slice (some ⟨w2.heap.size, 0, none⟩) 1 1) (notC c).kids := by
      have hkk := (HK.out.below (HW2.out.trans (hz1.mono HW2.out.size)))
      have hat := cndAt_block HB.out hkk (heap_alloc_new w2 (.cells (c.cells (.slice ka kn kc)).toArray 25))
      refine IsCnds.below ⟨_, 1, 1, rfl, rfl, by omega, by omega, fun h => (by cases h), .inr ⟨w2.heap.size, 0, rfl, by simp, ?_⟩⟩ hz2
      show KidsAt _ [c] _ _
      rw [KidsAt, KidsAt]
      exact ⟨hat, trivial⟩
    have hn4 := heap_alloc_new (w2.alloc (.cells #[.int .i64 c.kind, .slice ka kn kc, .int .i64 c.arg, .int .u64 (c.mask : Nat), .string c.sign, .int .u64 (c.value : Nat)] 25)) (.cells #[.int .i64 3, .slice (some ⟨w2.heap.size, 0, none⟩) 1 1, .int .i64 0, .int .u64 0, .string ⟨#[]⟩, .int .u64 0] 25)
    rw [World.size_alloc] at hn4
    have hs4 : ((w2.alloc (.cells #[.int .i64 c.kind, .slice ka kn kc, .int .i64 c.arg, .int .u64 (c.mask : Nat), .string c.sign, .int .u64 (c.value : Nat)] 25)).alloc (.cells #[.int .i64 3, .slice (some ⟨w2.heap.size, 0, none⟩) 1 1, .int .i64 0, .int .u64 0, .string ⟨#[]⟩, .int .u64 0] 25)).heap.size = w2.heap.size + 2 := by rw [World.size_alloc, World.size_alloc]
    go_upto_region 4 with fail
    generalize (w2.alloc (.cells #[.int .i64 c.kind, .slice ka kn kc, .int .i64 c.arg, .int .u64 (c.mask : Nat), .string c.sign, .int .u64 (c.value : Nat)] 25)).alloc (.cells #[.int .i64 3, .slice (some ⟨w2.heap.size, 0, none⟩) 1 1, .int .i64 0, .int .u64 0, .string ⟨#[]⟩, .int .u64 0] 25) = w4 at *
    clear hz1 hz2 q0 q1 q2 q3 q4 q5
    have hbn : (notC c).bounded := by unfold Cnd.bounded notC; simp only [Cnd.kind, Cnd.arg, Cnd.mask, Cnd.sign, Cnd.value]; refine ⟨by omega, by omega, by omega, by decide, by omega⟩
    have hbl : lessC.bounded := by unfold Cnd.bounded lessC; simp only [Cnd.kind, Cnd.arg, Cnd.mask, Cnd.sign, Cnd.value]; refine ⟨by omega, by omega, by omega, by decide, by omega⟩
    have hbt : (twoC c).bounded := by unfold Cnd.bounded twoC; simp only [Cnd.kind, Cnd.arg, Cnd.mask, Cnd.sign, Cnd.value]; refine ⟨by omega, by omega, by omega, by decide, by omega⟩
    have hz3 := (Below.refl w4.heap.size w4).alloc (Nat.le_refl _) (.cells #[.int .i64 3, .slice (some ⟨w2.heap.size, 0, none⟩) 1 1, .int .i64 0, .int .u64 0, .string ⟨#[]⟩, .int .u64 0, .int .i64 4, .slice none 0 0, .int .i64 0, .int .u64 0, .string ⟨#[60]⟩, .int .u64 0] 25)
    have hz4 := (Below.refl (w4.alloc (.cells #[.int .i64 3, .slice (some ⟨w2.heap.size, 0, none⟩) 1 1, .int .i64 0, .int .u64 0, .string ⟨#[]⟩, .int .u64 0, .int .i64 4, .slice none 0 0, .int .i64 0, .int .u64 0, .string ⟨#[60]⟩, .int .u64 0] 25)).heap.size (w4.alloc (.cells #[.int .i64 3, .slice (some ⟨w2.heap.size, 0, none⟩) 1 1, .int .i64 0, .int .u64 0, .string ⟨#[]⟩, .int .u64 0, .int .i64 4, .slice none 0 0, .int .i64 0, .int .u64 0, .string ⟨#[60]⟩, .int .u64 0] 25))).alloc (Nat.le_refl _) (.cells #[.int .i64 1, .slice (some ⟨w2.heap.size + 2, 0, none⟩) 2 2, .int .i64 0, .int .u64 0, .string ⟨#[]⟩, .int .u64 0] 25)
    have hb6 := hz3.trans (hz4.mono hz3.size)
    have hkn := heap_alloc_new w4 (.cells #[.int .i64 3, .slice (some ⟨w2.heap.size, 0, none⟩) 1 1, .int .i64 0, .int .u64 0, .string ⟨#[]⟩, .int .u64 0, .int .i64 4, .slice none 0 0, .int .i64 0, .int .u64 0, .string ⟨#[60]⟩, .int .u64 0] 25)
    have hk6 : IsCnds ((w4.alloc (.cells #[.int .i64 3, .slice (some ⟨w2.heap.size, 0, none⟩) 1 1, .int .i64 0, .int .u64 0, .string ⟨#[]⟩, .int .u64 0, .int .i64 4, .slice none 0 0, .int .i64 0, .int .u64 0, .string ⟨#[60]⟩, .int .u64 0] 25)).alloc (.cells #[.int .i64 1, .slice (some ⟨w2.heap.size + 2, 0, none⟩) 2 2, .int .i64 0, .int .u64 0, .string ⟨#[]⟩, .int .u64 0] 25)) (.slice (some ⟨w2.heap.size + 2, 0, none⟩) 2 2) (twoC c).kids := by
      rw [hs4] at hkn
      have hlt := lt_of_block hkn
      refine IsCnds.below ⟨_, 2, 2, rfl, rfl, by omega, by omega, fun h => (by cases h), .inr ⟨w2.heap.size + 2, 0, rfl, hlt, ?_⟩⟩ hz4
      show KidsAt _ [notC c, lessC] _ _
      rw [KidsAt, KidsAt, KidsAt]
      refine ⟨(cndAt_iff _ _ _ _).2 ⟨hbn, _, fun j u hu => ?_, hk4.below hz3⟩, (cndAt_iff _ _ _ _).2 ⟨hbl, .slice none 0 0, fun j u hu => ?_, ⟨none, 0, 0, rfl, rfl, by omega, by omega, fun _ => rfl, .inl rfl⟩⟩, trivial⟩
      · have hj : j < 6 := (List.getElem?_eq_some_iff.1 hu).1
        rw [cell_of_row _ _ _ _ _ _ hkn]
        have h6 : j = 0 ∨ j = 1 ∨ j = 2 ∨ j = 3 ∨ j = 4 ∨ j = 5 := by omega
        rcases h6 with rfl | rfl | rfl | rfl | rfl | rfl <;> exact hu
      · have hj : j < 6 := (List.getElem?_eq_some_iff.1 hu).1
        rw [cell_of_row _ _ _ _ _ _ hkn]
        have h6 : j = 0 ∨ j = 1 ∨ j = 2 ∨ j = 3 ∨ j = 4 ∨ j = 5 := by omega
        rcases h6 with rfl | rfl | rfl | rfl | rfl | rfl <;> exact hu
    have ht6 := heap_alloc_new (w4.alloc (.cells #[.int .i64 3, .slice (some ⟨w2.heap.size, 0, none⟩) 1 1, .int .i64 0, .int .u64 0, .string ⟨#[]⟩, .int .u64 0, .int .i64 4, .slice none 0 0, .int .i64 0, .int .u64 0, .string ⟨#[60]⟩, .int .u64 0] 25)) (.cells #[.int .i64 1, .slice (some ⟨w2.heap.size + 2, 0, none⟩) 2 2, .int .i64 0, .int .u64 0, .string ⟨#[]⟩, .int .u64 0] 25)
    rw [World.size_alloc, hs4] at ht6
    have hn6 := (hb6.block _ (lt_of_block hn4)).trans hn4
    have hI1 : IsCnd _ (.agg #[.int .i64 3, .slice (some ⟨w2.heap.size, 0, none⟩) 1 1, .int .i64 0, .int .u64 0, .string ⟨#[]⟩, .int .u64 0]) (notC c) := ⟨hbn, _, rfl, (hk4.below hb6)⟩
    have hI2 : IsCnd _ (.agg #[.int .i64 1, .slice (some ⟨w2.heap.size + 2, 0, none⟩) 2 2, .int .i64 0, .int .u64 0, .string ⟨#[]⟩, .int .u64 0]) (twoC c) := ⟨hbt, _, rfl, hk6⟩
    have n0 := below_cell (Below.refl _ _) hn4 0 rfl
    have n1 := below_cell (Below.refl _ _) hn4 1 rfl
    have n2 := below_cell (Below.refl _ _) hn4 2 rfl
    have n3 := below_cell (Below.refl _ _) hn4 3 rfl
    have n4 := below_cell (Below.refl _ _) hn4 4 rfl
    have n5 := below_cell (Below.refl _ _) hn4 5 rfl
    have HB6 := Lib.hid (hb4.trans (hb6.mono hb4.size)); have HN6 := Lib.hid hn6; have HT6 := Lib.hid ht6; have HI1 := Lib.hid hI1; have HI2 := Lib.hid hI2; have HS4 := Lib.hid hs4
    clear hz3 hz4 hb6 hkn hk6 ht6 hn6 hI1 hI2 hb4 hk4 hn4 hbn hbl hbt
    go_upto_region 5 with fail
    generalize (w4.alloc (.cells #[.int .i64 3, .slice (some ⟨w2.heap.size, 0, none⟩) 1 1, .int .i64 0, .int .u64 0, .string ⟨#[]⟩, .int .u64 0, .int .i64 4, .slice none 0 0, .int .i64 0, .int .u64 0, .string ⟨#[60]⟩, .int .u64 0] 25)).alloc (.cells #[.int .i64 1, .slice (some ⟨w2.heap.size + 2, 0, none⟩) 2 2, .int .i64 0, .int .u64 0, .string ⟨#[]⟩, .int .u64 0] 25) = w6 at *
    clear n0 n1 n2 n3 n4 n5
    have HAA := Lib.hid (HX2.out.trans (HB6.out.mono HX2.out.size))
    have HWW := Lib.hid (HW2.out.trans (HB6.out.mono HW2.out.size))
    have HC6 := Lib.hid (HC0.out.below HWW.out)
    have HY6 := Lib.hid (Below.refl w6.heap.size w6)
    have htb : c.testN ≤ 1000 := by
      by_cases hr : c.right = true
      · unfold Cnd.testN
        rw [hr]
        have := tests_size' c
        have h2 : c.size ≤ 100 := by unfold Cnd.right at hr; simp only [Bool.and_eq_true, decide_eq_true_eq] at hr; exact hr.1
        show c.tests ≤ 1000
        omega
      · unfold Cnd.testN
        rw [if_neg hr]
        omega
    have ht0 : c.right = false → c.testN = 0 := fun h => by unfold Cnd.testN; rw [h]; rfl
    obtain ⟨r1, r2, r3⟩ := hnf
    obtain ⟨T, hT⟩ : ∃ T, c.testN = T := ⟨_, rfl⟩
    obtain ⟨R, hR⟩ : ∃ R, c.right = R := ⟨_, rfl⟩
    have HTc := Lib.hid (fun u hu => by have := HT.out c (.agg #[.int .i64 c.kind, .slice ka kn kc, .int .i64 c.arg, .int .u64 (c.mask : Nat), .string c.sign, .int .u64 (c.value : Nat)]) u hu; rw [hT] at this; exact this)
    have HRc := Lib.hid (fun u hu => by have := HR.out c (.agg #[.int .i64 c.kind, .slice ka kn kc, .int .i64 c.arg, .int .u64 (c.mask : Nat), .string c.sign, .int .u64 (c.value : Nat)]) u hu; rw [hR] at this; exact this)
    have HRn := Lib.hid (fun u hu => by have := HR.out (notC c) (.agg #[.int .i64 3, .slice (some ⟨w2.heap.size, 0, none⟩) 1 1, .int .i64 0, .int .u64 0, .string ⟨#[]⟩, .int .u64 0]) u hu; rw [r1, hR] at this; exact this)
    have HRt := Lib.hid (fun u hu => by have := HR.out (twoC c) (.agg #[.int .i64 1, .slice (some ⟨w2.heap.size + 2, 0, none⟩) 2 2, .int .i64 0, .int .u64 0, .string ⟨#[]⟩, .int .u64 0]) u hu; rw [r2, hR] at this; exact this)
    have HTn := Lib.hid (fun (h : R = true) u hu => by have := HT.out (notC c) (.agg #[.int .i64 3, .slice (some ⟨w2.heap.size, 0, none⟩) 1 1, .int .i64 0, .int .u64 0, .string ⟨#[]⟩, .int .u64 0]) u hu; rw [(r3 (hR.trans h)).1, hT] at this; exact this)
    have HTt := Lib.hid (fun (h : R = true) u hu => by have := HT.out (twoC c) (.agg #[.int .i64 1, .slice (some ⟨w2.heap.size + 2, 0, none⟩) 2 2, .int .i64 0, .int .u64 0, .string ⟨#[]⟩, .int .u64 0]) u hu; rw [(r3 (hR.trans h)).2, hT] at this; exact this)
    rw [hT] at htb ht0
    rw [hR] at ht0
    have htbI : (T : Int) ≤ 1000 := by omega
    have HT0 := Lib.hid ht0
    clear hT hR r1 r2 r3 HT HR ht0 htb
    have c0 := below_cell (HAA.out.trans (HY6.out.mono HAA.out.size)) HNW.out 0 rfl
    have c1 := below_cell (HAA.out.trans (HY6.out.mono HAA.out.size)) HNW.out 1 rfl
    have c2 := below_cell (HAA.out.trans (HY6.out.mono HAA.out.size)) HNW.out 2 rfl
    have c3 := below_cell (HAA.out.trans (HY6.out.mono HAA.out.size)) HNW.out 3 rfl
    have c4 := below_cell (HAA.out.trans (HY6.out.mono HAA.out.size)) HNW.out 4 rfl
    have c5 := below_cell (HAA.out.trans (HY6.out.mono HAA.out.size)) HNW.out 5 rfl
    go_wp2_with fail
    refine (HTc.out _ HC6.out).mono ?_
    rintro e w7 ⟨rfl, hb7⟩
    have HY7 := Lib.hid (HY6.out.trans (hb7.mono HY6.out.size))
    clear hb7
    clear c0 c1 c2 c3 c4 c5
    have c0 := below_cell (HAA.out.trans (HY7.out.mono HAA.out.size)) HNW.out 0 rfl
    have c1 := below_cell (HAA.out.trans (HY7.out.mono HAA.out.size)) HNW.out 1 rfl
    have c2 := below_cell (HAA.out.trans (HY7.out.mono HAA.out.size)) HNW.out 2 rfl
    have c3 := below_cell (HAA.out.trans (HY7.out.mono HAA.out.size)) HNW.out 3 rfl
    have c4 := below_cell (HAA.out.trans (HY7.out.mono HAA.out.size)) HNW.out 4 rfl
    have c5 := below_cell (HAA.out.trans (HY7.out.mono HAA.out.size)) HNW.out 5 rfl
    go_upto_region 6 with fail
    go_wp2_with fail
    refine (HRc.out _ (HC6.out.below HY7.out)).mono ?_
    rintro e w8 ⟨rfl, hb8⟩
    have HY8 := Lib.hid (HY7.out.trans (hb8.mono HY7.out.size))
    clear hb8
    clear c0 c1 c2 c3 c4 c5
    cases R
    · obtain rfl := HT0.out rfl
      clear HTn HTt
      go_upto_region 7 with fail
      go_wp2_with fail
      refine (HA.out _).mono ?_
      rintro e w9 ⟨rfl, hb9⟩
      have HY9 := Lib.hid (HY8.out.trans (hb9.mono HY8.out.size))
      clear hb9
      have n0 := below_cell HY9.out HN6.out 0 rfl
      have n1 := below_cell HY9.out HN6.out 1 rfl
      have n2 := below_cell HY9.out HN6.out 2 rfl
      have n3 := below_cell HY9.out HN6.out 3 rfl
      have n4 := below_cell HY9.out HN6.out 4 rfl
      have n5 := below_cell HY9.out HN6.out 5 rfl
      go_wp2_with fail
      refine (HRn.out _ (HI1.out.below HY9.out)).mono ?_
      rintro e w10 ⟨rfl, hb10⟩
      have HY10 := Lib.hid (HY9.out.trans (hb10.mono HY9.out.size))
      clear hb10
      clear n0 n1 n2 n3 n4 n5
      have t0 := below_cell HY10.out HT6.out 0 rfl
      have t1 := below_cell HY10.out HT6.out 1 rfl
      have t2 := below_cell HY10.out HT6.out 2 rfl
      have t3 := below_cell HY10.out HT6.out 3 rfl
      have t4 := below_cell HY10.out HT6.out 4 rfl
      have t5 := below_cell HY10.out HT6.out 5 rfl
      go_wp2_with fail
      refine (HRt.out _ (HI2.out.below HY10.out)).mono ?_
      rintro e w11 ⟨rfl, hb11⟩
      have HY11 := Lib.hid (HY10.out.trans (hb11.mono HY10.out.size))
      clear hb11
      clear t0 t1 t2 t3 t4 t5
      go_wp2_with fail
      go_ret
      exact ⟨rfl, HWW.out.trans (HY11.out.mono HWW.out.size)⟩
    · clear HT0
      have HTn2 := Lib.hid (HTn.out rfl); have HTt2 := Lib.hid (HTt.out rfl)
      clear HTn HTt
      go_upto_region 8 with fail
      go_wp2_with fail
      refine (HA.out _).mono ?_
      rintro e w9 ⟨rfl, hb9⟩
      have HY9 := Lib.hid (HY8.out.trans (hb9.mono HY8.out.size))
      clear hb9
      have n0 := below_cell HY9.out HN6.out 0 rfl
      have n1 := below_cell HY9.out HN6.out 1 rfl
      have n2 := below_cell HY9.out HN6.out 2 rfl
      have n3 := below_cell HY9.out HN6.out 3 rfl
      have n4 := below_cell HY9.out HN6.out 4 rfl
      have n5 := below_cell HY9.out HN6.out 5 rfl
      go_wp2_with fail
      refine (HRn.out _ (HI1.out.below HY9.out)).mono ?_
      rintro e w10 ⟨rfl, hb10⟩
      have HY10 := Lib.hid (HY9.out.trans (hb10.mono HY9.out.size))
      clear hb10
      clear n0 n1 n2 n3 n4 n5
      have n0 := below_cell HY10.out HN6.out 0 rfl
      have n1 := below_cell HY10.out HN6.out 1 rfl
      have n2 := below_cell HY10.out HN6.out 2 rfl
      have n3 := below_cell HY10.out HN6.out 3 rfl
      have n4 := below_cell HY10.out HN6.out 4 rfl
      have n5 := below_cell HY10.out HN6.out 5 rfl
      go_wp2_with fail
      refine (HTn2.out _ (HI1.out.below HY10.out)).mono ?_
      rintro e w11 ⟨rfl, hb11⟩
      have HY11 := Lib.hid (HY10.out.trans (hb11.mono HY10.out.size))
      clear hb11
      clear n0 n1 n2 n3 n4 n5
      have t0 := below_cell HY11.out HT6.out 0 rfl
      have t1 := below_cell HY11.out HT6.out 1 rfl
      have t2 := below_cell HY11.out HT6.out 2 rfl
      have t3 := below_cell HY11.out HT6.out 3 rfl
      have t4 := below_cell HY11.out HT6.out 4 rfl
      have t5 := below_cell HY11.out HT6.out 5 rfl
      go_wp2_with fail
      refine (HRt.out _ (HI2.out.below HY11.out)).mono ?_
      rintro e w12 ⟨rfl, hb12⟩
      have HY12 := Lib.hid (HY11.out.trans (hb12.mono HY11.out.size))
      clear hb12
      clear t0 t1 t2 t3 t4 t5
      have t0 := below_cell HY12.out HT6.out 0 rfl
      have t1 := below_cell HY12.out HT6.out 1 rfl
      have t2 := below_cell HY12.out HT6.out 2 rfl
      have t3 := below_cell HY12.out HT6.out 3 rfl
      have t4 := below_cell HY12.out HT6.out 4 rfl
      have t5 := below_cell HY12.out HT6.out 5 rfl
      go_wp2_with fail
      refine (HTt2.out _ (HI2.out.below HY12.out)).mono ?_
      rintro e w13 ⟨rfl, hb13⟩
      have HY13 := Lib.hid (HY12.out.trans (hb13.mono HY12.out.size))
      clear hb13
      clear t0 t1 t2 t3 t4 t5
      go_wp2_with fail
      go_ret
      exact ⟨rfl, HWW.out.trans (HY13.out.mono HWW.out.size)⟩
end Go.Proofs.Ytbcoooaoofbboaa.lawTypesNots
