/- The reference's row of numbers, with one more. -/
import Derived.Test.YtbcoooaoofbboaaPo5
import Derived.Outline
namespace Go.Proofs.Ytbcoooaoofbboaa
open Go.RowKit Go.ChangeShapes Go.Sort
set_option linter.unusedVariables false
set_option linter.unusedSimpArgs false

def addF (n : Nat) : List Nat → Bool → List Nat
  | [], put => if put = true then [] else [n]
  | x :: l, put => (if put = false ∧ n ≤ x then [n] else []) ++ ((if x = n then [] else [x]) ++ addF n l (put || decide (n ≤ x)))
theorem addF_mem (n : Nat) : ∀ (l : List Nat) (put : Bool) (y : Nat), y ∈ addF n l put ↔ (y ∈ l ∧ y ≠ n) ∨ (y = n ∧ put = false)
  | [], put, y => by
    unfold addF
    cases put <;> simp
  | x :: l, put, y => by
    rw [addF, List.mem_append, List.mem_append, addF_mem n l]
    by_cases h1 : n ≤ x
    · rw [decide_eq_true h1]
      cases put
      · by_cases h2 : x = n
        · subst h2
          simp
          constructor
          · rintro (h | ⟨h, h'⟩)
            · exact .inr h
            · exact .inl ⟨.inr h, h'⟩
          · rintro (⟨h | h, h'⟩ | h)
            · exact absurd h h'
            · exact .inr ⟨h, h'⟩
            · exact .inl h
        · simp [h1, h2]
          constructor
          · rintro (h | h | ⟨h, h'⟩)
            · exact .inr h
            · subst h; exact .inl ⟨.inl rfl, h2⟩
            · exact .inl ⟨.inr h, h'⟩
          · rintro (⟨h | h, h'⟩ | h)
            · exact .inr (.inl h)
            · exact .inr (.inr ⟨h, h'⟩)
            · exact .inl h
      · by_cases h2 : x = n
        · subst h2
          simp
          intro h h3
          exact absurd h3 h
        · simp [h2]
          constructor
          · rintro (h | ⟨h, h'⟩)
            · subst h; exact ⟨.inl rfl, h2⟩
            · exact ⟨.inr h, h'⟩
          · rintro ⟨h | h, h'⟩
            · exact .inl h
            · exact .inr ⟨h, h'⟩
    · rw [decide_eq_false h1]
      have h2 : x ≠ n := by omega
      cases put
      · simp [h1, h2]
        constructor
        · rintro (h | ⟨h, h'⟩ | h)
          · subst h; exact .inl ⟨.inl rfl, h2⟩
          · exact .inl ⟨.inr h, h'⟩
          · exact .inr h
        · rintro (⟨h | h, h'⟩ | h)
          · exact .inl h
          · exact .inr (.inl ⟨h, h'⟩)
          · exact .inr (.inr h)
      · simp [h2]
        constructor
        · rintro (h | ⟨h, h'⟩)
          · subst h; exact ⟨.inl rfl, h2⟩
          · exact ⟨.inr h, h'⟩
        · rintro ⟨h | h, h'⟩
          · exact .inl h
          · exact .inr ⟨h, h'⟩
theorem addF_strict (n : Nat) : ∀ (l : List Nat) (put : Bool), l.Pairwise (· < ·) → (put = true → ∀ y ∈ l, n < y) → (addF n l put).Pairwise (· < ·)
  | [], put, _, _ => by unfold addF; cases put <;> simp
  | x :: l, put, h, hp => by
    rw [List.pairwise_cons] at h
    rw [addF]
    by_cases h1 : n ≤ x
    · rw [decide_eq_true h1, Bool.or_true]
      have ih := addF_strict n l true h.2 (fun _ y hy => by have := h.1 y hy; omega)
      have hx : ∀ y ∈ addF n l true, x < y := fun y hy => by
        rcases (addF_mem n l true y).1 hy with ⟨hy, _⟩ | ⟨_, hy⟩
        · exact h.1 y hy
        · cases hy
      have h2 : ((if x = n then [] else [x]) ++ addF n l true).Pairwise (· < ·) := by
        by_cases e : x = n
        · rw [if_pos e]; exact ih
        · rw [if_neg e]; exact List.pairwise_cons.2 ⟨hx, ih⟩
      cases put
      · rw [if_pos ⟨rfl, h1⟩]
        refine List.pairwise_cons.2 ⟨fun y hy => ?_, h2⟩
        replace hy : y ∈ (if x = n then [] else [x]) ++ addF n l true := hy
        rcases List.mem_append.1 hy with hy | hy
        · by_cases e : x = n
          · rw [if_pos e] at hy; cases hy
          · rw [if_neg e] at hy; have := List.mem_singleton.1 hy; omega
        · have := hx y hy; omega
      · rw [if_neg (by simp)]
        exact h2
    · rw [decide_eq_false h1, Bool.or_false, if_neg (by omega), if_neg (by omega), List.nil_append]
      refine List.pairwise_cons.2 ⟨fun y hy => ?_, addF_strict n l put h.2 (fun e y hy => hp e y (List.mem_cons_of_mem _ hy))⟩
      rcases (addF_mem n l put y).1 hy with ⟨hy, _⟩ | ⟨hy, _⟩
      · exact h.1 y hy
      · omega
theorem strictN_unique : ∀ (a b : List Nat), a.Pairwise (· < ·) → b.Pairwise (· < ·) → (∀ x, x ∈ a ↔ x ∈ b) → a = b
  | [], [], _, _, _ => rfl
  | [], y :: b, _, _, h => absurd ((h y).2 List.mem_cons_self) (by simp)
  | x :: a, [], _, _, h => absurd ((h x).1 List.mem_cons_self) (by simp)
  | x :: a, y :: b, ha, hb, h => by
    rw [List.pairwise_cons] at ha hb
    have hxy : x = y := by
      rcases List.mem_cons.1 ((h x).1 List.mem_cons_self) with e | e
      · exact e
      · rcases List.mem_cons.1 ((h y).2 List.mem_cons_self) with e2 | e2
        · exact e2.symm
        · have := hb.1 x e; have := ha.1 y e2; omega
    subst hxy
    rw [strictN_unique a b ha.2 hb.2 fun z => ?_]
    constructor
    · intro hz
      rcases List.mem_cons.1 ((h z).1 (List.mem_cons_of_mem _ hz)) with e | e
      · subst e; exact absurd (ha.1 _ hz) (by omega)
      · exact e
    · intro hz
      rcases List.mem_cons.1 ((h z).2 (List.mem_cons_of_mem _ hz)) with e | e
      · subst e; exact absurd (hb.1 _ hz) (by omega)
      · exact e
theorem addF_nrsU (n : Nat) (xs : List Nat) : addF n (nrsU xs) false = nrsU (xs ++ [n]) := by
  refine strictN_unique _ _ (addF_strict n _ false (nrsU_strict _) (fun h => by cases h)) (nrsU_strict _) fun y => ?_
  rw [addF_mem, nrsU_mem, nrsU_mem, List.mem_append, List.mem_singleton]
  constructor
  · rintro (⟨h, _⟩ | ⟨h, _⟩)
    · exact .inl h
    · exact .inr h
  · rintro (h | h)
    · by_cases e : y = n
      · exact .inr ⟨e, rfl⟩
      · exact .inl ⟨h, e⟩
    · exact .inr ⟨h, rfl⟩
theorem addF_len (n : Nat) : ∀ (l : List Nat) (put : Bool), (addF n l put).length ≤ 2 * l.length + 1
  | [], put => by unfold addF; cases put <;> simp
  | x :: l, put => by
    have := addF_len n l (put || decide (n ≤ x))
    rw [addF, List.length_append, List.length_append, List.length_cons]
    have h1 : (if put = false ∧ n ≤ x then [n] else ([] : List Nat)).length ≤ 1 := by split <;> simp
    have h2 : (if x = n then ([] : List Nat) else [x]).length ≤ 1 := by split <;> simp
    omega
theorem own_u32sP {w : World} {base : Nat} {A : Option Addr} {c k : Nat} {L : List Nat} (h : w.ownsRow base 35 1 (.slice A k c) k (L.map u32P)) (hk : L.length = k) (hL : ∀ x ∈ L, x ≤ 4294967295) : IsU32s w (.slice A k c) L := by
  rcases h.2 with ⟨e, h0⟩ | ⟨g, cap, cur, e, hg, hh, hn, hc, hcs, htake⟩
  · injection e with e1 e2 e3
    subst e1 e2 e3
    exact ⟨none, 0, 0, rfl, hk, Nat.le_refl _, by decide, hL, fun _ => rfl, .inl rfl⟩
  · injection e with e1 e2 e3
    subst e1 e3
    refine ⟨_, _, _, rfl, hk, hn, by unfold maxLen at hc; exact hc, hL, (fun e => by cases e), .inr ⟨g, 0, rfl, lt_of_block hh, fun i hi => ?_⟩⟩
    have h0 := h.cells (g := g) rfl i (u32P (L.getD i 0)) (by simp [List.getD, show i < L.length by omega])
    rw [addr_add] at h0
    exact h0
theorem own_where {w : World} {base : Nat} {A : Option Addr} {c k : Nat} {L : List Nat} {xs : List Value} (h : w.ownsRow base 35 1 (.slice A k c) k xs) (hk : L.length = k) (hne : L ≠ []) : ∃ g k' c', Value.slice A k c = .slice (some ⟨g, 0, none⟩) k' c' ∧ base ≤ g := by
  rcases h.2 with ⟨e, h0⟩ | ⟨g, cap, cur, e, hg, _⟩
  · injection e with _ e2 _
    exact absurd (List.eq_nil_of_length_eq_zero (hk.trans e2)) hne
  · exact ⟨g, _, _, e, hg⟩
set_option maxRecDepth 100000 in
set_option maxHeartbeats 8000000 in
theorem refAdd16 (v : Value) (l : List Nat) (n : Nat) (w : World) (h : IsU32s w v l) (hn : n ≤ 4294967295) (hll : l.length ≤ 1000) :
    Calls Try.prog 29 #[v, .int .u32 (n : Nat)] w fun e w' => (∃ v', e = .returned v' ∧ IsU32s w' v' (addF n l false) ∧ ∃ g k c, v' = .slice (some ⟨g, 0, none⟩) k c ∧ w.heap.size ≤ g) ∧ Below w.heap.size w w' := by
  obtain ⟨i0, hi, hz0, hz1, hz2⟩ := info_parts infoU32p
  obtain ⟨A, m, c, rfl, hl, hc1, hc2, hle, _⟩ := id h
  have hmI : (m : Int) ≤ 1000 := by omega
  have hnI : (n : Int) ≤ 4294967295 := by omega
  have hRle : ∀ x ∈ addF n l false, x ≤ 4294967295 := fun x hx => by
    rcases (addF_mem n l false x).1 hx with ⟨hx, _⟩ | ⟨rfl, _⟩
    · exact hle x hx
    · exact hn
  obtain ⟨R, hR⟩ : ∃ R, addF n l false = R := ⟨_, rfl⟩
  have hne : R ≠ [] := fun e => by
    have h1 : n ∈ addF n l false := (addF_mem n l false n).2 (.inr ⟨rfl, rfl⟩)
    rw [hR, e] at h1
    cases h1
  rw [hR] at hRle ⊢
  have HU := Lib.hid h; have HL := Lib.hid hl; have HR := Lib.hid (show [] ++ addF n (l.drop 0) false = R from by rw [List.drop_zero, List.nil_append, hR]); have HRL := Lib.hid hRle; have HNE := Lib.hid hne
  clear hc1 hc2 hle h hl hRle hR hn hll hne
  go_enter Try.func29, Try.ntmps29
  go_upto_region 2 with fail
  have hn2 := heap_alloc_new w (.cells #[] 35)
  have ha2 := (Below.refl w.heap.size w).alloc (Nat.le_refl _) (.cells #[] 35)
  obtain ⟨u2, hU2⟩ : ∃ u2, w.alloc (.cells #[] 35) = u2 := ⟨_, rfl⟩
  obtain ⟨G0, hG0⟩ : ∃ G0, w.heap.size = G0 := ⟨_, rfl⟩
  rw [hU2] at hn2 ha2 ⊢
  rw [hG0] at hn2
  have HO2 := Lib.hid (show u2.ownsRow w.heap.size 35 1 (.slice (some ⟨G0, 0, none⟩) 0 0) 0 [] from ⟨rfl, .inr ⟨G0, 0, #[], rfl, by rw [hG0]; exact Nat.le_refl _, hn2, by omega, by unfold maxLen; omega, rfl, rfl⟩⟩)
  (try rw [hG0])
  have HB2 := Lib.hid ha2
  clear hn2 ha2 hU2 hG0
  go_upto_region 4 with fail
  go_loopw [5, 6, 12] (fun z5 z6 z wr => ∃ (j : Nat) (put : Bool) (A3 : Option Addr) (c3 : Nat) (P : List Nat), z = .int .i64 (j : Nat) ∧ z6 = .bool put ∧ z5 = .slice A3 P.length c3 ∧ j ≤ m ∧ P.length ≤ 2 * j ∧ Hid (P ++ addF n (l.drop j) put = R) ∧ Hid (wr.ownsRow w.heap.size 35 1 (.slice A3 P.length c3) P.length (P.map u32P)) ∧ Hid (Below w.heap.size w wr)) (fun _ _ z _ => m - (intOf z).toNat)
  case atStart => exact ⟨0, false, _, 0, [], rfl, rfl, rfl, Nat.zero_le _, Nat.le_refl _, HR, HO2, HB2⟩
  case round =>
    clear HR HO2 HB2
    obtain ⟨j, put, A3, c3, P, rfl, rfl, rfl, hj, hPl, HPR, HO, HWR⟩ := hrel
    have hPI : (P.length : Int) ≤ 2000 := by omega
    by_cases hlt : j < m
    · obtain ⟨bx, ox, rfl, hx, hxle, _⟩ := u32_at HU.out HWR.out j hlt
      have hjI : (j : Int) < m := by omega
      have hpr := HPR.out
      rw [List.drop_eq_getElem_cons (show j < l.length by rw [HL.out]; exact hlt), ← show l.getD j 0 = l[j]'(by rw [HL.out]; exact hlt) by simp [List.getD, show j < l.length by rw [HL.out]; exact hlt], addF] at hpr
      generalize l.getD j 0 = x at *
      have hxI : (x : Int) ≤ 4294967295 := by omega
      have HPR2 := Lib.hid hpr; have HLT := Lib.hid hlt
      clear hpr HPR hlt
      have key : ∀ (put' : Bool), True := fun _ => trivial
      clear key
      by_cases hnx : n ≤ x
      · have hnxI : (n : Int) ≤ x := by omega
        cases put with
        | true =>
          by_cases hxn : x = n
          · have HPX := Lib.hid (show P ++ addF n (l.drop (j + 1)) true = R from by have h1 := HPR2.out; rw [if_neg (by simp), if_pos hxn] at h1; simpa using h1)
            have hxnB : ((x : Int) != (n : Int)) = false := by rw [bne_eq_false_iff_eq]; omega
            clear hnx hxn HPR2
            go_wp2_with fail
            go_roundw
            case rel =>
              have hpx := HPX.out
              first
              | exact ⟨j + 1, true, A3, c3, P, by go_num, rfl, by first | rfl | simp, by have := HLT.out; omega, by first | omega | (simp; omega), HPX, HO, HWR⟩
              | (repeat apply Exists.intro; exact ⟨⟨j + 1, true, A3, c3, P, by go_num, rfl, by first | rfl | simp, by have := HLT.out; omega, by first | omega | (simp; omega), HPX, HO, HWR⟩, rfl⟩)
            case measure => have := HLT.out; simp [intOf]; omega
          · have HPX := Lib.hid (show (P ++ [x]) ++ addF n (l.drop (j + 1)) true = R from by have h1 := HPR2.out; rw [if_neg (by simp), if_neg hxn] at h1; simpa using h1)
            have hxnB : ((x : Int) != (n : Int)) = true := by rw [bne_iff_ne]; omega
            clear hnx hxn HPR2
            go_wp2_with (first
              | (at_builtin; go_must (refine wpList_push2 _ _ 47 35 (u32P x) HO.out HWR.out (Nat.le_refl _) Try.underlying47 hi hz0 hz1 hz2 rfl rfl rfl rfl rfl rfl ?c1 ?_)))
            case c1 => omega
            intro v' w8 hown8 hbel8 hkeep8
            obtain ⟨A4, c4, rfl, _, _⟩ := own_form1 hown8
            have HO8 := Lib.hid (show w8.ownsRow w.heap.size 35 1 (.slice A4 (P ++ [x]).length c4) (P ++ [x]).length ((P ++ [x]).map u32P) from by rw [List.length_append, List.map_append]; first | exact hown8 | simpa using hown8)
            have HB8 := Lib.hid hbel8
            clear hown8 hbel8 hkeep8
            go_wp2_with fail
            go_roundw
            case rel =>
              have hpx := HPX.out
              first
              | exact ⟨j + 1, true, A4, c4, P ++ [x], by go_num, rfl, by first | rfl | simp, by have := HLT.out; omega, by first | omega | (simp; omega), HPX, HO8, HB8⟩
              | (repeat apply Exists.intro; exact ⟨⟨j + 1, true, A4, c4, P ++ [x], by go_num, rfl, by first | rfl | simp, by have := HLT.out; omega, by first | omega | (simp; omega), HPX, HO8, HB8⟩, rfl⟩)
            case measure => have := HLT.out; simp [intOf]; omega
        | false =>
          by_cases hxn : x = n
          · have HPX := Lib.hid (show (P ++ [n]) ++ addF n (l.drop (j + 1)) true = R from by have h1 := HPR2.out; rw [if_pos ⟨rfl, hnx⟩, if_pos hxn] at h1; simpa [hnx] using h1)
            have hxnB : ((x : Int) != (n : Int)) = false := by rw [bne_eq_false_iff_eq]; omega
            clear hnx hxn HPR2
            go_wp2_with (first
              | (at_builtin; go_must (refine wpList_push2 _ _ 47 35 (u32P n) HO.out HWR.out (Nat.le_refl _) Try.underlying47 hi hz0 hz1 hz2 rfl rfl rfl rfl rfl rfl ?c1 ?_)))
            case c1 => omega
            intro v' w8 hown8 hbel8 hkeep8
            obtain ⟨A4, c4, rfl, _, _⟩ := own_form1 hown8
            have HO8 := Lib.hid (show w8.ownsRow w.heap.size 35 1 (.slice A4 (P ++ [n]).length c4) (P ++ [n]).length ((P ++ [n]).map u32P) from by rw [List.length_append, List.map_append]; first | exact hown8 | simpa using hown8)
            have HB8 := Lib.hid hbel8
            clear hown8 hbel8 hkeep8
            go_wp2_with fail
            go_roundw
            case rel =>
              have hpx := HPX.out
              first
              | exact ⟨j + 1, true, A4, c4, P ++ [n], by go_num, rfl, by first | rfl | simp, by have := HLT.out; omega, by first | omega | (simp; omega), HPX, HO8, HB8⟩
              | (repeat apply Exists.intro; exact ⟨⟨j + 1, true, A4, c4, P ++ [n], by go_num, rfl, by first | rfl | simp, by have := HLT.out; omega, by first | omega | (simp; omega), HPX, HO8, HB8⟩, rfl⟩)
            case measure => have := HLT.out; simp [intOf]; omega
          · have HPX := Lib.hid (show ((P ++ [n]) ++ [x]) ++ addF n (l.drop (j + 1)) true = R from by have h1 := HPR2.out; rw [if_pos ⟨rfl, hnx⟩, if_neg hxn] at h1; simpa [hnx] using h1)
            have hxnB : ((x : Int) != (n : Int)) = true := by rw [bne_iff_ne]; omega
            clear hnx hxn HPR2
            go_wp2_with (first
              | (at_builtin; go_must (refine wpList_push2 _ _ 47 35 (u32P n) HO.out HWR.out (Nat.le_refl _) Try.underlying47 hi hz0 hz1 hz2 rfl rfl rfl rfl rfl rfl ?c1 ?_)))
            case c1 => omega
            intro v' w8 hown8 hbel8 hkeep8
            obtain ⟨A4, c4, rfl, _, _⟩ := own_form1 hown8
            have HO8 := Lib.hid (show w8.ownsRow w.heap.size 35 1 (.slice A4 (P ++ [n]).length c4) (P ++ [n]).length ((P ++ [n]).map u32P) from by rw [List.length_append, List.map_append]; first | exact hown8 | simpa using hown8)
            have HB8 := Lib.hid hbel8
            clear hown8 hbel8 hkeep8
            have hPI2 : ((P ++ [n]).length : Int) ≤ 2001 := by simp; omega
            obtain ⟨P2, hP2⟩ : ∃ P2, P ++ [n] = P2 := ⟨_, rfl⟩
            have hP2l : P2.length ≤ 2 * j + 1 := by rw [← hP2]; simp; omega
            have hP2e : P.length + 1 = P2.length := by rw [← hP2]; simp
            rw [hP2] at HPX HO8 hPI2
            obtain ⟨HO9, HB9⟩ : Hid (w8.ownsRow w.heap.size 35 1 (.slice A4 P2.length c4) P2.length (P2.map u32P)) ∧ Hid (Below w.heap.size w w8) := ⟨HO8, HB8⟩
            (try rw [hP2e])
            clear hP2 hP2e HO8 HB8
            go_wp2_with (first
              | (at_builtin; go_must (refine wpList_push2 _ _ 47 35 (u32P x) HO9.out HB9.out (Nat.le_refl _) Try.underlying47 hi hz0 hz1 hz2 rfl rfl rfl rfl rfl rfl ?c1 ?_)))
            case c1 => omega
            intro v' w9 hown9 hbel9 hkeep9
            obtain ⟨A5, c5, rfl, _, _⟩ := own_form1 hown9
            have HO8 := Lib.hid (show w9.ownsRow w.heap.size 35 1 (.slice A5 (P2 ++ [x]).length c5) (P2 ++ [x]).length ((P2 ++ [x]).map u32P) from by rw [List.length_append, List.map_append]; first | exact hown9 | simpa using hown9)
            have HB8 := Lib.hid hbel9
            clear hown9 hbel9 hkeep9
            go_wp2_with fail
            go_roundw
            case rel =>
              have hpx := HPX.out
              first
              | exact ⟨j + 1, true, A5, c5, P2 ++ [x], by go_num, rfl, by first | rfl | simp, by have := HLT.out; omega, by first | omega | (simp; omega), HPX, HO8, HB8⟩
              | (repeat apply Exists.intro; exact ⟨⟨j + 1, true, A5, c5, P2 ++ [x], by go_num, rfl, by first | rfl | simp, by have := HLT.out; omega, by first | omega | (simp; omega), HPX, HO8, HB8⟩, rfl⟩)
            case measure => have := HLT.out; simp [intOf]; omega
      · have hnxI : ¬ (n : Int) ≤ x := by omega
        have hxn : x ≠ n := by omega
        have hxnB : ((x : Int) != (n : Int)) = true := by rw [bne_iff_ne]; omega
        have HPX := Lib.hid (show (P ++ [x]) ++ addF n (l.drop (j + 1)) put = R from by have h1 := HPR2.out; rw [if_neg (by omega), if_neg hxn] at h1; simpa [hnx] using h1)
        clear hnx hxn HPR2
        cases put with
        | true =>
          go_wp2_with (first
            | (at_builtin; go_must (refine wpList_push2 _ _ 47 35 (u32P x) HO.out HWR.out (Nat.le_refl _) Try.underlying47 hi hz0 hz1 hz2 rfl rfl rfl rfl rfl rfl ?c1 ?_)))
          case c1 => omega
          intro v' w8 hown8 hbel8 hkeep8
          obtain ⟨A4, c4, rfl, _, _⟩ := own_form1 hown8
          have HO8 := Lib.hid (show w8.ownsRow w.heap.size 35 1 (.slice A4 (P ++ [x]).length c4) (P ++ [x]).length ((P ++ [x]).map u32P) from by rw [List.length_append, List.map_append]; first | exact hown8 | simpa using hown8)
          have HB8 := Lib.hid hbel8
          clear hown8 hbel8 hkeep8
          go_wp2_with fail
          go_roundw
          case rel =>
            have hpx := HPX.out
            first
            | exact ⟨j + 1, true, A4, c4, P ++ [x], by go_num, rfl, by first | rfl | simp, by have := HLT.out; omega, by first | omega | (simp; omega), HPX, HO8, HB8⟩
            | (repeat apply Exists.intro; exact ⟨⟨j + 1, true, A4, c4, P ++ [x], by go_num, rfl, by first | rfl | simp, by have := HLT.out; omega, by first | omega | (simp; omega), HPX, HO8, HB8⟩, rfl⟩)
          case measure => have := HLT.out; simp [intOf]; omega
        | false =>
          go_wp2_with (first
            | (at_builtin; go_must (refine wpList_push2 _ _ 47 35 (u32P x) HO.out HWR.out (Nat.le_refl _) Try.underlying47 hi hz0 hz1 hz2 rfl rfl rfl rfl rfl rfl ?c1 ?_)))
          case c1 => omega
          intro v' w8 hown8 hbel8 hkeep8
          obtain ⟨A4, c4, rfl, _, _⟩ := own_form1 hown8
          have HO8 := Lib.hid (show w8.ownsRow w.heap.size 35 1 (.slice A4 (P ++ [x]).length c4) (P ++ [x]).length ((P ++ [x]).map u32P) from by rw [List.length_append, List.map_append]; first | exact hown8 | simpa using hown8)
          have HB8 := Lib.hid hbel8
          clear hown8 hbel8 hkeep8
          go_wp2_with fail
          go_roundw
          case rel =>
            have hpx := HPX.out
            first
            | exact ⟨j + 1, false, A4, c4, P ++ [x], by go_num, rfl, by first | rfl | simp, by have := HLT.out; omega, by first | omega | (simp; omega), HPX, HO8, HB8⟩
            | (repeat apply Exists.intro; exact ⟨⟨j + 1, false, A4, c4, P ++ [x], by go_num, rfl, by first | rfl | simp, by have := HLT.out; omega, by first | omega | (simp; omega), HPX, HO8, HB8⟩, rfl⟩)
          case measure => have := HLT.out; simp [intOf]; omega
    · obtain rfl : j = m := by omega
      have hpr := HPR.out
      rw [List.drop_of_length_le (by rw [HL.out]; exact Nat.le_refl _), addF] at hpr
      cases put with
      | true =>
        rw [if_pos rfl, List.append_nil] at hpr
        subst hpr
        have HIS := Lib.hid (And.intro (own_u32sP HO.out rfl HRL.out) (own_where HO.out rfl HNE.out))
        clear HPR HO HRL
        go_wp2_with fail
        first
        | (go_ret; exact ⟨⟨_, rfl, HIS.out⟩, HWR.out⟩)
        | (refine bodyPost_ret (results_tmp rfl _ _ _) rfl ?_; exact ⟨⟨_, rfl, HIS.out⟩, HWR.out⟩)
      | false =>
        rw [if_neg (by decide)] at hpr
        have HPE := Lib.hid hpr
        clear hpr HPR
        go_wp2_with (first
          | (at_builtin; go_must (refine wpList_push2 _ _ 47 35 (u32P n) HO.out HWR.out (Nat.le_refl _) Try.underlying47 hi hz0 hz1 hz2 rfl rfl rfl rfl rfl rfl ?c1 ?_)))
        case c1 => omega
        intro v' w8 hown8 hbel8 hkeep8
        obtain ⟨A4, c4, rfl, _, _⟩ := own_form1 hown8
        have hown9 : w8.ownsRow w.heap.size 35 1 (.slice A4 (P.length + 1) c4) (P.length + 1) (R.map u32P) := by rw [← HPE.out, List.map_append]; first | exact hown8 | simpa using hown8
        have HIS := Lib.hid (And.intro (own_u32sP hown9 (by rw [← HPE.out]; simp) HRL.out) (own_where hown9 (by rw [← HPE.out]; simp) HNE.out))
        have HB8 := Lib.hid hbel8
        clear hown8 hown9 hbel8 hkeep8 HO HRL
        go_wp2_with fail
        first
        | (go_ret; exact ⟨⟨_, rfl, HIS.out⟩, HB8.out⟩)
        | (refine bodyPost_ret (results_tmp rfl _ _ _) rfl ?_; exact ⟨⟨_, rfl, HIS.out⟩, HB8.out⟩)
end Go.Proofs.Ytbcoooaoofbboaa
