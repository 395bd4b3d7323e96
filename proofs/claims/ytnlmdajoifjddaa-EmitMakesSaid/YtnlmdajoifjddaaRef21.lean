/- The reference of layer 21: size, places of labels, jumps. -/
import Derived.Test.YtnlmdajoifjddaaEmR
import Derived.Outline
namespace Go.Proofs.Ytnlmdajoifjddaa
open Go.RowKit Go.ChangeShapes
set_option linter.unusedVariables false

def isT (k : Int) : Bool := decide (k = 3) || decide (k = 4) || decide (k = 5)
set_option maxRecDepth 100000 in
theorem refTest_any (kind : Int) (k : Nat) (t f : Int) (w : World) : Calls Try.prog 21 #[.agg #[.int .i64 kind, .int .u32 (k : Int), .int .i64 t, .int .i64 f]] w fun e w' => e = .returned (.bool (isT kind)) ∧ Below w.heap.size w w' := by
  by_cases k3 : kind = 3
  · subst k3
    go_enter Try.func21, Try.ntmps21
    go_wp2_with fail
    go_ret
    exact ⟨rfl, (Below.refl _ _).alloc (Nat.le_refl _) _⟩
  by_cases k4 : kind = 4
  · subst k4
    go_enter Try.func21, Try.ntmps21
    go_wp2_with fail
    go_ret
    exact ⟨rfl, (Below.refl _ _).alloc (Nat.le_refl _) _⟩
  by_cases k5 : kind = 5
  · subst k5
    go_enter Try.func21, Try.ntmps21
    go_wp2_with fail
    go_ret
    exact ⟨rfl, (Below.refl _ _).alloc (Nat.le_refl _) _⟩
  have n3 : (kind == 3) = false := by rw [beq_eq_false_iff_ne]; exact k3
  have n4 : (kind == 4) = false := by rw [beq_eq_false_iff_ne]; exact k4
  have n5 : (kind == 5) = false := by rw [beq_eq_false_iff_ne]; exact k5
  have hT : Hid (isT kind = false) := Lib.hid (by unfold isT; simp [k3, k4, k5])
  clear k3 k4 k5
  go_enter Try.func21, Try.ntmps21
  go_wp2_with fail
  go_ret
  exact ⟨by rw [hT.out]; rfl, (Below.refl _ _).alloc (Nat.le_refl _) _⟩
set_option maxRecDepth 100000 in
set_option maxHeartbeats 1000000 in
theorem refSize_any (l : List Stp) (v : Value) (w : World) (hl : IsOps w v l) (hN : l.length ≤ 100000) :
    Calls Try.prog 11 #[v] w fun e w' => e = .returned (.int .i64 (sizeL l : Nat)) ∧ Below w.heap.size w w' := by
  obtain ⟨a, len, cap, rfl, hlen, hcap, hcm, hbd, hnil, hat⟩ := hl
  have hlI : (len : Int) ≤ 100000 := by omega
  have HAT := Lib.hid hat; have HLEN := Lib.hid hlen
  clear hat hlen hnil hbd
  go_enter Try.func11, Try.ntmps11
  go_wp2_with fail
  go_loopw [3, 8] (fun s z wr => ∃ j : Nat, z = .int .i64 j ∧ s = .int .i64 ((sizeL (l.take j) : Nat) : Int) ∧ j ≤ len ∧ Below w.heap.size w wr) (fun _ z _ => len - (intOf z).toNat)
  case atStart => exact ⟨0, rfl, rfl, by omega, Below.refl _ _⟩
  case round =>
    obtain ⟨j, rfl, rfl, hj, hwr⟩ := hrel
    by_cases hlt : j < len
    · obtain ⟨b, off, rfl, hb, hat⟩ := HAT.out.resolve_left (by omega)
      have hi := (hat j hlt).below hwr hb
      have hjI : (j : Int) < len := by omega
      have hs : sizeL (l.take (j + 1)) = sizeL (l.take j) + szI (l.getD j stpZ).kind := by
        have := HLEN.out
        rw [List.take_succ_eq_append_getElem (by omega), sizeL_append]
        simp [sizeL, List.getD, show j < l.length by omega]
      have hle : sizeL (l.take j) ≤ 1000000 := by have := sizeL_le (l.take j); rw [List.length_take] at this; omega
      generalize sizeL (l.take j) = n at *
      generalize l.getD j stpZ = i at *
      obtain ⟨kind, k, t, f⟩ := i
      obtain ⟨c0, c1, c2, c3⟩ := hi
      dsimp only at c0 c1 c2 c3 hs
      have hleI : (n : Int) ≤ 1000000 := by omega
      have HS := Lib.hid hs; have HC := Lib.hid (fun u => refTest_any kind k t f u)
      have hnw := heap_alloc_new wr (.cells #[.int .i64 kind, .int .u32 (k : Nat), .int .i64 t, .int .i64 f] 32)
      have hwa := (Below.refl wr.heap.size wr).alloc (Nat.le_refl _) (.cells #[.int .i64 kind, .int .u32 (k : Nat), .int .i64 t, .int .i64 f] 32)
      have HWA := Lib.hid (hwr.trans (hwa.mono hwr.size))
      clear hs hat hwr
      go_upto_region 5 with fail
      generalize wr.alloc (.cells #[.int .i64 kind, .int .u32 (k : Nat), .int .i64 t, .int .i64 f] 32) = wa at *
      have HNW := Lib.hid hnw
      have q0 := below_cell (Below.refl _ _) hnw 0 rfl
      have q1 := below_cell (Below.refl _ _) hnw 1 rfl
      have q2 := below_cell (Below.refl _ _) hnw 2 rfl
      have q3 := below_cell (Below.refl _ _) hnw 3 rfl
      clear hnw hwa c0 c1 c2 c3
      go_wp2_with fail
      refine (HC.out _).mono ?_
      rintro e w3 ⟨rfl, hb3⟩
      have p0 := below_cell hb3 HNW.out 0 rfl
      have HW3 := Lib.hid (HWA.out.trans (hb3.mono HWA.out.size))
      clear hb3 q0 q1 q2 q3 HC HNW
      by_cases hk : kind = 3 ∨ kind = 4 ∨ kind = 5
      · have e1 : isT kind = true := by unfold isT; simp; omega
        have e2 : szI kind = 3 := by unfold szI; rw [if_neg (by omega), if_pos hk]
        rw [e2] at HS
        rw [e1]
        clear e1 e2 hk
        go_wp2_with fail
        go_roundw
        case rel => exact ⟨j + 1, by go_num, by rw [HS.out]; go_num, by omega, HW3.out⟩
        case measure => simp [intOf]; omega
      · have e1 : isT kind = false := by unfold isT; simp; omega
        rw [e1]
        clear e1
        by_cases hk2 : kind = 1 ∨ kind = 2 ∨ kind = 7 ∨ kind = 8
        · have e2 : szI kind = 1 := by unfold szI; rw [if_pos hk2]
          rw [e2] at HS
          rcases hk2 with rfl | rfl | rfl | rfl
          all_goals
            clear e2 hk
            go_wp2_with fail
            go_roundw
            case rel => exact ⟨j + 1, by go_num, by rw [HS.out]; go_num, by omega, HW3.out⟩
            case measure => simp [intOf]; omega
        · have e2 : szI kind = 0 := by unfold szI; rw [if_neg hk2, if_neg hk]
          rw [e2, Nat.add_zero] at HS
          have n1 : (kind == 1) = false := by rw [beq_eq_false_iff_ne]; omega
          have n2 : (kind == 2) = false := by rw [beq_eq_false_iff_ne]; omega
          have n7 : (kind == 7) = false := by rw [beq_eq_false_iff_ne]; omega
          have n8 : (kind == 8) = false := by rw [beq_eq_false_iff_ne]; omega
          clear e2 hk hk2
          go_wp2_with fail
          go_roundw
          case rel => exact ⟨j + 1, by go_num, by rw [HS.out]; rfl, by omega, HW3.out⟩
          case measure => simp [intOf]; omega
    · obtain rfl : j = len := by omega
      rw [show l.take j = l from List.take_of_length_le (by have := HLEN.out; omega)]
      go_wp2_with fail
      go_ret
      exact ⟨rfl, hwr⟩
def behI (o : Option Nat) : Int := match o with | none => -1 | some j => (j : Int)
set_option maxHeartbeats 1000000 in
set_option maxRecDepth 100000 in
theorem refBehind_any (v : Value) (l : List Stp) (p : Nat) (label : Int) (w : World) (h : IsOps w v l) (hp : p < l.length) :
    Calls Try.prog 34 #[v, .int .i64 (p : Nat), .int .i64 label] w fun e w' => e = .returned (.int .i64 (behI (beh l p label))) ∧ w = w' := by
  obtain ⟨a, len, cap, rfl, hlen, hc1, hc2, hbd, hn, hat⟩ := h
  have hlI : (len : Int) ≤ 9223372036854775807 := by omega
  have hpI : (p : Int) < len := by omega
  have HA := Lib.hid hat; have HL := Lib.hid hlen
  have HB : Hid (beh l p label = behL l (p + 1) label (len - (p + 1))) := Lib.hid (by rw [beh, hlen])
  clear hat hlen hbd hp
  go_enter Try.func34, Try.ntmps34
  go_wp2
  go_loop [7] (fun c => ∃ k : Nat, p + 1 ≤ k ∧ k ≤ len ∧ c = .int .i64 k ∧ beh l p label = behL l k label (len - k)) (fun c => len - (intOf c).toNat)
  case atStart => exact ⟨p + 1, by omega, by omega, by go_num, HB.out⟩
  case round =>
    obtain ⟨k, hk1, hk, rfl, hbe⟩ := hrel
    have HE := Lib.hid hbe
    clear hbe
    by_cases hlt : k < len
    · obtain ⟨b, off, rfl, hb, hat⟩ := HA.out.resolve_left (by omega)
      obtain ⟨c0, c1, c2, c3⟩ := hat k hlt
      have hst : behL l k label (len - k) = if (l.getD k stpZ).kind = 6 ∧ (l.getD k stpZ).t = label then some k else behL l (k + 1) label (len - (k + 1)) := by
        rw [show len - k = (len - (k + 1)) + 1 from by omega, behL]
      have HS := Lib.hid hst
      clear hat hst
      generalize l.getD k stpZ = o at *
      obtain ⟨kind, kk, t, f⟩ := o
      dsimp only at c0 c1 c2 c3
      by_cases h6 : kind = 6
      · subst h6
        by_cases ht : t = label
        · subst ht
          have he : beh l p t = some k := by rw [HE.out, HS.out, if_pos ⟨rfl, rfl⟩]
          have HX := Lib.hid he
          clear he
          go_wp2
          go_ret
          exact ⟨by rw [HX.out]; rfl, rfl⟩
        · have hbt : (t == label) = false := by rw [beq_eq_false_iff_ne]; exact ht
          have he : beh l p label = behL l (k + 1) label (len - (k + 1)) := by rw [HE.out, HS.out, if_neg (fun x => ht x.2)]
          have HX := Lib.hid he
          clear he ht
          go_wp2
          go_round
          case rel => exact ⟨k + 1, by omega, by omega, by go_num, HX.out⟩
          case measure => simp [intOf]; omega
      · have hbt : (kind == 6) = false := by rw [beq_eq_false_iff_ne]; exact h6
        have he : beh l p label = behL l (k + 1) label (len - (k + 1)) := by rw [HE.out, HS.out, if_neg (fun x => h6 x.1)]
        have HX := Lib.hid he
        clear he h6
        go_wp2
        go_round
        case rel => exact ⟨k + 1, by omega, by omega, by go_num, HX.out⟩
        case measure => simp [intOf]; omega
    · obtain rfl : k = len := by omega
      have he : beh l p label = none := by rw [HE.out, Nat.sub_self]; rfl
      have HX := Lib.hid he
      clear he
      go_wp2
      go_ret
      exact ⟨by rw [HX.out]; rfl, rfl⟩
/-- a jump's number -/
def jaK (l : List Stp) (j place : Nat) : Nat := sizeL (l.take j) - place - 1
set_option maxHeartbeats 1000000 in
set_option maxRecDepth 100000 in
theorem refJa_any (v : Value) (l : List Stp) (p place j : Nat) (label : Int) (w : World) (h : IsOps w v l) (hN : l.length ≤ 100000) (hp : p < l.length) (hj : beh l p label = some j) (hk : place + 1 ≤ sizeL (l.take j)) :
    Calls Try.prog 23 #[v, .int .i64 (p : Nat), .int .i64 (place : Int), .int .i64 label] w fun e w' => e = .returned (Ins.value ⟨5, 0, 0, (jaK l j place : Nat)⟩) ∧ Below w.heap.size w w' := by
  have hB := fun u hu => refBehind_any v l p label u hu hp
  rw [hj] at hB
  obtain ⟨a, len, cap, rfl, hlen, hc1, hc2, htk⟩ := h.take
  have hjl := (beh_bound l p label j hj).2
  have hS := fun u hu => refSize_any (l.take j) (.slice a j cap) u hu (by rw [List.length_take]; omega)
  have hsz := sizeL_le (l.take j)
  rw [List.length_take] at hsz
  have hT := htk j (by omega)
  have hK : jaK l j place = sizeL (l.take j) - place - 1 := rfl
  generalize sizeL (l.take j) = S at *
  have hSI : (S : Int) ≤ 300000 := by omega
  have hkI : (place : Int) + 1 ≤ S := by omega
  have hjI : (j : Int) ≤ cap := by omega
  have hjI2 : (j : Int) ≤ len := by omega
  have hcI : (cap : Int) ≤ 9223372036854775807 := by omega
  have hcast : ((S - place - 1 : Nat) : Int) = (S : Int) - place - 1 := by omega
  have HB := Lib.hid hB; have HS := Lib.hid hS; have HT := Lib.hid hT; have HL := Lib.hid h; have HK := Lib.hid hK; have HC := Lib.hid hcast
  have hw1 := (Below.refl w.heap.size w).alloc (Nat.le_refl _) (.cells #[.int .i64 0, .int .i64 0, .int .i64 0, .int .u32 0] 44)
  have hbk := heap_alloc_new w (.cells #[.int .i64 0, .int .i64 0, .int .i64 0, .int .u32 0] 44)
  clear hB hS hT h hK htk hlen hj hjl hsz hcast
  go_enter Try.func23, Try.ntmps23
  go_upto_region 1 with fail
  generalize w.alloc (.cells #[.int .i64 0, .int .i64 0, .int .i64 0, .int .u32 0] 44) = wa at *
  have HW1 := Lib.hid hw1; have HBK := Lib.hid hbk
  clear hw1 hbk
  go_wp2_with fail
  refine (HB.out _ (HL.out.below HW1.out)).mono ?_
  rintro e w2 ⟨rfl, rfl⟩
  unfold behI
  dsimp only
  go_wp2_with fail
  refine (HS.out _ (HT.out.below HW1.out)).mono ?_
  rintro e w3 ⟨rfl, hb3⟩
  have hbk3 := (hb3.block _ (lt_of_block HBK.out)).trans HBK.out
  have q0 := below_cell (Below.refl _ _) hbk3 0 rfl
  have q1 := below_cell (Below.refl _ _) hbk3 1 rfl
  have q2 := below_cell (Below.refl _ _) hbk3 2 rfl
  have q3 := below_cell (Below.refl _ _) hbk3 3 rfl
  have f0 := block_frozen hbk3 0
  have f1 := block_frozen hbk3 1
  have f2 := block_frozen hbk3 2
  have f3 := block_frozen hbk3 3
  have HW3 := Lib.hid (HW1.out.trans (hb3.mono HW1.out.size))
  have HBK3 := Lib.hid hbk3
  clear hbk3 hb3 HBK HB HS HT HL
  go_wp2_with fail
  rw [← HC.out, ← HK.out]
  exact bodyPost_ret (v := .agg #[.int .i64 5, .int .i64 0, .int .i64 0, .int .u32 ((jaK l j place : Nat) : Int)]) (results_cell_row rfl _ _ w.heap.size 44 #[.int .i64 5, .int .i64 0, .int .i64 0, .int .u32 ((jaK l j place : Nat) : Int)] (0, 0) _ rfl (block4 HBK3.out _ _ _ _) Try.underlying44 rfl (by kernel_rfl)) rfl ⟨rfl, below4 HW3.out (Nat.le_refl _) _ _ _ _⟩
/-! ### which steps fit -/
theorem env_none (l : List Stp) : ∀ n p, l.length - p = n → p ≤ l.length → ∀ sp, asmA (l.drop p) = some sp → ∀ T, sp.env T = none → behL l p T n = none := by
  intro n
  induction n with
  | zero => intro p hn hp sp h T he; rfl
  | succ n ih =>
    intro p hn hp sp h T he
    obtain ⟨s1, h1, h2⟩ := drop_step l p sp (by omega) h
    rw [behL]
    by_cases h6 : (l.getD p stpZ).kind = 6
    · have h2 : (if (l.getD p stpZ).kind = 6 then _ else _) = some sp := h2
      rw [if_pos h6] at h2
      injection h2 with h2
      subst h2
      have he : (if T = (l.getD p stpZ).t then some s1.c.length else s1.env T) = none := he
      by_cases hT : (l.getD p stpZ).t = T
      · rw [if_pos hT.symm] at he; cases he
      · rw [if_neg (fun h => hT h.symm)] at he
        rw [if_neg (fun h => hT h.2)]
        exact ih (p + 1) (by omega) (by omega) s1 h1 T he
    · rw [step_env h2 h6] at he
      rw [if_neg (fun h => h6 h.1)]
      exact ih (p + 1) (by omega) (by omega) s1 h1 T he
/-- a step that fits where it stands -/
def goodAt (l : List Stp) (p : Nat) : Prop :=
  (1 ≤ (l.getD p stpZ).kind ∧ (l.getD p stpZ).kind ≤ 8) ∧ (isT (l.getD p stpZ).kind = true ∨ (l.getD p stpZ).kind = 7 → beh l p (l.getD p stpZ).t ≠ none) ∧ (isT (l.getD p stpZ).kind = true → beh l p (l.getD p stpZ).f ≠ none)
theorem env_some (l : List Stp) (p : Nat) (hp : p < l.length) (s1 : Asm) (h1 : asmA (l.drop (p + 1)) = some s1) (T : Int) (h : beh l p T ≠ none) : ∃ e, s1.env T = some e := by
  cases he : s1.env T with
  | none => exact absurd (env_none l _ (p + 1) rfl (by omega) s1 h1 T he) h
  | some e => exact ⟨e, rfl⟩
theorem beh_some (l : List Stp) (p : Nat) (hp : p < l.length) (s1 : Asm) (h1 : asmA (l.drop (p + 1)) = some s1) (T : Int) (e : Nat) (h : s1.env T = some e) : beh l p T ≠ none := by
  obtain ⟨j, sj, h2, _⟩ := env_beh l _ (p + 1) rfl (by omega) s1 h1 T e h
  intro hn
  have : behL l (p + 1) T (l.length - (p + 1)) = none := hn
  rw [this] at h2
  cases h2
theorem isT_iff (k : Int) : isT k = true ↔ k = 3 ∨ k = 4 ∨ k = 5 := by unfold isT; simp [or_assoc]
theorem test_some {s : Asm} {o : Stp} {e1 e2 : Nat} (c : Int) (h1 : s.env o.f = some e1) (h2 : s.env o.t = some e2) : ∃ s', s.test c o = some s' := by
  unfold Asm.test Asm.way
  rw [h1]
  show ∃ s', Option.map _ (Option.map _ (s.env o.t)) = some s'
  rw [h2]
  exact ⟨_, rfl⟩
theorem step_good (l : List Stp) (p : Nat) (hp : p < l.length) (s1 : Asm) (h1 : asmA (l.drop (p + 1)) = some s1) (hg : goodAt l p) : ∃ s', s1.step (l.getD p stpZ) = some s' := by
  obtain ⟨⟨g1, g2⟩, g3, g4⟩ := hg
  have hT := isT_iff (l.getD p stpZ).kind
  have es := fun T h => env_some l p hp s1 h1 T h
  generalize l.getD p stpZ = o at *
  unfold Asm.step
  split
  · exact ⟨_, rfl⟩
  split
  · exact ⟨_, rfl⟩
  split
  · exact ⟨_, rfl⟩
  split
  · exact ⟨_, rfl⟩
  split
  · rename_i k7
    obtain ⟨e, he⟩ := es _ (g3 (.inr k7))
    unfold Asm.way
    rw [he]
    exact ⟨_, rfl⟩
  have ht : isT o.kind = true := by rw [hT]; omega
  obtain ⟨e1, he1⟩ := es _ (g4 ht)
  obtain ⟨e2, he2⟩ := es _ (g3 (.inl ht))
  split
  · exact test_some 21 he1 he2
  split
  · exact test_some 37 he1 he2
  split
  · exact test_some 53 he1 he2
  · exfalso; omega
theorem step_bad (l : List Stp) (p : Nat) (hp : p < l.length) (h : ¬ goodAt l p) : asmA l = none := by
  refine asmA_none l p ?_
  rw [asmA_drop l p hp]
  cases h1 : asmA (l.drop (p + 1)) with
  | none => rfl
  | some s1 =>
    show s1.step (l.getD p stpZ) = none
    cases h2 : s1.step (l.getD p stpZ) with
    | none => rfl
    | some s' =>
      refine absurd ?_ h
      have bs := fun T e he => beh_some l p hp s1 h1 T e he
      unfold goodAt
      have hT := isT_iff (l.getD p stpZ).kind
      generalize l.getD p stpZ = o at *
      unfold Asm.step at h2
      have plain : isT o.kind ≠ true → o.kind ≠ 7 → 1 ≤ o.kind ∧ o.kind ≤ 8 → _ := fun a b c => (⟨c, fun h => absurd h (by rintro (h | h); exact a h; exact b h), fun h => absurd h a⟩ : (1 ≤ o.kind ∧ o.kind ≤ 8) ∧ (isT o.kind = true ∨ o.kind = 7 → beh l p o.t ≠ none) ∧ (isT o.kind = true → beh l p o.f ≠ none))
      have tst : ∀ c, (o.kind = 3 ∨ o.kind = 4 ∨ o.kind = 5) → s1.test c o = some s' → (1 ≤ o.kind ∧ o.kind ≤ 8) ∧ (isT o.kind = true ∨ o.kind = 7 → beh l p o.t ≠ none) ∧ (isT o.kind = true → beh l p o.f ≠ none) := by
        intro c hk hs
        obtain ⟨e1, e2, he1, he2, _⟩ := test_env hs
        exact ⟨by omega, fun _ => bs _ _ he2, fun _ => bs _ _ he1⟩
      split at h2
      · exact plain (by rw [Ne, hT]; omega) (by omega) (by omega)
      split at h2
      · exact plain (by rw [Ne, hT]; omega) (by omega) (by omega)
      split at h2
      · exact plain (by rw [Ne, hT]; omega) (by omega) (by omega)
      split at h2
      · exact plain (by rw [Ne, hT]; omega) (by omega) (by omega)
      split at h2
      · rename_i k7
        obtain ⟨e, he, _⟩ := way_env h2
        exact ⟨by omega, fun _ => bs _ _ he, fun h => absurd h (by rw [hT]; omega)⟩
      split at h2
      · exact tst 21 (by omega) h2
      split at h2
      · exact tst 37 (by omega) h2
      split at h2
      · exact tst 53 (by omega) h2
      · cases h2
theorem all_good (l : List Stp) (h : ∀ p, p < l.length → goodAt l p) : ∃ s, asmA l = some s := by
  have : ∀ n p, l.length - p = n → p ≤ l.length → ∃ s, asmA (l.drop p) = some s := by
    intro n
    induction n with
    | zero => intro p hn hp; rw [List.drop_of_length_le (by omega)]; exact ⟨asm0, rfl⟩
    | succ n ih =>
      intro p hn hp
      obtain ⟨s1, h1⟩ := ih (p + 1) (by omega) (by omega)
      obtain ⟨s', h2⟩ := step_good l p (by omega) s1 h1 (h p (by omega))
      rw [asmA_drop l p (by omega), h1]
      exact ⟨s', h2⟩
  exact this l.length 0 (by omega) (by omega)
end Go.Proofs.Ytnlmdajoifjddaa
