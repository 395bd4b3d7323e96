/- A commit, a checkpoint, an opening, wherever the power goes; plain. -/
import Derived.Test.YthnmnnlbglpjaaaGreatDoorWp4
import Derived.Test.YthnmnnlbglpjaaaGreatDoorWlN
namespace Go.Proofs.YthnmnnlbglpjaaaGreatDoor
open Go.RowKit
set_option linter.unusedVariables false

theorem HasV.pow {l : Lg} {N : Nat} {T : Nat → ByteArray} (h : HasV l N T) (L : Int) : HasV (l.pow L) N T := h
theorem sound_able {l : Lg} (h : Sound l) (hL : l.left < 0) (n : Nat) : Able ⟨l.dsk, l.left, 0⟩ n l.secs.length l.left := ⟨rfl, (right_dirty h.right).2.2, rfl, .inl hL, rfl⟩
theorem less_neg {L : Int} (h : L < 0) (k : Nat) : lessI L k = L := by unfold lessI; rw [if_pos h]
structure CkGo (l : Lg) (N : Nat) (T : Nat → ByteArray) : Prop where
  codes : ckE l = 0 ∨ ckE l = 21
  kept : Kept N T l.epoch (l.epoch + 1) (ckL l).dsk
  done : ckE l = 0 → Sound (ckL l) ∧ HasV (ckL l) N T ∧ (ckL l).epoch = l.epoch + 1 ∧ (ckL l).dirty = [] ∧ (ckL l).seq = 0 ∧ (ckL l).used = 0
  full : l.left < 0 → ckE l = 0 ∧ (ckL l).left < 0
theorem ck_go {l : Lg} (h : Sound l) (hE : l.epoch < 1099511627776) {N : Nat} {T : Nat → ByteArray} (hv : HasV l N T) : CkGo l N T := by
  obtain ⟨k1, k2⟩ := ck_all h hE hv
  have h64 := right_64 h.right
  have hne : l.epoch ≠ 1099511627776 := by omega
  have e1 : ckE l = (ckO l).code := by unfold ckE; rw [if_pos h.right, if_neg hne]
  have e2 : ckL l = if (ckO l).code = 0 then newL (ckO l) (l.epoch + 1) else goneL (ckO l) := by unfold ckL; rw [if_pos h.right, if_neg hne]
  have e3 : (ckL l).dsk = (ckO l).dsk := by
    rw [e2]
    by_cases h0 : (ckO l).code = 0
    · rw [if_pos h0]; rfl
    · rw [if_neg h0]; rfl
  refine ⟨?_, ?_, ?_, ?_⟩
  · rw [e1]; exact (ck_fair h.right).code
  · rw [e3]; exact k1
  · rw [e1]
    intro h0
    obtain ⟨a1, a2⟩ := k2 h0
    rw [e2, if_pos h0]
    exact ⟨a1, a2, rfl, rfl, rfl, rfl⟩
  · intro hL
    have hA := ck_able (n := 0) (N := l.secs.length) (L := l.left) l (sound_able h hL _) h64 (right_dirty h.right).1
    rw [e1, e2, if_pos hA.code]
    refine ⟨hA.code, ?_⟩
    show (ckO l).left < 0
    rw [hA.left, less_neg hL]; exact hL
structure ComGo (l : Lg) (xs : List Wrt) (N : Nat) (T : Nat → ByteArray) : Prop where
  codes : comE l xs = 0 ∨ comE l xs = 21
  kept : Kept2 N T (updT T xs) l.epoch (l.epoch + 1) (comL l xs).dsk
  done : comE l xs = 0 → Sound (comL l xs) ∧ HasV (comL l xs) N (updT T xs) ∧ l.epoch ≤ (comL l xs).epoch ∧ (comL l xs).epoch ≤ l.epoch + 1
  full : l.left < 0 → comE l xs = 0 ∧ (comL l xs).left < 0
theorem done_go {l : Lg} (h : Sound l) {N : Nat} {T : Nat → ByteArray} (hv : HasV l N T) {xs : List Wrt} (ha : allowL N xs = true) (h0 : xs.length ≠ 0) (h40 : xs.length ≤ 40) (hf : fullB l xs.length = false) :
    (doneE l xs = 0 ∨ doneE l xs = 21) ∧ Kept2 N T (updT T xs) l.epoch l.epoch (doneL l xs).dsk ∧ (doneE l xs = 0 → Sound (doneL l xs) ∧ HasV (doneL l xs) N (updT T xs) ∧ (doneL l xs).epoch = l.epoch) ∧ (l.left < 0 → doneE l xs = 0 ∧ (doneL l xs).left < 0) := by
  obtain ⟨n1, n2, n3⟩ := right_nums h.right
  obtain ⟨d1, d2, d3⟩ := right_dirty h.right
  have h64 := right_64 h.right
  have hN := hv.1
  unfold fullB at hf
  rw [decide_eq_false_iff_not] at hf
  have hs : l.seq < 6 := by omega
  have hm : l.used + xs.length ≤ 40 := by omega
  obtain ⟨k1, k2⟩ := log_all h hv ha h0 hs hm
  have hx : ∀ x ∈ xs, (trimS x.bytes).size ≤ 512 := fun x hx => (allow_may ha x hx).2
  have hfair := log_fair (N := l.secs.length) (o := ⟨l.dsk, l.left, 0⟩) (l := l) (xs := xs) ⟨.inl rfl, d3, rfl⟩ h64 ⟨n3.1, hm⟩ ⟨n2.1, hs⟩ hx
  have e3 : (doneL l xs).dsk = (logO ⟨l.dsk, l.left, 0⟩ l xs).dsk := by
    unfold doneL
    by_cases h0 : (logO ⟨l.dsk, l.left, 0⟩ l xs).code = 0
    · rw [if_pos h0]; rfl
    · rw [if_neg h0]; rfl
  refine ⟨hfair.code, ?_, ?_, ?_⟩
  · rw [e3]; exact k1
  · intro hc
    have hc' : (logO ⟨l.dsk, l.left, 0⟩ l xs).code = 0 := hc
    obtain ⟨a1, a2⟩ := k2 hc'
    unfold doneL
    rw [if_pos hc']
    exact ⟨a1, a2, rfl⟩
  · intro hL
    have hA := log_able (n := 0) (N := l.secs.length) (o := ⟨l.dsk, l.left, 0⟩) (L := l.left) l xs (sound_able h hL _) h64 ⟨n3.1, hm⟩ ⟨n2.1, hs⟩ hx
    refine ⟨hA.code, ?_⟩
    unfold doneL
    rw [if_pos hA.code]
    show (logO ⟨l.dsk, l.left, 0⟩ l xs).left < 0
    rw [hA.left, less_neg hL]; exact hL
theorem updT_nil (T : Nat → ByteArray) : updT T [] = T := rfl
theorem com_go {l : Lg} (h : Sound l) (hE : l.epoch < 1099511627776) {N : Nat} {T : Nat → ByteArray} (hv : HasV l N T) {xs : List Wrt} (ha : allowL N xs = true) (h40 : xs.length ≤ 40) : ComGo l xs N T := by
  have hN := hv.1
  have hc : (rightL l && allowL l.secs.length xs) = true := by rw [h.right, hN, ha]; rfl
  by_cases h0 : xs.length = 0
  · have e1 : comE l xs = 0 := by unfold comE; rw [if_pos hc, if_neg (by omega), if_pos h0]
    have e2 : comL l xs = l := by unfold comL; rw [if_pos hc, if_neg (by omega), if_pos h0]
    obtain rfl : xs = [] := List.length_eq_zero_iff.1 h0
    refine ⟨.inl e1, ?_, fun _ => ?_, fun hL => ⟨e1, by rw [e2]; exact hL⟩⟩
    · rw [e2, updT_nil]; exact (kept_self h hv (Int.le_refl _) (show l.epoch ≤ l.epoch + 1 by omega)).two (Int.le_refl _) (Int.le_refl _)
    · rw [e2, updT_nil]; exact ⟨h, hv, Int.le_refl _, by omega⟩
  · by_cases hf : fullB l xs.length = true
    · have e1 : comE l xs = if ckE l = 0 then doneE (ckL l) xs else ckE l := by unfold comE; rw [if_pos hc, if_neg (by omega), if_neg h0, if_pos hf]
      have e2 : comL l xs = if ckE l = 0 then doneL (ckL l) xs else ckL l := by unfold comL; rw [if_pos hc, if_neg (by omega), if_neg h0, if_pos hf]
      have hk := ck_go h hE hv
      by_cases hk0 : ckE l = 0
      · obtain ⟨s1, v1, e3, _, e4, e5⟩ := hk.done hk0
        rw [if_pos hk0] at e1 e2
        have hf1 : fullB (ckL l) xs.length = false := by
          unfold fullB
          rw [e4, e5]
          exact decide_eq_false (by omega)
        obtain ⟨g1, g2, g3, g4⟩ := done_go s1 v1 ha h0 h40 hf1
        rw [e3] at g2 g3
        refine ⟨by rw [e1]; exact g1, ?_, ?_, ?_⟩
        · rw [e2]
          intro keep
          obtain ⟨l', a, b, c, e6, e7⟩ := g2 keep
          exact ⟨l', a, b, c, by omega, e7⟩
        · rw [e1, e2]
          intro hz
          obtain ⟨a, b, c⟩ := g3 hz
          exact ⟨a, b, by omega, by omega⟩
        · rw [e1, e2]
          exact fun hL => g4 (hk.full hL).2
      · rw [if_neg hk0] at e1 e2
        have h21 := hk.codes.resolve_left hk0
        refine ⟨by rw [e1]; exact .inr h21, ?_, fun hz => ?_, fun hL => absurd (hk.full hL).1 hk0⟩
        · rw [e2]; exact hk.kept.two (Int.le_refl _) (Int.le_refl _)
        · rw [e1] at hz; exact absurd hz hk0
    · have hf' : fullB l xs.length = false := by simpa using hf
      have e1 : comE l xs = doneE l xs := by unfold comE; rw [if_pos hc, if_neg (by omega), if_neg h0, if_neg hf]
      have e2 : comL l xs = doneL l xs := by unfold comL; rw [if_pos hc, if_neg (by omega), if_neg h0, if_neg hf]
      obtain ⟨g1, g2, g3, g4⟩ := done_go h hv ha h0 h40 hf'
      refine ⟨by rw [e1]; exact g1, ?_, ?_, ?_⟩
      · rw [e2]
        intro keep
        obtain ⟨l', a, b, c, e6, e7⟩ := g2 keep
        exact ⟨l', a, b, c, e6, by omega⟩
      · rw [e1, e2]
        intro hz
        obtain ⟨a, b, c⟩ := g3 hz
        exact ⟨a, b, by omega, by omega⟩
      · rw [e1, e2]; exact g4
/-- what is committed is not, if it may not be -/
theorem com_bad {l : Lg} {N : Nat} (h : Sound l) (hN : l.secs.length = N) {xs : List Wrt} (hb : ¬ (allowL N xs = true ∧ xs.length ≤ 40)) : comE l xs = 1 ∨ comE l xs = 30 := by
  unfold comE
  by_cases ha : allowL N xs = true
  · have hc : (rightL l && allowL l.secs.length xs) = true := by rw [h.right, hN, ha]; rfl
    rw [if_pos hc, if_pos (by have : ¬ xs.length ≤ 40 := fun h => hb ⟨ha, h⟩
                              omega)]
    exact .inr rfl
  · have hc : ¬ (rightL l && allowL l.secs.length xs) = true := by
      rw [h.right, hN, Bool.true_and]; exact ha
    rw [if_neg hc]
    exact .inl rfl
theorem com_ok {l : Lg} {N : Nat} (h : Sound l) (hN : l.secs.length = N) {xs : List Wrt} (h0 : comE l xs = 0) : allowL N xs = true ∧ xs.length ≤ 40 := by
  by_cases hb : allowL N xs = true ∧ xs.length ≤ 40
  · exact hb
  · rcases com_bad h hN hb with e | e <;> rw [h0] at e <;> exact absurd e (by decide)
theorem kept_right {N : Nat} {T T' : Nat → ByteArray} {E1 E2 : Int} {d : Dsk} (h : Kept2 N T T' E1 E2 d) : rightD d = true := by
  by_cases hr : rightD d = true
  · exact hr
  · obtain ⟨l', a, b, _⟩ := h []
    have hr' : rightD d = false := by simpa using hr
    rw [crash_bad d [] hr'] at b
    have := (right_dirty a.right).2.2
    rw [← b] at this
    exact absurd this (by decide)
theorem new_sound {k : Nat} (h : 64 ≤ k ∧ k ≤ 256) : Sound (newLg k) ∧ HasV (newLg k) k (fun _ => ⟨#[]⟩) ∧ (newLg k).epoch = 1 ∧ (newLg k).left = -1 := by
  have hin : (64 : Int) ≤ k ∧ (k : Int) ≤ 256 := by omega
  have e : newLg k = ⟨(List.replicate k ⟨#[]⟩).set 0 newS, [], -1, 1, 0, 0, []⟩ := by unfold newLg; rw [if_pos hin, Int.toNat_natCast]
  have hl : ((List.replicate k (⟨#[]⟩ : ByteArray)).set 0 newS).length = k := by simp
  have h0 : sec ((List.replicate k (⟨#[]⟩ : ByteArray)).set 0 newS) 0 = newS := by
    unfold sec
    rw [getD_set _ _ _ _ (by rw [List.length_replicate]; omega), if_pos rfl]
  have hk : ∀ j : Nat, j ≠ 0 → sec ((List.replicate k (⟨#[]⟩ : ByteArray)).set 0 newS) j = ⟨#[]⟩ := fun j h => by
    unfold sec
    rw [getD_set _ _ _ _ (by rw [List.length_replicate]; omega), if_neg (fun e => h e.symm)]
    simp only [List.getD_eq_getElem?_getD, List.getElem?_replicate]
    split <;> rfl
  obtain ⟨s1, s2⟩ := super_is (n := 1) (by omega) (by omega)
  have hr := newLg_right k h
  rw [e] at hr ⊢
  refine ⟨⟨hr, rfl, by show superE (sec _ 0) = 0; rw [h0]; exact s1, by show superV (sec _ 0) = 1; rw [h0]; exact s2, .zero, fun j hj hc => ?_⟩, ⟨hl, fun n k1 k2 => ?_⟩, rfl, rfl⟩
  · exfalso
    have hc' : commitE (sec ((List.replicate k (⟨#[]⟩ : ByteArray)).set 0 newS) (7 + j)) = 0 := hc
    rw [hk _ (by omega)] at hc'
    exact absurd hc' (by decide +kernel)
  · rw [tells_bare rfl]
    exact hk n (by omega)
end Go.Proofs.YthnmnnlbglpjaaaGreatDoor
