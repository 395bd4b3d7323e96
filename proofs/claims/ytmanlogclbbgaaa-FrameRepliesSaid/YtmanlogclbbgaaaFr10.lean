/- frame.ReadAsk. -/
import Derived.Test.YtmanlogclbbgaaaFr9
import Derived.Test.YtmanlogclbbgaaaResRow
namespace Go.Proofs.Ytmanlogclbbgaaa
open Go.RowKit
set_option linter.unusedVariables false

def readV (s : ByteArray) : Asq := (readQ s).getD asqZ
def readX (s : ByteArray) : Int := if (readQ s).isSome = true then 0 else 70
theorem readQ_no {s : ByteArray} (h : rdOk s = false) : readQ s = none := by
  unfold readQ
  unfold rdOk at h
  split
  · rename_i he
    rw [decide_eq_true he, Bool.true_and] at h
    cases hp : prAsk (openS s) with
    | none => rfl
    | some x => rw [hp] at h; cases h
  · rfl
theorem readQ_yes {s : ByteArray} {q : Asq} {r : Nat} (h : rdOk s = true) (hp : prAsk (openS s) = some (q, r)) : readQ s = if askOk q = true ∧ askB q = s then some q else none := by
  unfold rdOk at h
  rw [Bool.and_eq_true, decide_eq_true_eq] at h
  unfold readQ
  rw [if_pos h.1, hp]
theorem readV_facts (s : ByteArray) : (readV s).name.size ≤ 12 ∧ (readV s).source.size ≤ 2000 ∧ (readV s).record.size ≤ 100 ∧ (readV s).no ≤ 9223372036854775807 := by
  unfold readV
  cases h : readQ s with
  | none => exact ⟨by decide, by decide, by decide, by decide⟩
  | some q =>
    have hs := readQ_some h
    obtain ⟨a, b, c, d, e⟩ := askOk_facts hs.1
    refine ⟨d, c, e, ?_⟩
    unfold readQ at h
    split at h
    · split at h
      · cases h
      · rename_i q2 r hp
        split at h
        · injection h with h
          subst h
          exact (prAsk_facts hp).2.2.2.2.1
        · cases h
    · cases h
set_option maxRecDepth 100000 in
set_option maxHeartbeats 4000000 in
theorem frReadAsk (s : ByteArray) (w : World) (hs : s.size ≤ 3000) :
    Calls Try.prog 10 #[.string s] w fun e w' => e = .returned (.tuple #[(readV s).value, .int .i64 (readX s)]) ∧ Below w.heap.size w w' := by
  have hmf : ∀ (fn : Fn) (first cap : Array Value) (w : World), (Instr.makeFunc fn first cap).run Try.prog w = .ok (.func fn first cap) w := fun _ _ _ _ => rfl
  have hX : Hid (∀ u : World, u = (w.alloc (.cells #[.int .i64 0, .string ⟨#[]⟩, .int .i64 0, .string ⟨#[]⟩, .string ⟨#[]⟩] 23)).alloc (.cells #[.int .i64 0, .string ⟨#[]⟩, .int .i64 0, .string ⟨#[]⟩, .string ⟨#[]⟩] 23) →
      AsqAt u w.heap.size asqZ ∧ AsqAt u (w.heap.size + 1) asqZ ∧ Below w.heap.size w u ∧ u.heap.size = w.heap.size + 1 + 1) := Lib.hid (by
    rintro u rfl
    have b0 := heap_alloc_new w (.cells #[.int .i64 0, .string ⟨#[]⟩, .int .i64 0, .string ⟨#[]⟩, .string ⟨#[]⟩] 23)
    have e1 := heap_alloc_new (w.alloc (.cells #[.int .i64 0, .string ⟨#[]⟩, .int .i64 0, .string ⟨#[]⟩, .string ⟨#[]⟩] 23)) (.cells #[.int .i64 0, .string ⟨#[]⟩, .int .i64 0, .string ⟨#[]⟩, .string ⟨#[]⟩] 23)
    rw [World.size_alloc] at e1
    exact ⟨(heap_alloc_old _ _ (lt_of_block b0)).trans b0, e1, ((Below.refl w.heap.size w).alloc (Nat.le_refl _) _).alloc (by simp) _, by rw [World.size_alloc, World.size_alloc]⟩)
  go_enter Try.func10, Try.ntmps10
  go_upto_region 2 with fail
  obtain ⟨w1, hW⟩ : ∃ w1, (w.alloc (.cells #[.int .i64 0, .string ⟨#[]⟩, .int .i64 0, .string ⟨#[]⟩, .string ⟨#[]⟩] 23)).alloc (.cells #[.int .i64 0, .string ⟨#[]⟩, .int .i64 0, .string ⟨#[]⟩, .string ⟨#[]⟩] 23) = w1 := ⟨_, rfl⟩
  rw [hW]
  obtain ⟨hN, hB, hb1, hz1⟩ := hX.out w1 hW.symm
  clear hW hX
  obtain ⟨N, hNN⟩ : ∃ N, w.heap.size = N := ⟨_, rfl⟩
  obtain ⟨B, hBB⟩ : ∃ B, N + 1 = B := ⟨_, rfl⟩
  rw [hNN] at hN hB hz1 ⊢
  rw [hBB] at hB hz1 ⊢
  have HNN := Lib.hid hNN
  have hNB : N ≠ B := by omega
  have HB1 := Lib.hid hb1; have HN := Lib.hid hN
  have HR := Lib.hid (frRead s B asqZ w1 hB hs)
  clear hb1 hN hB hz1
  go_upto_region 3 with (first | (go_at_call 27; refine HR.out.mono ?_; rintro e w2 ⟨q, rfl, hq2, hq3, hq4, hg2⟩))
  have hqs : q.name.size ≤ 65535 ∧ q.source.size ≤ 65535 ∧ q.record.size ≤ 65535 ∧ q.no ≤ 9223372036854775807 := by
    cases h : rdOk s with
    | true => obtain ⟨r, hr⟩ := hq3 h; obtain ⟨_, f1, f2, f3, f4, _⟩ := prAsk_facts hr; exact ⟨f1, f2, f3, f4⟩
    | false => rw [hq4 h]; exact ⟨by decide, by decide, by decide, by decide⟩
  have hans : (rdOk s = true ∧ askE q = 0 ∧ askS q = s ∧ readV s = q ∧ readX s = 0) ∨ ((rdOk s = false ∨ askE q ≠ 0 ∨ askS q ≠ s) ∧ readV s = asqZ ∧ readX s = 70) := by
    unfold readV readX
    cases h : rdOk s with
    | false => rw [readQ_no h]; exact .inr ⟨.inl rfl, rfl, rfl⟩
    | true =>
      obtain ⟨r, hr⟩ := hq3 h
      rw [readQ_yes h hr]
      by_cases ho : askOk q = true
      · have e1 : askE q = 0 := by unfold askE; rw [if_pos ho]
        have e2 : askS q = askB q := by unfold askS; rw [if_pos ho]
        by_cases hb : askB q = s
        · rw [if_pos ⟨ho, hb⟩]; exact .inl ⟨rfl, e1, e2.trans hb, rfl, rfl⟩
        · rw [if_neg (fun h => hb h.2)]; exact .inr ⟨.inr (.inr (by rw [e2]; exact hb)), rfl, rfl⟩
      · rw [if_neg (fun h => ho h.1)]
        exact .inr ⟨.inr (.inl (by unfold askE; rw [if_neg ho]; decide)), rfl, rfl⟩
  obtain ⟨f1, f2, f3, f4⟩ := hqs
  have HA := Lib.hid (fun u => frAsk_any q u (by omega) (by omega) (by omega) f4)
  have hN2 := (hg2.block N (lt_of_block HN.out) (fun e => hNB (Option.some.inj e))).trans HN.out
  have hb2 : Below w.heap.size w w2 := HB1.out.grown hg2 HB1.out.size (fun k hk => by injection hk with hk; omega)
  have HANS := Lib.hid hans; have HN2 := Lib.hid hN2; have HB2 := Lib.hid hb2; have HQ2 := Lib.hid hq2
  generalize rdOk s = ok at *
  generalize askE q = ae at *
  generalize askS q = aS at *
  obtain ⟨q1, q2, q3, q4, q5⟩ := q
  have c0 := below_cell (Below.refl _ w2) hq2 0 rfl
  have c1 := below_cell (Below.refl _ w2) hq2 1 rfl
  have c2 := below_cell (Below.refl _ w2) hq2 2 rfl
  have c3 := below_cell (Below.refl _ w2) hq2 3 rfl
  have c4 := below_cell (Below.refl _ w2) hq2 4 rfl
  simp only at c0 c1 c2 c3 c4
  unfold Asq.value at HA
  simp only at HA
  clear hq3 hq4 hans hN2 hb2 hq2 f1 f2 f3 f4 HN HB1 hg2
  go_upto_region 4 with (first | (go_at_call 9; refine (HA.out _).mono ?_; rintro e w3 ⟨rfl, hb3⟩))
  have hq3 := (hb3.block _ (lt_of_block HQ2.out)).trans HQ2.out
  have hN3 := (hb3.block _ (lt_of_block HN2.out)).trans HN2.out
  have HB3 := Lib.hid (HB2.out.trans (hb3.mono HB2.out.size))
  have d0 := below_cell (Below.refl _ w3) hq3 0 rfl
  have d1 := below_cell (Below.refl _ w3) hq3 1 rfl
  have d2 := below_cell (Below.refl _ w3) hq3 2 rfl
  have d3 := below_cell (Below.refl _ w3) hq3 3 rfl
  have d4 := below_cell (Below.refl _ w3) hq3 4 rfl
  simp only at d0 d1 d2 d3 d4
  have hNw : w.heap.size ≤ N := by omega
  have HS0 := Lib.hid (setRow_heap w3 N _ #[.int .i64 0, .string ⟨#[]⟩, .int .i64 0, .string ⟨#[]⟩, .string ⟨#[]⟩] _ _ hN3)
  have HS1 := Lib.hid (setRow_heap w3 N _ #[.int .i64 q1, .string q2, .int .i64 q3, .string q4, .string q5] _ _ hN3)
  have HF0 := Lib.hid (below_setRow HB3.out hNw #[.int .i64 0, .string ⟨#[]⟩, .int .i64 0, .string ⟨#[]⟩, .string ⟨#[]⟩])
  have HF1 := Lib.hid (below_setRow HB3.out hNw #[.int .i64 q1, .string q2, .int .i64 q3, .string q4, .string q5])
  have hinfo := Try.underlying23
  clear c0 c1 c2 c3 c4 hb3 HB2 HA HNN hq3 hNN hBB HQ2 HN2
  have bad : (ok = false ∨ ae ≠ 0 ∨ aS ≠ s) → readV s = asqZ ∧ readX s = 70 := fun h => by
    rcases HANS.out with ⟨a1, a2, a3, _⟩ | ⟨_, b1, b2⟩
    · rcases h with h | h | h
      · rw [a1] at h; cases h
      · exact absurd a2 h
      · exact absurd a3 h
    · exact ⟨b1, b2⟩
  have BAD := Lib.hid bad
  clear bad
  cases ok with
  | false =>
    obtain ⟨r1, r2⟩ := BAD.out (.inl rfl)
    have R1 := Lib.hid r1; have R2 := Lib.hid r2
    clear HANS BAD r1 r2
    go_wp2_with (first | (refine wpList_store_row rfl 23 _ _ rfl N #[.int .i64 0, .string ⟨#[]⟩, .int .i64 0, .string ⟨#[]⟩, .string ⟨#[]⟩] rfl rfl 23 _ hN3 (by kernel_rfl) rfl (by simp [Value.oneCell']) ?_))
    exact bodyPost_ret (results_row_tmp rfl _ _ N _ _ _ _ rfl HS0.out Try.underlying23 rfl (by kernel_rfl)) rfl ⟨by rw [R1.out, R2.out]; rfl, HF0.out⟩
  | true =>
    by_cases ha : ae = 0
    case neg =>
      obtain ⟨r1, r2⟩ := BAD.out (.inr (.inl ha))
      have hq : (ae != 0) = true := by simpa using ha
      have R1 := Lib.hid r1; have R2 := Lib.hid r2
      clear HANS BAD r1 r2 ha
      go_wp2_with (first | (refine wpList_store_row rfl 23 _ _ rfl N #[.int .i64 0, .string ⟨#[]⟩, .int .i64 0, .string ⟨#[]⟩, .string ⟨#[]⟩] rfl rfl 23 _ hN3 (by kernel_rfl) rfl (by simp [Value.oneCell']) ?_))
      exact bodyPost_ret (results_row_tmp rfl _ _ N _ _ _ _ rfl HS0.out Try.underlying23 rfl (by kernel_rfl)) rfl ⟨by rw [R1.out, R2.out]; rfl, HF0.out⟩
    subst ha
    by_cases hs : aS = s
    case neg =>
      obtain ⟨r1, r2⟩ := BAD.out (.inr (.inr hs))
      have hq := ba_tne hs
      have R1 := Lib.hid r1; have R2 := Lib.hid r2
      clear HANS BAD r1 r2 hs
      go_wp2_with (first | (refine wpList_store_row rfl 23 _ _ rfl N #[.int .i64 0, .string ⟨#[]⟩, .int .i64 0, .string ⟨#[]⟩, .string ⟨#[]⟩] rfl rfl 23 _ hN3 (by kernel_rfl) rfl (by simp [Value.oneCell']) ?_))
      exact bodyPost_ret (results_row_tmp rfl _ _ N _ _ _ _ rfl HS0.out Try.underlying23 rfl (by kernel_rfl)) rfl ⟨by rw [R1.out, R2.out]; rfl, HF0.out⟩
    subst hs
    have hgood : readV aS = ⟨q1, q2, q3, q4, q5⟩ ∧ readX aS = 0 := by
      rcases HANS.out with ⟨_, _, _, b1, b2⟩ | ⟨h, _⟩
      · exact ⟨b1, b2⟩
      · rcases h with h | h | h
        · cases h
        · exact absurd rfl h
        · exact absurd rfl h
    obtain ⟨r1, r2⟩ := hgood
    have hq : (aS.toList == aS.toList) = true := by simp
    have R1 := Lib.hid r1; have R2 := Lib.hid r2
    clear HANS BAD r1 r2
    go_wp2_with (first | (refine wpList_store_row rfl 23 _ _ rfl N #[.int .i64 q1, .string q2, .int .i64 q3, .string q4, .string q5] rfl rfl 23 _ hN3 (by kernel_rfl) rfl (by simp [Value.oneCell']) ?_))
    exact bodyPost_ret (results_row_tmp rfl _ _ N _ _ _ _ rfl HS1.out Try.underlying23 rfl (by kernel_rfl)) rfl ⟨by rw [R1.out, R2.out]; rfl, HF1.out⟩
end Go.Proofs.Ytmanlogclbbgaaa
