/- The walk of FrameTorn. -/
import Derived.Test.YtmanlogclbbgaaaFr14
import Derived.Test.YtmanlogclbbgaaaFr15
import Derived.Test.YtmanlogclbbgaaaFr26
import Derived.Test.YtmanlogclbbgaaaRef02Turn
namespace Go.Proofs.Ytmanlogclbbgaaa.lawFrameTorn
open Go.RowKit
set_option linter.unusedVariables false
set_option linter.unusedSimpArgs false

theorem numS_size (n k : Nat) : (numS n k).size = k := by
  rw [← ba_len, numS_list, putL_length]
theorem askB_size (q : Asq) (h : askOk q = true) : 4 ≤ (askB q).size ∧ (askB q).size ≤ 2140 := by
  obtain ⟨_, _, h1, h2, h3⟩ := askOk_facts h
  rw [askB_in, sealL_size]
  unfold askIn
  simp only [ByteArray.size_append, numS_size, textL_size]
  omega
theorem mod_from (a n : Int) (h0 : 0 < n) (h1 : n ≤ 40000) : ∃ f : Nat, (wrap64 (a.tmod n + n)).tmod n = (f : Int) ∧ (f : Int) < n := by
  have l1 := Int.tmod_lt_of_pos a h0
  have l2 := Int.lt_tmod_of_pos a h0
  rw [IntWalk.wrap64_in _ ⟨by omega, by omega⟩]
  have h3 : 0 ≤ (a.tmod n + n).tmod n := Int.tmod_nonneg _ (by omega)
  have h4 := Int.tmod_lt_of_pos (a.tmod n + n) h0
  obtain ⟨f, hf⟩ := Int.eq_ofNat_of_zero_le h3
  exact ⟨f, hf, by omega⟩
theorem btr {w u u2 : World} (h : Below w.heap.size w u) (hb : Below u.heap.size u u2) : Below w.heap.size w u2 := h.trans (hb.mono h.size)
theorem bta {w u : World} (h : Below w.heap.size w u) (o : Obj) : Below w.heap.size w (u.alloc o) := h.alloc h.size o
theorem torn (q : Asq) (h : askOk q = true) (hno : q.no ≤ 9223372036854775807) (t : ByteArray) (f p : Nat) (hsz : t.size = (askB q).size) (hf : f ≤ 8 * t.size)
    (hx : getL t.data.toList = getL (askB q).data.toList ^^^ 2 ^ f * patK p (8 * (askB q).size - f) 32) :
    (t = askB q ∧ readX t = 0) ∨ (t ≠ askB q ∧ readX t = 70 ∧ readR t = none) := by
  have h4 := (askB_size q h).1
  have hP : patK p (8 * (askB q).size - f) 32 < 4294967296 :=
    Nat.lt_of_lt_of_le (patK_lt p _ 32) (by rw [show (4294967296 : Nat) = 2 ^ 32 from rfl]; exact Nat.pow_le_pow_right (by omega) (Nat.min_le_left _ _))
  have hiff := turned_iff (askIn q) t hsz f _ hP hf hx
  by_cases e : t = askB q
  · subst e
    refine .inl ⟨rfl, ?_⟩
    unfold readX
    rw [readQ_back q h hno]; rfl
  · have ho : openE t ≠ 0 := by
      intro ho
      unfold openE at ho
      rw [if_neg (by omega)] at ho
      split at ho
      · rename_i hs; exact e (hiff.1 hs)
      · cases ho
    refine .inr ⟨e, ?_, ?_⟩
    · unfold readX readQ; rw [if_neg ho]; rfl
    · unfold readR; rw [if_neg ho]

set_option maxRecDepth 100000 in
set_option maxHeartbeats 2000000 in
theorem walk (v0 : Value) (q : Asq) (a1 a2 : Int) (w : World) (w0 : IsAsk w v0 q) (w1 : (Lit.int .i64 a1).wf = true) (w2 : (Lit.int .u32 a2).wf = true) :
    Calls Try.prog 6 #[v0, .int .i64 a1, .int .u32 a2] w fun e w' => e = .returned (.bool true) ∧ Below w.heap.size w w' := by
  obtain ⟨rfl, hk, hn, l1, l2, l3⟩ := w0
  unfold maxLen at l1 l2 l3
  have h1 : -9223372036854775808 ≤ a1 ∧ a1 ≤ 9223372036854775807 := by simpa [Lit.wf, IntKind.min, IntKind.max, IntKind.signed, IntKind.bits] using w1
  have h2 : 0 ≤ a2 ∧ a2 ≤ 4294967295 := by simpa [Lit.wf, IntKind.min, IntKind.max, IntKind.signed, IntKind.bits] using w2
  obtain ⟨p, rfl⟩ := Int.eq_ofNat_of_zero_le h2.1
  have hp : p < 4294967296 := by omega
  have HP := Lib.hid hp
  have HS := Lib.hid (fun u => frShort q u (by omega) (by omega) (by omega))
  have HAL := Lib.hid (fun u => frAlive u)
  obtain ⟨q', hq'⟩ : ∃ q', shortA q = q' := ⟨_, rfl⟩
  have z1 : q'.name.size ≤ 60 := by rw [← hq']; exact cut0_size _ _
  have z2 : q'.source.size ≤ 2100 := by rw [← hq']; exact cut0_size _ _
  have z3 : q'.record.size ≤ 150 := by rw [← hq']; exact cut0_size _ _
  have z4 : q'.no ≤ 9223372036854775807 := by rw [← hq']; exact hn.2
  rw [hq'] at HS
  have HA := Lib.hid (fun u => frAsk_any q' u (by omega) (by omega) (by omega) z4)
  have hcase : (askOk q' = false ∧ askE q' = 1 ∧ askS q' = ⟨#[]⟩) ∨ (askOk q' = true ∧ askE q' = 0 ∧ askS q' = askB q') := by
    unfold askE askS
    cases askOk q' with
    | false => exact .inl ⟨rfl, rfl, rfl⟩
    | true => exact .inr ⟨rfl, rfl, rfl⟩
  have HZ := Lib.hid (fun (h : askOk q' = true) => askB_size q' h)
  have HT := Lib.hid (fun (h : askOk q' = true) => torn q' h z4)
  generalize askE q' = ae at *
  generalize askS q' = aS at *
  generalize askB q' = B at *
  generalize askOk q' = ok at *
  clear z1 z2 z3 z4 hq' hk hn l1 l2 l3 h1 h2 w1 w2 hp
  obtain ⟨k0, n0, o0, s0, r0⟩ := q
  obtain ⟨k, nm, no, so, re⟩ := q'
  unfold Asq.value at *
  simp only at HS HA
  have hb0 := Below.refl w.heap.size w
  rcases hcase with ⟨h1, rfl, rfl⟩ | ⟨hok, rfl, rfl⟩
  · go_enter Try.func6, Try.ntmps6
    go_wp2_with (first
      | (go_at_call 8; refine (HS.out _).mono ?_; rintro e w1 ⟨rfl, hb1⟩)
      | (go_at_call 9; refine (HA.out _).mono ?_; rintro e w2 ⟨rfl, hb2⟩)
      | (go_at_call 12; refine (HAL.out _).mono ?_; rintro e w3 ⟨rfl, hb3⟩))
    go_ret
    exact ⟨rfl, btr (btr (btr ((Below.refl w.heap.size w).alloc (Nat.le_refl _) _) hb1) hb2) hb3⟩
  · have hz := HZ.out hok
    obtain ⟨hz1, hz2⟩ := hz
    have i1 : wrap64 (8 * (aS.size : Int)) = 8 * (aS.size : Int) := IntWalk.wrap64_in _ ⟨by omega, by omega⟩
    have i2 : (8 * (aS.size : Int) == 0) = false := beq_false_of_ne (by omega)
    have i3 : ¬ (8 * (aS.size : Int) = 0) := by omega
    obtain ⟨f, hf, hfl⟩ := mod_from a1 (8 * (aS.size : Int)) (by omega) (by omega)
    have hf2 : f ≤ 8 * aS.size := by omega
    have hs5 : aS.size ≤ 5000 := by omega
    have HTU := Lib.hid (fun u => turned_any aS f p u hs5 hf2 HP.out)
    have HFS := Lib.hid hf2; have HS5 := Lib.hid hz2
    clear hfl hf2 hs5 hz1 hz2
    go_enter Try.func6, Try.ntmps6
    go_upto_region 8 with (first
      | (go_at_call 8; refine (HS.out _).mono ?_; rintro e w1 ⟨rfl, hb1⟩)
      | (go_at_call 9; refine (HA.out _).mono ?_; rintro e w2 ⟨rfl, hb2⟩)
      | (go_at_call 22; refine (HTU.out _).mono ?_; rintro e w3 ⟨⟨t, hts, htg, rfl⟩, hb3⟩))
    have hB3 := btr (btr (btr ((Below.refl w.heap.size w).alloc (Nat.le_refl _) _) hb1) hb2) hb3
    have hts3 : t.size ≤ 3000 := by have := HS5.out; omega
    have hrd := HT.out hok t f p hts (by have := HFS.out; omega) htg
    have HR := Lib.hid (fun u => frReadAsk t u hts3)
    have HRR := Lib.hid (fun u => frReadReply t u hts3)
    unfold ReadPost at HRR
    have HB3 := Lib.hid hB3
    obtain ⟨v, hv⟩ : ∃ v, readV t = v := ⟨_, rfl⟩
    obtain ⟨x, hx⟩ : ∃ x, readX t = x := ⟨_, rfl⟩
    rw [hv, hx] at HR
    rw [hx] at hrd
    obtain ⟨vk, vn, vo, vs, vr⟩ := v
    unfold Asq.value at HR
    simp only at HR
    clear hB3 hb1 hb2 hb3 hts htg hts3 hf i1 i2 i3 HTU HT hv hx HFS HS5 HZ HA HS
    obtain ⟨g, hg⟩ : ∃ g : Int, (if (readR t).isSome = true then 0 else 70) = g := ⟨_, rfl⟩
    have hcase : (t = aS ∧ x = 0) ∨ (t ≠ aS ∧ x = 70 ∧ g = 70) := by
      rcases hrd with h | ⟨h1, h2, h3⟩
      · exact .inl h
      · exact .inr ⟨h1, h2, by rw [← hg, h3]; rfl⟩
    rw [hg] at HRR
    clear hg hrd
    generalize (readR t).getD rpZ = R5 at HRR
    obtain ⟨q1, q2, q3, q4, q5, q6, ls⟩ := R5
    have HR5 := Lib.hid (fun u => (HRR.out u).mono (R' := fun e w' => Below u.heap.size u w' ∧ ∃ A c, e = .returned (.tuple #[.agg #[.int .i64 q1, .int .i64 q2, .int .i64 q3, .string q4, .int .i64 q5, .int .u32 q6, .slice A ls.length c], .int .i64 g])) (fun e w' hh => by
      obtain ⟨h1, rv, ⟨_, kk, rfl, hkl⟩, rfl⟩ := hh
      obtain ⟨A5, c5, rfl, _, _⟩ := hkl.form
      exact ⟨h1, A5, c5, rfl⟩))
    clear HRR
    rcases hcase with ⟨rfl, rfl⟩ | ⟨hne, rfl, rfl⟩
    · have hq : (t.toList == t.toList) = true := by simp
      go_wp2_with (first
        | (go_at_call 10; refine (HR.out _).mono ?_; rintro e w4 ⟨rfl, hb4⟩)
        | (go_at_call 17; refine (HR5.out _).mono ?_; rintro e w5 ⟨hb5, A5, c5, rfl⟩)
        | (go_at_call 12; refine (HAL.out _).mono ?_; rintro e w6 ⟨rfl, hb6⟩))
      go_ret
      exact ⟨rfl, btr (bta (btr (bta (btr HB3.out hb4) _) hb5) _) hb6⟩
    · have hq := ba_tne hne
      go_wp2_with (first
        | (go_at_call 10; refine (HR.out _).mono ?_; rintro e w4 ⟨rfl, hb4⟩)
        | (go_at_call 17; refine (HR5.out _).mono ?_; rintro e w5 ⟨hb5, A5, c5, rfl⟩)
        | (go_at_call 12; refine (HAL.out _).mono ?_; rintro e w6 ⟨rfl, hb6⟩))
      go_ret
      exact ⟨rfl, btr (bta (btr (bta (btr HB3.out hb4) _) hb5) _) hb6⟩
end Go.Proofs.Ytmanlogclbbgaaa.lawFrameTorn
