/- The walk of LexNumbers. -/
import Derived.Test.YtpkpbohkdkmoiaaDoorNu3
namespace Go.Proofs.YtpkpbohkdkmoiaaDoor.lawLexNumbers
open Go.RowKit
set_option linter.unusedVariables false

theorem dg_ok (u : Nat) (h : u < 10) : digB (UInt8.ofNat (48 + u)).toNat = true ∧ (UInt8.ofNat (48 + u)).toNat - 48 = u := by
  have hc : u = 0 ∨ u = 1 ∨ u = 2 ∨ u = 3 ∨ u = 4 ∨ u = 5 ∨ u = 6 ∨ u = 7 ∨ u = 8 ∨ u = 9 := by omega
  rcases hc with rfl | rfl | rfl | rfl | rfl | rfl | rfl | rfl | rfl | rfl <;> exact ⟨by decide, by decide⟩
theorem dec_facts (u : Nat) : Lib.decDigits u ≠ [] ∧ (∀ c ∈ Lib.decDigits u, digB c.toNat = true) ∧ decN (Lib.decDigits u) = u ∧ (u ≠ 0 → (Lib.decDigits u).head? ≠ some 48) := by
  induction u using Nat.strongRecOn with
  | _ u ih =>
    rw [Lib.decDigits]
    by_cases h : u < 10
    · rw [dif_pos h]
      obtain ⟨h1, h2⟩ := dg_ok u h
      refine ⟨by simp, fun c hc => by rw [List.mem_singleton.1 hc]; exact h1, by simp [decN]; exact h2, fun h0 he => h0 ?_⟩
      have : UInt8.ofNat (48 + u) = 48 := by simpa using he
      rw [← h2, this]; rfl
    · rw [dif_neg h]
      obtain ⟨g1, g2, g3, g4⟩ := ih (u / 10) (by omega)
      obtain ⟨h1, h2⟩ := dg_ok (u % 10) (by omega)
      refine ⟨by simp, fun c hc => ?_, ?_, fun _ => ?_⟩
      · rcases List.mem_append.1 hc with hc | hc
        · exact g2 c hc
        · rw [List.mem_singleton.1 hc]; exact h1
      · unfold decN at g3 ⊢
        rw [List.foldl_append, g3]
        show 10 * (u / 10) + ((UInt8.ofNat (48 + u % 10)).toNat - 48) = u
        rw [h2]; omega
      · cases hx : Lib.decDigits (u / 10) with
        | nil => exact absurd hx g1
        | cons a l =>
          have := g4 (by omega)
          rw [hx] at this
          simpa using this
theorem dec_len (u : Nat) (h : u ≤ 18446744073709551615) : (Lib.decDigits u).length ≤ 20 := by
  rw [Lib.decDigits_length]
  by_cases h0 : u = 0
  · subst h0; rw [Lib.nDigits]; simp
  · have := Lib.numDigits_eq u (by omega) (by omega); split at this <;> omega
theorem not_hex (a : UInt8) (l : List UInt8) (h : ∀ c ∈ l, digB c.toNat = true) : isHex (a :: l) = false := by
  unfold isHex
  cases l with
  | nil => simp [List.isPrefixOf]
  | cons b l =>
    have hb := h b (by simp)
    have : ((120 : UInt8) == b) = false := by
      rw [beq_eq_false_iff_ne]
      intro e
      rw [← e] at hb
      exact absurd hb (by decide)
    simp [List.isPrefixOf, this]
theorem ten_is (u : Nat) (h : u ≤ 18446744073709551615) : numL (Lib.decDigits u) = some u := by
  obtain ⟨g1, g2, g3, g4⟩ := dec_facts u
  have hx : isHex (Lib.decDigits u) = false := by
    cases hx : Lib.decDigits u with
    | nil => exact absurd hx g1
    | cons a l => exact not_hex a l (fun c hc => g2 c (by rw [hx]; simp [hc]))
  have hno : ¬ (1 < (Lib.decDigits u).length ∧ (Lib.decDigits u).head? = some 48) := fun hh => by
    by_cases h0 : u = 0
    · subst h0
      have : (Lib.decDigits 0).length = 1 := by rw [Lib.decDigits]; rfl
      omega
    · exact g4 h0 hh.2
  unfold numL
  rw [if_neg (by rw [hx]; decide), g3, if_pos ⟨g1, hno, List.all_eq_true.2 g2, h⟩]
theorem zero_is (u : Nat) : numL (48 :: Lib.decDigits u) = none := by
  obtain ⟨g1, g2, g3, g4⟩ := dec_facts u
  have hl : 1 < (48 :: Lib.decDigits u).length := by
    cases hx : Lib.decDigits u with
    | nil => exact absurd hx g1
    | cons a l => simp
  unfold numL
  rw [if_neg (by rw [not_hex 48 _ g2]; decide), if_neg (fun hh => hh.2.1 ⟨hl, rfl⟩)]
theorem sign_is (u : Nat) : numL (45 :: Lib.decDigits u) = none := by
  obtain ⟨g1, g2, g3, g4⟩ := dec_facts u
  unfold numL
  rw [if_neg (by rw [not_hex 45 _ g2]; decide), if_neg (fun hh => absurd (List.all_eq_true.1 hh.2.2.1 45 (by simp)) (by decide))]
theorem hex_is (n k : Nat) (h1 : 1 ≤ k) (h2 : k ≤ 16) (h3 : n < 16 ^ k) : numL (48 :: 120 :: hexL n k) = some n := by
  unfold numL
  rw [if_pos (show isHex (48 :: 120 :: hexL n k) = true by unfold isHex; simp [List.isPrefixOf])]
  show (if 0 < (hexL n k).length ∧ (hexL n k).length ≤ 16 ∧ ((hexL n k).all fun c => hexB c.toNat) = true then some (hexN (hexL n k)) else none) = some n
  rw [hexL_len, if_pos ⟨by omega, h2, List.all_eq_true.2 (hexL_all n k)⟩, hexL_num, Nat.mod_eq_of_lt h3]
set_option maxRecDepth 100000 in
set_option maxHeartbeats 4000000 in
theorem walk (a : Int) (w : World) (w0 : (Lit.int .u64 a).wf = true) (hE : Errs w) (hT : Tab10 w) (hZ : TabZ w) :
    Calls Tryd.prog 6 #[.int .u64 a] w fun e w' => e = .returned (.bool true) ∧ Below w.heap.size w w' := by
  have hwf : 0 ≤ a ∧ a ≤ 18446744073709551615 := by simpa [Lit.wf, IntKind.min, IntKind.max, IntKind.signed, IntKind.bits] using w0
  obtain ⟨n, rfl⟩ := Int.eq_ofNat_of_zero_le hwf.1
  have hn : n ≤ 18446744073709551615 := by omega
  clear w0 hwf
  have HF10 := Lib.hid (lxFormat10 n w hn hT)
  have HF16 := Lib.hid (fun u hu => lxFormat16 n u hn hu)
  obtain ⟨T, hTT⟩ : ∃ T : ByteArray, (⟨(Lib.decDigits n).toArray⟩ : ByteArray) = T := ⟨_, rfl⟩
  rw [hTT] at HF10
  have hTl : T.data.toList = Lib.decDigits n := by rw [← hTT]
  have hTs : T.size ≤ 20 := by rw [← ba_len, hTl]; exact dec_len n hn
  have n1 : numS' T = some n := by unfold numS'; rw [hTl]; exact ten_is n hn
  obtain ⟨A, hA⟩ : ∃ A : ByteArray, (⟨#[48]⟩ : ByteArray) ++ T = A := ⟨_, rfl⟩
  obtain ⟨B, hB⟩ : ∃ B : ByteArray, (⟨#[45]⟩ : ByteArray) ++ T = B := ⟨_, rfl⟩
  have hAl : A.data.toList = 48 :: Lib.decDigits n := by rw [← hA, ba_append_list, hTl]; rfl
  have hBl : B.data.toList = 45 :: Lib.decDigits n := by rw [← hB, ba_append_list, hTl]; rfl
  have n2 : numS' A = none := by unfold numS'; rw [hAl]; exact zero_is n
  have n3 : numS' B = none := by unfold numS'; rw [hBl]; exact sign_is n
  have hAs : A.size ≤ 21 := by rw [← ba_len, hAl, List.length_cons, ← hTl, ba_len]; omega
  have hBs : B.size ≤ 21 := by rw [← ba_len, hBl, List.length_cons, ← hTl, ba_len]; omega
  have n4 : numS' ⟨#[48, 120]⟩ = none := by rfl
  have addA := fun u => add_run (P := Tryd.prog) ⟨#[48]⟩ T A hA.symm (by show 1 + T.size ≤ _; omega) u
  have addB := fun u => add_run (P := Tryd.prog) ⟨#[45]⟩ T B hB.symm (by show 1 + T.size ≤ _; omega) u
  have N1 := Lib.hid (fun u hu => lxNumber T u (by omega) hu)
  have N2 := Lib.hid (fun u hu => lxNumber A u (by omega) hu)
  have N3 := Lib.hid (fun u hu => lxNumber B u (by omega) hu)
  have N4 := Lib.hid (fun u hu => lxNumber ⟨#[48, 120]⟩ u (by decide) hu)
  rw [n1] at N1
  rw [n2] at N2
  rw [n3] at N3
  rw [n4] at N4
  have HN := Lib.hid hn
  clear n1 n2 n3 n4 hTT hA hB hAl hBl hTl hAs hBs hn
  go_enter Tryd.func6, Tryd.ntmps6
  go_wp2_with fail
  refine HF10.out.mono ?_
  rintro e w1 ⟨rfl, hb1⟩
  go_wp2_with fail
  refine (HF16.out _ (hZ.keep hb1)).mono ?_
  rintro e w2 ⟨⟨k, k1, k2, k3, rfl⟩, hb2⟩
  have hbb2 := hb1.trans (hb2.mono hb1.size)
  obtain ⟨H, hH⟩ : ∃ H : ByteArray, (⟨(hexL n k).toArray⟩ : ByteArray) = H := ⟨_, rfl⟩
  have hHl : H.data.toList = hexL n k := by rw [← hH]
  have hHs : H.size ≤ 16 := by rw [← ba_len, hHl, hexL_len]; exact k2
  obtain ⟨C, hC⟩ : ∃ C : ByteArray, (⟨#[48, 120]⟩ : ByteArray) ++ H = C := ⟨_, rfl⟩
  have hCl : C.data.toList = 48 :: 120 :: hexL n k := by rw [← hC, ba_append_list, hHl]; rfl
  have hCs : C.size ≤ 18 := by rw [← hC, ByteArray.size_append]; show 2 + H.size ≤ 18; omega
  have addC := fun u => add_run (P := Tryd.prog) ⟨#[48, 120]⟩ H C hC.symm (by show 2 + H.size ≤ _; omega) u
  have n5 : numS' C = some n := by unfold numS'; rw [hCl]; exact hex_is n k k1 k2 k3
  have N5 := Lib.hid (fun u hu => lxNumber C u (by omega) hu)
  rw [n5] at N5
  rw [hH]
  clear n5 hC hCl hCs hH hHl k3
  go_wp2_with fail
  refine (N1.out _ (hE.keep hbb2)).mono ?_
  rintro e w3 ⟨rfl, hb3⟩
  have hbb3 := hbb2.trans (hb3.mono hbb2.size)
  go_wp2_with fail
  refine (N5.out _ (hE.keep hbb3)).mono ?_
  rintro e w4 ⟨rfl, hb4⟩
  have hbb4 := hbb3.trans (hb4.mono hbb3.size)
  go_wp2_with fail
  refine (N2.out _ (hE.keep hbb4)).mono ?_
  rintro e w5 ⟨rfl, hb5⟩
  have hbb5 := hbb4.trans (hb5.mono hbb4.size)
  go_wp2_with fail
  refine (N3.out _ (hE.keep hbb5)).mono ?_
  rintro e w6 ⟨rfl, hb6⟩
  have hbb6 := hbb5.trans (hb6.mono hbb5.size)
  go_wp2_with fail
  refine (N4.out _ (hE.keep hbb6)).mono ?_
  rintro e w7 ⟨rfl, hb7⟩
  have hbb7 := hbb6.trans (hb7.mono hbb6.size)
  have hE8 := hE.keep hbb7
  have HB7 := Lib.hid hbb7
  clear hb1 hb2 hb3 hb4 hb5 hb6 hb7 hbb2 hbb3 hbb4 hbb5 hbb6 hbb7
  go_wp2_with fail
  refine (lxAlive _ hE8).mono ?_
  rintro e w8 ⟨rfl, hb8⟩
  have HB8 := Lib.hid (HB7.out.trans (hb8.mono HB7.out.size))
  go_wp2_with fail
  go_ret
  exact ⟨rfl, HB8.out⟩
end Go.Proofs.YtpkpbohkdkmoiaaDoor.lawLexNumbers
