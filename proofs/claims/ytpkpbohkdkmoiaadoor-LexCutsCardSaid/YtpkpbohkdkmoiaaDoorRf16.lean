/- The reference's runs and signs. -/
import Derived.Test.YtpkpbohkdkmoiaaDoorRf15
import Derived.Test.YtpkpbohkdkmoiaaDoorLxB
namespace Go.Proofs.YtpkpbohkdkmoiaaDoor
open Go.RowKit
set_option linter.unusedVariables false

theorem rest_get (s : ByteArray) (p j : Nat) (h : p + j < s.size) (h2 : j < (s.extract p s.size).size) : (s.extract p s.size)[j] = s[p + j] := by
  rw [ByteArray.getElem_extract]
theorem rest_size (s : ByteArray) (p : Nat) (h : p ≤ s.size) : (s.extract p s.size).size = s.size - p := by
  rw [ByteArray.size_extract]; omega
theorem run_rest {s : ByteArray} {p k : Nat} {f : Nat → Bool} (hk : p ≤ k) (hks : k ≤ s.size) (h1 : ∀ j (h : j < s.size), p ≤ j → j < k → f s[j].toNat = true) (h2 : ∀ h : k < s.size, f s[k].toNat = false) : runN (s.extract p s.size) f = k - p := by
  have hz := rest_size s p (by omega)
  refine runN_is (by omega) (fun j hj hjk => ?_) (fun h => ?_)
  · rw [rest_get s p j (by omega) hj]
    exact h1 _ (by omega) (by omega) (by omega)
  · rw [rest_get s p _ (by omega) h]
    have e : p + (k - p) = k := by omega
    have : s[p + (k - p)] = s[k]'(by omega) := by congr 1
    rw [this]
    exact h2 (by omega)
theorem headD_at (s : ByteArray) (p : Nat) (h : p < s.size) : headN (s.extract p s.size) = s[p].toNat := by
  have hz := rest_size s p (by omega)
  have hl := ba_len (s.extract p s.size)
  unfold headN
  cases hx : (s.extract p s.size).data.toList with
  | nil => rw [hx] at hl; simp at hl; omega
  | cons x t =>
    have : (s.extract p s.size)[0]'(by omega) = x := by
      have h1 : (s.extract p s.size).data.toList[0]'(by omega) = x := by simp only [hx]; rfl
      rw [← h1]; simp [ByteArray.getElem_eq_getElem_data]
    rw [rest_get s p 0 (by omega) (by omega)] at this
    show x.toNat = _
    rw [← this]; rfl
theorem signl_cases (a : UInt8) (t : List UInt8) : signl (a :: t) = if (t.headD 0).toNat = 61 ∧ (a.toNat = 61 ∨ a.toNat = 33 ∨ a.toNat = 60 ∨ a.toNat = 62) then 2 else if a.toNat = 60 ∨ a.toNat = 62 ∨ a.toNat = 38 ∨ a.toNat = 40 ∨ a.toNat = 41 then 1 else 0 := by
  have key : ∀ (c : Nat), (signsL.find? fun t : List Nat => t.isPrefixOf (c :: [])) = if c = 60 then some [60] else if c = 62 then some [62] else if c = 38 then some [38] else if c = 40 then some [40] else if c = 41 then some [41] else none := by
    intro c
    simp only [signsL, List.find?, List.isPrefixOf, Bool.and_true, Bool.and_false]
    by_cases h1 : c = 60
    · subst h1; rfl
    · rw [if_neg h1, show ((60 : Nat) == c) = false by rw [beq_eq_false_iff_ne]; omega]
      by_cases h2 : c = 62
      · subst h2; rfl
      · rw [if_neg h2, show ((62 : Nat) == c) = false by rw [beq_eq_false_iff_ne]; omega]
        by_cases h3 : c = 38
        · subst h3; rfl
        · rw [if_neg h3, show ((38 : Nat) == c) = false by rw [beq_eq_false_iff_ne]; omega]
          by_cases h4 : c = 40
          · subst h4; rfl
          · rw [if_neg h4, show ((40 : Nat) == c) = false by rw [beq_eq_false_iff_ne]; omega]
            by_cases h5 : c = 41
            · subst h5; rfl
            · rw [if_neg h5, show ((41 : Nat) == c) = false by rw [beq_eq_false_iff_ne]; omega]
  have one : ∀ a : UInt8, signl [a] = if a.toNat = 60 ∨ a.toNat = 62 ∨ a.toNat = 38 ∨ a.toNat = 40 ∨ a.toNat = 41 then 1 else 0 := by
    intro a
    unfold signl
    have := key a.toNat
    simp only [List.map_cons, List.map_nil]
    rw [this]
    by_cases h1 : a.toNat = 60
    · rw [if_pos h1, if_pos (by omega)]; rfl
    · rw [if_neg h1]
      by_cases h2 : a.toNat = 62
      · rw [if_pos h2, if_pos (by omega)]; rfl
      · rw [if_neg h2]
        by_cases h3 : a.toNat = 38
        · rw [if_pos h3, if_pos (by omega)]; rfl
        · rw [if_neg h3]
          by_cases h4 : a.toNat = 40
          · rw [if_pos h4, if_pos (by omega)]; rfl
          · rw [if_neg h4]
            by_cases h5 : a.toNat = 41
            · rw [if_pos h5, if_pos (by omega)]; rfl
            · rw [if_neg h5, if_neg (by omega)]
  by_cases h : (t.headD 0).toNat = 61
  · cases t with
    | nil => exact absurd h (by decide)
    | cons b t =>
      have hb : ((61 : Nat) == b.toNat) = true := by rw [beq_iff_eq]; exact h.symm
      by_cases h2 : a.toNat = 61 ∨ a.toNat = 33 ∨ a.toNat = 60 ∨ a.toNat = 62
      · rw [if_pos ⟨h, h2⟩]
        unfold signl
        simp only [signsL, List.find?, List.isPrefixOf, List.map_cons, hb, Bool.and_true]
        rcases h2 with e | e | e | e <;> rw [e] <;> rfl
      · rw [if_neg (fun hh => h2 hh.2), ← one]
        refine signl_oneA a (b :: t) ?_
        unfold signl
        simp only [signsL, List.find?, List.isPrefixOf, List.map_cons, hb, Bool.and_true]
        rw [show ((61 : Nat) == a.toNat) = false by rw [beq_eq_false_iff_ne]; omega, show ((33 : Nat) == a.toNat) = false by rw [beq_eq_false_iff_ne]; omega, show ((60 : Nat) == a.toNat) = false by rw [beq_eq_false_iff_ne]; omega, show ((62 : Nat) == a.toNat) = false by rw [beq_eq_false_iff_ne]; omega]
        cases ((38 : Nat) == a.toNat) <;> cases ((40 : Nat) == a.toNat) <;> cases ((41 : Nat) == a.toNat) <;> simp
  · rw [if_neg (fun hh => h hh.1), ← one]
    exact signl_one a t (.inr h)
theorem signN_cases (s : ByteArray) (p : Nat) (h : p < s.size) (tw : Bool) (htw : tw = true ↔ ∃ h : p + 1 < s.size, s[p + 1].toNat = 61) :
    signN (s.extract p s.size) = if tw = true ∧ (s[p].toNat = 61 ∨ s[p].toNat = 33 ∨ s[p].toNat = 60 ∨ s[p].toNat = 62) then 2 else if s[p].toNat = 60 ∨ s[p].toNat = 62 ∨ s[p].toNat = 38 ∨ s[p].toNat = 40 ∨ s[p].toNat = 41 then 1 else 0 := by
  have hl := ba_len s
  have e : (s.extract p s.size).data.toList = s[p] :: s.data.toList.drop (p + 1) := by
    rw [ba_extract_list, List.take_of_length_le (by simp), List.drop_eq_getElem_cons (by omega)]
    simp [ByteArray.getElem_eq_getElem_data]
  have e2 : signN (s.extract p s.size) = signl (s[p] :: s.data.toList.drop (p + 1)) := by rw [← e]; rfl
  rw [e2, signl_cases]
  have h3 : ((s.data.toList.drop (p + 1)).headD 0).toNat = 61 ↔ tw = true := by
    rw [htw]
    constructor
    · intro hh
      by_cases hp : p + 1 < s.size
      · refine ⟨hp, ?_⟩
        rw [List.drop_eq_getElem_cons (by omega)] at hh
        simpa [ByteArray.getElem_eq_getElem_data] using hh
      · rw [List.drop_eq_nil_of_le (by omega)] at hh
        exact absurd hh (by decide)
    · rintro ⟨hp, hh⟩
      rw [List.drop_eq_getElem_cons (by omega)]
      simpa [ByteArray.getElem_eq_getElem_data] using hh
  simp only [h3]
set_option maxRecDepth 100000 in
theorem rfEnd (s : ByteArray) (p : Nat) (w : World) (hs : s.size ≤ 1000000) (hp : p ≤ s.size) : Calls Tryd.prog 30 #[.string s, .int .i64 p] w fun e w' => e = .returned (.int .i64 ((p + runN (s.extract p s.size) wrdB : Nat) : Int)) ∧ w = w' := by
  have hsI : (s.size : Int) ≤ 1000000 := by omega
  obtain ⟨R, hR⟩ : ∃ R, p + runN (s.extract p s.size) wrdB = R := ⟨_, rfl⟩
  rw [hR]
  have HR := Lib.hid hR
  have HLt := Lib.hid (fun c u h => rfLetter c u h)
  have HDg := Lib.hid (fun c u h => rfDigit c u h)
  clear hR
  go_enter Tryd.func30, Tryd.ntmps30
  go_wp2_with fail
  go_loop [1] (fun z => ∃ k : Nat, z = .int .i64 k ∧ p ≤ k ∧ k ≤ s.size ∧ Hid (∀ j (h : j < s.size), p ≤ j → j < k → wrdB s[j].toNat = true)) (fun z => s.size - (intOf z).toNat)
  case atStart => exact ⟨p, rfl, by omega, by omega, Lib.hid (fun j h h1 h2 => by omega)⟩
  case round =>
    obtain ⟨k, rfl, hpk, hk, HA⟩ := hrel
    by_cases hlt : k < s.size
    · have hltI : (k : Int) < s.size := by omega
      have hidx : ∀ u : World, Sem.run Tryd.prog (Instr.index 9 (.string s) (.int .i64 (k : Int))) u = .ok (.int .u8 (s[k].toNat : Int)) u := fun u => lxIdxS s k hlt u
      have h255 : s[k].toNat ≤ 255 := by have := UInt8.toNat_lt s[k]; omega
      have HL := Lib.hid (fun u => HLt.out s[k].toNat u h255)
      have HD := Lib.hid (fun u => HDg.out s[k].toNat u h255)
      have HW : Hid (wrdB s[k].toNat = (letB s[k].toNat || digB s[k].toNat)) := Lib.hid rfl
      have HS : Hid (∀ j (h : j < s.size), p ≤ j → j < k + 1 → j ≠ k → wrdB s[j].toNat = true) := Lib.hid fun j h h1 h2 h3 => HA.out j h h1 (by omega)
      have HE : Hid (wrdB s[k].toNat = true → ∀ j (h : j < s.size), p ≤ j → j < k + 1 → wrdB s[j].toNat = true) := Lib.hid fun hw j h h1 h2 => by
        by_cases e : j = k
        · subst e; exact hw
        · exact HA.out j h h1 (by omega)
      have HN : Hid (wrdB s[k].toNat = false → R = k) := Lib.hid fun hw => by
        rw [← HR.out, run_rest hpk hk HA.out (fun _ => hw)]; omega
      generalize wrdB s[k].toNat = wb at *
      generalize letB s[k].toNat = lb at *
      generalize digB s[k].toNat = db at *
      generalize s[k].toNat = c at *
      have hcI : (c : Int) ≤ 255 := by omega
      clear h255
      cases lb
      · cases db
        · have hw : wb = false := HW.out
          subst hw
          obtain rfl : R = k := HN.out rfl
          go_wp2_with fail
          refine (HL.out _).mono ?_
          rintro e w1 ⟨rfl, rfl⟩
          go_wp2_with fail
          refine (HD.out _).mono ?_
          rintro e w1 ⟨rfl, rfl⟩
          go_wp2_with fail
          go_ret
          exact ⟨rfl, rfl⟩
        · have hw : wb = true := HW.out
          subst hw
          have HA2 := Lib.hid (HE.out rfl)
          go_wp2_with fail
          refine (HL.out _).mono ?_
          rintro e w1 ⟨rfl, rfl⟩
          go_wp2_with fail
          refine (HD.out _).mono ?_
          rintro e w1 ⟨rfl, rfl⟩
          go_wp2_with fail
          go_round
          case rel => exact ⟨k + 1, by go_num, by omega, by omega, HA2⟩
          case measure => simp [intOf]; omega
      · have hw : wb = true := HW.out
        subst hw
        have HA2 := Lib.hid (HE.out rfl)
        go_wp2_with fail
        refine (HL.out _).mono ?_
        rintro e w1 ⟨rfl, rfl⟩
        go_wp2_with fail
        go_round
        case rel => exact ⟨k + 1, by go_num, by omega, by omega, HA2⟩
        case measure => simp [intOf]; omega
    · obtain rfl : k = s.size := by omega
      obtain rfl : R = s.size := by rw [← HR.out, run_rest hpk hk HA.out (fun h => absurd h (by omega))]; omega
      have hnl : ¬ (s.size : Int) < s.size := by omega
      go_wp2_with fail
      go_ret
      exact ⟨rfl, rfl⟩
end Go.Proofs.YtpkpbohkdkmoiaaDoor
