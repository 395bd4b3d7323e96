/- slices.insertionSortOrdered at numbers of 32 bits. -/
import Derived.Test.YtbcoooaoofbboaaSr1
import Derived.BigQuiet
import Derived.BigGuard
namespace Go.Proofs.Ytbcoooaoofbboaa
open Go.RowKit Go.Sort
set_option linter.unusedVariables false
set_option linter.unusedSimpArgs false

theorem size_swp' (d : Array Int) (i j : Nat) : (swp d i j).size = d.size := by simp [swp]
theorem ins_stop (a : Nat) : ∀ (j : Nat) (d : Array Int), j ≤ a → insInner ltInt a j d = d
  | 0, d, _ => rfl
  | j + 1, d, h => by unfold insInner; simp [show ¬ j + 1 > a by omega]
theorem ins_not (a j : Nat) (d : Array Int) (h : ltInt d[j + 1]! d[j]! = false) : insInner ltInt a (j + 1) d = d := by unfold insInner; simp [h]
theorem ins_go (a j : Nat) (d : Array Int) (ha : a < j + 1) (h : ltInt d[j + 1]! d[j]! = true) : insInner ltInt a (j + 1) d = insInner ltInt a j (swp d (j + 1) j) := by conv => lhs; unfold insInner; simp [h, ha]
theorem insOut_end (a b i : Nat) (d : Array Int) (h : b ≤ i) : insOuter ltInt a b i d = d := by unfold insOuter; simp [show ¬ i < b by omega]
theorem insOut_go (a b i : Nat) (d : Array Int) (h : i < b) : insOuter ltInt a b i d = insOuter ltInt a b (i + 1) (insInner ltInt a i d) := by conv => lhs; unfold insOuter; simp [h]
set_option maxRecDepth 100000 in
set_option maxHeartbeats 2000000 in
theorem srIns (g : Nat) (w0 : World) (d : Array Int) (n cap a b : Nat) (wr : World) (hS : Srt w0 g d wr) (hn : d.size = n) (hb : b ≤ n) (ha : a ≤ n) (hsz : n ≤ 1000000) :
    Calls Try.prog 56 #[.slice (some ⟨g, 0, none⟩) n cap, .int .i64 a, .int .i64 b] wr fun e w' => e = .returned (.tuple #[]) ∧ Srt w0 g (insertionSort ltInt d a b) w' := by
  obtain ⟨D, hD⟩ : ∃ D, insertionSort ltInt d a b = D := ⟨_, rfl⟩
  rw [hD]
  have HD := Lib.hid (show insOuter ltInt a b (a + 1) d = D from hD)
  have HS := Lib.hid hS
  have HN := Lib.hid hn
  clear hS hD hn
  have hbI : (b : Int) ≤ n := by omega
  have haI : (a : Int) ≤ n := by omega
  have hnI : (n : Int) ≤ 1000000 := by omega
  go_enter Try.func56, Try.ntmps56
  go_wp2_with fail
  go_loopw [6] (fun z wr => ∃ (i : Nat) (dk : Array Int), z = .int .i64 (i : Int) ∧ a + 1 ≤ i ∧ i ≤ n + 1 ∧ Hid (dk.size = n) ∧ Hid (Srt w0 g dk wr) ∧ Hid (insOuter ltInt a b i dk = D)) (fun z _ => n + 1 - (intOf z).toNat)
  case atStart => exact ⟨a + 1, d, by push_cast; rfl, by omega, by omega, HN, HS, HD⟩
  case round =>
    clear HN HS HD
    obtain ⟨i, dk, rfl, hi1, hi2, HN, HS, HD⟩ := hrel
    by_cases hib : i < b
    · have hibI : (i : Int) < b := by omega
      have HDi := Lib.hid (show insOuter ltInt a b (i + 1) (insInner ltInt a i dk) = D by rw [← insOut_go a b i dk hib]; exact HD.out)
      clear HD
      go_upto_region 3 with fail
      go_wp2_with fail
      go_loopw [7] (fun z wr => ∃ (j : Nat) (dk : Array Int), z = .int .i64 (j : Int) ∧ j ≤ i ∧ Hid (dk.size = n) ∧ Hid (Srt w0 g dk wr) ∧ Hid (insOuter ltInt a b (i + 1) (insInner ltInt a j dk) = D)) (fun z _ => (intOf z).toNat)
      case atStart => exact ⟨i, dk, rfl, Nat.le_refl _, HN, HS, HDi⟩
      case round =>
        clear HN HS HDi
        obtain ⟨j, dk, rfl, hji, HN, HS, HD⟩ := hrel
        by_cases haj : a < j
        · obtain ⟨k, rfl⟩ : ∃ k, j = k + 1 := ⟨j - 1, by omega⟩
          have hajI : (a : Int) < (k : Int) + 1 := by omega
          have c1 := HS.out.cell (t := k + 1) (by rw [HN.out]; omega)
          have c0 := HS.out.cell (t := k) (by rw [HN.out]; omega)
          have f1 := HS.out.fr (k + 1)
          have f0 := HS.out.fr k
          have hk1 : (k : Int) + 1 < n := by omega
          have hk0 : (k : Int) < n := by omega
          cases hL : ltInt dk[k + 1]! dk[k]! with
          | false =>
            go_wp2_with fail
            go_big_quiet (first | (go_at_call 62; refine Calls.quiet_of_same (srLess _ _ _)))
            go_wp2_with fail
            have HS' := Lib.hid (HS.out.drewN nq)
            have HD' := Lib.hid (show insOuter ltInt a b (i + 1) dk = D by rw [← ins_not a k dk hL]; exact HD.out)
            clear HS HD hL
            go_wp2_with fail
            exact ⟨⟨i + 1, dk, by push_cast; rfl, by omega, by omega, HN, HS', HD'⟩, by simp [intOf]; omega⟩
          | true =>
            have HD' := Lib.hid (show insOuter ltInt a b (i + 1) (insInner ltInt a k (swp dk (k + 1) k)) = D by rw [← ins_go a k dk (by omega) hL]; exact HD.out)
            go_wp2_with fail
            go_big_quiet (first | (go_at_call 62; refine Calls.quiet_of_same (srLess _ _ _)))
            go_wp2_with fail
            go_region
            have HS' := Lib.hid ((HS.out.drewN (nq + 1)).swp (i := k + 1) (j := k) (by rw [HN.out]; omega) (by rw [HN.out]; omega))
            have HN' := Lib.hid ((size_swp' dk (k + 1) k).trans HN.out)
            clear HS HD hL c0 c1 f0 f1
            go_wp2_with fail
            exact ⟨⟨k, swp dk (k + 1) k, by simp, by omega, HN', HS', HD'⟩, by simp [intOf]⟩
        · have hajI : ¬ (a : Int) < (j : Int) := by omega
          have HD' := Lib.hid (show insOuter ltInt a b (i + 1) dk = D by rw [← ins_stop a j dk (by omega)]; exact HD.out)
          clear HD
          go_wp2_with fail
          go_big_quiet (first | fail)
          have HS' := Lib.hid (HS.out.drewN nq)
          go_wp2_with fail
          exact ⟨⟨i + 1, dk, by push_cast; rfl, by omega, by omega, HN, HS', HD'⟩, by simp [intOf]; omega⟩
    · have hibI : ¬ (i : Int) < (b : Int) := by omega
      have HD' := Lib.hid (show dk = D by rw [← insOut_end a b i dk (by omega)]; exact HD.out)
      clear HD
      go_wp2_with fail
      go_end0
      exact ⟨rfl, by rw [← HD'.out]; exact HS.out⟩
end Go.Proofs.Ytbcoooaoofbboaa
