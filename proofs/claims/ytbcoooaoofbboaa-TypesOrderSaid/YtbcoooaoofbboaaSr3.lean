/- slices.siftDownOrdered, heapSortOrdered at numbers of 32 bits. -/
import Derived.Test.YtbcoooaoofbboaaSr2
namespace Go.Proofs.Ytbcoooaoofbboaa
open Go.RowKit Go.Sort
set_option linter.unusedVariables false
set_option linter.unusedSimpArgs false

theorem sft_end {hi F root : Nat} (d : Array Int) (h : hi ≤ 2 * root + 1) : siftDown ltInt hi F root d = d := by
  rw [siftDown, dif_pos h]
/-- the greater child -/
def sftC (hi F root : Nat) (d : Array Int) : Nat := if 2 * root + 1 + 1 < hi && ltInt d[F + (2 * root + 1)]! d[F + (2 * root + 1) + 1]! then 2 * root + 2 else 2 * root + 1
theorem sftC_lt {hi F root : Nat} (d : Array Int) (h : 2 * root + 1 < hi) : root < sftC hi F root d ∧ sftC hi F root d < hi := by
  unfold sftC
  split
  · rename_i h2
    rw [Bool.and_eq_true, decide_eq_true_eq] at h2
    omega
  · omega
theorem sft_stop {hi F root : Nat} (d : Array Int) (h : 2 * root + 1 < hi) (h2 : ltInt d[F + root]! d[F + sftC hi F root d]! = false) : siftDown ltInt hi F root d = d := by
  rw [siftDown, dif_neg (by omega)]
  unfold sftC at h2
  split
  · rename_i h3
    rw [if_pos h3] at h2
    rw [h2]; rfl
  · rename_i h3
    rw [if_neg h3] at h2
    rw [h2]; rfl
theorem sft_go {hi F root : Nat} (d : Array Int) (h : 2 * root + 1 < hi) (h2 : ltInt d[F + root]! d[F + sftC hi F root d]! = true) :
    siftDown ltInt hi F root d = siftDown ltInt hi F (sftC hi F root d) (swp d (F + root) (F + sftC hi F root d)) := by
  have hlt := (sftC_lt (F := F) d h).2
  rw [siftDown, dif_neg (by omega)]
  unfold sftC at h2 hlt ⊢
  by_cases h3 : (decide (2 * root + 1 + 1 < hi) && ltInt d[F + (2 * root + 1)]! d[F + (2 * root + 1) + 1]!) = true
  · rw [if_pos h3, if_pos h3] at *
    rw [h2]
    simp [hlt]
  · rw [if_neg h3, if_neg h3] at *
    rw [h2]
    simp
set_option maxRecDepth 100000 in
set_option maxHeartbeats 4000000 in
theorem srSift (g : Nat) (w0 : World) (d : Array Int) (n cap lo hi first : Nat) (wr : World) (hS : Srt w0 g d wr) (hn : d.size = n) (hlo : lo ≤ hi) (hb : first + hi ≤ n) (hsz : n ≤ 1000000) :
    Calls Try.prog 67 #[.slice (some ⟨g, 0, none⟩) n cap, .int .i64 lo, .int .i64 hi, .int .i64 first] wr fun e w' => e = .returned (.tuple #[]) ∧ Srt w0 g (siftDown ltInt hi first lo d) w' := by
  obtain ⟨D, hD⟩ : ∃ D, siftDown ltInt hi first lo d = D := ⟨_, rfl⟩
  rw [hD]
  have HD := Lib.hid hD
  have HS := Lib.hid hS
  have HN := Lib.hid hn
  clear hS hD hn
  have hbI : (first : Int) + hi ≤ n := by omega
  have hnI : (n : Int) ≤ 1000000 := by omega
  go_enter Try.func67, Try.ntmps67
  go_wp2_with fail
  go_loopw [8] (fun z wr => ∃ (root : Nat) (dk : Array Int), z = .int .i64 (root : Int) ∧ root ≤ hi ∧ Hid (dk.size = n) ∧ Hid (Srt w0 g dk wr) ∧ Hid (siftDown ltInt hi first root dk = D)) (fun z _ => hi - (intOf z).toNat)
  case atStart => exact ⟨lo, d, rfl, hlo, HN, HS, HD⟩
  case round =>
    clear HN HS HD
    obtain ⟨root, dk, rfl, hr, HN, HS, HD⟩ := hrel
    by_cases h0 : hi ≤ 2 * root + 1
    · have h0z : (hi : Int) ≤ 2 * (root : Int) + 1 := by omega
      have HD' := Lib.hid (show dk = D by rw [← sft_end dk h0]; exact HD.out)
      go_wp2_with fail
      go_end0
      exact ⟨rfl, by rw [← HD'.out]; exact HS.out⟩
    · have h0z : ¬ ((hi : Int) ≤ 2 * (root : Int) + 1) := by omega
      have h0' : 2 * root + 1 < hi := by omega
      obtain ⟨C, hC⟩ : ∃ C, sftC hi first root dk = C := ⟨_, rfl⟩
      have hCl := sftC_lt (F := first) dk h0'
      have hst := fun h => sft_stop (F := first) dk h0' h
      have hgo := fun h => sft_go (F := first) dk h0' h
      rw [hC] at hCl hst hgo
      have hCd : sftC hi first root dk = if 2 * root + 1 + 1 < hi && ltInt dk[first + (2 * root + 1)]! dk[first + (2 * root + 1) + 1]! then 2 * root + 2 else 2 * root + 1 := rfl
      rw [hC] at hCd
      obtain ⟨c, hc⟩ : ∃ c, 2 * root + 1 = c := ⟨_, rfl⟩
      rw [hc] at hCd h0'
      have HST := Lib.hid hst; have HGO := Lib.hid hgo
      clear hst hgo hC
      go_upto_region 3 with fail
      rw [show (2 * (root : Int) + 1) = (c : Int) from by omega]
      have h0z' : ¬ ((hi : Int) ≤ (c : Int)) := by omega
      have hcb : (c : Int) < hi := by omega
      clear h0z
      have HC := Lib.hid hc
      by_cases hR : c + 1 < hi
      · have hRz : (c : Int) + 1 < (hi : Int) := by omega
        have p1 := HS.out.cell (t := first + c) (by rw [HN.out]; omega)
        have p2 := HS.out.cell (t := first + c + 1) (by rw [HN.out]; omega)
        have k1 : (first : Int) + c < n := by omega
        have k2 : (first : Int) + c + 1 < n := by omega
        cases hL : ltInt dk[first + c]! dk[first + c + 1]! with
        | true =>
          have hCe : C = c + 1 := by
            rw [hCd, if_pos (by rw [decide_eq_true hR, hL]; rfl)]; omega
          clear hCd hc
          go_big_quiet (first | (go_at_call 62; refine Calls.quiet_of_same (srLess _ _ _)))
          have HS1 := Lib.hid (HS.out.drewN nq)
          clear HS p1 p2 hL
          generalize hwq : wr.drewN nq = wx at HS1 ⊢
          clear hwq nq
          have HS := HS1; clear HS1
          go_upto_region 5 with fail
          rw [show (c : Int) + 1 = (C : Int) from by omega]
          clear hRz k1 k2 h0z' hcb hCe HC
          have p0 := HS.out.cell (t := first + root) (by rw [HN.out]; omega)
          have pc := HS.out.cell (t := first + C) (by rw [HN.out]; omega)
          have f0 := HS.out.fr (first + root)
          have fc := HS.out.fr (first + C)
          have k0 : (first : Int) + root < n := by omega
          have kc : (first : Int) + C < n := by omega
          cases hG : ltInt dk[first + root]! dk[first + C]! with
          | false =>
            have HD' := Lib.hid (show dk = D by rw [← HST.out hG]; exact HD.out)
            clear HD HST HGO
            go_big_quiet (first | (go_at_call 62; refine Calls.quiet_of_same (srLess _ _ _)))
            have HS' := Lib.hid (HS.out.drewN nq)
            clear HS p0 pc f0 fc hG
            go_wp2_with fail
            (try simp only [Exit.inBlock, Exit.then])
            refine bodyPost_ret (results_none rfl _ _ _) rfl ?_
            exact ⟨rfl, by rw [← HD'.out]; exact HS'.out⟩
          | true =>
            have HD' := Lib.hid (show siftDown ltInt hi first C (swp dk (first + root) (first + C)) = D by rw [← HGO.out hG]; exact HD.out)
            clear HD HST HGO
            go_big_quiet (first | (go_at_call 62; refine Calls.quiet_of_same (srLess _ _ _)))
            have HS2 := Lib.hid (HS.out.drewN nq)
            clear HS p0 pc f0 fc hG
            generalize hwq : wx.drewN nq = wq at HS2 ⊢
            clear hwq
            have p0 := HS2.out.cell (t := first + root) (by rw [HN.out]; omega)
            have pc := HS2.out.cell (t := first + C) (by rw [HN.out]; omega)
            have f0 := HS2.out.fr (first + root)
            have fc := HS2.out.fr (first + C)
            go_wp2_with fail
            go_region
            have HS' := Lib.hid ((HS2.out.swp (i := first + root) (j := first + C) (by rw [HN.out]; omega) (by rw [HN.out]; omega)).drew)
            have HN' := Lib.hid ((size_swp' dk (first + root) (first + C)).trans HN.out)
            clear HS2 p0 pc f0 fc
            go_wp2_with fail
            exact ⟨⟨C, swp dk (first + root) (first + C), rfl, by omega, HN', HS', HD'⟩, by simp [intOf]; omega⟩
        | false =>
          have hCe : C = c := by
            rw [hCd, if_neg (by rw [hL]; simp)]
          clear hCd hc
          go_big_quiet (first | (go_at_call 62; refine Calls.quiet_of_same (srLess _ _ _)))
          have HS1 := Lib.hid (HS.out.drewN nq)
          clear HS p1 p2 hL
          generalize hwq : wr.drewN nq = wx at HS1 ⊢
          clear hwq nq
          have HS := HS1; clear HS1
          go_upto_region 5 with fail
          rw [show (c : Int) = (C : Int) from by omega]
          clear hRz k1 k2 h0z' hcb hCe HC
          have p0 := HS.out.cell (t := first + root) (by rw [HN.out]; omega)
          have pc := HS.out.cell (t := first + C) (by rw [HN.out]; omega)
          have f0 := HS.out.fr (first + root)
          have fc := HS.out.fr (first + C)
          have k0 : (first : Int) + root < n := by omega
          have kc : (first : Int) + C < n := by omega
          cases hG : ltInt dk[first + root]! dk[first + C]! with
          | false =>
            have HD' := Lib.hid (show dk = D by rw [← HST.out hG]; exact HD.out)
            clear HD HST HGO
            go_big_quiet (first | (go_at_call 62; refine Calls.quiet_of_same (srLess _ _ _)))
            have HS' := Lib.hid (HS.out.drewN nq)
            clear HS p0 pc f0 fc hG
            go_wp2_with fail
            (try simp only [Exit.inBlock, Exit.then])
            refine bodyPost_ret (results_none rfl _ _ _) rfl ?_
            exact ⟨rfl, by rw [← HD'.out]; exact HS'.out⟩
          | true =>
            have HD' := Lib.hid (show siftDown ltInt hi first C (swp dk (first + root) (first + C)) = D by rw [← HGO.out hG]; exact HD.out)
            clear HD HST HGO
            go_big_quiet (first | (go_at_call 62; refine Calls.quiet_of_same (srLess _ _ _)))
            have HS2 := Lib.hid (HS.out.drewN nq)
            clear HS p0 pc f0 fc hG
            generalize hwq : wx.drewN nq = wq at HS2 ⊢
            clear hwq
            have p0 := HS2.out.cell (t := first + root) (by rw [HN.out]; omega)
            have pc := HS2.out.cell (t := first + C) (by rw [HN.out]; omega)
            have f0 := HS2.out.fr (first + root)
            have fc := HS2.out.fr (first + C)
            go_wp2_with fail
            go_region
            have HS' := Lib.hid ((HS2.out.swp (i := first + root) (j := first + C) (by rw [HN.out]; omega) (by rw [HN.out]; omega)).drew)
            have HN' := Lib.hid ((size_swp' dk (first + root) (first + C)).trans HN.out)
            clear HS2 p0 pc f0 fc
            go_wp2_with fail
            exact ⟨⟨C, swp dk (first + root) (first + C), rfl, by omega, HN', HS', HD'⟩, by simp [intOf]; omega⟩
      · have hRz : decide ((c : Int) + 1 < (hi : Int)) = false := decide_eq_false (by omega)
        have hRz2 : ¬ ((c : Int) + 1 < (hi : Int)) := by omega
        have hCe : C = c := by
          rw [hCd, if_neg (by rw [decide_eq_false hR]; simp)]
        clear hCd hc
        go_big_quiet (first | (go_at_call 62; refine Calls.quiet_of_same (srLess _ _ _)))
        have HS1 := Lib.hid (HS.out.drewN nq)
        clear HS
        generalize hwq : wr.drewN nq = wx at HS1 ⊢
        clear hwq nq
        have HS := HS1; clear HS1
        go_upto_region 5 with fail
        rw [show (c : Int) = (C : Int) from by omega]
        clear hRz hRz2 h0z' hcb hCe HC
        have p0 := HS.out.cell (t := first + root) (by rw [HN.out]; omega)
        have pc := HS.out.cell (t := first + C) (by rw [HN.out]; omega)
        have f0 := HS.out.fr (first + root)
        have fc := HS.out.fr (first + C)
        have k0 : (first : Int) + root < n := by omega
        have kc : (first : Int) + C < n := by omega
        cases hG : ltInt dk[first + root]! dk[first + C]! with
        | false =>
          have HD' := Lib.hid (show dk = D by rw [← HST.out hG]; exact HD.out)
          clear HD HST HGO
          go_big_quiet (first | (go_at_call 62; refine Calls.quiet_of_same (srLess _ _ _)))
          have HS' := Lib.hid (HS.out.drewN nq)
          clear HS p0 pc f0 fc hG
          go_wp2_with fail
          (try simp only [Exit.inBlock, Exit.then])
          refine bodyPost_ret (results_none rfl _ _ _) rfl ?_
          exact ⟨rfl, by rw [← HD'.out]; exact HS'.out⟩
        | true =>
          have HD' := Lib.hid (show siftDown ltInt hi first C (swp dk (first + root) (first + C)) = D by rw [← HGO.out hG]; exact HD.out)
          clear HD HST HGO
          go_big_quiet (first | (go_at_call 62; refine Calls.quiet_of_same (srLess _ _ _)))
          have HS2 := Lib.hid (HS.out.drewN nq)
          clear HS p0 pc f0 fc hG
          generalize hwq : wx.drewN nq = wq at HS2 ⊢
          clear hwq
          have p0 := HS2.out.cell (t := first + root) (by rw [HN.out]; omega)
          have pc := HS2.out.cell (t := first + C) (by rw [HN.out]; omega)
          have f0 := HS2.out.fr (first + root)
          have fc := HS2.out.fr (first + C)
          go_wp2_with fail
          go_region
          have HS' := Lib.hid ((HS2.out.swp (i := first + root) (j := first + C) (by rw [HN.out]; omega) (by rw [HN.out]; omega)).drew)
          have HN' := Lib.hid ((size_swp' dk (first + root) (first + C)).trans HN.out)
          clear HS2 p0 pc f0 fc
          go_wp2_with fail
          exact ⟨⟨C, swp dk (first + root) (first + C), rfl, by omega, HN', HS', HD'⟩, by simp [intOf]; omega⟩
theorem hpB_step (hi first k : Nat) (d : Array Int) : heapBuild ltInt hi first (k + 1) d = heapBuild ltInt hi first k (siftDown ltInt hi first k d) := rfl
theorem hpP_step (first k : Nat) (d : Array Int) : heapPop ltInt first (k + 1) d = heapPop ltInt first k (siftDown ltInt k first 0 (swp d first (first + k))) := rfl
theorem size_sift (hi F : Nat) : ∀ (m root : Nat) (d : Array Int), hi - root ≤ m → (siftDown ltInt hi F root d).size = d.size
  | 0, root, d, h => by rw [sft_end d (by omega)]
  | m + 1, root, d, h => by
    by_cases h0 : hi ≤ 2 * root + 1
    · rw [sft_end d h0]
    · cases hG : ltInt d[F + root]! d[F + sftC hi F root d]! with
      | false => rw [sft_stop d (by omega) hG]
      | true =>
        have := sftC_lt (F := F) d (show 2 * root + 1 < hi by omega)
        rw [sft_go d (by omega) hG, size_sift hi F m _ _ (by omega), size_swp']
set_option maxRecDepth 100000 in
set_option maxHeartbeats 4000000 in
theorem srHeap (g : Nat) (w0 : World) (d : Array Int) (n cap a b : Nat) (wr : World) (hS : Srt w0 g d wr) (hn : d.size = n) (hab : a < b) (hb : b ≤ n) (hsz : n ≤ 1000000) :
    Calls Try.prog 57 #[.slice (some ⟨g, 0, none⟩) n cap, .int .i64 a, .int .i64 b] wr fun e w' => e = .returned (.tuple #[]) ∧ Srt w0 g (heapSort ltInt d a b) w' := by
  obtain ⟨hi, hhi⟩ : ∃ hi, b - a = hi := ⟨_, rfl⟩
  obtain ⟨D, hD⟩ : ∃ D, heapSort ltInt d a b = D := ⟨_, rfl⟩
  rw [hD]
  have hD' : heapPop ltInt a hi (heapBuild ltInt hi a ((hi - 1) / 2 + 1) d) = D := by rw [← hhi]; exact hD
  obtain ⟨M, hM⟩ : ∃ M, heapBuild ltInt hi a ((hi - 1) / 2 + 1) d = M := ⟨_, rfl⟩
  rw [hM] at hD'
  have HD := Lib.hid hD'; have HM := Lib.hid hM
  have HS := Lib.hid hS
  have HN := Lib.hid hn
  have hhI : (b : Int) - a = (hi : Int) := by omega
  have h1 : a + hi ≤ n := by omega
  have h2 : 1 ≤ hi := by omega
  clear hS hD hn hD' hM hhi hb hab
  have hbI : (a : Int) + hi ≤ n := by omega
  have hnI : (n : Int) ≤ 1000000 := by omega
  have hq : ((hi : Int) - 1) / 2 = (((hi - 1) / 2 : Nat) : Int) := by omega
  have hq' : ((hi : Int) - 1).tdiv 2 = (((hi - 1) / 2 : Nat) : Int) := by rw [Int.tdiv_eq_ediv_of_nonneg (by omega)]; exact hq
  obtain ⟨K, hK⟩ : ∃ K, (hi - 1) / 2 = K := ⟨_, rfl⟩
  rw [hK] at hq hq' HM
  have hKl : K < hi := by omega
  go_enter Try.func57, Try.ntmps57
  go_wp2_with fail
  go_loopw [9] (fun z wr => ∃ (k : Nat) (dk : Array Int), z = .int .i64 ((k : Int) - 1) ∧ k ≤ K + 1 ∧ Hid (dk.size = n) ∧ Hid (Srt w0 g dk wr) ∧ Hid (heapBuild ltInt hi a k dk = M)) (fun z _ => (intOf z + 1).toNat)
  case atStart => exact ⟨K + 1, d, by push_cast; congr 1; omega, Nat.le_refl _, HN, HS, HM⟩
  case round =>
    clear HN HS HM
    obtain ⟨k, dk, rfl, hk, HN, HS, HM⟩ := hrel
    cases k with
    | zero =>
      have h0 : ¬ (0 : Int) ≤ ((0 : Nat) : Int) - 1 := by omega
      have HM' := Lib.hid (show dk = M from HM.out)
      have HD1 := Lib.hid (show heapPop ltInt a hi dk = D by rw [HM'.out]; exact HD.out)
      clear HM
      go_wp2_with fail
      go_loopw [10] (fun z wr => ∃ (k : Nat) (dk : Array Int), z = .int .i64 ((k : Int) - 1) ∧ k ≤ hi ∧ Hid (dk.size = n) ∧ Hid (Srt w0 g dk wr) ∧ Hid (heapPop ltInt a k dk = D)) (fun z _ => (intOf z + 1).toNat)
      case atStart => exact ⟨hi, dk, rfl, Nat.le_refl _, HN, HS, HD1⟩
      case round =>
        clear HN HS HD1 HM' HD
        obtain ⟨k, dk, rfl, hk, HN, HS, HD⟩ := hrel
        cases k with
        | zero =>
          have h0 : ¬ (0 : Int) ≤ ((0 : Nat) : Int) - 1 := by omega
          have HD' := Lib.hid (show dk = D from HD.out)
          clear HD
          go_wp2_with fail
          go_end0
          exact ⟨rfl, by rw [← HD'.out]; exact HS.out⟩
        | succ k =>
          have HD' := Lib.hid (show heapPop ltInt a k (siftDown ltInt k a 0 (swp dk a (a + k))) = D from HD.out)
          clear HD
          rcases Nat.eq_zero_or_pos k with rfl | hpos
          · rw [show (((0 + 1 : Nat) : Int) - 1) = 0 from by omega]
            have p0 := HS.out.cell (t := a) (by rw [HN.out]; omega)
            have f0 := HS.out.fr a
            have k0 : (a : Int) < n := by omega
            go_wp2_with fail
            go_region
            have hs' := (HS.out.swp (i := a) (j := a) (by rw [HN.out]; omega) (by rw [HN.out]; omega)).drew
            have hn' := (size_swp' dk a a).trans HN.out
            have hc := srSift g w0 _ n cap 0 0 a _ hs' hn' (Nat.zero_le _) (by omega) hsz
            have HC := Lib.hid hc
            have HN' := Lib.hid ((size_sift 0 a _ 0 _ (Nat.le_refl _)).trans hn')
            clear hs' hn' hc HS HN p0 f0
            go_wp2_with (first | (go_at_call 67; refine HC.out.mono ?_; rintro e w9 ⟨rfl, hs9⟩; have HS9 := Lib.hid hs9; clear hs9))
            exact ⟨⟨0, _, rfl, by omega, HN', HS9, HD'⟩, by simp [intOf]⟩
          · rw [show (((k + 1 : Nat) : Int) - 1) = (k : Int) from by omega]
            have hne : ¬ k = 0 := by omega
            have p0 := HS.out.cell (t := a) (by rw [HN.out]; omega)
            have p1 := HS.out.cell (t := a + k) (by rw [HN.out]; omega)
            have f0 := HS.out.fr a
            have f1 := HS.out.fr (a + k)
            have k0 : (a : Int) < n := by omega
            have k1 : (a : Int) + k < n := by omega
            go_wp2_with fail
            go_region
            have hs' := (HS.out.swp (i := a) (j := a + k) (by rw [HN.out]; omega) (by rw [HN.out]; omega)).drew
            have hn' := (size_swp' dk a (a + k)).trans HN.out
            have hc := srSift g w0 _ n cap 0 k a _ hs' hn' (Nat.zero_le _) (by omega) hsz
            have HC := Lib.hid hc
            have HN' := Lib.hid ((size_sift k a _ 0 _ (Nat.le_refl _)).trans hn')
            clear hs' hn' hc HS HN p0 p1 f0 f1
            go_wp2_with (first | (go_at_call 67; refine HC.out.mono ?_; rintro e w9 ⟨rfl, hs9⟩; have HS9 := Lib.hid hs9; clear hs9))
            exact ⟨⟨k, _, rfl, by omega, HN', HS9, HD'⟩, by simp [intOf] <;> omega⟩
    | succ k =>
      have HM' := Lib.hid (show heapBuild ltInt hi a k (siftDown ltInt hi a k dk) = M from HM.out)
      clear HM
      rw [show (((k + 1 : Nat) : Int) - 1) = (k : Int) from by omega]
      have hc := srSift g w0 _ n cap k hi a _ HS.out HN.out (by omega) (by omega) hsz
      have HC := Lib.hid hc
      have HN' := Lib.hid ((size_sift hi a _ k dk (Nat.le_refl _)).trans HN.out)
      clear hc HS HN
      go_wp2_with (first | (go_at_call 67; refine HC.out.mono ?_; rintro e w9 ⟨rfl, hs9⟩; have HS9 := Lib.hid hs9; clear hs9))
      exact ⟨⟨k, _, rfl, by omega, HN', HS9, HM'⟩, by simp [intOf] <;> omega⟩
end Go.Proofs.Ytbcoooaoofbboaa
