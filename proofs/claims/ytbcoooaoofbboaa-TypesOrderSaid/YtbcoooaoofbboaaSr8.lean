/- slices.choosePivotOrdered, reverseRangeOrdered at numbers of 32 bits. -/
import Derived.Test.YtbcoooaoofbboaaSr7
namespace Go.Proofs.Ytbcoooaoofbboaa
open Go.RowKit Go.Sort
set_option linter.unusedVariables false
set_option linter.unusedSimpArgs false

def hintZ : Hint → Int | .unknown => 0 | .increasing => 1 | .decreasing => 2
def hintOfN (s : Nat) : Hint := if s = 0 then .increasing else if s = 12 then .decreasing else .unknown
theorem ord2_cnt (d : Array Int) (a b s : Nat) : (order2 ltInt d a b s).2.2 ≤ s + 1 := by
  unfold order2
  split <;> simp
theorem med_cnt (d : Array Int) (a b c s : Nat) : (median ltInt d a b c s).2 ≤ s + 3 := by
  unfold median
  have h1 := ord2_cnt d a b s
  have h2 := ord2_cnt d (order2 ltInt d a b s).2.1 c (order2 ltInt d a b s).2.2
  have h3 := ord2_cnt d (order2 ltInt d a b s).1 (order2 ltInt d (order2 ltInt d a b s).2.1 c (order2 ltInt d a b s).2.2).1 (order2 ltInt d (order2 ltInt d a b s).2.1 c (order2 ltInt d a b s).2.2).2.2
  simp only
  omega
theorem adj_cnt (d : Array Int) (a s : Nat) : (medianAdjacent ltInt d a s).2 ≤ s + 3 := med_cnt d (a - 1) a (a + 1) s
theorem adj_lt {n : Nat} (d : Array Int) (a s : Nat) (h : a + 1 < n) : (medianAdjacent ltInt d a s).1 < n := by
  rcases medianAdjacent_mem ltInt d a s with h1 | h1 | h1 <;> rw [h1] <;> omega
theorem cp_few (d : Array Int) (a b : Nat) (h1 : 8 ≤ b - a) (h2 : b - a < 50) : choosePivot ltInt d a b = ((median ltInt d (a + (b - a) / 4 * 1) (a + (b - a) / 4 * 2) (a + (b - a) / 4 * 3) 0).1, hintOfN (median ltInt d (a + (b - a) / 4 * 1) (a + (b - a) / 4 * 2) (a + (b - a) / 4 * 3) 0).2) := by
  unfold choosePivot hintOfN
  simp only [ge_iff_le]
  rw [if_pos h1, if_neg (by omega)]
theorem cp_many (d : Array Int) (a b I J K : Nat) (h2 : 50 ≤ b - a) (hI : a + (b - a) / 4 * 1 = I) (hJ : a + (b - a) / 4 * 2 = J) (hK : a + (b - a) / 4 * 3 = K) {ri rj rk : Nat × Nat} (hi : medianAdjacent ltInt d I 0 = ri) (hj : medianAdjacent ltInt d J ri.2 = rj) (hk : medianAdjacent ltInt d K rj.2 = rk) :
    choosePivot ltInt d a b = ((median ltInt d ri.1 rj.1 rk.1 rk.2).1, hintOfN (median ltInt d ri.1 rj.1 rk.1 rk.2).2) := by
  unfold choosePivot hintOfN
  simp only [ge_iff_le]
  rw [if_pos (by omega), if_pos h2, hI, hJ, hK, hi, hj, hk]
def CpPost (g : Nat) (w0 : World) (d : Array Int) (R : Nat × Hint) (e : Ending) (w' : World) : Prop := e = .returned (.tuple #[.int .i64 (R.1 : Nat), .int .i64 (hintZ R.2)]) ∧ Srt w0 g d w'
set_option maxRecDepth 100000 in
set_option maxHeartbeats 4000000 in
theorem srPiv (g : Nat) (w0 : World) (d : Array Int) (n cap a b : Nat) (wr : World) (hS : Srt w0 g d wr) (hn : d.size = n) (hab : a + 12 < b) (hb : b ≤ n) (hsz : n ≤ 1000000) :
    Calls Try.prog 59 #[.slice (some ⟨g, 0, none⟩) n cap, .int .i64 a, .int .i64 b] wr (CpPost g w0 d (choosePivot ltInt d a b)) := by
  obtain ⟨l, hl⟩ : ∃ l, b - a = l := ⟨_, rfl⟩
  have hlI : (b : Int) - (a : Int) = (l : Int) := by omega
  obtain ⟨p, hp⟩ : ∃ p, l / 4 = p := ⟨_, rfl⟩
  have hq1 : (l : Int) / 4 = (p : Int) := by omega
  have hq2 : (l : Int).tdiv 4 = (p : Int) := by rw [Int.tdiv_eq_ediv_of_nonneg (by omega)]; exact hq1
  obtain ⟨I, hI⟩ : ∃ I, a + p * 1 = I := ⟨_, rfl⟩
  obtain ⟨J, hJ⟩ : ∃ J, a + p * 2 = J := ⟨_, rfl⟩
  obtain ⟨K0, hK⟩ : ∃ K, a + p * 3 = K := ⟨_, rfl⟩
  have hIz : (a : Int) + p = (I : Int) := by omega
  have hJz : (a : Int) + p * 2 = (J : Int) := by omega
  have hKz : (a : Int) + p * 3 = (K0 : Int) := by omega
  obtain ⟨B, hB⟩ : ∃ B, wr.heap.size = B := ⟨_, rfl⟩
  have hB0 : w0.heap.size ≤ B := by rw [← hB]; exact hS.size
  have hs0 : SrC w0 g d B 0 (wr.alloc (.cells #[.int .i64 0] 3)) := ⟨hS.alloc _, by rw [← hB]; exact heap_alloc_new wr _, hB0⟩
  have HS0 := Lib.hid hs0
  have HB := Lib.hid hB
  have hl8 : (8 : Int) ≤ l := by omega
  have hbI : (b : Int) ≤ n := by omega
  have hnI : (n : Int) ≤ 1000000 := by omega
  have hpI : (p : Int) ≤ 250000 := by omega
  have haI : (a : Int) ≤ 1000000 := by omega
  by_cases h50 : 50 ≤ l
  · obtain ⟨ri, hri⟩ : ∃ r, medianAdjacent ltInt d I 0 = r := ⟨_, rfl⟩
    obtain ⟨rj, hrj⟩ : ∃ r, medianAdjacent ltInt d J ri.2 = r := ⟨_, rfl⟩
    obtain ⟨rk, hrk⟩ : ∃ r, medianAdjacent ltInt d K0 rj.2 = r := ⟨_, rfl⟩
    have hc := cp_many d a b I J K0 (by omega) (by rw [hl, hp]; exact hI) (by rw [hl, hp]; exact hJ) (by rw [hl, hp]; exact hK) hri hrj hrk
    rw [hc]
    have c1 := adj_cnt d I 0
    have c2 := adj_cnt d J ri.2
    have c3 := adj_cnt d K0 rj.2
    have l1 := adj_lt (n := n) d I 0 (by omega)
    have l2 := adj_lt (n := n) d J ri.2 (by omega)
    have l3 := adj_lt (n := n) d K0 rj.2 (by omega)
    rw [hri] at c1 l1
    rw [hrj] at c2 l2
    rw [hrk] at c3 l3
    have h1 := Lib.hid (fun u (hu : SrC w0 g d B 0 u) => hri ▸ srAdj g w0 d n cap I B 0 u hu hn (by omega) (by omega) hsz (by omega))
    have h2 := Lib.hid (fun u (hu : SrC w0 g d B ri.2 u) => hrj ▸ srAdj g w0 d n cap J B ri.2 u hu hn (by omega) (by omega) hsz (by omega))
    have h3 := Lib.hid (fun u (hu : SrC w0 g d B rj.2 u) => hrk ▸ srAdj g w0 d n cap K0 B rj.2 u hu hn (by omega) (by omega) hsz (by omega))
    have h4 := Lib.hid (fun u (hu : SrC w0 g d B rk.2 u) => srMed g w0 d n cap ri.1 rj.1 rk.1 B rk.2 u hu hn l1 l2 l3 hsz (by omega))
    generalize median ltInt d ri.1 rj.1 rk.1 rk.2 = R at h4 ⊢
    obtain ⟨i1, i2⟩ := ri
    obtain ⟨j1, j2⟩ := rj
    obtain ⟨k1, k2⟩ := rk
    obtain ⟨r1, r2⟩ := R
    have h50I : (50 : Int) ≤ l := by omega
    clear hc c1 c2 c3 l1 l2 l3 hri hrj hrk hS hn hl hp hI hJ hK hs0 hB hB0 h50
    go_enter Try.func59, Try.ntmps59
    go_upto_region 8 with fail
    (try rw [HB.out])
    generalize hw1 : wr.alloc (.cells #[.int .i64 0] 3) = w1 at HS0 ⊢
    clear hw1
    go_wp2_with fail
    refine (h1.out _ HS0.out).mono ?_
    rintro e w2 ⟨rfl, hs2⟩
    have HS2 := Lib.hid hs2
    clear hs2 HS0 h1
    go_wp2_with fail
    refine (h2.out _ HS2.out).mono ?_
    rintro e w3 ⟨rfl, hs3⟩
    have HS3 := Lib.hid hs3
    clear hs3 HS2 h2
    go_wp2_with fail
    refine (h3.out _ HS3.out).mono ?_
    rintro e w4 ⟨rfl, hs4⟩
    have HS4 := Lib.hid hs4
    clear hs4 HS3 h3
    go_wp2_with fail
    refine (h4.out _ HS4.out).mono ?_
    rintro e w5 ⟨rfl, hs5⟩
    have q0 := below_cell (Below.refl _ w5) hs5.2.1 0 rfl
    have HS5 := Lib.hid hs5.1
    clear hs5 HS4 h4
    by_cases z0 : r2 = 0
    · subst z0
      go_wp2_with fail
      go_ret2
      exact ⟨rfl, HS5.out⟩
    · have z1 : ((r2 : Int) == 0) = false := by rw [beq_eq_false_iff_ne]; omega
      have z1' : ¬ (r2 : Int) = 0 := by omega
      by_cases z2 : r2 = 12
      · subst z2
        go_wp2_with fail
        go_ret2
        exact ⟨rfl, HS5.out⟩
      · have z3 : ((r2 : Int) == 12) = false := by rw [beq_eq_false_iff_ne]; omega
        have z3' : ¬ (r2 : Int) = 12 := by omega
        have hh : hintOfN r2 = .unknown := by unfold hintOfN; rw [if_neg z0, if_neg z2]
        go_wp2_with fail
        go_ret2
        refine ⟨?_, HS5.out⟩
        rw [hh]; rfl
  · have hc := cp_few d a b (by omega) (by omega)
    rw [hl, hp, hI, hJ, hK] at hc
    rw [hc]
    have h4 := Lib.hid (fun u (hu : SrC w0 g d B 0 u) => srMed g w0 d n cap I J K0 B 0 u hu hn (by omega) (by omega) (by omega) hsz (by omega))
    generalize median ltInt d I J K0 0 = R at h4 ⊢
    obtain ⟨r1, r2⟩ := R
    have h50I : ¬ (50 : Int) ≤ l := by omega
    clear hc hS hn hl hp hI hJ hK hs0 hB hB0 h50
    go_enter Try.func59, Try.ntmps59
    go_upto_region 11 with fail
    (try rw [HB.out])
    generalize hw1 : wr.alloc (.cells #[.int .i64 0] 3) = w1 at HS0 ⊢
    clear hw1
    go_wp2_with fail
    refine (h4.out _ HS0.out).mono ?_
    rintro e w5 ⟨rfl, hs5⟩
    have q0 := below_cell (Below.refl _ w5) hs5.2.1 0 rfl
    have HS5 := Lib.hid hs5.1
    clear hs5 HS0 h4
    by_cases z0 : r2 = 0
    · subst z0
      go_wp2_with fail
      go_ret2
      exact ⟨rfl, HS5.out⟩
    · have z1 : ((r2 : Int) == 0) = false := by rw [beq_eq_false_iff_ne]; omega
      have z1' : ¬ (r2 : Int) = 0 := by omega
      by_cases z2 : r2 = 12
      · subst z2
        go_wp2_with fail
        go_ret2
        exact ⟨rfl, HS5.out⟩
      · have z3 : ((r2 : Int) == 12) = false := by rw [beq_eq_false_iff_ne]; omega
        have z3' : ¬ (r2 : Int) = 12 := by omega
        have hh : hintOfN r2 = .unknown := by unfold hintOfN; rw [if_neg z0, if_neg z2]
        go_wp2_with fail
        go_ret2
        refine ⟨?_, HS5.out⟩
        rw [hh]; rfl
set_option maxRecDepth 100000 in
set_option maxHeartbeats 2000000 in
theorem srRev (g : Nat) (w0 : World) (d : Array Int) (n cap a b : Nat) (wr : World) (hS : Srt w0 g d wr) (hn : d.size = n) (hab : a < b) (hb : b ≤ n) (hsz : n ≤ 1000000) :
    Calls Try.prog 60 #[.slice (some ⟨g, 0, none⟩) n cap, .int .i64 a, .int .i64 b] wr fun e w' => e = .returned (.tuple #[]) ∧ Srt w0 g (reverseRange d a b) w' := by
  obtain ⟨D, hD⟩ : ∃ D, reverseRange d a b = D := ⟨_, rfl⟩
  rw [hD]
  obtain ⟨b1, rfl⟩ : ∃ b1, b = b1 + 1 := ⟨b - 1, by omega⟩
  have HD := Lib.hid (show reverseLoop a b1 d = D from hD)
  have HS := Lib.hid hS
  have HN := Lib.hid hn
  have hbI : (b1 : Int) + 1 ≤ n := by omega
  have hnI : (n : Int) ≤ 1000000 := by omega
  clear hS hD hn
  go_enter Try.func60, Try.ntmps60
  go_wp2_with fail
  go_loopw [6, 7] (fun z z2 wr => ∃ (i j : Nat) (dk : Array Int), z = .int .i64 (i : Int) ∧ z2 = .int .i64 (j : Int) ∧ i ≤ j + 1 ∧ j ≤ b1 ∧ Hid (dk.size = n) ∧ Hid (Srt w0 g dk wr) ∧ Hid (reverseLoop i j dk = D)) (fun z z2 _ => (intOf z2).toNat + 1 - (intOf z).toNat)
  case atStart => exact ⟨a, b1, d, rfl, by first | rfl | (congr 1; omega) | (push_cast; congr 1; omega), by omega, by omega, HN, HS, HD⟩
  case round =>
    clear HN HS HD
    obtain ⟨i, j, dk, rfl, rfl, hij, hjb, HN, HS, HD⟩ := hrel
    by_cases hlt : i < j
    · obtain ⟨k, rfl⟩ : ∃ k, j = k + 1 := ⟨j - 1, by omega⟩
      have hltI : (i : Int) < (k : Int) + 1 := by omega
      have he : ¬ i = k + 1 := by omega
      have he2 : ¬ k + 1 = i := by omega
      have HD' := Lib.hid (show reverseLoop (i + 1) k (swp dk i (k + 1)) = D by
        have e : reverseLoop i (k + 1) dk = reverseLoop (i + 1) k (swp dk i (k + 1)) := by conv => lhs; unfold reverseLoop; simp [hlt]
        rw [← e]; exact HD.out)
      have p0 := HS.out.cell (t := i) (by rw [HN.out]; omega)
      have p1 := HS.out.cell (t := k + 1) (by rw [HN.out]; omega)
      have f0 := HS.out.fr i
      have f1 := HS.out.fr (k + 1)
      have k0 : (i : Int) < n := by omega
      have k1 : (k : Int) + 1 < n := by omega
      go_upto_region 3 with fail
      go_region
      have HS2 := Lib.hid ((HS.out.swp (i := i) (j := k + 1) (by rw [HN.out]; omega) (by rw [HN.out]; omega)).drew)
      have HN2 := Lib.hid ((size_swp' dk i (k + 1)).trans HN.out)
      clear p0 p1 f0 f1 HS HN HD
      go_wp2_with fail
      exact ⟨⟨i + 1, k, swp dk i (k + 1), by push_cast; rfl, rfl, by omega, by omega, HN2, HS2, HD'⟩, by simp [intOf] <;> omega⟩
    · have hltI : ¬ (i : Int) < j := by omega
      have HD' := Lib.hid (show dk = D by
        have e : reverseLoop i j dk = dk := by unfold reverseLoop; simp [hlt]
        rw [← e]; exact HD.out)
      go_wp2_with fail
      go_end0
      exact ⟨rfl, by rw [← HD'.out]; exact HS.out⟩
end Go.Proofs.Ytbcoooaoofbboaa
