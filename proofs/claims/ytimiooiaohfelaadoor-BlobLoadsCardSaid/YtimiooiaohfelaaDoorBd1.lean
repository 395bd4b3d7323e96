/- blob.partAt: what a sector is, taken for a part. -/
import Derived.Test.YtimiooiaohfelaaDoorBl1
import Derived.Test.YtimiooiaohfelaaDoorLeCut
import Derived.Test.YtimiooiaohfelaaDoorFill
import Derived.Test.YtimiooiaohfelaaDoorWl4
import Derived.Test.YtimiooiaohfelaaDoorDiskM
namespace Go.Proofs.YtimiooiaohfelaaDoor
open Go.RowKit
set_option linter.unusedVariables false
set_option linter.unusedSimpArgs false

/-- a sector's bytes, filled -/
def fullP (s : ByteArray) : ByteArray := s ++ zerosB (512 - s.size)
theorem fullP_size (s : ByteArray) (h : s.size ≤ 512) : (fullP s).size = 512 := by
  unfold fullP
  rw [ByteArray.size_append, zerosB_size]; omega
def nextP (s : ByteArray) : Nat := getL (cutL (fullP s) 0 2)
def manyP (s : ByteArray) : Nat := getL (cutL (fullP s) 2 2)
def bodyP (s : ByteArray) : ByteArray := ⟨(cutL (fullP s) 4 (manyP s)).toArray⟩
def okP (s : ByteArray) : Prop := manyP s ≤ 500 ∧ (nextP s = 0 ∨ 500 ≤ manyP s)
instance (s : ByteArray) : Decidable (okP s) := by unfold okP; infer_instance
/-- whether the bytes are a part -/
def isP (s : ByteArray) : Bool := decide (okP s) && decide (secS (nextP s) (bodyP s) = s)
def fitP (l : Lg) (n : Int) : Bool := decide (readWE l n = 0 ∧ 54 ≤ n) && isP (tellsW l n)
theorem get2_le (s : ByteArray) (p : Nat) (h : p + 2 ≤ s.size) : getL (cutL s p 2) ≤ 65535 := by
  have h1 := getL_lt (cutL s p 2)
  rw [cutL_length s p 2 h] at h1
  omega
theorem nextP_le (s : ByteArray) (h : s.size ≤ 512) : nextP s ≤ 65535 := get2_le _ 0 (by rw [fullP_size s h]; omega)
theorem manyP_le (s : ByteArray) (h : s.size ≤ 512) : manyP s ≤ 65535 := get2_le _ 2 (by rw [fullP_size s h]; omega)
theorem bodyP_size (s : ByteArray) (h : s.size ≤ 512) (hm : manyP s ≤ 508) : (bodyP s).size = manyP s := by
  show (cutL (fullP s) 4 (manyP s)).toArray.size = _
  rw [List.size_toArray, cutL_length _ _ _ (by rw [fullP_size s h]; omega)]
theorem fits_512 {b : ByteArray} (h : fitsB b = true) : b.size ≤ 512 := by
  unfold fitsB at h
  exact (of_decide_eq_true h).1
theorem getD_fits {l : List ByteArray} (h : ∀ s ∈ l, fitsB s = true) (n : Nat) : (l.getD n ⟨#[]⟩).size ≤ 512 := by
  by_cases hn : n < l.length
  · rw [show l.getD n ⟨#[]⟩ = l[n] from by simp [List.getD, hn]]
    exact fits_512 (h _ (List.getElem_mem hn))
  · rw [show l.getD n ⟨#[]⟩ = ⟨#[]⟩ from by simp [List.getD, Nat.le_of_not_lt hn]]
    exact Nat.zero_le _
theorem tells_512 {d : Dsk} (h : rightD d = true) (n : Nat) : ∀ k, k ≤ d.pend.length → (tellsL d n k).size ≤ 512
  | 0, _ => getD_fits (right_secs d h) n
  | k + 1, hk => by
    unfold tellsL
    split
    · exact fits_512 (right_wrts d h k (by omega))
    · exact tells_512 h n k (by omega)
theorem dirty_fits {N : Nat} : ∀ {p : Int} {l : List Wrt}, dirtyB N p l = true → ∀ x ∈ l, fitsB x.bytes = true
  | _, [], _, x, hx => absurd hx (by simp)
  | p, y :: l, h, x, hx => by
    unfold dirtyB at h
    rw [Bool.and_eq_true, Bool.and_eq_true, Bool.and_eq_true] at h
    rcases List.mem_cons.1 hx with rfl | hx
    · first | exact h.1.2 | exact h.1.1.2
    · exact dirty_fits h.2 x hx
theorem tellsW_512 {l : Lg} (h : rightL l = true) (n : Int) : (tellsW l n).size ≤ 512 := by
  obtain ⟨h1, _, h3⟩ := right_dirty h
  unfold tellsW
  split
  · rename_i x hx
    exact fits_512 (dirty_fits h1 x (List.mem_of_find?_eq_some hx))
  · exact tells_512 h3 _ _ (Nat.le_refl _)
theorem readWE_right {l : Lg} {n : Int} (h : readWE l n = 0) : rightL l = true := by
  unfold readWE at h
  by_cases hr : rightL l = true
  · exact hr
  · rw [if_neg hr] at h; exact absurd h (by decide)
def PartPost (l : Lg) (n : Int) (w : World) (e : Ending) (w' : World) : Prop :=
  (∃ a b, e = .returned (.tuple #[.int .i64 a, .string b, .bool (fitP l n)]) ∧ (fitP l n = true → a = nextP (tellsW l n) ∧ b = bodyP (tellsW l n))) ∧ Below w.heap.size w w'
set_option maxRecDepth 100000 in
set_option maxHeartbeats 8000000 in
theorem blobPartAt (v : Value) (l : Lg) (n : Int) (w : World) (h : IsLog w v l) (hp : l.pend.length ≤ 1000000) :
    Calls Tryd.prog 10 #[v, .int .i64 n] w (PartPost l n w) := by
  obtain ⟨x1, x2, x3, x4, x5, x6, rfl, _⟩ := id h.form
  have hR := fun (u : World) (hu : Below w.heap.size w u) => wlRead _ l n u (h.below hu) hp
  have HAL := Lib.hid ((Below.refl w.heap.size w).alloc (Nat.le_refl _) (.cells #[.slice x1 l.secs.length x2, .slice x3 l.pend.length x4, .int .i64 l.left, .int .i64 l.epoch, .int .i64 l.seq, .int .i64 l.used, .slice x5 l.dirty.length x6] 29))
  by_cases hok : readWE l n = 0 ∧ 54 ≤ n
  rotate_left
  · have hf : fitP l n = false := by unfold fitP; rw [decide_eq_false hok]; rfl
    unfold PartPost
    rw [hf]
    generalize readWS l n = rs at *
    by_cases h0 : readWE l n = 0
    · have hn : n < 54 := by omega
      rw [h0] at hR
      have HR := Lib.hid hR
      clear hR h0 hok hf
      go_enter Tryd.func10, Tryd.ntmps10
      go_wp2_with (first | (go_at_call 21; refine (HR.out _ HAL.out).mono ?_; rintro e w1 ⟨rfl, hb⟩))
      go_ret3
      exact ⟨⟨_, _, rfl, fun h => absurd h (by decide)⟩, HAL.out.trans (hb.mono HAL.out.size)⟩
    · generalize readWE l n = re at *
      have h0' : (re == 0) = false := by simpa using h0
      have h0'' : (re != 0) = true := by simpa using h0
      have HR := Lib.hid hR
      clear hR h0 hok hf
      go_enter Tryd.func10, Tryd.ntmps10
      go_wp2_with (first | (go_at_call 21; refine (HR.out _ HAL.out).mono ?_; rintro e w1 ⟨rfl, hb⟩))
      go_ret3
      exact ⟨⟨_, _, rfl, fun h => absurd h (by decide)⟩, HAL.out.trans (hb.mono HAL.out.size)⟩
  · obtain ⟨h0, hn⟩ := hok
    have hsz := tellsW_512 (readWE_right h0) n
    have hfit : fitP l n = isP (tellsW l n) := by unfold fitP; rw [decide_eq_true ⟨h0, hn⟩]; rfl
    unfold PartPost
    rw [hfit]
    rw [show readWS l n = tellsW l n from if_pos h0, h0] at hR
    generalize tellsW l n = S at *
    have hfs := fullP_size S hsz
    have hfl : ∀ u, Calls Tryd.prog 22 #[.string S, .int .i64 512] u fun e w' => e = .returned (.tuple #[.string (fullP S), .int .i64 0]) ∧ Below u.heap.size u w' := fun u => by
      have := leFill_any S ((512 : Nat) : Int) u (by omega) (by decide) (by decide)
      rw [(fillS_ok S 512 hsz).1, (fillS_ok S 512 hsz).2] at this
      exact this
    have hgt : ∀ u, Calls Tryd.prog 23 #[.string (fullP S), .int .i64 0, .int .i64 2] u fun e w' => e = .returned (.tuple #[.int .u64 (nextP S : Nat), .int .i64 2, .int .i64 0]) ∧ u = w' := fun u =>
      leGet_ok (fullP S) 0 2 u (by rw [hfs]; decide) (by decide) (by decide) (by rw [hfs]; decide)
    have hct : ∀ u, Calls Tryd.prog 24 #[.string (fullP S), .int .i64 2] u fun e w' => e = .returned (.tuple #[.string (cutS (fullP S) 2), .int .i64 (cutT (fullP S) 2), .int .i64 (cutE (fullP S) 2)]) ∧ u = w' := fun u =>
      leCut_any (fullP S) 2 u (by rw [hfs]; decide) (by decide)
    have hg0 : getE (fullP S) 2 2 = 0 := by unfold getE; rw [if_pos ⟨by decide, by decide, by decide⟩, if_pos (by rw [hfs]; decide)]
    have hgN : getN (fullP S) 2 2 = (manyP S : Nat) := by unfold getN; rw [if_pos hg0]; rfl
    have hcE : cutE (fullP S) 2 = if manyP S ≤ 508 then 0 else 3 := by
      unfold cutE
      rw [hg0, if_neg (by decide), hgN, hfs]
      by_cases hm : manyP S ≤ 508
      · rw [if_pos hm, if_pos (by omega)]
      · rw [if_neg hm, if_neg (by omega)]
    have hnl := nextP_le S hsz
    generalize cutT (fullP S) 2 = ct at *
    by_cases hm : manyP S ≤ 508
    rotate_left
    · rw [if_neg hm] at hcE
      have hip : isP S = false := by unfold isP; rw [decide_eq_false (show ¬ okP S by unfold okP; omega)]; rfl
      rw [hcE] at hct
      rw [hip]
      generalize cutS (fullP S) 2 = cs at *
      generalize fullP S = FSZ at *
      generalize nextP S = N at *
      have hN0 : (0 : Int) ≤ N := by omega
      have hN1 : (N : Int) ≤ 65535 := by omega
      have HR := Lib.hid hR; have HF := Lib.hid hfl; have HG := Lib.hid hgt; have HC := Lib.hid hct
      clear hR hfl hgt hct hm hip hcE hgN hg0 hfs hfit hsz h0
      go_enter Tryd.func10, Tryd.ntmps10
      go_wp2_with (first
        | (go_at_call 21; refine (HR.out _ HAL.out).mono ?_; rintro e w1 ⟨rfl, hb⟩)
        | (go_at_call 22; refine (HF.out _).mono ?_; rintro e w2 ⟨rfl, hb2⟩)
        | (go_at_call 23; refine (HG.out _).mono ?_; rintro e w3 ⟨rfl, rfl⟩)
        | (go_at_call 24; refine (HC.out _).mono ?_; rintro e w4 ⟨rfl, rfl⟩))
      go_ret3
      exact ⟨⟨_, _, rfl, fun h => absurd h (by decide)⟩, (HAL.out.trans (hb.mono HAL.out.size)).trans (hb2.mono (HAL.out.trans (hb.mono HAL.out.size)).size)⟩
    · rw [if_pos hm] at hcE
      have hcS : cutS (fullP S) 2 = bodyP S := by unfold cutS; rw [if_pos hcE]; rfl
      have hbs := bodyP_size S hsz hm
      rw [hcE, hcS] at hct
      have hm5 : (bodyP S).size ≤ 508 := by omega
      obtain ⟨BP, hBP⟩ : ∃ BP, bodyP S = BP := ⟨_, rfl⟩
      obtain ⟨N, hN⟩ : ∃ N, nextP S = N := ⟨_, rfl⟩
      obtain ⟨M, hM⟩ : ∃ M, manyP S = M := ⟨_, rfl⟩
      have hokd : isP S = (decide (M ≤ 500 ∧ (N = 0 ∨ 500 ≤ M)) && decide (secS N BP = S)) := by
        unfold isP
        rw [hBP, hN]
        congr 1
        rw [decide_eq_decide, ← hM, ← hN]
        rfl
      rw [hN] at hnl hgt
      rw [hBP] at hbs hct hm5
      rw [hM] at hbs
      rw [hN, hBP]
      have hN0 : (0 : Int) ≤ N := by omega
      have hN1 : (N : Int) ≤ 65535 := by omega
      generalize fullP S = FSZ at *
      have HR := Lib.hid hR; have HF := Lib.hid hfl; have HG := Lib.hid hgt; have HC := Lib.hid hct
      by_cases hk : M ≤ 500 ∧ (N = 0 ∨ 500 ≤ M)
      · have hwt : ∀ u, Calls Tryd.prog 25 #[.int .i64 (N : Nat), .string BP] u fun e w' => e = .returned (.string (secS N BP)) ∧ Below u.heap.size u w' := fun u => blobWritten_ok _ _ u (by omega) (by omega)
        rw [decide_eq_true hk, Bool.true_and] at hokd
        obtain ⟨SE, hSE⟩ : ∃ SE, secS N BP = SE := ⟨_, rfl⟩
        rw [hSE] at hwt hokd
        have hbi : ((BP.size : Nat) : Int) ≤ 500 := by omega
        have hz : N = 0 ∨ (¬ (N : Int) = 0 ∧ BP.size = 500) := by
          by_cases h9 : N = 0
          · exact .inl h9
          · refine .inr ⟨by omega, by omega⟩
        have HW := Lib.hid hwt
        by_cases hse : SE = S
        · have hip : isP S = true := by rw [hokd]; exact decide_eq_true hse
          rw [hip]
          subst hse
          clear hR hfl hgt hct hm hip hokd hcE hcS hgN hg0 hfs hfit hsz h0 hwt hk hSE hBP hN hM hnl hm5
          rcases hz with rfl | ⟨hz1, hz2⟩
          · clear hbs
            rw [show ((0 : Nat) : Int) = 0 from rfl] at HW HG
            go_enter Tryd.func10, Tryd.ntmps10
            go_wp2_with (first
                | (go_at_call 21; refine (HR.out _ HAL.out).mono ?_; rintro e w1 ⟨rfl, hb⟩)
                | (go_at_call 22; refine (HF.out _).mono ?_; rintro e w2 ⟨rfl, hb2⟩)
                | (go_at_call 23; refine (HG.out _).mono ?_; rintro e w3 ⟨rfl, rfl⟩)
                | (go_at_call 24; refine (HC.out _).mono ?_; rintro e w4 ⟨rfl, rfl⟩)
                | (go_at_call 25; refine (HW.out _).mono ?_; rintro e w5 ⟨rfl, hb5⟩))
            go_ret3
            exact ⟨⟨_, _, rfl, fun _ => ⟨rfl, rfl⟩⟩, ((HAL.out.trans (hb.mono HAL.out.size)).trans (hb2.mono (HAL.out.trans (hb.mono HAL.out.size)).size)).trans (hb5.mono ((HAL.out.trans (hb.mono HAL.out.size)).trans (hb2.mono (HAL.out.trans (hb.mono HAL.out.size)).size)).size)⟩
          · have hz3 : ((N : Int) == 0) = false := by simpa using hz1
            have hz3a : ((N : Int) != 0) = true := by simpa using hz1
            have hz3b : (N != 0) = true := by simpa using hz1
            have hz3c : (N == 0) = false := by simpa using hz1
            have hz4 : ¬ ((BP.size : Nat) : Int) < 500 := by omega
            clear hbs hz1 hz2
            go_enter Tryd.func10, Tryd.ntmps10
            go_wp2_with (first
                | (go_at_call 21; refine (HR.out _ HAL.out).mono ?_; rintro e w1 ⟨rfl, hb⟩)
                | (go_at_call 22; refine (HF.out _).mono ?_; rintro e w2 ⟨rfl, hb2⟩)
                | (go_at_call 23; refine (HG.out _).mono ?_; rintro e w3 ⟨rfl, rfl⟩)
                | (go_at_call 24; refine (HC.out _).mono ?_; rintro e w4 ⟨rfl, rfl⟩)
                | (go_at_call 25; refine (HW.out _).mono ?_; rintro e w5 ⟨rfl, hb5⟩))
            go_ret3
            exact ⟨⟨_, _, rfl, fun _ => ⟨rfl, rfl⟩⟩, ((HAL.out.trans (hb.mono HAL.out.size)).trans (hb2.mono (HAL.out.trans (hb.mono HAL.out.size)).size)).trans (hb5.mono ((HAL.out.trans (hb.mono HAL.out.size)).trans (hb2.mono (HAL.out.trans (hb.mono HAL.out.size)).size)).size)⟩
        · have hip : isP S = false := by rw [hokd]; exact decide_eq_false hse
          rw [hip]
          have hts := ba_tne hse
          clear hR hfl hgt hct hm hip hokd hcE hcS hgN hg0 hfs hfit hsz h0 hwt hk hSE hBP hN hM hnl hm5 hse
          rcases hz with rfl | ⟨hz1, hz2⟩
          · clear hbs
            rw [show ((0 : Nat) : Int) = 0 from rfl] at HW HG
            go_enter Tryd.func10, Tryd.ntmps10
            go_wp2_with (first
                | (go_at_call 21; refine (HR.out _ HAL.out).mono ?_; rintro e w1 ⟨rfl, hb⟩)
                | (go_at_call 22; refine (HF.out _).mono ?_; rintro e w2 ⟨rfl, hb2⟩)
                | (go_at_call 23; refine (HG.out _).mono ?_; rintro e w3 ⟨rfl, rfl⟩)
                | (go_at_call 24; refine (HC.out _).mono ?_; rintro e w4 ⟨rfl, rfl⟩)
                | (go_at_call 25; refine (HW.out _).mono ?_; rintro e w5 ⟨rfl, hb5⟩))
            go_ret3
            exact ⟨⟨_, _, rfl, fun h => absurd h (by decide)⟩, ((HAL.out.trans (hb.mono HAL.out.size)).trans (hb2.mono (HAL.out.trans (hb.mono HAL.out.size)).size)).trans (hb5.mono ((HAL.out.trans (hb.mono HAL.out.size)).trans (hb2.mono (HAL.out.trans (hb.mono HAL.out.size)).size)).size)⟩
          · have hz3 : ((N : Int) == 0) = false := by simpa using hz1
            have hz3a : ((N : Int) != 0) = true := by simpa using hz1
            have hz3b : (N != 0) = true := by simpa using hz1
            have hz3c : (N == 0) = false := by simpa using hz1
            have hz4 : ¬ ((BP.size : Nat) : Int) < 500 := by omega
            clear hbs hz1 hz2
            go_enter Tryd.func10, Tryd.ntmps10
            go_wp2_with (first
                | (go_at_call 21; refine (HR.out _ HAL.out).mono ?_; rintro e w1 ⟨rfl, hb⟩)
                | (go_at_call 22; refine (HF.out _).mono ?_; rintro e w2 ⟨rfl, hb2⟩)
                | (go_at_call 23; refine (HG.out _).mono ?_; rintro e w3 ⟨rfl, rfl⟩)
                | (go_at_call 24; refine (HC.out _).mono ?_; rintro e w4 ⟨rfl, rfl⟩)
                | (go_at_call 25; refine (HW.out _).mono ?_; rintro e w5 ⟨rfl, hb5⟩))
            go_ret3
            exact ⟨⟨_, _, rfl, fun h => absurd h (by decide)⟩, ((HAL.out.trans (hb.mono HAL.out.size)).trans (hb2.mono (HAL.out.trans (hb.mono HAL.out.size)).size)).trans (hb5.mono ((HAL.out.trans (hb.mono HAL.out.size)).trans (hb2.mono (HAL.out.trans (hb.mono HAL.out.size)).size)).size)⟩
      · have hip : isP S = false := by rw [hokd, decide_eq_false hk]; rfl
        rw [hip]
        have hz : 500 < BP.size ∨ (BP.size ≤ 500 ∧ ¬ (N : Int) = 0 ∧ BP.size < 500) := by omega
        have HW : Hid True := Lib.hid trivial
        clear hR hfl hgt hct hm hip hokd hcE hcS hgN hg0 hfs hfit hsz h0 hk hBP hN hM hnl hm5
        rcases hz with hz | ⟨hz0, hz1, hz2⟩
        · have hz3 : (500 : Int) < ((BP.size : Nat) : Int) := by omega
          clear hbs hz
          go_enter Tryd.func10, Tryd.ntmps10
          go_wp2_with (first
                | (go_at_call 21; refine (HR.out _ HAL.out).mono ?_; rintro e w1 ⟨rfl, hb⟩)
                | (go_at_call 22; refine (HF.out _).mono ?_; rintro e w2 ⟨rfl, hb2⟩)
                | (go_at_call 23; refine (HG.out _).mono ?_; rintro e w3 ⟨rfl, rfl⟩)
                | (go_at_call 24; refine (HC.out _).mono ?_; rintro e w4 ⟨rfl, rfl⟩))
          go_ret3
          exact ⟨⟨_, _, rfl, fun h => absurd h (by decide)⟩, (HAL.out.trans (hb.mono HAL.out.size)).trans (hb2.mono (HAL.out.trans (hb.mono HAL.out.size)).size)⟩
        · have hz3 : ((N : Int) == 0) = false := by simpa using hz1
          have hz3a : ((N : Int) != 0) = true := by simpa using hz1
          have hz3b : (N != 0) = true := by simpa using hz1
          have hz3c : (N == 0) = false := by simpa using hz1
          have hz4 : ((BP.size : Nat) : Int) < 500 := by omega
          have hz5 : ¬ (500 : Int) < ((BP.size : Nat) : Int) := by omega
          clear hbs hz0 hz1 hz2
          go_enter Tryd.func10, Tryd.ntmps10
          go_wp2_with (first
                | (go_at_call 21; refine (HR.out _ HAL.out).mono ?_; rintro e w1 ⟨rfl, hb⟩)
                | (go_at_call 22; refine (HF.out _).mono ?_; rintro e w2 ⟨rfl, hb2⟩)
                | (go_at_call 23; refine (HG.out _).mono ?_; rintro e w3 ⟨rfl, rfl⟩)
                | (go_at_call 24; refine (HC.out _).mono ?_; rintro e w4 ⟨rfl, rfl⟩))
          go_ret3
          exact ⟨⟨_, _, rfl, fun h => absurd h (by decide)⟩, (HAL.out.trans (hb.mono HAL.out.size)).trans (hb2.mono (HAL.out.trans (hb.mono HAL.out.size)).size)⟩
end Go.Proofs.YtimiooiaohfelaaDoor
