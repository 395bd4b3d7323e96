/- slices.Compact at numbers of 32 bits. -/
import Derived.Test.YtbcoooaoofbboaaSr2
import Derived.Lib.SliceRun
namespace Go.Proofs.Ytbcoooaoofbboaa
open Go.RowKit Go.Sort
set_option linter.unusedVariables false
set_option linter.unusedSimpArgs false

/-- the first so many, each told once where it stands several times in a row -/
def cmpK (d : Array Int) : Nat → List Int
  | 0 => []
  | k + 1 => if k = 0 ∨ d[k]! ≠ d[k - 1]! then cmpK d k ++ [d[k]!] else cmpK d k
theorem cmpK_ne (d : Array Int) (k : Nat) (h : d[k + 1]! ≠ d[k]!) : cmpK d (k + 1 + 1) = cmpK d (k + 1) ++ [d[k + 1]!] := by
  conv => lhs; unfold cmpK
  rw [if_pos (.inr h)]
theorem cmpK_eq (d : Array Int) (k : Nat) (h : d[k + 1]! = d[k]!) : cmpK d (k + 1 + 1) = cmpK d (k + 1) := by
  conv => lhs; unfold cmpK
  rw [if_neg (by rintro (h1 | h1); omega; exact h1 h)]
theorem cmpK_len (d : Array Int) : ∀ k, (cmpK d k).length ≤ k
  | 0 => Nat.le_refl _
  | k + 1 => by
    unfold cmpK
    have := cmpK_len d k
    split
    · rw [List.length_append]; simp; omega
    · omega
theorem setCells_zero (w0 : World) (g : Nat) : ∀ (k i : Nat) (d : Array Int) (wr : World), Srt w0 g d wr → i + k ≤ d.size →
    ∃ d' : Array Int, d'.size = d.size ∧ (∀ t, t < i → d'[t]! = d[t]!) ∧ Srt w0 g d' (wr.setCells g i (List.replicate k (.int .u32 0)))
  | 0, i, d, wr, h, hk => ⟨d, rfl, fun _ _ => rfl, h⟩
  | k + 1, i, d, wr, h, hk => by
    obtain ⟨d', h1, h2, h3⟩ := setCells_zero w0 g k (i + 1) _ _ (h.set (i := i) (by omega) 0) (by simp; omega)
    refine ⟨d', by rw [h1]; simp, fun t ht => ?_, h3⟩
    rw [h2 t (by omega), getElem!_set_other d i t 0 (by omega)]
def CmpPost (w0 : World) (g n cap : Nat) (C : List Int) (e : Ending) (w' : World) : Prop :=
  e = .returned (.slice (some ⟨g, 0, none⟩) C.length cap) ∧ ∃ d' : Array Int, d'.size = n ∧ (∀ t, t < C.length → d'[t]! = C.getD t 0) ∧ Srt w0 g d' w'
theorem getD_snoc {C : List Int} {x : Int} {t : Nat} (h : t < C.length) : (C ++ [x]).getD t 0 = C.getD t 0 := by
  simp [List.getD, List.getElem?_append, h]
theorem getD_last (C : List Int) (x : Int) : (C ++ [x]).getD C.length 0 = x := by simp [List.getD]

set_option maxRecDepth 100000 in
set_option maxHeartbeats 4000000 in
theorem srCompact (g : Nat) (w0 : World) (d : Array Int) (n cap : Nat) (wr : World) (hS : Srt w0 g d wr) (hn : d.size = n) (hsz : n ≤ 1000000) (hcap : n ≤ cap) (hcm : cap ≤ 9223372036854775807) :
    Calls Try.prog 40 #[.slice (some ⟨g, 0, none⟩) n cap] wr (CmpPost w0 g n cap (cmpK d n)) := by
  have hnI : (n : Int) ≤ 1000000 := by omega
  have hcI : (n : Int) ≤ cap := by omega
  have hcmI : (cap : Int) ≤ 9223372036854775807 := by omega
  by_cases h2 : n < 2
  · have h2I : (n : Int) < 2 := by omega
    have hC : cmpK d n = d.toList := by
      rcases (show n = 0 ∨ n = 1 by omega) with rfl | rfl
      · have : d = #[] := Array.eq_empty_of_size_eq_zero hn
        subst this; rfl
      · obtain ⟨x, hx⟩ : ∃ x, d = #[x] := by
          rcases d with ⟨l⟩
          match l, hn with
          | [x], _ => exact ⟨x, rfl⟩
        subst hx; rfl
    have hl : (cmpK d n).length = n := by rw [hC]; simpa using hn
    have hp : CmpPost w0 g n cap (cmpK d n) (.returned (.slice (some ⟨g, 0, none⟩) n cap)) wr := ⟨by rw [hl], d, hn, fun t ht => by
      rw [hC]; rw [hl] at ht
      have : t < d.size := by omega
      simp [List.getD, this], hS⟩
    have HP := Lib.hid hp
    clear hp hC hl hS hn
    go_enter Try.func40, Try.ntmps40
    go_wp2_with fail
    go_ret
    exact HP.out
  · have h2I : ¬ (n : Int) < 2 := by omega
    have HS := Lib.hid hS; have HN := Lib.hid hn
    have hC1 : cmpK d 1 = d.toList.take 1 := by
      rcases d with ⟨l⟩
      match l, hn with
      | [], h => exact absurd h (by simp; omega)
      | x :: l, _ => rfl
    have HC1 := Lib.hid hC1
    clear hS hn hC1
    go_enter Try.func40, Try.ntmps40
    go_wp2_with fail
    go_loopw [3] (fun z wr => ∃ k : Nat, z = .int .i64 ((k : Int) + 1) ∧ k + 1 ≤ n ∧ Hid (Srt w0 g d wr) ∧ Hid (cmpK d (k + 1) = d.toList.take (k + 1))) (fun z _ => n - (intOf z).toNat)
    case atStart => exact ⟨0, rfl, by omega, HS, HC1⟩
    case round =>
      clear HS HC1
      obtain ⟨k, rfl, hk, HS, HC⟩ := hrel
      by_cases hkn : k + 1 < n
      · have hkI : (k : Int) + 1 < n := by omega
        have hkI0 : (k : Int) < n := by omega
        have q0 := HS.out.cell (t := k + 1) (by rw [HN.out]; omega)
        have q1 := HS.out.cell (t := k) (by rw [HN.out]; omega)
        by_cases he : d[k + 1]! = d[k]!
        · have hk1 : ((d[k + 1]!) == d[k]!) = true := by rw [beq_iff_eq]; exact he
          have hC2 : cmpK d (k + 2) = d.toList.take (k + 1) := by rw [show k + 2 = k + 1 + 1 from rfl, cmpK_eq d k he]; exact HC.out
          have HC2 := Lib.hid hC2
          clear hC2 he HC
          go_upto_region 6 with fail
          go_big_quiet (first | fail)
          have hs1 := HS.out.drewN nq
          clear HS q0 q1
          generalize hwq : wr.drewN nq = wq at hs1 ⊢
          clear hwq nq
          have HS := Lib.hid hs1
          clear hs1
          go_wp2_with fail
          go_loopw [3, 5] (fun z3 z5 wr => ∃ (i q : Nat) (dk : Array Int), z3 = .int .i64 (i : Int) ∧ z5 = .int .i64 ((q : Int) + 1) ∧ k + 2 + q ≤ n ∧ i < k + 2 + q ∧ Hid (dk.size = n) ∧ Hid (Srt w0 g dk wr) ∧ Hid ((cmpK d (k + 2 + q)).length = i) ∧ Hid (∀ t, t < i → dk[t]! = (cmpK d (k + 2 + q)).getD t 0) ∧ Hid (∀ t, k + 1 + q ≤ t → t < n → dk[t]! = d[t]!)) (fun _ z5 _ => n - (intOf z5).toNat)
          case atStart =>
            have hl1 : (cmpK d (k + 2)).length = k + 1 := by
              rw [HC2.out, List.length_take]; simp [HN.out]; omega
            refine ⟨k + 1, 0, d, by push_cast; rfl, rfl, by omega, by omega, HN, HS, Lib.hid hl1, Lib.hid (fun t ht => ?_), Lib.hid (fun t _ _ => rfl)⟩
            rw [show k + 2 + 0 = k + 2 from rfl, HC2.out]
            have h1 : t < d.size := by rw [HN.out]; omega
            simp [List.getD, ht, h1]
          case round =>
            clear HS HC2
            obtain ⟨i, q, dk, rfl, rfl, hkq, hiq, HNk, HS, HLn, HPre, HSuf⟩ := hrel
            obtain ⟨K, hK⟩ : ∃ K, k + 1 + q = K := ⟨_, rfl⟩
            rw [show k + 2 + q = K + 1 by omega] at HLn HPre hkq hiq
            rw [hK] at HSuf
            by_cases hend : K + 1 < n
            · have hendI : (q : Int) + 1 < (n : Int) - ((k : Int) + 1) := by omega
              have qa := HS.out.cell (t := K + 1) (by rw [HNk.out]; omega)
              have qb := HS.out.cell (t := K) (by rw [HNk.out]; omega)
              have k2 : (q : Int) < (n : Int) - ((k : Int) + 1) := by omega
              have hendI2 : (q : Int) + 1 < ((n - (k + 1) : Nat) : Int) := by omega
              have k22 : (q : Int) < ((n - (k + 1) : Nat) : Int) := by omega
              have ei : (k + 1 + (q + 1)) = K + 1 := by omega
              have va : dk[K + 1]! = d[K + 1]! := by exact HSuf.out (K + 1) (by omega) hend
              have vb : dk[K]! = d[K]! := by exact HSuf.out K (Nat.le_refl _) (by omega)
              have HVA := Lib.hid va
              rw [va] at qa
              rw [vb] at qb
              clear va vb
              by_cases hne : d[K + 1]! = d[K]!
              · have hk1 : ((d[K + 1]!) != d[K]!) = false := by rw [bne_eq_false_iff_eq]; exact hne
                have hk1' : ((d[K + 1]!) == d[K]!) = true := by rw [beq_iff_eq]; exact hne
                have hc := cmpK_eq d K hne
                have HLn2 := Lib.hid (show (cmpK d (K + 1 + 1)).length = i by rw [hc]; exact HLn.out)
                have HPre2 := Lib.hid (show ∀ t, t < i → dk[t]! = (cmpK d (K + 1 + 1)).getD t 0 by rw [hc]; exact HPre.out)
                have HSuf2 := Lib.hid (show ∀ t, K + 1 ≤ t → t < n → dk[t]! = d[t]! from fun t h1 h2 => HSuf.out t (by omega) h2)
                clear hc hne HLn HPre HSuf
                go_upto_region 11 with fail
                go_big_quiet (first | fail)
                have HS2 := Lib.hid (HS.out.drewN nq)
                clear HS qa qb
                go_wp2_with fail
                exact ⟨⟨i, q + 1, dk, rfl, by push_cast; rfl, by omega, by omega, HNk, HS2, Lib.hid (by rw [show k + 2 + (q + 1) = K + 1 + 1 by omega]; exact HLn2.out), Lib.hid (by rw [show k + 2 + (q + 1) = K + 1 + 1 by omega]; exact HPre2.out), Lib.hid (by rw [show k + 1 + (q + 1) = K + 1 by omega]; exact HSuf2.out)⟩, by simp [intOf]; omega⟩
              · have hk1 : ((d[K + 1]!) != d[K]!) = true := by rw [bne_iff_ne]; exact hne
                have hk1' : ((d[K + 1]!) == d[K]!) = false := by rw [beq_eq_false_iff_ne]; exact hne
                have hc := cmpK_ne d K hne
                have HLn2 := Lib.hid (show (cmpK d (K + 1 + 1)).length = i + 1 by rw [hc, List.length_append, HLn.out]; rfl)
                have HPre2 := Lib.hid (show ∀ t, t < i + 1 → (dk.setIfInBounds i d[K + 1]!)[t]! = (cmpK d (K + 1 + 1)).getD t 0 from fun t ht => by
                  rw [hc]
                  by_cases hti : t = i
                  · subst hti
                    rw [getElem!_set_same dk t _ (by rw [HNk.out]; omega)]
                    have := getD_last (cmpK d (K + 1)) d[K + 1]!
                    rw [HLn.out] at this
                    exact this.symm
                  · rw [getElem!_set_other dk i t _ hti, getD_snoc (by rw [HLn.out]; omega)]
                    exact HPre.out t (by omega))
                have HSuf2 := Lib.hid (show ∀ t, K + 1 ≤ t → t < n → (dk.setIfInBounds i d[K + 1]!)[t]! = d[t]! from fun t h1 h2 => by
                  rw [getElem!_set_other dk i t _ (by omega)]
                  exact HSuf.out t (by omega) h2)
                have HNk2 := Lib.hid (show (dk.setIfInBounds i d[K + 1]!).size = n by rw [Array.size_setIfInBounds]; exact HNk.out)
                clear hc hne HLn HPre HSuf
                go_upto_region 11 with fail
                go_big_quiet (first | fail)
                have hs1 := HS.out.drewN nq
                clear HS qb
                generalize hwq : wr.drewN nq = wq at hs1 ⊢
                clear hwq nq
                have HS := Lib.hid hs1
                clear hs1
                have qa2 := HS.out.cell (t := K + 1) (by rw [HNk.out]; omega)
                have qi := HS.out.cell (t := i) (by rw [HNk.out]; omega)
                have fi := HS.out.fr i
                have ki : (i : Int) < n := by omega
                have hset := HS.out.set (i := i) (by rw [HNk.out]; omega) d[K + 1]!
                rw [show dk[K + 1]! = d[K + 1]! from HVA.out] at qa2
                have HS2 := Lib.hid hset
                clear hset
                go_wp2_with fail
                exact ⟨⟨i + 1, q + 1, dk.setIfInBounds i d[K + 1]!, by push_cast; rfl, by push_cast; rfl, by omega, by omega, HNk2, HS2, Lib.hid (by rw [show k + 2 + (q + 1) = K + 1 + 1 by omega]; exact HLn2.out), Lib.hid (by rw [show k + 2 + (q + 1) = K + 1 + 1 by omega]; exact HPre2.out), Lib.hid (by rw [show k + 1 + (q + 1) = K + 1 by omega]; exact HSuf2.out)⟩, by simp [intOf]; omega⟩
            · have hendI : ¬ (q : Int) + 1 < (n : Int) - ((k : Int) + 1) := by omega
              have hKn : K + 1 = n := by omega
              have hendI2 : ¬ (q : Int) + 1 < ((n - (k + 1) : Nat) : Int) := by omega
              have hin : i < n := by omega
              have hinI : (i : Int) < n := by omega
              have hiI : (i : Int) ≤ n := by omega
              obtain ⟨d', h1, h2, h3⟩ := setCells_zero w0 g (n - i) i dk _ HS.out (by rw [HNk.out]; omega)
              have hp : CmpPost w0 g n cap (cmpK d n) (.returned (.slice (some ⟨g, 0, none⟩) i cap)) (wr.setCells g i (List.replicate (n - i) (.int .u32 0))) := by
                refine ⟨by rw [← hKn, HLn.out], d', h1.trans HNk.out, fun t ht => ?_, h3⟩
                rw [← hKn] at ht ⊢
                rw [HLn.out] at ht
                rw [h2 t ht]
                exact HPre.out t ht
              have HP := Lib.hid hp
              have hcl : ∀ ty, (Builtin.clear_ #[47] ty #[.slice (some ⟨g, i, none⟩) (n - i) (cap - i)]).run Try.prog wr = .ok (.tuple #[]) (wr.setCells g i (List.replicate (n - i) (.int .u32 0))) := fun ty =>
                Lib.run_clear_slice wr _ _ ty (.int .u32 0) Try.underlying47 (fun w => Try.zeroValue35 w) rfl rfl g i _ _ (by omega) (fun j hj => by rw [HS.out.cell (t := i + j) (by rw [HNk.out]; omega)]; rfl) (fun j hj => HS.out.fr (i + j))
              clear hp h1 h2 h3 HLn HPre HSuf HS
              go_wp2_with fail
              go_ret
              exact HP.out
        · have hk1 : ((d[k + 1]!) == d[k]!) = false := by rw [beq_eq_false_iff_ne]; exact he
          have hC2 : cmpK d (k + 1 + 1) = d.toList.take (k + 1 + 1) := by
            rw [cmpK_ne d k he, HC.out]
            have hlt : k + 1 < d.toList.length := by simpa using (show k + 1 < d.size by rw [HN.out]; omega)
            rw [← List.take_append_getElem hlt]
            congr 2
            rw [getElem!_pos d (k + 1) (by rw [HN.out]; omega)]
            simp
          have HC2 := Lib.hid hC2
          clear hC2 he HC
          go_upto_region 6 with fail
          go_big_quiet (first | fail)
          have HS' := Lib.hid (HS.out.drewN nq)
          clear HS q0 q1
          go_wp2_with fail
          exact ⟨⟨k + 1, by push_cast; rfl, by omega, HS', HC2⟩, by simp [intOf]; omega⟩
      · have hkI : ¬ (k : Int) + 1 < n := by omega
        have hl : k + 1 = n := by omega
        have hp : CmpPost w0 g n cap (cmpK d n) (.returned (.slice (some ⟨g, 0, none⟩) n cap)) wr := by
          have hc := HC.out
          rw [hl, List.take_of_length_le (by simpa using (show d.size ≤ n by rw [HN.out]; exact Nat.le_refl _))] at hc
          refine ⟨by rw [hc]; simp [HN.out], d, HN.out, fun t ht => ?_, HS.out⟩
          rw [hc] at ht ⊢
          have : t < d.size := by simpa using ht
          simp [List.getD, this]
        have HP := Lib.hid hp
        clear hp hl HC HS
        go_wp2_with fail
        go_ret
        exact HP.out
end Go.Proofs.Ytbcoooaoofbboaa
