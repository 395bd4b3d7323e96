/- Taken and given back, packed and unpacked: plain facts. -/
import Derived.Test.YtdpmdbloopmpdaaRoomU
import Derived.Test.YtdpmdbloopmpdaaRoomMath
import Derived.Test.YtdpmdbloopmpdaaRoomG
namespace Go.Proofs.Ytdpmdbloopmpdaa
set_option linter.unusedVariables false

theorem bitsL_pack (l : List Bool) : bitsL (packB l) l.length = l := by
  apply List.ext_getElem
  · simp [bitsL]
  · intro i h1 h2
    simp only [bitsL, List.getElem_map, List.getElem_range]
    have hb := bitB_get (packB l) (i / 8) (i % 8) (by omega)
    rw [show 8 * (i / 8) + i % 8 = i from by omega, packB_get l (i / 8) (by omega)] at hb
    have hv := packN_val l (i / 8)
    have hv2 : (UInt8.ofNat (byteN l (i / 8))).toNat = byteN l (i / 8) := by omega
    rw [hv2] at hb
    have hbit := bitsN_bit l (8 * (i / 8)) (i % 8) (min 8 (l.length - 8 * (i / 8)))
    rw [show bitsN l (8 * (i / 8)) (min 8 (l.length - 8 * (i / 8))) = byteN l (i / 8) from rfl, show 8 * (i / 8) + i % 8 = i from by omega] at hbit
    have hg : l.getD i false = l[i] := by simp [List.getD, h2]
    rw [hg] at hbit
    rw [hb, hbit]
    have hlt : i % 8 < min 8 (l.length - 8 * (i / 8)) := by omega
    cases hB : l[i]
    · simp
    · simp [hlt]
theorem unpE_pack (l : List Bool) : unpE06 (packB l) (l.length : Nat) = 0 := by
  obtain ⟨h1, h2, h3⟩ := (pack_iff (packB l) l.length).1 (by rw [bitsL_pack])
  unfold unpE06
  rw [if_pos ⟨by omega, by omega, by omega, fun i h4 h5 => h3 i (by omega) h5⟩]
theorem unpL_pack (l : List Bool) : unpL06 (packB l) (l.length : Nat) = l := by
  unfold unpL06
  rw [if_pos (unpE_pack l)]
  exact bitsL_pack l

theorem tk_mem (l : List Bool) (m i : Nat) : ∀ k, k ≤ l.length → (i ∈ (tk l m k).2 ↔ i < k ∧ l.getD i true = false ∧ freeN (l.take i) < m)
  | 0, _ => by simp [tk]
  | k + 1, hk => by
    have ih := tk_mem l m i k (by omega)
    rw [tk_step l m k (by omega)]
    by_cases h : freeN (l.take k) < m ∧ l.getD k true = false
    · rw [if_pos h]
      simp only [List.mem_append, List.mem_singleton]
      rw [ih]
      constructor
      · rintro (⟨a, b, c⟩ | rfl)
        · exact ⟨by omega, b, c⟩
        · exact ⟨by omega, h.2, h.1⟩
      · rintro ⟨a, b, c⟩
        by_cases e : i = k
        · exact .inr e
        · exact .inl ⟨by omega, b, c⟩
    · rw [if_neg h, ih]
      constructor
      · rintro ⟨a, b, c⟩
        exact ⟨by omega, b, c⟩
      · rintro ⟨a, b, c⟩
        refine ⟨?_, b, c⟩
        by_cases e : i = k
        · subst e; exact absurd ⟨c, b⟩ h
        · omega
theorem tk_sorted (l : List Bool) (m : Nat) : ∀ k, k ≤ l.length → (tk l m k).2.Pairwise (· < ·)
  | 0, _ => by simp [tk]
  | k + 1, hk => by
    have ih := tk_sorted l m k (by omega)
    rw [tk_step l m k (by omega)]
    by_cases h : freeN (l.take k) < m ∧ l.getD k true = false
    · rw [if_pos h]
      rw [List.pairwise_append]
      refine ⟨ih, List.pairwise_singleton _ _, fun a ha b hb => ?_⟩
      rw [List.mem_singleton] at hb
      subst hb
      exact ((tk_mem l m a b (by omega)).1 ha).1
    · rw [if_neg h]; exact ih
theorem first54 (l : List Bool) (h : rightB l = true) (s : Nat) (hs : s < 54) : l.getD s true = true := by
  obtain ⟨h1, h2⟩ := rightB_len h
  unfold rightB at h
  simp only [Bool.and_eq_true, decide_eq_true_eq] at h
  have := List.all_eq_true.1 h.2 (l[s]'(by omega)) (List.mem_take_iff_getElem.2 ⟨s, by omega, rfl⟩)
  have hlt : s < l.length := by omega
  simpa [List.getD, hlt] using this

/-- a row without some places -/
def clr (X : List Bool) (p : List Nat) : List Bool := (List.range X.length).map fun i => X.getD i true && !decide (i ∈ p)
theorem clr_len (X : List Bool) (p : List Nat) : (clr X p).length = X.length := by simp [clr]
theorem clr_get (X : List Bool) (p : List Nat) (i : Nat) (hi : i < X.length) (d : Bool) : (clr X p).getD i d = (X.getD i true && !decide (i ∈ p)) := by
  simp [clr, List.getD, hi]
theorem clr_nil (X : List Bool) : clr X [] = X := by
  refine ext_getD (clr_len X []) fun i hi => ?_
  rw [clr_len] at hi
  rw [clr_get X [] i hi]
  simp
theorem gk_clr (X : List Bool) (q : List Nat) (hq : ∀ s ∈ q, 54 ≤ s ∧ s < X.length ∧ X.getD s true = true) (hnd : q.Nodup) : ∀ k, k ≤ q.length → gk X (q.map fun x : Nat => (x : Int)) k = some (clr X (q.take k))
  | 0, _ => by rw [gk, List.take_zero, clr_nil]
  | k + 1, hk => by
    have ih := gk_clr X q hq hnd k (by omega)
    have hkl : k < q.length := by omega
    rw [gk, ih]
    have hg : (q.map fun x : Nat => (x : Int)).getD k 0 = (q[k] : Nat) := by simp [List.getD, hkl]
    simp only []
    rw [hg]
    obtain ⟨h1, h2, h3⟩ := hq q[k] (List.getElem_mem hkl)
    have hsn : q.take (k + 1) = q.take k ++ [q[k]] := (List.take_append_getElem hkl).symm
    have hnd2 : (q.take (k + 1)).Nodup := hnd.sublist (List.take_sublist _ _)
    rw [hsn, List.nodup_append] at hnd2
    have hni : q[k] ∉ q.take k := fun h => hnd2.2.2 _ h _ (List.mem_singleton.2 rfl) rfl
    have hok : gvOk (clr X (q.take k)) (q[k] : Nat) := by
      refine ⟨by omega, by rw [clr_len]; omega, ?_⟩
      rw [Int.toNat_natCast, clr_get X _ _ h2, h3, decide_eq_false hni]
      rfl
    rw [if_pos hok, Int.toNat_natCast]
    congr 1
    refine ext_getD (by rw [List.length_set, clr_len, clr_len]) fun i hi => ?_
    rw [List.length_set, clr_len] at hi
    have hmm : i ∈ q.take (k + 1) ↔ (i ∈ q.take k ∨ i = q[k]) := by rw [hsn, List.mem_append, List.mem_singleton]
    rw [clr_get X _ i hi]
    by_cases e : i = q[k]
    · subst e
      have : ((clr X (q.take k)).set q[k] false).getD q[k] true = false := by
        simp only [List.getD, List.getElem?_set, if_pos]
        rw [if_pos (by rw [clr_len]; exact hi)]; rfl
      rw [this, decide_eq_true (hmm.2 (.inr rfl))]
      simp
    · have : ((clr X (q.take k)).set q[k] false).getD i true = (clr X (q.take k)).getD i true := by
        simp only [List.getD, List.getElem?_set]
        rw [if_neg (fun h => e h.symm)]
      rw [this, clr_get X _ i hi]
      congr 2
      rw [decide_eq_decide, hmm]
      exact ⟨.inl, fun h => h.resolve_right e⟩
theorem give_back (l : List Bool) (m : Nat) (hr : rightB l = true) (q : List Nat) (hp : q.Perm (tk l m l.length).2) :
    giveE (rowT l m) (q.map fun x : Nat => (x : Int)) = 0 ∧ giveL (rowT l m) (q.map fun x : Nat => (x : Int)) = l := by
  have hmem : ∀ s, s ∈ q ↔ s < l.length ∧ l.getD s true = false ∧ freeN (l.take s) < m := fun s => by
    rw [hp.mem_iff, tk_mem l m s l.length (Nat.le_refl _)]
  have hnd : q.Nodup := hp.nodup_iff.2 ((tk_sorted l m l.length (Nat.le_refl _)).imp (fun h => Nat.ne_of_lt h))
  have hq : ∀ s ∈ q, 54 ≤ s ∧ s < (rowT l m).length ∧ (rowT l m).getD s true = true := fun s hs => by
    obtain ⟨a, b, c⟩ := (hmem s).1 hs
    refine ⟨?_, by rw [rowT_len]; exact a, by rw [rowT_get l m s a, decide_eq_true c]; simp⟩
    rcases Nat.lt_or_ge s 54 with h | h
    · rw [first54 l hr s h] at b; cases b
    · exact h
  have hg := gk_clr (rowT l m) q hq hnd q.length (Nat.le_refl _)
  have hcl : clr (rowT l m) (q.take q.length) = l := by
    rw [List.take_length]
    refine ext_getD (by rw [clr_len, rowT_len]) fun i hi => ?_
    rw [clr_len, rowT_len] at hi
    rw [clr_get _ _ _ (by rw [rowT_len]; exact hi), rowT_get l m i hi]
    cases hb : l.getD i true
    · by_cases hf : freeN (l.take i) < m
      · rw [decide_eq_true ((hmem i).2 ⟨hi, hb, hf⟩)]; simp
      · rw [decide_eq_false hf]; simp
    · have : ¬ i ∈ q := fun h => by rw [((hmem i).1 h).2.1] at hb; cases hb
      rw [decide_eq_false this]; simp
  rw [hcl] at hg
  have hO : giveO (rowT l m) (q.map fun x : Nat => (x : Int)) = some l := by
    unfold giveO
    rw [if_pos (rowT_right l m hr), List.length_map]
    exact hg
  exact ⟨by unfold giveE; rw [hO], by unfold giveL; rw [hO]; rfl⟩
end Go.Proofs.Ytdpmdbloopmpdaa
