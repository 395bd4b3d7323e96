/- All numbers of a policy's rules, rising: plain. -/
import Derived.Test.YtbcoooaoofbboaaSr11
import Derived.Test.YtbcoooaoofbboaaTyp
namespace Go.Proofs.Ytbcoooaoofbboaa
open Go.RowKit Go.Sort
set_option linter.unusedVariables false

def flatN (l : List Mtc) : List Nat := l.flatMap Mtc.nrs
theorem strict_unique : ∀ (a b : List Int), a.Pairwise (· < ·) → b.Pairwise (· < ·) → (∀ x, x ∈ a ↔ x ∈ b) → a = b
  | [], [], _, _, _ => rfl
  | [], y :: b, _, _, h => absurd ((h y).2 (List.mem_cons_self)) (by simp)
  | x :: a, [], _, _, h => absurd ((h x).1 (List.mem_cons_self)) (by simp)
  | x :: a, y :: b, ha, hb, h => by
    rw [List.pairwise_cons] at ha hb
    have hxy : x = y := by
      rcases List.mem_cons.1 ((h x).1 List.mem_cons_self) with e | e
      · exact e
      · rcases List.mem_cons.1 ((h y).2 List.mem_cons_self) with e' | e'
        · exact e'.symm
        · have h1 := hb.1 x e
          have h2 := ha.1 y e'
          omega
    subst hxy
    congr 1
    refine strict_unique a b ha.2 hb.2 fun z => ⟨fun hz => ?_, fun hz => ?_⟩
    · rcases List.mem_cons.1 ((h z).1 (List.mem_cons_of_mem _ hz)) with e | e
      · subst e; exact absurd (ha.1 z hz) (Int.lt_irrefl _)
      · exact e
    · rcases List.mem_cons.1 ((h z).2 (List.mem_cons_of_mem _ hz)) with e | e
      · subst e; exact absurd (hb.1 z hz) (Int.lt_irrefl _)
      · exact e
theorem cmpK_fact (d : Array Int) (n : Nat) (hs : ∀ i j, i ≤ j → j < n → d[i]! ≤ d[j]!) : ∀ k, k ≤ n → (cmpK d k).Pairwise (· < ·) ∧ ∀ x, x ∈ cmpK d k ↔ ∃ i, i < k ∧ d[i]! = x
  | 0, _ => ⟨List.Pairwise.nil, fun x => ⟨fun h => absurd h (by simp [cmpK]), fun ⟨i, h, _⟩ => absurd h (by omega)⟩⟩
  | k + 1, hk => by
    obtain ⟨h1, h2⟩ := cmpK_fact d n hs k (by omega)
    unfold cmpK
    by_cases h : k = 0 ∨ d[k]! ≠ d[k - 1]!
    · rw [if_pos h]
      refine ⟨List.pairwise_append.2 ⟨h1, List.pairwise_singleton _ _, fun a ha b hb => ?_⟩, fun x => ?_⟩
      · rw [List.mem_singleton.1 hb]
        obtain ⟨i, hi, rfl⟩ := (h2 a).1 ha
        have e1 := hs i (k - 1) (by omega) (by omega)
        have e2 := hs (k - 1) k (by omega) (by omega)
        rcases h with h | h
        · omega
        · omega
      · rw [List.mem_append, h2, List.mem_singleton]
        constructor
        · rintro (⟨i, hi, rfl⟩ | rfl)
          · exact ⟨i, by omega, rfl⟩
          · exact ⟨k, by omega, rfl⟩
        · rintro ⟨i, hi, rfl⟩
          by_cases e : i = k
          · subst e; exact .inr rfl
          · exact .inl ⟨i, by omega, rfl⟩
    · rw [if_neg h]
      refine ⟨h1, fun x => ?_⟩
      rw [h2]
      constructor
      · rintro ⟨i, hi, rfl⟩
        exact ⟨i, by omega, rfl⟩
      · rintro ⟨i, hi, rfl⟩
        by_cases e : i = k
        · subst e
          refine ⟨i - 1, by omega, ?_⟩
          by_cases hd : d[i]! = d[i - 1]!
          · exact hd.symm
          · exact absurd (.inr hd) h
        · exact ⟨i, by omega, rfl⟩
def intsN (l : List Nat) : List Int := l.map fun n : Nat => (n : Int)
def sortN (l : List Nat) : List Int := (intsN l).mergeSort fun x y => decide (x ≤ y)
/-- the numbers of a row, rising, each once -/
def numI (l : List Nat) : List Int := cmpK (sortN l).toArray (sortN l).length
def nrsU (l : List Nat) : List Nat := (numI l).map Int.toNat
theorem sortN_mem (l : List Nat) (x : Int) : x ∈ sortN l ↔ x ∈ intsN l := List.mem_mergeSort
theorem sortN_len (l : List Nat) : (sortN l).length = l.length := by unfold sortN intsN; rw [List.length_mergeSort, List.length_map]
theorem sortN_le (l : List Nat) (i j : Nat) (hij : i ≤ j) (hj : j < (sortN l).length) : (sortN l).toArray[i]! ≤ (sortN l).toArray[j]! := by
  have hp : (sortN l).Pairwise fun x y => decide (x ≤ y) = true := List.pairwise_mergeSort (fun a b c h1 h2 => by simp at *; omega) (fun a b => by simp; omega) _
  by_cases e : i = j
  · subst e; exact Int.le_refl _
  · have := List.pairwise_iff_getElem.1 hp i j (by omega) hj (by omega)
    simp at this
    simpa [show i < (sortN l).length by omega, hj] using this
theorem numI_fact (l : List Nat) : (numI l).Pairwise (· < ·) ∧ ∀ x, x ∈ numI l ↔ x ∈ intsN l := by
  obtain ⟨h1, h2⟩ := cmpK_fact (sortN l).toArray (sortN l).length (sortN_le l) _ (Nat.le_refl _)
  refine ⟨h1, fun x => ?_⟩
  unfold numI
  rw [h2, ← sortN_mem]
  constructor
  · rintro ⟨i, hi, rfl⟩
    simp [hi]
  · intro h
    obtain ⟨i, hi, rfl⟩ := List.mem_iff_getElem.1 h
    exact ⟨i, hi, by simp [hi]⟩
theorem numI_ofNat (l : List Nat) (x : Int) (h : x ∈ numI l) : ((x.toNat : Nat) : Int) = x := by
  obtain ⟨n, _, rfl⟩ := List.mem_map.1 (((numI_fact l).2 x).1 h)
  rfl
theorem nrsU_ints (l : List Nat) : intsN (nrsU l) = numI l := by
  unfold intsN nrsU
  rw [List.map_map]
  exact (List.map_congr_left fun x hx => numI_ofNat l x hx).trans (List.map_id _)
theorem nrsU_mem (l : List Nat) (n : Nat) : n ∈ nrsU l ↔ n ∈ l := by
  have h := (numI_fact l).2 (n : Int)
  rw [← nrsU_ints] at h
  have e : ∀ L : List Nat, (n : Int) ∈ intsN L ↔ n ∈ L := fun L => by
    unfold intsN
    rw [List.mem_map]
    refine ⟨fun ⟨a, hh, e⟩ => ?_, fun h => ⟨n, h, rfl⟩⟩
    have e' : a = n := by omega
    rw [← e']
    exact hh
  rwa [e, e] at h
theorem nrsU_strict (l : List Nat) : (nrsU l).Pairwise (· < ·) := by
  have h := (numI_fact l).1
  rw [← nrsU_ints] at h
  unfold intsN at h
  rw [List.pairwise_map] at h
  exact h.imp fun h => by omega
theorem nrsU_lt (l : List Nat) (i j : Nat) (hij : i < j) (hj : j < (nrsU l).length) : (nrsU l).getD i 0 < (nrsU l).getD j 0 := by
  have := List.pairwise_iff_getElem.1 (nrsU_strict l) i j (by omega) hj hij
  simpa [List.getD, hj, show i < (nrsU l).length by omega] using this
theorem nrsU_len (l : List Nat) : (nrsU l).length ≤ l.length := by
  unfold nrsU numI
  rw [List.length_map]
  exact Nat.le_trans (cmpK_len _ _) (by rw [sortN_len]; exact Nat.le_refl _)

/-- whether a number lies above the last of k -/
def abvN (L : List Nat) (k n : Nat) : Bool := decide (k = 0) || decide (L.getD (k - 1) 0 < n)
def bstN (L : List Nat) (k : Nat) (b n : Nat) : Nat := if (abvN L k n && decide (n < b)) = true then n else b
theorem bst_fact (L : List Nat) (k : Nat) : ∀ (P : List Nat) (b : Nat), (P.foldl (bstN L k) b = b ∨ (P.foldl (bstN L k) b ∈ P ∧ abvN L k (P.foldl (bstN L k) b) = true)) ∧ P.foldl (bstN L k) b ≤ b ∧ ∀ n ∈ P, abvN L k n = true → P.foldl (bstN L k) b ≤ n
  | [], b => ⟨.inl rfl, Nat.le_refl _, fun n h => absurd h (by simp)⟩
  | x :: P, b => by
    obtain ⟨h1, h2, h3⟩ := bst_fact L k P (bstN L k b x)
    have hb : bstN L k b x ≤ b ∧ (abvN L k x = true → bstN L k b x ≤ x) ∧ (bstN L k b x = b ∨ (bstN L k b x = x ∧ abvN L k x = true)) := by
      unfold bstN
      by_cases h : (abvN L k x && decide (x < b)) = true
      · rw [if_pos h]
        rw [Bool.and_eq_true, decide_eq_true_eq] at h
        exact ⟨by omega, fun _ => Nat.le_refl _, .inr ⟨rfl, h.1⟩⟩
      · rw [if_neg h]
        refine ⟨Nat.le_refl _, fun ha => ?_, .inl rfl⟩
        rw [ha, Bool.true_and, decide_eq_true_eq] at h
        omega
    rw [List.foldl_cons]
    refine ⟨?_, Nat.le_trans h2 hb.1, fun n hn ha => ?_⟩
    · rcases h1 with h1 | ⟨h1, h1'⟩
      · rw [h1]
        rcases hb.2.2 with e | ⟨e, e'⟩
        · exact .inl e
        · exact .inr ⟨by rw [e]; exact List.mem_cons_self, by rw [e]; exact e'⟩
      · exact .inr ⟨List.mem_cons_of_mem _ h1, h1'⟩
    · rcases List.mem_cons.1 hn with rfl | hn
      · exact Nat.le_trans h2 (hb.2.1 ha)
      · exact h3 n hn ha
theorem bst_num (l : List Nat) (hl : ∀ n ∈ l, n ≤ 4294967295) (k : Nat) (hk : k ≤ (nrsU l).length) : l.foldl (bstN (nrsU l) k) 4294967296 = if k < (nrsU l).length then (nrsU l).getD k 0 else 4294967296 := by
  obtain ⟨h1, h2, h3⟩ := bst_fact (nrsU l) k l 4294967296
  generalize l.foldl (bstN (nrsU l) k) 4294967296 = r at *
  have hin : ∀ j, j < (nrsU l).length → (nrsU l).getD j 0 ∈ l := fun j hj => by
    rw [← nrsU_mem, show (nrsU l).getD j 0 = (nrsU l)[j] from by simp [List.getD, hj]]
    exact List.getElem_mem hj
  have hpl : (r ∈ l ∧ abvN (nrsU l) k r = true) → k < (nrsU l).length ∧ (nrsU l).getD k 0 ≤ r := fun ⟨e1, e2⟩ => by
    obtain ⟨j, hj, e⟩ := List.mem_iff_getElem.1 ((nrsU_mem l r).2 e1)
    have e' : (nrsU l).getD j 0 = r := by rw [← e]; simp [List.getD, hj]
    have hjk : k ≤ j := by
      unfold abvN at e2
      rw [Bool.or_eq_true, decide_eq_true_eq, decide_eq_true_eq] at e2
      rcases e2 with e2 | e2
      · omega
      · by_cases hlt : k ≤ j
        · exact hlt
        · by_cases hjj : j = k - 1
          · rw [← hjj, e'] at e2; omega
          · have := nrsU_lt l j (k - 1) (by omega) (by omega)
            omega
    refine ⟨by omega, ?_⟩
    by_cases e4 : k = j
    · subst e4; omega
    · have := nrsU_lt l k j (by omega) hj
      omega
  by_cases hlt : k < (nrsU l).length
  · rw [if_pos hlt]
    have ha : abvN (nrsU l) k ((nrsU l).getD k 0) = true := by
      unfold abvN
      rw [Bool.or_eq_true, decide_eq_true_eq, decide_eq_true_eq]
      by_cases h0 : k = 0
      · exact .inl h0
      · exact .inr (nrsU_lt l (k - 1) k (by omega) hlt)
    have h4 := h3 _ (hin k hlt) ha
    have h5 := hl _ (hin k hlt)
    rcases h1 with h1 | h1
    · omega
    · have := (hpl h1).2; omega
  · rw [if_neg hlt]
    rcases h1 with h1 | h1
    · exact h1
    · exact absurd (hpl h1).1 hlt
theorem flatN_drop (l : List Mtc) (j : Nat) (h : j < l.length) : flatN (l.drop j) = (l.getD j mtcZ).nrs ++ flatN (l.drop (j + 1)) := by
  rw [List.drop_eq_getElem_cons h, show l.getD j mtcZ = l[j] by simp [List.getD, h]]
  rfl
theorem typ_at {w u : World} {A : Option Addr} {n c : Nat} {l : List Mtc} (h : IsMtcs w (.slice A n c) l) (hb : Below w.heap.size w u) (j : Nat) (hj : j < n) : ∃ b off, A = some ⟨b, off, none⟩ ∧ MtcAt u (l.getD j mtcZ) b (off + j * 8) := by
  obtain ⟨_, _, _, hv, h1, h2, h3, h4, h5⟩ := h
  injection hv with e1 e2 e3
  subst e1 e2 e3
  obtain ⟨b, off, rfl, hlt, hat⟩ := h5.resolve_left (by omega)
  exact ⟨b, off, rfl, (hat j hj).below hb hlt⟩
theorem u32_at {w u : World} {A : Option Addr} {n c : Nat} {l : List Nat} (h : IsU32s w (.slice A n c) l) (hb : Below w.heap.size w u) (j : Nat) (hj : j < n) : ∃ b off, A = some ⟨b, off, none⟩ ∧ u.cell? ⟨b, off + j, none⟩ = some (.int .u32 (l.getD j 0 : Nat)) ∧ l.getD j 0 ≤ 4294967295 ∧ b < w.heap.size := by
  obtain ⟨_, _, _, hv, h1, h2, h3, h4, h5, h6⟩ := h
  injection hv with e1 e2 e3
  subst e1 e2 e3
  obtain ⟨b, off, rfl, hlt, hat⟩ := h6.resolve_left (by omega)
  refine ⟨b, off, rfl, (hb.cell (p := ⟨b, off + j, none⟩) hlt).trans (hat j hj), ?_, hlt⟩
  rw [show l.getD j 0 = l[j]'(by omega) from by simp [List.getD, show j < l.length by omega]]
  exact h4 _ (List.getElem_mem _)
end Go.Proofs.Ytbcoooaoofbboaa
