/- Tn1, Tn2, Tm9, Tm10, Tn5, RfFew, Mt1, Ref01Bytes, RPack, in one text. -/
import Derived.Test.YtcejhfpdajbdcaaSr11
import Derived.Test.YtcejhfpdajbdcaaTyp
import Derived.Test.YtcejhfpdajbdcaaSr10
import Derived.Test.YtcejhfpdajbdcaaPkA
import Derived.Test.YtcejhfpdajbdcaaTm4
import Derived.Test.YtcejhfpdajbdcaaRef16R
import Derived.Test.YtcejhfpdajbdcaaTm2
import Derived.Test.YtcejhfpdajbdcaaRef15M
import Derived.Test.YtcejhfpdajbdcaaRow1
import Derived.Test.YtcejhfpdajbdcaaSized
import Derived.Test.YtcejhfpdajbdcaaRecB
namespace Go.Proofs.Ytcejhfpdajbdcaa
section STn1
open Go.RowKit Go.Sort
set_option linter.unusedVariables false

def flatN (l : List Mtc) : List Nat := l.flatMap Mtc.nrs
theorem strict_unique : ∀ (a b : List Int), a.Pairwise (· < ·) → b.Pairwise (· < ·) → (∀ x, x ∈ a ↔ x ∈ b) → a = b
  | [], [], _, _, _ => rfl
  | [], y :: b, _, _, h => absurd ((h y).2 (List.mem_cons_self)) (by simp)
  | x :: a, [], _, _, h => absurd ((h x).1 (List.mem_cons_self)) (by simp)
  | x :: a, y :: b, ha, hb, h => by
    rw [List.pairwise_cons] at ha hb
    have hxy : x = y := by
      rcases List.mem_cons.1 ((h x).1 List.mem_cons_self) with e | e
      · exact e
      · rcases List.mem_cons.1 ((h y).2 List.mem_cons_self) with e' | e'
        · exact e'.symm
        · have h1 := hb.1 x e
          have h2 := ha.1 y e'
          omega
    subst hxy
    congr 1
    refine strict_unique a b ha.2 hb.2 fun z => ⟨fun hz => ?_, fun hz => ?_⟩
    · rcases List.mem_cons.1 ((h z).1 (List.mem_cons_of_mem _ hz)) with e | e
      · subst e; exact absurd (ha.1 z hz) (Int.lt_irrefl _)
      · exact e
    · rcases List.mem_cons.1 ((h z).2 (List.mem_cons_of_mem _ hz)) with e | e
      · subst e; exact absurd (hb.1 z hz) (Int.lt_irrefl _)
      · exact e
theorem cmpK_fact (d : Array Int) (n : Nat) (hs : ∀ i j, i ≤ j → j < n → d[i]! ≤ d[j]!) : ∀ k, k ≤ n → (cmpK d k).Pairwise (· < ·) ∧ ∀ x, x ∈ cmpK d k ↔ ∃ i, i < k ∧ d[i]! = x
  | 0, _ => ⟨List.Pairwise.nil, fun x => ⟨fun h => absurd h (by simp [cmpK]), fun ⟨i, h, _⟩ => absurd h (by omega)⟩⟩
  | k + 1, hk => by
    obtain ⟨h1, h2⟩ := cmpK_fact d n hs k (by omega)
    unfold cmpK
    by_cases h : k = 0 ∨ d[k]! ≠ d[k - 1]!
    · rw [if_pos h]
      refine ⟨List.pairwise_append.2 ⟨h1, List.pairwise_singleton _ _, fun a ha b hb => ?_⟩, fun x => ?_⟩
      · rw [List.mem_singleton.1 hb]
        obtain ⟨i, hi, rfl⟩ := (h2 a).1 ha
        have e1 := hs i (k - 1) (by omega) (by omega)
        have e2 := hs (k - 1) k (by omega) (by omega)
        rcases h with h | h
        · omega
        · omega
      · rw [List.mem_append, h2, List.mem_singleton]
        constructor
        · rintro (⟨i, hi, rfl⟩ | rfl)
          · exact ⟨i, by omega, rfl⟩
          · exact ⟨k, by omega, rfl⟩
        · rintro ⟨i, hi, rfl⟩
          by_cases e : i = k
          · subst e; exact .inr rfl
          · exact .inl ⟨i, by omega, rfl⟩
    · rw [if_neg h]
      refine ⟨h1, fun x => ?_⟩
      rw [h2]
      constructor
      · rintro ⟨i, hi, rfl⟩
        exact ⟨i, by omega, rfl⟩
      · rintro ⟨i, hi, rfl⟩
        by_cases e : i = k
        · subst e
          refine ⟨i - 1, by omega, ?_⟩
          by_cases hd : d[i]! = d[i - 1]!
          · exact hd.symm
          · exact absurd (.inr hd) h
        · exact ⟨i, by omega, rfl⟩
def intsN (l : List Nat) : List Int := l.map fun n : Nat => (n : Int)
def sortN (l : List Nat) : List Int := (intsN l).mergeSort fun x y => decide (x ≤ y)
/-- the numbers of a row, rising, each once -/
def numI (l : List Nat) : List Int := cmpK (sortN l).toArray (sortN l).length
def nrsU (l : List Nat) : List Nat := (numI l).map Int.toNat
theorem sortN_mem (l : List Nat) (x : Int) : x ∈ sortN l ↔ x ∈ intsN l := List.mem_mergeSort
theorem sortN_len (l : List Nat) : (sortN l).length = l.length := by unfold sortN intsN; rw [List.length_mergeSort, List.length_map]
theorem sortN_le (l : List Nat) (i j : Nat) (hij : i ≤ j) (hj : j < (sortN l).length) : (sortN l).toArray[i]! ≤ (sortN l).toArray[j]! := by
  have hp : (sortN l).Pairwise fun x y => decide (x ≤ y) = true := List.pairwise_mergeSort (fun a b c h1 h2 => by simp at *; omega) (fun a b => by simp; omega) _
  by_cases e : i = j
  · subst e; exact Int.le_refl _
  · have := List.pairwise_iff_getElem.1 hp i j (by omega) hj (by omega)
    simp at this
    simpa [show i < (sortN l).length by omega, hj] using this
theorem numI_fact (l : List Nat) : (numI l).Pairwise (· < ·) ∧ ∀ x, x ∈ numI l ↔ x ∈ intsN l := by
  obtain ⟨h1, h2⟩ := cmpK_fact (sortN l).toArray (sortN l).length (sortN_le l) _ (Nat.le_refl _)
  refine ⟨h1, fun x => ?_⟩
  unfold numI
  rw [h2, ← sortN_mem]
  constructor
  · rintro ⟨i, hi, rfl⟩
    simp [hi]
  · intro h
    obtain ⟨i, hi, rfl⟩ := List.mem_iff_getElem.1 h
    exact ⟨i, hi, by simp [hi]⟩
theorem numI_ofNat (l : List Nat) (x : Int) (h : x ∈ numI l) : ((x.toNat : Nat) : Int) = x := by
  obtain ⟨n, _, rfl⟩ := List.mem_map.1 (((numI_fact l).2 x).1 h)
  rfl
theorem nrsU_ints (l : List Nat) : intsN (nrsU l) = numI l := by
  unfold intsN nrsU
  rw [List.map_map]
  exact (List.map_congr_left fun x hx => numI_ofNat l x hx).trans (List.map_id _)
theorem nrsU_mem (l : List Nat) (n : Nat) : n ∈ nrsU l ↔ n ∈ l := by
  have h := (numI_fact l).2 (n : Int)
  rw [← nrsU_ints] at h
  have e : ∀ L : List Nat, (n : Int) ∈ intsN L ↔ n ∈ L := fun L => by
    unfold intsN
    rw [List.mem_map]
    refine ⟨fun ⟨a, hh, e⟩ => ?_, fun h => ⟨n, h, rfl⟩⟩
    have e' : a = n := by omega
    rw [← e']
    exact hh
  rwa [e, e] at h
theorem nrsU_strict (l : List Nat) : (nrsU l).Pairwise (· < ·) := by
  have h := (numI_fact l).1
  rw [← nrsU_ints] at h
  unfold intsN at h
  rw [List.pairwise_map] at h
  exact h.imp fun h => by omega
theorem nrsU_lt (l : List Nat) (i j : Nat) (hij : i < j) (hj : j < (nrsU l).length) : (nrsU l).getD i 0 < (nrsU l).getD j 0 := by
  have := List.pairwise_iff_getElem.1 (nrsU_strict l) i j (by omega) hj hij
  simpa [List.getD, hj, show i < (nrsU l).length by omega] using this
theorem nrsU_len (l : List Nat) : (nrsU l).length ≤ l.length := by
  unfold nrsU numI
  rw [List.length_map]
  exact Nat.le_trans (cmpK_len _ _) (by rw [sortN_len]; exact Nat.le_refl _)

/-- whether a number lies above the last of k -/
def abvN (L : List Nat) (k n : Nat) : Bool := decide (k = 0) || decide (L.getD (k - 1) 0 < n)
def bstN (L : List Nat) (k : Nat) (b n : Nat) : Nat := if (abvN L k n && decide (n < b)) = true then n else b
theorem bst_fact (L : List Nat) (k : Nat) : ∀ (P : List Nat) (b : Nat), (P.foldl (bstN L k) b = b ∨ (P.foldl (bstN L k) b ∈ P ∧ abvN L k (P.foldl (bstN L k) b) = true)) ∧ P.foldl (bstN L k) b ≤ b ∧ ∀ n ∈ P, abvN L k n = true → P.foldl (bstN L k) b ≤ n
  | [], b => ⟨.inl rfl, Nat.le_refl _, fun n h => absurd h (by simp)⟩
  | x :: P, b => by
    obtain ⟨h1, h2, h3⟩ := bst_fact L k P (bstN L k b x)
    have hb : bstN L k b x ≤ b ∧ (abvN L k x = true → bstN L k b x ≤ x) ∧ (bstN L k b x = b ∨ (bstN L k b x = x ∧ abvN L k x = true)) := by
      unfold bstN
      by_cases h : (abvN L k x && decide (x < b)) = true
      · rw [if_pos h]
        rw [Bool.and_eq_true, decide_eq_true_eq] at h
        exact ⟨by omega, fun _ => Nat.le_refl _, .inr ⟨rfl, h.1⟩⟩
      · rw [if_neg h]
        refine ⟨Nat.le_refl _, fun ha => ?_, .inl rfl⟩
        rw [ha, Bool.true_and, decide_eq_true_eq] at h
        omega
    rw [List.foldl_cons]
    refine ⟨?_, Nat.le_trans h2 hb.1, fun n hn ha => ?_⟩
    · rcases h1 with h1 | ⟨h1, h1'⟩
      · rw [h1]
        rcases hb.2.2 with e | ⟨e, e'⟩
        · exact .inl e
        · exact .inr ⟨by rw [e]; exact List.mem_cons_self, by rw [e]; exact e'⟩
      · exact .inr ⟨List.mem_cons_of_mem _ h1, h1'⟩
    · rcases List.mem_cons.1 hn with rfl | hn
      · exact Nat.le_trans h2 (hb.2.1 ha)
      · exact h3 n hn ha
theorem bst_num (l : List Nat) (hl : ∀ n ∈ l, n ≤ 4294967295) (k : Nat) (hk : k ≤ (nrsU l).length) : l.foldl (bstN (nrsU l) k) 4294967296 = if k < (nrsU l).length then (nrsU l).getD k 0 else 4294967296 := by
  obtain ⟨h1, h2, h3⟩ := bst_fact (nrsU l) k l 4294967296
  generalize l.foldl (bstN (nrsU l) k) 4294967296 = r at *
  have hin : ∀ j, j < (nrsU l).length → (nrsU l).getD j 0 ∈ l := fun j hj => by
    rw [← nrsU_mem, show (nrsU l).getD j 0 = (nrsU l)[j] from by simp [List.getD, hj]]
    exact List.getElem_mem hj
  have hpl : (r ∈ l ∧ abvN (nrsU l) k r = true) → k < (nrsU l).length ∧ (nrsU l).getD k 0 ≤ r := fun ⟨e1, e2⟩ => by
    obtain ⟨j, hj, e⟩ := List.mem_iff_getElem.1 ((nrsU_mem l r).2 e1)
    have e' : (nrsU l).getD j 0 = r := by rw [← e]; simp [List.getD, hj]
    have hjk : k ≤ j := by
      unfold abvN at e2
      rw [Bool.or_eq_true, decide_eq_true_eq, decide_eq_true_eq] at e2
      rcases e2 with e2 | e2
      · omega
      · by_cases hlt : k ≤ j
        · exact hlt
        · by_cases hjj : j = k - 1
          · rw [← hjj, e'] at e2; omega
          · have := nrsU_lt l j (k - 1) (by omega) (by omega)
            omega
    refine ⟨by omega, ?_⟩
    by_cases e4 : k = j
    · subst e4; omega
    · have := nrsU_lt l k j (by omega) hj
      omega
  by_cases hlt : k < (nrsU l).length
  · rw [if_pos hlt]
    have ha : abvN (nrsU l) k ((nrsU l).getD k 0) = true := by
      unfold abvN
      rw [Bool.or_eq_true, decide_eq_true_eq, decide_eq_true_eq]
      by_cases h0 : k = 0
      · exact .inl h0
      · exact .inr (nrsU_lt l (k - 1) k (by omega) hlt)
    have h4 := h3 _ (hin k hlt) ha
    have h5 := hl _ (hin k hlt)
    rcases h1 with h1 | h1
    · omega
    · have := (hpl h1).2; omega
  · rw [if_neg hlt]
    rcases h1 with h1 | h1
    · exact h1
    · exact absurd (hpl h1).1 hlt
theorem flatN_drop (l : List Mtc) (j : Nat) (h : j < l.length) : flatN (l.drop j) = (l.getD j mtcZ).nrs ++ flatN (l.drop (j + 1)) := by
  rw [List.drop_eq_getElem_cons h, show l.getD j mtcZ = l[j] by simp [List.getD, h]]
  rfl
theorem typ_at {w u : World} {A : Option Addr} {n c : Nat} {l : List Mtc} (h : IsMtcs w (.slice A n c) l) (hb : Below w.heap.size w u) (j : Nat) (hj : j < n) : ∃ b off, A = some ⟨b, off, none⟩ ∧ MtcAt u (l.getD j mtcZ) b (off + j * 8) := by
  obtain ⟨_, _, _, hv, h1, h2, h3, h4, h5⟩ := h
  injection hv with e1 e2 e3
  subst e1 e2 e3
  obtain ⟨b, off, rfl, hlt, hat⟩ := h5.resolve_left (by omega)
  exact ⟨b, off, rfl, (hat j hj).below hb hlt⟩
theorem u32_at {w u : World} {A : Option Addr} {n c : Nat} {l : List Nat} (h : IsU32s w (.slice A n c) l) (hb : Below w.heap.size w u) (j : Nat) (hj : j < n) : ∃ b off, A = some ⟨b, off, none⟩ ∧ u.cell? ⟨b, off + j, none⟩ = some (.int .u32 (l.getD j 0 : Nat)) ∧ l.getD j 0 ≤ 4294967295 ∧ b < w.heap.size := by
  obtain ⟨_, _, _, hv, h1, h2, h3, h4, h5, h6⟩ := h
  injection hv with e1 e2 e3
  subst e1 e2 e3
  obtain ⟨b, off, rfl, hlt, hat⟩ := h6.resolve_left (by omega)
  refine ⟨b, off, rfl, (hb.cell (p := ⟨b, off + j, none⟩) hlt).trans (hat j hj), ?_, hlt⟩
  rw [show l.getD j 0 = l[j]'(by omega) from by simp [List.getD, show j < l.length by omega]]
  exact h4 _ (List.getElem_mem _)
end STn1
section STn2
open Go.RowKit Go.Sort
set_option linter.unusedVariables false
set_option linter.unusedSimpArgs false

theorem infoU32n : (Try.prog.info? 22).map (fun i => (i.zero, i.size, i.bytes)) = some (some (.int .u32 0), 1, 4) := by kernel_rfl
set_option maxRecDepth 100000 in
theorem srIns0 (v : Value) (w : World) : Calls Try.prog 55 #[v, .int .i64 0, .int .i64 0] w fun e w' => e = .returned (.tuple #[]) ∧ w' = w := by
  go_enter Try.func55, Try.ntmps55
  go_wp2_with fail
  go_loopw [6] (fun z wr => z = .int .i64 1 ∧ wr = w) (fun z _ => 0)
  case atStart => exact ⟨by first | rfl | simp, rfl⟩
  case round =>
    obtain ⟨rfl, rfl⟩ := hrel
    go_wp2_with fail
    go_end0
    exact ⟨rfl, rfl⟩
set_option maxRecDepth 100000 in
theorem srPdq0 (v : Value) (w : World) : Calls Try.prog 43 #[v, .int .i64 0, .int .i64 0, .int .i64 0] w fun e w' => e = .returned (.tuple #[]) ∧ w' = w := by
  go_enter Try.func43, Try.ntmps43
  go_wp2_with fail
  go_loopw [1, 2] (fun z y wr => z = .int .i64 0 ∧ y = .int .i64 0 ∧ wr = w) (fun _ _ _ => 0)
  case atStart => exact ⟨rfl, rfl, rfl⟩
  case round =>
    obtain ⟨rfl, rfl, rfl⟩ := hrel
    go_wp2_with (first | (go_at_call 55; refine (srIns0 v _).mono ?_; rintro e w9 ⟨rfl, rfl⟩))
    (try simp only [Exit.inBlock, Exit.then])
    refine bodyPost_ret (results_none rfl _ _ _) rfl ?_
    exact ⟨rfl, rfl⟩
set_option maxRecDepth 100000 in
theorem srSort0 (A : Option Addr) (c : Nat) (w : World) : Calls Try.prog 21 #[.slice A 0 c] w fun e w' => e = .returned (.tuple #[]) ∧ w' = w := by
  have hLen : ∀ w, Calls Try.prog 23 #[.int .u64 0] w fun e w' => e = .returned (.int .i64 0) ∧ w' = w := fun w => by
    have h := Try.bits_Len 0 w (by omega) (by omega)
    have e : Lib.bitLen (Int.toNat 0) = 0 := by first | decide | rfl | (rw [bitLen_eq _ (by decide)]; decide)
    rw [e] at h
    exact h
  go_enter Try.func21, Try.ntmps21
  go_wp2_with (first
    | (go_at_call 23; refine (hLen _).mono ?_; rintro e w' ⟨rfl, rfl⟩)
    | (go_at_call 43; refine (srPdq0 _ _).mono ?_; rintro e w9 ⟨rfl, rfl⟩))
  go_end0
  exact ⟨rfl, rfl⟩
set_option maxRecDepth 100000 in
theorem srCompact0 (A : Option Addr) (c : Nat) (w : World) : Calls Try.prog 22 #[.slice A 0 c] w fun e w' => e = .returned (.slice A 0 c) ∧ w' = w := by
  go_enter Try.func22, Try.ntmps22
  go_wp2_with fail
  first
  | (go_ret; exact ⟨rfl, rfl⟩)
  | (refine bodyPost_ret (results_tmp rfl _ _ _) rfl ?_; exact ⟨rfl, rfl⟩)
theorem own_keep2N {w w' : World} {base : Nat} {e : TypeId} {size : Nat} {v : Value} {n : Nat} {xs : List Value} (h : w.ownsRow base e size v n xs) (hb : Below w.heap.size w w') : w'.ownsRow base e size v n xs := by
  refine ⟨h.1, h.2.imp id ?_⟩
  rintro ⟨g, cap, cur, rfl, hg, hh, hr⟩
  exact ⟨g, cap, cur, rfl, hg, (hb.block g (lt_of_block hh)).trans hh, hr⟩
def u32V (n : Nat) : Value := .int .u32 (n : Nat)
theorem u32_source {w : World} {A : Option Addr} {n c : Nat} {l : List Nat} (h : IsU32s w (.slice A n c) l) : (A = none ∧ n = 0 ∧ c = 0 ∧ l.map u32V = []) ∨ ∃ ad, A = some ad ∧ ∀ j u, (l.map u32V)[j]? = some u → w.cell? (ad.add j) = some u := by
  obtain ⟨_, _, _, hv, h1, h2, h3, h4, h5, h6⟩ := h
  injection hv with e1 e2 e3
  subst e1 e2 e3
  cases A with
  | none =>
    left
    have := h5 rfl
    subst this
    obtain rfl : n = 0 := by omega
    exact ⟨rfl, rfl, rfl, by rw [List.eq_nil_of_length_eq_zero h1]; rfl⟩
  | some ad =>
    refine .inr ⟨ad, rfl, fun j u hj => ?_⟩
    have hjl : j < l.length := by have := (List.getElem?_eq_some_iff.1 hj).1; simpa using this
    obtain ⟨b, off, hab, hb, hat2⟩ := h6.resolve_left (by omega)
    injection hab with hab
    subst hab
    rw [addr_add, hat2 j (by omega)]
    rw [← hj]
    simp [u32V, List.getD, hjl]
theorem flatN_take (l : List Mtc) (j : Nat) (h : j < l.length) : flatN (l.take (j + 1)) = flatN (l.take j) ++ (l.getD j mtcZ).nrs := by
  rw [List.take_succ_eq_append_getElem h, show l.getD j mtcZ = l[j] by simp [List.getD, h]]
  unfold flatN
  rw [List.flatMap_append]
  simp
theorem flatN_le (l : List Mtc) (j : Nat) (h : j < l.length) : (flatN (l.take j)).length + (l.getD j mtcZ).nrs.length ≤ (flatN l).length := by
  have h1 := flatN_take l j h
  have h2 : flatN l = flatN (l.take (j + 1)) ++ flatN (l.drop (j + 1)) := by
    unfold flatN
    rw [← List.flatMap_append, List.take_append_drop]
  rw [h2, h1, List.length_append, List.length_append]
  omega
theorem own_srt {w : World} {base g n cap : Nat} {l : List Nat} (h : w.ownsRow base 22 1 (.slice (some ⟨g, 0, none⟩) n cap) n (l.map u32V)) (hl : l.length = n) : Srt w g (intsN l).toArray w ∧ base ≤ g ∧ n ≤ cap ∧ cap ≤ 9223372036854775807 := by
  rcases h.2 with ⟨e, _⟩ | ⟨g', cap', cur, e, hg, hh, hn, hc, hcs, htake⟩
  · cases e
  · injection e with e1 e2 e3
    injection e1 with e1
    injection e1 with e1
    subst e1 e3
    refine ⟨⟨rfl, rfl, rfl, Nat.le_refl _, lt_of_block hh, fun _ _ _ => rfl, cur, cur, hh, hh, rfl, ?_, fun t ht => ?_, fun _ _ => rfl⟩, hg, hn, by unfold maxLen at hc; exact hc⟩
    · rw [hcs]; simp [intsN, hl]; omega
    · have ht' : t < l.length := by simpa [intsN] using ht
      have h0 := h.cells (g := g) rfl t (u32V l[t]) (by simp [ht'])
      have h1 : w.cell? ⟨g, t, none⟩ = cur[t]? := cell_of_row _ _ _ _ _ _ hh
      rw [addr_add, Nat.zero_add, h1] at h0
      rw [h0]
      simp [u32V, intsN, ht']
/-- the row lies whole in a block that is new, or it is empty -/
def NewRow (w w' : World) (v : Value) (L : List Nat) : Prop := L = [] ∨ ∃ (g k c : Nat) (cur : Array Value), v = .slice (some ⟨g, 0, none⟩) k c ∧ w.heap.size ≤ g ∧ w'.heap[g]? = some (.cells cur 22 (0, 0)) ∧ ∀ i, i < L.length → cur[i]? = some (.int .u32 (L.getD i 0 : Nat))
set_option maxRecDepth 100000 in
set_option maxHeartbeats 4000000 in
theorem tmNumbersB (v : Value) (t : Typ) (w : World) (h : IsTyp w v t) (hfl : (flatN t.rules).length ≤ 1000000) :
    Calls Try.prog 9 #[v] w fun e w' => (∃ v', e = .returned v' ∧ IsU32s w' v' (nrsU (flatN t.rules)) ∧ NewRow w w' v' (nrsU (flatN t.rules))) ∧ Below w.heap.size w w' := by
  obtain ⟨i0, hi, hz0, hz1, hz2⟩ := info_parts infoU32n
  obtain ⟨ht1, ht2, k, rfl, hk⟩ := h
  obtain ⟨A, n, c, rfl, hl, hc1, hc2, _⟩ := id hk
  have hmt := fun u (hu : Below w.heap.size w u) j hj => typ_at hk hu j hj
  have hall : ∀ x ∈ flatN t.rules, x ≤ 4294967295 := fun x hx => by
    obtain ⟨m, hm, hx⟩ := List.mem_flatMap.1 hx
    obtain ⟨j, hj, rfl⟩ := List.mem_iff_getElem.1 hm
    obtain ⟨b, off, _, hat⟩ := hmt w (Below.refl _ _) j (by omega)
    obtain ⟨_, _, ⟨_, _, _, _, _, _, _, hle, _⟩, _⟩ := hat
    rw [show t.rules.getD j mtcZ = t.rules[j] by simp [List.getD, hj]] at hle
    exact hle x hx
  have hnI : (n : Int) ≤ 9223372036854775807 := by omega
  have hnw := heap_alloc_new w (.cells #[.int .u32 (t.arch : Nat), .int .u32 (t.dflt : Nat), .slice A n c] 25)
  have hw1 := (Below.refl w.heap.size w).alloc (Nat.le_refl _) (.cells #[.int .u32 (t.arch : Nat), .int .u32 (t.dflt : Nat), .slice A n c] 25)
  have HFT := Lib.hid (fun j hj => flatN_take t.rules j (by rw [hl]; exact hj)); have HFL := Lib.hid (fun j hj => Nat.le_trans (flatN_le t.rules j (by rw [hl]; exact hj)) hfl)
  have HF0 := Lib.hid (show flatN (t.rules.take 0) = [] from rfl); have HFN := Lib.hid (show flatN (t.rules.take n) = flatN t.rules from by rw [← hl, List.take_length])
  have HNW := Lib.hid hnw; have HW1 := Lib.hid hw1; have HMT := Lib.hid hmt; have HALL := Lib.hid hall; have HFLL := Lib.hid hfl
  clear hnw hw1 hmt hl hk hc1 hc2 ht1 ht2 hall hfl
  go_enter Try.func9, Try.ntmps9
  go_upto_region 3 with fail
  go_loopw [3, 9] (fun z3 z wr => ∃ (j : Nat) (A3 : Option Addr) (m3 c3 : Nat), z = .int .i64 (j : Nat) ∧ z3 = .slice A3 m3 c3 ∧ j ≤ n ∧ Hid ((flatN (t.rules.take j)).length = m3) ∧ Hid (wr.ownsRow w.heap.size 22 1 (.slice A3 m3 c3) m3 ((flatN (t.rules.take j)).map u32V)) ∧ Hid (Below w.heap.size w wr)) (fun _ z _ => n - (intOf z).toNat)
  case atStart => exact ⟨0, none, 0, 0, rfl, rfl, by omega, Lib.hid (by rw [HF0.out]; rfl), Lib.hid (by rw [HF0.out]; exact World.ownsRow_nil _ _ _ _), HW1⟩
  case round =>
    obtain ⟨j, A3, m3, c3, rfl, rfl, hj, HM3, HO, HWR⟩ := hrel
    by_cases hlt : j < n
    · obtain ⟨b, off, rfl, hat⟩ := HMT.out wr HWR.out j hlt
      obtain ⟨_, hbd, ka, kn, kc, ca, cn, cc, hu, hkc, e0, e1, e2, e3, e4, e5, e6, e7⟩ := hat.cell
      have hjI : (j : Int) < n := by omega
      have hkn : (t.rules.getD j mtcZ).nrs.length = kn := by obtain ⟨_, _, _, hv, h1, _⟩ := hu; injection hv with _ q2 _; rw [h1, q2]
      have hft := HFT.out j hlt
      have hfl := HFL.out j hlt
      rw [HM3.out] at hfl
      generalize t.rules.getD j mtcZ = m at *
      obtain ⟨nrs, cd, act⟩ := m
      simp only at hkn hft hfl hu e0 e1 e2 e3 e4 e5 e6 e7
      rw [hkn] at hfl
      have HFTJ := Lib.hid hft; have HU := Lib.hid hu; have HKN := Lib.hid hkn; have HLT := Lib.hid hlt
      clear hft hu hat hbd hkc hlt hkn
      obtain ⟨kind, kids, arg, mask, sign, value⟩ := cd
      simp only [Cnd.kind, Cnd.arg, Cnd.mask, Cnd.sign, Cnd.value] at e1 e3 e4 e5 e6
      go_upto_region 5 with fail
      have hn7 := heap_alloc_new wr (.cells #[.slice ka kn kc, .int .i64 kind, .slice ca cn cc, .int .i64 arg, .int .u64 (mask : Nat), .string sign, .int .u64 (value : Nat), .int .u32 (act : Nat)] 33)
      have hy7 := (Below.refl wr.heap.size wr).alloc (Nat.le_refl _) (.cells #[.slice ka kn kc, .int .i64 kind, .slice ca cn cc, .int .i64 arg, .int .u64 (mask : Nat), .string sign, .int .u64 (value : Nat), .int .u32 (act : Nat)] 33)
      generalize wr.alloc (.cells #[.slice ka kn kc, .int .i64 kind, .slice ca cn cc, .int .i64 arg, .int .u64 (mask : Nat), .string sign, .int .u64 (value : Nat), .int .u32 (act : Nat)] 33) = w7 at *
      have HB7 := Lib.hid (HWR.out.trans (hy7.mono HWR.out.size))
      have HU7 := Lib.hid (HU.out.below hy7)
      have HO7 := Lib.hid (own_keep2N HO.out hy7)
      generalize wr.heap.size = b7 at *
      have y0 := below_cell (Below.refl _ w7) hn7 0 rfl
      clear e0 e1 e2 e3 e4 e5 e6 e7 hn7 hy7 HO HU HWR
      go_wp2_with (first
        | (at_builtin; go_must (refine wpList_extend _ _ 27 22 (nrs.map u32V) HO7.out HB7.out (Nat.le_refl _) Try.underlying27 hi hz0 hz1 hz2 rfl (by decide) rfl rfl rfl rfl (u32_source HU7.out) (by rw [List.length_map, HKN.out, Nat.mul_one]) (fun u hu => by obtain ⟨x, _, rfl⟩ := List.mem_map.1 hu; rfl) ?c1 ?_)))
      case c1 => omega
      intro v' w8 hown8 hbel8
      rw [← List.map_append, ← HFTJ.out] at hown8
      obtain ⟨A4, c4, rfl, _, _⟩ := own_form1 hown8
      have HO8 := Lib.hid hown8; have HB8 := Lib.hid hbel8
      clear hown8 hbel8 HO7 HB7 HU7 y0
      go_wp2_with fail
      go_roundw
      case rel => exact ⟨j + 1, A4, m3 + kn, c4, by go_num, rfl, by have := HLT.out; omega, Lib.hid (by rw [HFTJ.out, List.length_append, HM3.out, HKN.out]), HO8, HB8⟩
      case measure => have := HLT.out; simp [intOf]; omega
    · obtain rfl : j = n := by omega
      rw [HFN.out] at HM3 HO
      have hm3 := HM3.out
      have hm3I : m3 ≤ 1000000 := by have := HFLL.out; omega
      have hnn : ¬ (j : Int) < j := by omega
      clear HFT HFL HF0 HFN HMT HW1 HNW
      rcases Nat.eq_zero_or_pos m3 with h0 | h0
      · subst h0
        have hnil : flatN t.rules = [] := List.eq_nil_of_length_eq_zero hm3
        have hc9 := (own_form1 HO.out)
        obtain ⟨_, c3', e3, _, hc9⟩ := hc9
        injection e3 with q1 q2 q3
        subst q3
        clear q1 q2
        have hnil2 : nrsU (flatN t.rules) = [] := by rw [hnil]; exact List.eq_nil_of_length_eq_zero (Nat.le_zero.1 (nrsU_len []))
        have HN2 := Lib.hid hnil2; have HC9 := Lib.hid hc9
        have ha3 := HO.out.2
        have hA3 : A3 = none → c3 = 0 := fun e => by
          rcases ha3 with ⟨e', _⟩ | ⟨_, _, _, e', _⟩
          · injection e'
          · rw [e] at e'; cases e'
        have HA3 := Lib.hid hA3
        clear hnil hnil2 hc9 hm3 ha3 hA3
        go_wp2_with (first
          | (go_at_call 21; refine (srSort0 _ _ _).mono ?_; rintro e w9 ⟨rfl, rfl⟩)
          | (go_at_call 22; refine (srCompact0 _ _ _).mono ?_; rintro e w9 ⟨rfl, rfl⟩))
        go_ret
        refine ⟨⟨_, rfl, ?_⟩, HWR.out⟩
        refine ⟨?_, .inl HN2.out⟩
        rw [HN2.out]
        exact ⟨A3, 0, c3, rfl, rfl, Nat.zero_le _, HC9.out, fun n hn => absurd hn (by simp), HA3.out, .inl rfl⟩
      · have hgg : ∃ g, A3 = some ⟨g, 0, none⟩ := by
          rcases HO.out.2 with ⟨e, _⟩ | ⟨g, _, _, e, _⟩
          · injection e with _ e2 _; omega
          · injection e with e1 _ _; exact ⟨g, e1⟩
        obtain ⟨g, rfl⟩ := hgg
        obtain ⟨hS, hbg, hncap, hcmax⟩ := own_srt HO.out HM3.out
        have HSO := Lib.hid (srSort g wr (intsN (flatN t.rules)) m3 c3 wr hS (by unfold intsN; rw [List.length_map, hm3]) hm3I)
        have hcp := fun u (hu : Srt wr g (sortN (flatN t.rules)).toArray u) => srCompact g wr (sortN (flatN t.rules)).toArray m3 c3 u hu (by rw [List.size_toArray, sortN_len, hm3]) hm3I hncap hcmax
        have HCP := Lib.hid hcp
        have HBG := Lib.hid hbg; have HNC := Lib.hid hncap; have HCX := Lib.hid hcmax
        have h0I : (0 : Int) < m3 := by omega
        clear hS hcp hbg hncap hcmax hm3 HO
        go_wp2_with (first
          | (go_at_call 21; refine HSO.out.mono ?_; rintro e w8 ⟨rfl, hs8⟩; have HS8 := Lib.hid hs8; clear hs8)
          | (go_at_call 22; refine (HCP.out _ HS8.out).mono ?_; rintro e w9 ⟨rfl, d', hd1, hd2, hs9⟩))
        go_ret
        have hCC : cmpK (sortN (flatN t.rules)).toArray m3 = numI (flatN t.rules) := by
          unfold numI
          rw [sortN_len, HM3.out]
        rw [hCC] at hd2 ⊢
        have hlen : (nrsU (flatN t.rules)).length = (numI (flatN t.rules)).length := by unfold nrsU; rw [List.length_map]
        have hle : (numI (flatN t.rules)).length ≤ m3 := by rw [← hlen, ← HM3.out]; exact nrsU_len _
        have hval : ∀ i, i < (numI (flatN t.rules)).length → (Value.int .u32 ((numI (flatN t.rules)).getD i 0)) = .int .u32 ((nrsU (flatN t.rules)).getD i 0 : Nat) := fun i hi => by
          congr 1
          rw [← nrsU_ints]
          unfold intsN
          simp [List.getD, show i < (nrsU (flatN t.rules)).length by omega]
        refine ⟨⟨_, rfl, ⟨_, _, _, rfl, hlen, by have := HNC.out; omega, HCX.out, fun x hx => HALL.out x ((nrsU_mem _ _).1 hx), (fun e => by cases e), .inr ⟨g, 0, rfl, by have := hs9.size; have := hs9.lt; omega, fun i hi => ?_⟩⟩, .inr ?_⟩, HWR.out.trans (hs9.below HBG.out)⟩
        · rw [Nat.zero_add, hs9.cell (by omega), hd2 i hi, hval i hi]
        · obtain ⟨cur0, cur, r1, r2, r3, r4, r5, r6⟩ := hs9.row
          refine ⟨g, _, c3, cur, rfl, HBG.out, r2, fun i hi => ?_⟩
          rw [hlen] at hi
          rw [r5 i (by omega), hd2 i hi, hval i hi]
theorem tmNumbers (v : Value) (t : Typ) (w : World) (h : IsTyp w v t) (hfl : (flatN t.rules).length ≤ 1000000) :
    Calls Try.prog 9 #[v] w fun e w' => (∃ v', e = .returned v' ∧ IsU32s w' v' (nrsU (flatN t.rules))) ∧ Below w.heap.size w w' := by
  refine (tmNumbersB v t w h hfl).mono ?_
  rintro e w' ⟨⟨v', he, hu, _⟩, hb⟩
  exact ⟨⟨v', he, hu⟩, hb⟩
end STn2
section STm9
open Go.RowKit Go.ChangeShapes
set_option linter.unusedVariables false
set_option linter.unusedSimpArgs false

theorem strict_len : ∀ (a b : List Nat), a.Pairwise (· < ·) → (∀ x ∈ a, x ∈ b) → a.length ≤ b.length
  | [], _, _, _ => Nat.zero_le _
  | x :: a, b, hp, h => by
    rw [List.pairwise_cons] at hp
    have hx := h x List.mem_cons_self
    have ih := strict_len a (b.erase x) hp.2 fun y hy => (List.mem_erase_of_ne (by have := hp.1 y hy; omega)).2 (h y (List.mem_cons_of_mem _ hy))
    rw [List.length_erase_of_mem hx] at ih
    have := List.length_pos_of_mem hx
    rw [List.length_cons]; omega
theorem hits_cons (m : Mtc) (l : List Mtc) : ∀ nums : List Nat, hitsN (m :: l) nums = (nums.filter fun nr => m.nrs.contains nr).length + hitsN l nums
  | [] => rfl
  | x :: nums => by
    have ih := hits_cons m l nums
    have h1 : hitsN (m :: l) (x :: nums) = hitN x (m :: l) + hitsN (m :: l) nums := by simp [hitsN]
    have h2 : hitsN l (x :: nums) = hitN x l + hitsN l nums := by simp [hitsN]
    rw [h1, h2, ih, List.filter_cons]
    unfold hitN
    rw [List.filter_cons]
    cases h : m.nrs.contains x with
    | false => simp; omega
    | true => simp; omega
theorem hits_le (nums : List Nat) (hp : nums.Pairwise (· < ·)) : ∀ l : List Mtc, hitsN l nums ≤ (flatN l).length
  | [] => by
    have : hitsN [] nums = 0 := by
      unfold hitsN
      induction nums with
      | nil => rfl
      | cons x nums ih => rw [List.map_cons, List.sum_cons, ih (List.Pairwise.of_cons hp)]; rfl
    rw [this]; exact Nat.zero_le _
  | m :: l => by
    rw [hits_cons]
    have h1 := strict_len (nums.filter fun nr => m.nrs.contains nr) m.nrs (hp.filter _) fun x hx => by
      have := (List.mem_filter.1 hx).2
      simpa using this
    have h2 := hits_le nums hp l
    have h3 : flatN (m :: l) = m.nrs ++ flatN l := rfl
    rw [h3, List.length_append]; omega
theorem fit_all {t : Typ} (h : t.right = true) : t.rules.length ≤ 24 ∧ (∀ m ∈ t.rules, m.askable = true) ∧ (flatN t.rules).length ≤ 960 := by
  unfold Typ.right at h
  rw [Bool.and_eq_true, decide_eq_true_eq, List.all_eq_true] at h
  refine ⟨h.1, fun m hm => ?_, ?_⟩
  · have := h.2 m hm
    unfold Mtc.fit at this
    rw [Bool.and_eq_true] at this
    exact this.2
  · have key : ∀ l : List Mtc, (∀ m ∈ l, m.fit = true) → (flatN l).length ≤ 40 * l.length := fun l => by
      induction l with
      | nil => intro _; exact Nat.zero_le _
      | cons m l ih =>
        intro hl
        have h0 := hl m List.mem_cons_self
        unfold Mtc.fit at h0
        rw [Bool.and_eq_true, Bool.and_eq_true, decide_eq_true_eq, decide_eq_true_eq] at h0
        have := ih fun x hx => hl x (List.mem_cons_of_mem _ hx)
        rw [show flatN (m :: l) = m.nrs ++ flatN l from rfl, List.length_append, List.length_cons]
        omega
    have := key _ h.2
    omega
theorem Tk.missed {b B : Nat} {u : World} {l : List Stp} {n m : Int} {fn v : Value} (h : Tk b u B l n m fn v) (m' : Int) : Tk b (u.setCell ⟨B, 2, none⟩ (.int .i64 m')) B l n m' fn v ∧ KeepM b B v u v (u.setCell ⟨B, 2, none⟩ (.int .i64 m')) :=
  ⟨⟨block_set h.blk 2 _, h.own.kept (row := some B) ⟨rfl, rfl, rfl, by simp [World.setCell], fun k _ hk => Below.heap_setCell _ _ _ _ (fun e => hk (by simp [e]))⟩ (.inr h.ne), h.ne, h.base, h.bnd⟩,
   ⟨by rw [World.size_setCell]; exact Nat.le_refl _, fun b0 w0 hb0 hw => hw.setCell (p := ⟨B, 2, none⟩) (Nat.le_trans hb0 h.base) _, fun g _ hg _ => Below.heap_setCell _ _ _ _ hg, fun g hg => .inl hg⟩⟩
theorem Tb_lt {b B : Nat} {u : World} {l : List Stp} {n m : Int} {fn v : Value} (h : Tk b u B l n m fn v) : B < u.heap.size ∧ ∀ g, v.ownBlock = some g → g < u.heap.size := ⟨lt_of_block h.blk, fun g e => (h.own.lt g e).2⟩
def StepsPost (t : Typ) (w : World) (e : Ending) (w' : World) : Prop :=
  (if t.right = true then ∃ v', e = .returned (.tuple #[v', .int .i64 0]) ∧ IsOps w' v' (stepsS t (nrsU (flatN t.rules))) else e = .returned (.tuple #[.slice none 0 0, .int .i64 1])) ∧ Below w.heap.size w w'
set_option maxRecDepth 100000 in
set_option maxHeartbeats 4000000 in
theorem tmSteps (v : Value) (t : Typ) (w : World) (h : IsTyp w v t) : Calls Try.prog 15 #[v] w (StepsPost t w) := by
  obtain ⟨ht1, ht2, k, rfl, hk⟩ := id h
  obtain ⟨A, nn, cc, rfl, hl, hc1, hc2, _⟩ := id hk
  have hw1 := (Below.refl w.heap.size w).alloc (Nat.le_refl _) (.cells #[.int .u32 (t.arch : Nat), .int .u32 (t.dflt : Nat), .slice A nn cc] 25)
  have hnw := heap_alloc_new w (.cells #[.int .u32 (t.arch : Nat), .int .u32 (t.dflt : Nat), .slice A nn cc] 25)
  have HR := Lib.hid (fun u (hu : Below w.heap.size w u) => tmRight t _ u (h.below hu))
  have HTP := Lib.hid h; have HKK := Lib.hid hk
  obtain ⟨G, hG⟩ : ∃ G, w.heap.size = G := ⟨_, rfl⟩
  have HGQ := Lib.hid hG
  rw [hG] at hnw
  clear h hk hl hc1 hc2
  go_enter Try.func15, Try.ntmps15
  go_upto_region 1 with fail
  (try rw [HGQ.out])
  obtain ⟨w1, hW1⟩ : ∃ w1, w.alloc (.cells #[.int .u32 (t.arch : Nat), .int .u32 (t.dflt : Nat), .slice A nn cc] 25) = w1 := ⟨_, rfl⟩
  rw [hW1] at hw1 hnw ⊢
  have HW := Lib.hid hw1; have HN := Lib.hid hnw
  have y0 := below_cell (Below.refl _ w1) hnw 0 rfl
  have y1 := below_cell (Below.refl _ w1) hnw 1 rfl
  have y2 := below_cell (Below.refl _ w1) hnw 2 rfl
  clear hw1 hnw hG hW1
  by_cases hrt : t.right = true
  rotate_left
  · have hrf : t.right = false := by simpa using hrt
    have hr := HR.out w1 HW.out
    rw [hrf] at hr
    have HR1 := Lib.hid hr
    have hpost : ∀ w', Below w.heap.size w w' → StepsPost t w (.returned (.tuple #[.slice none 0 0, .int .i64 1])) w' := fun w' hb => ⟨by rw [if_neg hrt], hb⟩
    have HPO := Lib.hid hpost
    clear hr hpost hrf hrt
    go_wp2_with (first | (go_at_call 27; refine HR1.out.mono ?_; rintro e w2 ⟨rfl, hb2⟩))
    refine bodyPost_ret (results_tmp2 rfl _ _ _) rfl ?_
    exact HPO.out _ (HW.out.trans (hb2.mono HW.out.size))
  · have hr := HR.out w1 HW.out
    rw [hrt] at hr
    have HR1 := Lib.hid hr
    obtain ⟨hf1, hf2, hf3⟩ := fit_all hrt
    have hpost : ∀ w' v', IsOps w' v' (stepsS t (nrsU (flatN t.rules))) → Below w.heap.size w w' → StepsPost t w (.returned (.tuple #[v', .int .i64 0])) w' := fun w' v' ho hb => ⟨by rw [if_pos hrt]; exact ⟨v', rfl, ho⟩, hb⟩
    have HPO := Lib.hid hpost; have HASK := Lib.hid hf2
    have hn960 : (nrsU (flatN t.rules)).length ≤ 960 := Nat.le_trans (nrsU_len _) hf3
    have hh960 : hitsN t.rules (nrsU (flatN t.rules)) ≤ 960 := Nat.le_trans (hits_le _ (nrsU_strict _) _) hf3
    have HNB := Lib.hid (fun u (hu : Below w.heap.size w u) => tmNumbersB _ t u (HTP.out.below hu) (by omega))
    have hl32 : ∀ u v', IsU32s u v' (nrsU (flatN t.rules)) → ∀ x ∈ nrsU (flatN t.rules), x ≤ 4294967295 := fun u v' hu => by
      obtain ⟨_, _, _, _, _, _, _, h4, _⟩ := hu
      exact h4
    generalize hLL : nrsU (flatN t.rules) = L at *
    have H960 := Lib.hid (And.intro hn960 hh960); have H32 := Lib.hid hl32
    clear hr hpost hf1 hf2 hf3 hn960 hh960 hl32 hrt hLL
    go_upto_region 3 with (first | (go_at_call 27; refine HR1.out.mono ?_; rintro e w2 ⟨rfl, hb2⟩))
    have HB2 := Lib.hid (HW.out.trans (hb2.mono HW.out.size)); have HN2 := Lib.hid ((hb2.block _ (lt_of_block HN.out)).trans HN.out)
    clear hb2 HW HN y0 y1 y2 HR HR1
    have hnf : Value.nilFunc.oneCell' = true := rfl
    have hmf : ∀ (fn : Fn) (first cap : Array Value) (w : World), (Instr.makeFunc fn first cap).run Try.prog w = .ok (.func fn first cap) w := fun _ _ _ _ => rfl
    have hn7 := heap_alloc_new w2 (.cells #[.slice none 0 0, .int .i64 0, .int .i64 0, .nilFunc] 62)
    have hy7 := (Below.refl w2.heap.size w2).alloc (Nat.le_refl _) (.cells #[.slice none 0 0, .int .i64 0, .int .i64 0, .nilFunc] 62)
    have hs7 := setRow_heap _ w2.heap.size _ #[.slice none 0 0, .int .i64 0, .int .i64 0, .nilFunc] _ _ hn7
    have hz7 := below_setRow hy7 (Nat.le_refl _) #[.slice none 0 0, .int .i64 0, .int .i64 0, .nilFunc]
    have HN7 := Lib.hid hn7; have HS7 := Lib.hid hs7; have HQ7 := Lib.hid hz7
    clear hn7 hy7 hs7 hz7
    go_upto_region 4 with (first | (refine wpList_store_row rfl 62 _ _ rfl w2.heap.size #[.slice none 0 0, .int .i64 0, .int .i64 0, .nilFunc] rfl rfl 62 _ HN7.out (by kernel_rfl) rfl (by simp [Value.oneCell']) ?_))
    obtain ⟨B, hB⟩ : ∃ B, w2.heap.size = B := ⟨_, rfl⟩
    obtain ⟨w3, hW3⟩ : ∃ w3, (w2.alloc (.cells #[.slice none 0 0, .int .i64 0, .int .i64 0, .nilFunc] 62)).setRow w2.heap.size #[.slice none 0 0, .int .i64 0, .int .i64 0, .nilFunc] = w3 := ⟨_, rfl⟩
    have hs7 := HS7.out
    have hz7 := HQ7.out
    rw [hW3] at hs7 hz7 ⊢
    rw [hB] at hs7
    (try rw [hB])
    have HS3 := Lib.hid hs7
    have HB3 := Lib.hid (HB2.out.trans (hz7.mono HB2.out.size))
    have HN3 := Lib.hid ((hz7.block _ (lt_of_block HN2.out)).trans HN2.out)
    have HGB := Lib.hid (show G < B by rw [← hB]; exact lt_of_block HN2.out)
    have HWB := Lib.hid (show w.heap.size ≤ B by rw [← hB]; exact HB2.out.size)
    clear hs7 hz7 hW3 hB HN7 HS7 HQ7 HB2 HN2
    have b3 := below_cell (Below.refl _ w3) HS3.out 3 rfl
    have f3 := block_frozen HS3.out 3
    have hst : (store ⟨B, 3, none⟩ (Value.func (Fn.func 28) #[] #[.pointer (some ⟨B, 0, none⟩), .pointer (some ⟨G, 0, none⟩)])).run Try.prog w3 = .ok () (w3.setCell ⟨B, 3, none⟩ (Value.func (Fn.func 28) #[] #[.pointer (some ⟨B, 0, none⟩), .pointer (some ⟨G, 0, none⟩)])) := by rw [run_store _ _ _ _ _ rfl, b3, f3]; rfl
    have ht4 : (w3.setCell ⟨B, 3, none⟩ (Value.func (Fn.func 28) #[] #[.pointer (some ⟨B, 0, none⟩), .pointer (some ⟨G, 0, none⟩)])).heap[B]? = some (.cells #[.slice none 0 0, .int .i64 0, .int .i64 0, (Value.func (Fn.func 28) #[] #[.pointer (some ⟨B, 0, none⟩), .pointer (some ⟨G, 0, none⟩)])] 62 (0, 0)) := block_set HS3.out 3 (Value.func (Fn.func 28) #[] #[.pointer (some ⟨B, 0, none⟩), .pointer (some ⟨G, 0, none⟩)])
    have hb4 : Below w.heap.size w (w3.setCell ⟨B, 3, none⟩ (Value.func (Fn.func 28) #[] #[.pointer (some ⟨B, 0, none⟩), .pointer (some ⟨G, 0, none⟩)])) := HB3.out.setCell (p := ⟨B, 3, none⟩) HWB.out _
    have hn4 := (Below.heap_setCell w3 ⟨B, 3, none⟩ (Value.func (Fn.func 28) #[] #[.pointer (some ⟨B, 0, none⟩), .pointer (some ⟨G, 0, none⟩)]) G (by show G ≠ B; have := HGB.out; omega)).trans HN3.out
    go_upto_region 5 with fail
    obtain ⟨w4, hW4⟩ : ∃ w4, w3.setCell ⟨B, 3, none⟩ (Value.func (Fn.func 28) #[] #[.pointer (some ⟨B, 0, none⟩), .pointer (some ⟨G, 0, none⟩)]) = w4 := ⟨_, rfl⟩
    rw [hW4] at ht4 hb4 hn4 ⊢
    have HBR := Lib.hid (fun f => tmBranch w.heap.size B G w t A nn cc HKK.out ht2 HASK.out (Nat.le_refl _) 2 (by omega) f)
    unfold BranchAt at HBR
    generalize (Value.func (Fn.func 28) #[] #[.pointer (some ⟨B, 0, none⟩), .pointer (some ⟨G, 0, none⟩)]) = fv at *
    have hown : w4.ownsRow w.heap.size 67 4 (.slice none 0 0) 0 (stpCells []) := World.ownsRow_nil _ _ _ _
    have T0 : Tk w.heap.size w4 B [] 0 0 fv (.slice none 0 0) := ⟨ht4, hown, by simp [Value.ownBlock], HWB.out, fun i hi => absurd hi (by simp)⟩
    have X0 : Bx B w4 (.slice none 0 0) G (.cells #[.int .u32 (t.arch : Nat), .int .u32 (t.dflt : Nat), .slice A nn cc] 25 (0, 0)) := ⟨hn4, by have := HGB.out; omega, by simp [Value.ownBlock]⟩
    have HL0 := Lib.hid (tmLabel w.heap.size B w4 [] 0 0 fv _ T0 (by omega) (by omega)); have HX0 := Lib.hid X0; have HB4 := Lib.hid hb4
    clear hst ht4 hb4 hn4 hW4 hown T0 X0 HS3 HB3 HN3 b3 f3
    go_upto_region 6 with (first
      | (go_at_call 30; refine HL0.out.mono ?_; rintro e w5 ⟨rfl, T1, K1⟩; have T1' : Tk w.heap.size w5 B [] 1 0 fv (.slice none 0 0) := T1; have HL1 := Lib.hid (tmLabel w.heap.size B w5 [] 1 0 fv _ T1' (by omega) (by omega)); have HX1 := Lib.hid (HX0.out.keep K1); have HB5 := Lib.hid (K1.bel (Nat.le_refl _) HB4.out); clear T1 T1' K1)
      | (go_at_call 30; refine HL1.out.mono ?_; rintro e w6 ⟨rfl, T2', K2⟩; have T2 : Tk w.heap.size w6 B [] 2 0 fv (.slice none 0 0) := T2'; have HX2 := Lib.hid (HX1.out.keep K2); have HB6 := Lib.hid (K2.bel (Nat.le_refl _) HB5.out)))
    have HA1 := Lib.hid (show Calls Try.prog 31 #[.pointer (some ⟨B, 0, none⟩), .agg #[.int .i64 1, .int .u32 4, .int .i64 0, .int .i64 0]] w6 (TkPost w.heap.size B _ w6 ([] ++ [⟨1, 4, 0, 0⟩]) 2 0 fv) from tmAdd w.heap.size B w6 [] 2 0 fv _ ⟨1, 4, 0, 0⟩ T2 (stp_bnd (by decide) (by decide) (by decide) (by decide)) (by decide))
    clear T2 T2' K2 HX0 HX1 HL0 HL1 HB4 HB5
    go_upto_region 7 with (first | (go_at_call 31; refine HA1.out.mono ?_; rintro e w7 ⟨rfl, v7, T7, K7⟩))
    have X7 := HX2.out.keep K7
    have HX7 := Lib.hid X7; have HB7 := Lib.hid (K7.bel (Nat.le_refl _) HB6.out)
    have y0 := below_cell (Below.refl _ w7) X7.blk 0 rfl
    have HA2 := Lib.hid (show Calls Try.prog 31 #[.pointer (some ⟨B, 0, none⟩), .agg #[.int .i64 3, .int .u32 (t.arch : Nat), .int .i64 0, .int .i64 1]] w7 (TkPost w.heap.size B v7 w7 (([] ++ [⟨1, 4, 0, 0⟩]) ++ [⟨3, t.arch, 0, 1⟩]) 2 0 fv) from tmAdd w.heap.size B w7 _ 2 0 fv _ ⟨3, t.arch, 0, 1⟩ T7 (stp_bnd (by decide) ht1 (by decide) (by decide)) (by decide))
    clear T7 K7 X7 HX2 HB6 HA1
    go_upto_region 8 with (first | (go_at_call 31; refine HA2.out.mono ?_; rintro e w8 ⟨rfl, v8, T8, K8⟩))
    have HX8 := Lib.hid (HX7.out.keep K8); have HB8 := Lib.hid (K8.bel (Nat.le_refl _) HB7.out)
    have HA3 := Lib.hid (tmHere w.heap.size B w8 _ 2 0 fv v8 1 T8 (by decide) (by simp))
    clear T8 K8 HX7 HB7 HA2 y0
    go_upto_region 9 with (first | (go_at_call 32; refine HA3.out.mono ?_; rintro e w9 ⟨rfl, v9, T9, K9⟩))
    have HX9 := Lib.hid (HX8.out.keep K9); have HB9 := Lib.hid (K9.bel (Nat.le_refl _) HB8.out)
    have HA4 := Lib.hid (tmRet w.heap.size B w9 _ 2 0 fv v9 2147483648 T9 (by decide) (by simp))
    clear T9 K9 HX8 HB8 HA3
    go_upto_region 10 with (first | (go_at_call 33; refine HA4.out.mono ?_; rintro e wa ⟨rfl, va, Ta, Ka⟩))
    have HXa := Lib.hid (HX9.out.keep Ka); have HBa := Lib.hid (Ka.bel (Nat.le_refl _) HB9.out)
    have HA5 := Lib.hid (tmHere w.heap.size B wa _ 2 0 fv va 0 Ta (by decide) (by simp))
    clear Ta Ka HX9 HB9 HA4
    go_upto_region 11 with (first | (go_at_call 32; refine HA5.out.mono ?_; rintro e wb ⟨rfl, vb, Tb, Kb⟩))
    have Xb := HXa.out.keep Kb
    have HXb := Lib.hid Xb; have HBb := Lib.hid (Kb.bel (Nat.le_refl _) HBa.out); have HTb := Lib.hid Tb
    have y0 := below_cell (Below.refl _ wb) Xb.blk 0 rfl
    have y1 := below_cell (Below.refl _ wb) Xb.blk 1 rfl
    have y2 := below_cell (Below.refl _ wb) Xb.blk 2 rfl
    have HNU := Lib.hid (HNB.out wb HBb.out)
    clear Tb Kb HXa HBa HA5 Xb HNB
    go_upto_region 12 with (first | (go_at_call 9; refine HNU.out.mono ?_; rintro e wc ⟨⟨vn, rfl, hun, hnr⟩, hbc⟩))
    have Tc := HTb.out.below hbc
    have Kc := KeepM.of_below (b := w.heap.size) (B := B) (v := vb) hbc HBb.out.size
    have Xc := HXb.out.keep Kc
    have HXc := Lib.hid Xc; have HBc := Lib.hid (Kc.bel (Nat.le_refl _) HBb.out); have HTc := Lib.hid Tc
    have hown := Tb_lt HTb.out
    have h32 := H32.out _ _ hun
    obtain ⟨An, k, cn, rfl, hkl, hkc, hkm, _⟩ := id hun
    have HKL := Lib.hid hkl; have HNR := Lib.hid hnr; have HOW := Lib.hid hown; have HL32 := Lib.hid h32
    have hkI : (k : Int) ≤ 960 := by have := H960.out.1; omega
    clear y0 y1 y2 Tc Kc Xc HTb HXb HBb hbc hun hkl hnr hown h32 H32 HNU
    obtain ⟨l5, hl5⟩ : ∃ l5, ((((([] : List Stp) ++ [⟨1, 4, 0, 0⟩]) ++ [⟨3, t.arch, 0, 1⟩]) ++ [stL 1]) ++ [retS 2147483648]) ++ [stL 0] = l5 := ⟨_, rfl⟩
    rw [hl5] at HTc
    have hl55 : l5.length = 5 := by rw [← hl5]; simp
    have HL5 := Lib.hid hl5; have HL55 := Lib.hid hl55
    clear hl5 hl55
    rcases Nat.eq_zero_or_pos k with h0 | h0
    · subst h0
      have hnil : L = [] := List.eq_nil_of_length_eq_zero HKL.out
      have HNIL := Lib.hid hnil
      have HAZ := Lib.hid (tmRet w.heap.size B wc _ 2 0 fv vb t.dflt HTc.out ht2 (by have := HL55.out; omega))
      have y1 := below_cell (Below.refl _ wc) HXc.out.blk 1 rfl
      have HBY := HBc
      clear hnil HTc HXc HNR HOW HBc HBR
      go_upto_region 18 with (first | (go_at_call 33; refine HAZ.out.mono ?_; rintro e wz ⟨rfl, vz, Tz, Kz⟩))
      have z0 := below_cell (Below.refl _ wz) Tz.blk 0 rfl
      have HBz := Lib.hid (Kz.bel (Nat.le_refl _) HBY.out)
      have hops := own_ops Tz.own rfl Tz.bnd
      have HOPS := Lib.hid hops
      clear Tz Kz y1 hops
      go_wp2_with fail
      refine bodyPost_ret (results_tmp2 rfl _ _ _) rfl ?_
      refine HPO.out _ _ ?_ HBz.out
      have ho := HOPS.out
      rw [← HL5.out] at ho
      rw [HNIL.out]
      unfold stepsS
      simpa using ho
    · have hkL : k = L.length := HKL.out.symm
      have hne : L ≠ [] := fun e => by rw [e] at hkL; simp at hkL; omega
      obtain ⟨g, k', c', cur, e1, e2, e3, e4⟩ := HNR.out.resolve_left hne
      injection e1 with e1 e1' e1''
      subst e1 e1' e1''
      have HXN := Lib.hid (show Bx B wc vb g (.cells cur 22 (0, 0)) from ⟨e3, by have := HOW.out.1; omega, fun e => by have := HOW.out.2 g e; omega⟩)
      have HNA := Lib.hid (show NumAt (.cells cur 22 (0, 0)) 0 L from ⟨cur, rfl, fun i hi => by rw [Nat.zero_add]; exact e4 i hi⟩)
      have HLA := Lib.hid (tmLabel w.heap.size B wc _ 2 0 fv vb HTc.out (by omega) (by omega))
      have h0I : (0 : Int) < k := by omega
      have HNE := Lib.hid hne; have HKC := Lib.hid hkc; have HKM := Lib.hid hkm; have HKE := Lib.hid hkL
      clear e2 e3 e4 hne hkc hkm hkL HNR HOW HTc h0
      go_upto_region 14 with (first | (go_at_call 30; refine HLA.out.mono ?_; rintro e wd ⟨rfl, Td, Kd⟩; have m2 := below_cell (Below.refl _ wd) Td.blk 2 rfl; have f2 := block_frozen Td.blk 2))
      obtain ⟨Te', Ke'⟩ := Tk.missed Td 2
      obtain ⟨we, hWe⟩ : ∃ we, wd.setCell ⟨B, 2, none⟩ (.int .i64 2) = we := ⟨_, rfl⟩
      rw [hWe] at Te' Ke' ⊢
      have Te : Tk w.heap.size we B l5 3 2 fv vb := Te'
      have Ke := Kd.trans Ke'
      have HXe := Lib.hid (HXc.out.keep Ke); have HXNe := Lib.hid (HXN.out.keep Ke); have HBe := Lib.hid (Ke.bel (Nat.le_refl _) HBc.out)
      have HA := Lib.hid (show Calls Try.prog 31 #[.pointer (some ⟨B, 0, none⟩), .agg #[.int .i64 1, .int .u32 0, .int .i64 0, .int .i64 0]] we (TkPost w.heap.size B vb we (l5 ++ [⟨1, 0, 0, 0⟩]) 3 2 fv) from tmAdd w.heap.size B we _ 3 2 fv _ ⟨1, 0, 0, 0⟩ Te (stp_bnd (by decide) (by decide) (by decide) (by decide)) (by have := HL55.out; omega))
      clear Te Te' Ke Ke' Td Kd hWe m2 f2 HXc HXN HBc HLA
      go_upto_region 15 with (first | (go_at_call 31; refine HA.out.mono ?_; rintro e wf ⟨rfl, vf, Tf, Kf⟩))
      have HXf := Lib.hid (HXe.out.keep Kf); have HXNf := Lib.hid (HXNe.out.keep Kf); have HBf := Lib.hid (Kf.bel (Nat.le_refl _) HBe.out)
      have hbr := HBR.out L.length L (Nat.le_refl _) HNE.out HL32.out wf _ 3 vf g 0 cn _ (by have := HKC.out; have := HKE.out; omega) HKM.out HXf.out HXNf.out HNA.out HBf.out Tf (by omega) (by have := H960.out; omega) (by have := H960.out; have := HL55.out; simp only [List.length_append, List.length_cons, List.length_nil]; omega)
      rw [← HKE.out] at hbr
      have hbl := branch_len t.dflt t.rules HASK.out 2 k L (by rw [← HKE.out]; exact Nat.le_refl _) HNE.out 3
      obtain ⟨P, hP⟩ : ∃ P, branchS t.dflt t.rules 2 k L 3 = P := ⟨_, rfl⟩
      rw [hP] at hbr hbl
      have HC := Lib.hid hbr; have HPL := Lib.hid hbl.1; have HP := Lib.hid hP
      clear hbr hbl hP Tf Kf HA HXe HXNe HBe HBR
      go_upto_region 16 with (first | (go_at_call 34; refine HC.out.mono ?_; rintro e wg ⟨rfl, vg, Tg, Kg⟩))
      have HXg := Lib.hid (HXf.out.keep Kg); have HBg := Lib.hid (Kg.bel (Nat.le_refl _) HBf.out)
      have m2 := below_cell (Below.refl _ wg) Tg.blk 2 rfl
      have HHE := Lib.hid (tmHere w.heap.size B wg _ P.2 2 fv vg 2 Tg (by decide) (by have := HPL.out; have := H960.out; have := HL55.out; have := HKE.out; simp only [List.length_append, List.length_cons, List.length_nil]; omega))
      clear Tg Kg HC HXf HXNf HBf
      go_upto_region 17 with (first | (go_at_call 32; refine HHE.out.mono ?_; rintro e wh ⟨rfl, vh, Th, Kh⟩))
      have HXh := Lib.hid (HXg.out.keep Kh); have HBY := Lib.hid (Kh.bel (Nat.le_refl _) HBg.out)
      have y1 := below_cell (Below.refl _ wh) HXh.out.blk 1 rfl
      have HAZ := Lib.hid (tmRet w.heap.size B wh _ P.2 2 fv vh t.dflt Th ht2 (by have := HPL.out; have := H960.out; have := HL55.out; have := HKE.out; simp only [List.length_append, List.length_cons, List.length_nil]; omega))
      clear Th Kh m2 HHE HXg HBg HXh
      go_upto_region 18 with (first | (go_at_call 33; refine HAZ.out.mono ?_; rintro e wz ⟨rfl, vz, Tz, Kz⟩))
      have z0 := below_cell (Below.refl _ wz) Tz.blk 0 rfl
      have HBz := Lib.hid (Kz.bel (Nat.le_refl _) HBY.out)
      have hops := own_ops Tz.own rfl Tz.bnd
      have HOPS := Lib.hid hops
      clear Tz Kz y1 hops
      go_wp2_with fail
      refine bodyPost_ret (results_tmp2 rfl _ _ _) rfl ?_
      refine HPO.out _ _ ?_ HBz.out
      have ho := HOPS.out
      rw [← HL5.out] at ho
      unfold stepsS
      rw [if_neg (by rw [← HKE.out]; omega), ← HKE.out, HP.out]
      simpa using ho
end STm9
section STm10
open Go.RowKit Go.ChangeShapes
set_option linter.unusedVariables false

theorem refNone_any (c : Cnd) (v : Value) (w : World) (h : IsCnd w v c) : Calls Try.prog 25 #[v] w fun e w' => e = .returned (.bool c.zero) ∧ Below w.heap.size w w' := by
  obtain ⟨_, k, rfl, hk⟩ := h
  obtain ⟨ka, kn, kc, rfl, hkn, _⟩ := id hk
  have := refNone16 c.kind ka kn kc c.arg c.mask c.sign c.value w
  unfold Cnd.zero
  rw [hkn]
  exact this
set_option maxRecDepth 100000 in
set_option maxHeartbeats 4000000 in
theorem refRight20 (t : Typ) (v : Value) (w : World) (h : IsTyp w v t) : Calls Try.prog 14 #[v] w fun e w' => e = .returned (.bool t.right) ∧ Below w.heap.size w w' := by
  obtain ⟨ht1, ht2, k, rfl, hk⟩ := h
  obtain ⟨A, nn, cc, rfl, hl, hc1, hc2, _⟩ := id hk
  obtain ⟨w0, eW⟩ : ∃ w0, w0 = w.alloc (.cells #[.int .u32 (t.arch : Nat), .int .u32 (t.dflt : Nat), .slice A nn cc] 25) := ⟨_, rfl⟩
  have hb0 : Below w.heap.size w w0 := by rw [eW]; exact (Below.refl _ _).alloc (Nat.le_refl _) _
  have hn0 : w0.heap[w.heap.size]? = some (.cells #[.int .u32 (t.arch : Nat), .int .u32 (t.dflt : Nat), .slice A nn cc] 25 (0, 0)) := by rw [eW]; exact heap_alloc_new w _
  have g2 := below_cell (Below.refl _ _) hn0 2 rfl
  have hmt := fun j hj => rules_at hk (Below.refl w.heap.size w) j hj
  have HMT := Lib.hid hmt; have HB0 := Lib.hid hb0; have HL := Lib.hid hl
  obtain ⟨R, hR⟩ : ∃ R, t.right = R := ⟨_, rfl⟩
  rw [hR]
  have HR := Lib.hid hR
  have hnI : (nn : Int) ≤ 9223372036854775807 := by omega
  clear hmt hb0 hn0 hl hk hR ht1 ht2 hc1 hc2
  by_cases h24 : nn ≤ 24
  · have g24 : ¬ ((24 : Int) < nn) := by omega
    have ha : (t.rules.drop 0).all Mtc.fit = R := by have := HR.out; unfold Typ.right at this; rw [HL.out, decide_eq_true h24, Bool.true_and] at this; exact this
    have HA := Lib.hid ha
    clear ha
    go_enter Try.func14, Try.ntmps14
    go_upto_region 1 with fail
    rw [← eW]
    clear eW
    go_upto_region 4 with fail
    clear g2 g24
    go_loopw [12] (fun z wr => ∃ j : Nat, z = .int .i64 (j : Nat) ∧ j ≤ nn ∧ (t.rules.drop j).all Mtc.fit = R ∧ Below w.heap.size w wr) (fun z _ => nn - (intOf z).toNat)
    case atStart => exact ⟨0, rfl, by omega, HA.out, HB0.out⟩
    case round =>
      obtain ⟨j, rfl, hj, hev, hwr⟩ := hrel
      have HEV := Lib.hid hev; have HWR := Lib.hid hwr
      clear hev hwr HA HB0
      by_cases hlt : j < nn
      · obtain ⟨b0, off, rfl, hat⟩ := HMT.out j hlt
        have hstep : ((t.rules.getD j mtcZ).fit && (t.rules.drop (j + 1)).all Mtc.fit) = R := (all_step _ j (by rw [HL.out]; exact hlt)).trans HEV.out
        obtain ⟨hact, hbd, ka, kn, kc, ca, cn, c', hu, hkc, e0, e1, e2, e3, e4, e5, e6, e7⟩ := hat.cell
        have hbl := World.block_lt_of_cell? _ _ e0
        have x0 := (HWR.out.cell (p := ⟨b0, off + j * 8, none⟩) hbl).trans e0
        have x1 := (HWR.out.cell (p := ⟨b0, off + j * 8 + 1, none⟩) hbl).trans e1
        have x2 := (HWR.out.cell (p := ⟨b0, off + j * 8 + 2, none⟩) hbl).trans e2
        have x3 := (HWR.out.cell (p := ⟨b0, off + j * 8 + 3, none⟩) hbl).trans e3
        have x4 := (HWR.out.cell (p := ⟨b0, off + j * 8 + 4, none⟩) hbl).trans e4
        have x5 := (HWR.out.cell (p := ⟨b0, off + j * 8 + 5, none⟩) hbl).trans e5
        have x6 := (HWR.out.cell (p := ⟨b0, off + j * 8 + 6, none⟩) hbl).trans e6
        have x7 := (HWR.out.cell (p := ⟨b0, off + j * 8 + 7, none⟩) hbl).trans e7
        clear e0 e1 e2 e3 e4 e5 e6 e7 hat HMT HEV
        have hjI : (j : Int) < nn := by omega
        have hkn : (t.rules.getD j mtcZ).nrs.length = kn ∧ kn ≤ 9223372036854775807 := by obtain ⟨_, _, _, hv, h1, h2, h3, _⟩ := hu; injection hv with _ q _; exact ⟨by rw [h1, q], by omega⟩
        unfold Mtc.fit at hstep
        rw [hkn.1] at hstep
        generalize t.rules.getD j mtcZ = mm at *
        obtain ⟨nrs, c, act⟩ := mm
        simp only at hact hbd hu hkc x0 x1 x2 x3 x4 x5 x6 x7 hstep
        have hC : IsCnd w (.agg #[.int .i64 c.kind, .slice ca cn c', .int .i64 c.arg, .int .u64 (c.mask : Nat), .string c.sign, .int .u64 (c.value : Nat)]) c := ⟨hbd, _, rfl, hkc⟩
        have hkI : (kn : Int) ≤ 9223372036854775807 := by have := hkn.2; omega
        have hn7 := heap_alloc_new wr (.cells #[.slice ka kn kc, .int .i64 c.kind, .slice ca cn c', .int .i64 c.arg, .int .u64 (c.mask : Nat), .string c.sign, .int .u64 (c.value : Nat), .int .u32 (act : Nat)] 33)
        have hy7 := (Below.refl wr.heap.size wr).alloc (Nat.le_refl _) (.cells #[.slice ka kn kc, .int .i64 c.kind, .slice ca cn c', .int .i64 c.arg, .int .u64 (c.mask : Nat), .string c.sign, .int .u64 (c.value : Nat), .int .u32 (act : Nat)] 33)
        obtain ⟨w7, eW7⟩ : ∃ w7, w7 = wr.alloc (.cells #[.slice ka kn kc, .int .i64 c.kind, .slice ca cn c', .int .i64 c.arg, .int .u64 (c.mask : Nat), .string c.sign, .int .u64 (c.value : Nat), .int .u32 (act : Nat)] 33) := ⟨_, rfl⟩
        rw [← eW7] at hn7 hy7
        have HN7 := Lib.hid hn7; have HB7 := Lib.hid (HWR.out.trans (hy7.mono HWR.out.size)); have HC := Lib.hid hC; have HS := Lib.hid hstep; have HLT := Lib.hid hlt
        clear hn7 hy7 hC hstep hkn hu hkc hbd hact hlt HWR
        go_upto_region 6 with fail
        rw [← eW7]
        clear eW7 x0 x1 x2 x3 x4 x5 x6 x7
        generalize wr.heap.size = g7 at *
        have y0 := below_cell (Below.refl _ _) HN7.out 0 rfl
        have y1 := below_cell (Below.refl _ _) HN7.out 1 rfl
        have y2 := below_cell (Below.refl _ _) HN7.out 2 rfl
        have y3 := below_cell (Below.refl _ _) HN7.out 3 rfl
        have y4 := below_cell (Below.refl _ _) HN7.out 4 rfl
        have y5 := below_cell (Below.refl _ _) HN7.out 5 rfl
        have y6 := below_cell (Below.refl _ _) HN7.out 6 rfl
        by_cases h1 : kn < 1
        · have z1 : (kn : Int) < 1 := by omega
          have e : R = false := by rw [← HS.out, decide_eq_false (by omega), Bool.false_and, Bool.false_and, Bool.false_and]
          subst e
          go_wp2_with fail
          go_ret
          exact ⟨rfl, HB7.out⟩
        · have z1 : ¬ (kn : Int) < 1 := by omega
          by_cases h2 : 40 < kn
          · have z2 : (40 : Int) < kn := by omega
            have e : R = false := by rw [← HS.out, decide_eq_false (p := kn ≤ 40) (by omega), Bool.and_false, Bool.false_and, Bool.false_and]
            subst e
            go_wp2_with fail
            go_ret
            exact ⟨rfl, HB7.out⟩
          · have z2 : ¬ (40 : Int) < kn := by omega
            have hs := HS.out
            rw [decide_eq_true (p := 1 ≤ kn) (by omega), decide_eq_true (p := kn ≤ 40) (by omega), Bool.true_and, Bool.true_and] at hs
            have HS2 := Lib.hid hs
            clear hs HS h1 h2
            go_wp2_with fail
            refine (refNone_any c _ w7 (HC.out.below HB7.out)).mono ?_
            rintro e w8 ⟨rfl, hb8⟩
            have HB8 := Lib.hid (HB7.out.trans (hb8.mono HB7.out.size))
            have y1' := below_cell hb8 HN7.out 1 rfl
            have y2' := below_cell hb8 HN7.out 2 rfl
            have y3' := below_cell hb8 HN7.out 3 rfl
            have y4' := below_cell hb8 HN7.out 4 rfl
            have y5' := below_cell hb8 HN7.out 5 rfl
            have y6' := below_cell hb8 HN7.out 6 rfl
            clear hb8 y0 y1 y2 y3 y4 y5 y6
            generalize c.zero = q1 at *
            cases q1
            · go_wp2_with fail
              refine (refRight16 c _ w8 (HC.out.below HB8.out)).mono ?_
              rintro e w9 ⟨rfl, hb9⟩
              have HB9 := Lib.hid (HB8.out.trans (hb9.mono HB8.out.size))
              clear hb9 y1' y2' y3' y4' y5' y6'
              generalize c.right = q2 at *
              cases q2
              · have e : R = false := by rw [← HS2.out]; rfl
                subst e
                go_wp2_with fail
                go_ret
                exact ⟨rfl, HB9.out⟩
              · have e : (t.rules.drop (j + 1)).all Mtc.fit = R := by rw [← HS2.out]; rfl
                have HE := Lib.hid e
                clear e
                go_wp2_with fail
                go_roundw
                case rel => exact ⟨j + 1, by go_num, by have := HLT.out; omega, HE.out, HB9.out⟩
                case measure => have := HLT.out; simp [intOf]; omega
            · have e : (t.rules.drop (j + 1)).all Mtc.fit = R := by rw [← HS2.out]; rfl
              have HE := Lib.hid e
              clear e
              go_wp2_with fail
              go_roundw
              case rel => exact ⟨j + 1, by go_num, by have := HLT.out; omega, HE.out, HB8.out⟩
              case measure => have := HLT.out; simp [intOf]; omega
      · obtain rfl : j = nn := by omega
        have e : R = true := by rw [← HEV.out, ← HL.out, List.drop_length]; rfl
        subst e
        have hlt' : ¬ ((j : Int) < (j : Int)) := by omega
        go_wp2_with fail
        go_ret
        exact ⟨rfl, HWR.out⟩
  · have g24 : (24 : Int) < nn := by omega
    have e : R = false := by have := HR.out; unfold Typ.right at this; rw [HL.out, decide_eq_false h24, Bool.false_and] at this; exact this.symm
    subst e
    go_enter Try.func14, Try.ntmps14
    go_upto_region 1 with fail
    rw [← eW]
    clear eW
    go_wp2_with fail
    go_ret
    exact ⟨rfl, HB0.out⟩
end STm10
section STn5
open Go.RowKit Go.ChangeShapes
set_option linter.unusedVariables false
set_option linter.unusedSimpArgs false

set_option maxRecDepth 100000 in
theorem tmRight0 (a d : Nat) (c : Nat) (A : Option Addr) (w : World) : Calls Try.prog 27 #[.agg #[.int .u32 (a : Nat), .int .u32 (d : Nat), .slice A 0 c]] w fun e w' => e = .returned (.bool true) ∧ Below w.heap.size w w' := by
  have hw1 := (Below.refl w.heap.size w).alloc (Nat.le_refl _) (.cells #[.int .u32 (a : Nat), .int .u32 (d : Nat), .slice A 0 c] 25)
  have hnw := heap_alloc_new w (.cells #[.int .u32 (a : Nat), .int .u32 (d : Nat), .slice A 0 c] 25)
  go_enter Try.func27, Try.ntmps27
  go_upto_region 1 with fail
  generalize w.alloc (.cells #[.int .u32 (a : Nat), .int .u32 (d : Nat), .slice A 0 c] 25) = w1 at *
  have y2 := below_cell (Below.refl _ w1) hnw 2 rfl
  have HW := Lib.hid hw1
  clear hw1 hnw
  go_wp2_with fail
  go_loopw [12] (fun z wr => z = .int .i64 0 ∧ wr = w1) (fun z _ => 0)
  case atStart => exact ⟨by first | rfl | simp, rfl⟩
  case round =>
    obtain ⟨rfl, rfl⟩ := hrel
    go_wp2_with fail
    go_ret
    exact ⟨rfl, HW.out⟩
theorem tmNone (w : World) : Calls Try.prog 9 #[.agg #[.int .u32 5, .int .u32 7, .slice none 0 0]] w fun e w' => (∃ A c, e = .returned (.slice A 0 c)) ∧ Below w.heap.size w w' := by
  have h := tmNumbers (.agg #[.int .u32 5, .int .u32 7, .slice none 0 0]) ⟨5, 7, []⟩ w ⟨by decide, by decide, _, rfl, none, 0, 0, rfl, rfl, Nat.le_refl _, by decide, fun _ => rfl, .inl rfl⟩ (by decide)
  refine h.mono ?_
  rintro e w' ⟨⟨v', rfl, hu⟩, hb⟩
  obtain ⟨A, n, c, rfl, hl, _⟩ := hu
  have h0 : (nrsU (flatN (Typ.rules ⟨5, 7, []⟩))).length = 0 := Nat.le_zero.1 (nrsU_len [])
  rw [h0] at hl
  subst hl
  exact ⟨⟨A, c, rfl⟩, hb⟩
set_option maxRecDepth 100000 in
set_option maxHeartbeats 2000000 in
theorem tmSteps0 (w : World) : Calls Try.prog 15 #[.agg #[.int .u32 5, .int .u32 7, .slice none 0 0]] w fun e w' => (∃ A n c, e = .returned (.tuple #[.slice A (n + 1) c, .int .i64 0])) ∧ Below w.heap.size w w' := by
  have hw1 := (Below.refl w.heap.size w).alloc (Nat.le_refl _) (.cells #[.int .u32 5, .int .u32 7, .slice none 0 0] 25)
  have hnw := heap_alloc_new w (.cells #[.int .u32 5, .int .u32 7, .slice none 0 0] 25)
  have HR := Lib.hid (fun u => tmRight0 5 7 0 none u)
  obtain ⟨G, hG⟩ : ∃ G, w.heap.size = G := ⟨_, rfl⟩
  have HGQ := Lib.hid hG
  rw [hG] at hnw
  go_enter Try.func15, Try.ntmps15
  go_upto_region 1 with fail
  (try rw [HGQ.out])
  obtain ⟨w1, hW1⟩ : ∃ w1, w.alloc (.cells #[.int .u32 5, .int .u32 7, .slice none 0 0] 25) = w1 := ⟨_, rfl⟩
  rw [hW1] at hw1 hnw ⊢
  have HW := Lib.hid hw1; have HN := Lib.hid hnw
  have y0 := below_cell (Below.refl _ w1) hnw 0 rfl
  have y1 := below_cell (Below.refl _ w1) hnw 1 rfl
  have y2 := below_cell (Below.refl _ w1) hnw 2 rfl
  clear hw1 hnw hG hW1
  go_upto_region 3 with (first | (go_at_call 27; refine (HR.out _).mono ?_; rintro e w2 ⟨rfl, hb2⟩))
  have HB2 := Lib.hid (HW.out.trans (hb2.mono HW.out.size)); have HN2 := Lib.hid ((hb2.block _ (lt_of_block HN.out)).trans HN.out)
  clear hb2 HW HN y0 y1 y2
  have hnf : Value.nilFunc.oneCell' = true := rfl
  have hof : ∀ (f : Fn) (a b : Array Value), (Value.func f a b).oneCell' = true := fun _ _ _ => rfl
  have hmf : ∀ (fn : Fn) (first cap : Array Value) (w : World), (Instr.makeFunc fn first cap).run Try.prog w = .ok (.func fn first cap) w := fun _ _ _ _ => rfl
  have hn7 := heap_alloc_new w2 (.cells #[.slice none 0 0, .int .i64 0, .int .i64 0, .nilFunc] 62)
  have hy7 := (Below.refl w2.heap.size w2).alloc (Nat.le_refl _) (.cells #[.slice none 0 0, .int .i64 0, .int .i64 0, .nilFunc] 62)
  have hs7 := setRow_heap _ w2.heap.size _ #[.slice none 0 0, .int .i64 0, .int .i64 0, .nilFunc] _ _ hn7
  have hz7 := below_setRow hy7 (Nat.le_refl _) #[.slice none 0 0, .int .i64 0, .int .i64 0, .nilFunc]
  have HN7 := Lib.hid hn7; have HS7 := Lib.hid hs7; have HQ7 := Lib.hid hz7
  clear hn7 hy7 hs7 hz7
  go_upto_region 4 with (first | (refine wpList_store_row rfl 62 _ _ rfl w2.heap.size #[.slice none 0 0, .int .i64 0, .int .i64 0, .nilFunc] rfl rfl 62 _ HN7.out (by kernel_rfl) rfl (by simp [Value.oneCell']) ?_))
  obtain ⟨B, hB⟩ : ∃ B, w2.heap.size = B := ⟨_, rfl⟩
  have HBE := Lib.hid hB
  obtain ⟨w3, hW3⟩ : ∃ w3, (w2.alloc (.cells #[.slice none 0 0, .int .i64 0, .int .i64 0, .nilFunc] 62)).setRow w2.heap.size #[.slice none 0 0, .int .i64 0, .int .i64 0, .nilFunc] = w3 := ⟨_, rfl⟩
  have hs7 := HS7.out
  have hz7 := HQ7.out
  rw [hW3] at hs7 hz7 ⊢
  rw [hB] at hs7
  (try rw [hB])
  have HS3 := Lib.hid hs7
  have HB3 := Lib.hid (HB2.out.trans (hz7.mono HB2.out.size))
  have HN3 := Lib.hid ((hz7.block _ (lt_of_block HN2.out)).trans HN2.out)
  have HGB := Lib.hid (show G < B by rw [← hB]; exact lt_of_block HN2.out)
  have HWB := Lib.hid (show w.heap.size ≤ B by rw [← hB]; exact HB2.out.size)
  clear hs7 hz7 hW3 hB HN7 HS7 HQ7 HB2 HN2
  have b3 := below_cell (Below.refl _ w3) HS3.out 3 rfl
  have f3 := block_frozen HS3.out 3
  have hst : (store ⟨B, 3, none⟩ (Value.func (Fn.func 28) #[] #[.pointer (some ⟨B, 0, none⟩), .pointer (some ⟨G, 0, none⟩)])).run Try.prog w3 = .ok () (w3.setCell ⟨B, 3, none⟩ (Value.func (Fn.func 28) #[] #[.pointer (some ⟨B, 0, none⟩), .pointer (some ⟨G, 0, none⟩)])) := by rw [run_store _ _ _ _ _ rfl, b3, f3]; rfl
  have ht4 : (w3.setCell ⟨B, 3, none⟩ (Value.func (Fn.func 28) #[] #[.pointer (some ⟨B, 0, none⟩), .pointer (some ⟨G, 0, none⟩)])).heap[B]? = some (.cells #[.slice none 0 0, .int .i64 0, .int .i64 0, (Value.func (Fn.func 28) #[] #[.pointer (some ⟨B, 0, none⟩), .pointer (some ⟨G, 0, none⟩)])] 62 (0, 0)) := block_set HS3.out 3 (Value.func (Fn.func 28) #[] #[.pointer (some ⟨B, 0, none⟩), .pointer (some ⟨G, 0, none⟩)])
  have hb4 : Below w.heap.size w (w3.setCell ⟨B, 3, none⟩ (Value.func (Fn.func 28) #[] #[.pointer (some ⟨B, 0, none⟩), .pointer (some ⟨G, 0, none⟩)])) := HB3.out.setCell (p := ⟨B, 3, none⟩) HWB.out _
  have hn4 := (Below.heap_setCell w3 ⟨B, 3, none⟩ (Value.func (Fn.func 28) #[] #[.pointer (some ⟨B, 0, none⟩), .pointer (some ⟨G, 0, none⟩)]) G (by show G ≠ B; have := HGB.out; omega)).trans HN3.out
  go_upto_region 5 with fail
  obtain ⟨w4, hW4⟩ : ∃ w4, w3.setCell ⟨B, 3, none⟩ (Value.func (Fn.func 28) #[] #[.pointer (some ⟨B, 0, none⟩), .pointer (some ⟨G, 0, none⟩)]) = w4 := ⟨_, rfl⟩
  rw [hW4] at ht4 hb4 hn4 ⊢
  generalize (Value.func (Fn.func 28) #[] #[.pointer (some ⟨B, 0, none⟩), .pointer (some ⟨G, 0, none⟩)]) = fv at *
  have hown : w4.ownsRow w.heap.size 67 4 (.slice none 0 0) 0 (stpCells []) := World.ownsRow_nil _ _ _ _
  have T0 : Tk w.heap.size w4 B [] 0 0 fv (.slice none 0 0) := ⟨ht4, hown, by simp [Value.ownBlock], HWB.out, fun i hi => absurd hi (by simp)⟩
  have X0 : Bx B w4 (.slice none 0 0) G (.cells #[.int .u32 5, .int .u32 7, .slice none 0 0] 25 (0, 0)) := ⟨hn4, by have := HGB.out; omega, by simp [Value.ownBlock]⟩
  have L0 := tmLabel w.heap.size B w4 [] 0 0 fv _ T0 (by omega) (by omega)
  have HL0 := Lib.hid L0; have HX0 := Lib.hid X0; have HB4 := Lib.hid hb4
  clear hst ht4 hb4 hn4 hW4 hown T0 X0 L0 HS3 HB3 HN3 b3 f3
  go_upto_region 6 with (first
    | (go_at_call 30; refine HL0.out.mono ?_; rintro e w5 ⟨rfl, T1, K1⟩; have T1' : Tk w.heap.size w5 B [] 1 0 fv (.slice none 0 0) := T1; have HL1 := Lib.hid (tmLabel w.heap.size B w5 [] 1 0 fv _ T1' (by omega) (by omega)); have HX1 := Lib.hid (HX0.out.keep K1); have HB5 := Lib.hid (K1.2.1 _ _ (Nat.le_refl _) HB4.out); clear T1 T1' K1)
    | (go_at_call 30; refine HL1.out.mono ?_; rintro e w6 ⟨rfl, T2', K2⟩; have T2 : Tk w.heap.size w6 B [] 2 0 fv (.slice none 0 0) := T2'; have HX2 := Lib.hid (HX1.out.keep K2); have HB6 := Lib.hid (K2.2.1 _ _ (Nat.le_refl _) HB5.out)))
  have HA1 := Lib.hid (show Calls Try.prog 31 #[.pointer (some ⟨B, 0, none⟩), .agg #[.int .i64 1, .int .u32 4, .int .i64 0, .int .i64 0]] w6 (TkPost w.heap.size B _ w6 ([] ++ [⟨1, 4, 0, 0⟩]) 2 0 fv) from tmAdd w.heap.size B w6 [] 2 0 fv _ ⟨1, 4, 0, 0⟩ T2 (stp_bnd (by decide) (by decide) (by decide) (by decide)) (by decide))
  clear T2 T2' K2 HX0 HX1 HL0 HL1 HB4 HB5
  go_upto_region 7 with (first | (go_at_call 31; refine HA1.out.mono ?_; rintro e w7 ⟨rfl, v7, T7, K7⟩))
  have X7 := HX2.out.keep K7
  have HX7 := Lib.hid X7; have HB7 := Lib.hid (K7.2.1 _ _ (Nat.le_refl _) HB6.out)
  have y0 := below_cell (Below.refl _ w7) X7.blk 0 rfl
  have HA2 := Lib.hid (show Calls Try.prog 31 #[.pointer (some ⟨B, 0, none⟩), .agg #[.int .i64 3, .int .u32 5, .int .i64 0, .int .i64 1]] w7 (TkPost w.heap.size B v7 w7 (([] ++ [⟨1, 4, 0, 0⟩]) ++ [⟨3, 5, 0, 1⟩]) 2 0 fv) from tmAdd w.heap.size B w7 _ 2 0 fv _ ⟨3, 5, 0, 1⟩ T7 (stp_bnd (by decide) (by decide) (by decide) (by decide)) (by decide))
  clear T7 K7 X7 HX2 HB6 HA1
  go_upto_region 8 with (first | (go_at_call 31; refine HA2.out.mono ?_; rintro e w8 ⟨rfl, v8, T8, K8⟩))
  have HX8 := Lib.hid (HX7.out.keep K8); have HB8 := Lib.hid (K8.2.1 _ _ (Nat.le_refl _) HB7.out)
  have HA3 := Lib.hid (tmHere w.heap.size B w8 _ 2 0 fv v8 1 T8 (by decide) (by decide))
  clear T8 K8 HX7 HB7 HA2 y0
  go_upto_region 9 with (first | (go_at_call 32; refine HA3.out.mono ?_; rintro e w9 ⟨rfl, v9, T9, K9⟩))
  have HX9 := Lib.hid (HX8.out.keep K9); have HB9 := Lib.hid (K9.2.1 _ _ (Nat.le_refl _) HB8.out)
  have HA4 := Lib.hid (tmRet w.heap.size B w9 _ 2 0 fv v9 2147483648 T9 (by decide) (by decide))
  clear T9 K9 HX8 HB8 HA3
  go_upto_region 10 with (first | (go_at_call 33; refine HA4.out.mono ?_; rintro e wa ⟨rfl, va, Ta, Ka⟩))
  have HXa := Lib.hid (HX9.out.keep Ka); have HBa := Lib.hid (Ka.2.1 _ _ (Nat.le_refl _) HB9.out)
  have HA5 := Lib.hid (tmHere w.heap.size B wa _ 2 0 fv va 0 Ta (by decide) (by decide))
  clear Ta Ka HX9 HB9 HA4
  go_upto_region 11 with (first | (go_at_call 32; refine HA5.out.mono ?_; rintro e wb ⟨rfl, vb, Tb, Kb⟩))
  have Xb := HXa.out.keep Kb
  have HXb := Lib.hid Xb; have HBb := Lib.hid (Kb.2.1 _ _ (Nat.le_refl _) HBa.out); have HTb := Lib.hid Tb
  have y0 := below_cell (Below.refl _ wb) Xb.blk 0 rfl
  have y1 := below_cell (Below.refl _ wb) Xb.blk 1 rfl
  have y2 := below_cell (Below.refl _ wb) Xb.blk 2 rfl
  clear Tb Kb HXa HBa HA5 Xb
  have HNU := Lib.hid (fun u => tmNone u)
  go_upto_region 12 with (first | (go_at_call 9; refine (HNU.out _).mono ?_; rintro e wc ⟨⟨An, cn, rfl⟩, hbc⟩))
  have Tc := HTb.out.below hbc
  have Kc := KeepM.of_below (b := w.heap.size) (B := B) (v := vb) hbc HBb.out.size
  have Xc := HXb.out.keep Kc
  have HXc := Lib.hid Xc; have HBc := Lib.hid (Kc.2.1 _ _ (Nat.le_refl _) HBb.out)
  have HA6 := Lib.hid (tmRet w.heap.size B wc _ 2 0 fv vb 7 Tc (by decide) (by decide))
  clear y0 y1 y2
  have y1 := below_cell (Below.refl _ wc) Xc.blk 1 rfl
  clear Tc Kc Xc HTb HXb HBb hbc
  go_upto_region 18 with (first | (go_at_call 33; refine HA6.out.mono ?_; rintro e wd ⟨rfl, vd, Td, Kd⟩))
  have HBd := Lib.hid (Kd.2.1 _ _ (Nat.le_refl _) HBc.out)
  have z0 := below_cell (Below.refl _ wd) Td.blk 0 rfl
  obtain ⟨Ad, cd, rfl, _, _⟩ := own_form4 Td.own
  clear Td Kd y1
  go_wp2_with fail
  first
  | (go_ret; exact ⟨⟨Ad, 5, cd, rfl⟩, HBd.out⟩)
  | (refine bodyPost_ret (results_tmp2 rfl _ _ _) rfl ?_; exact ⟨⟨Ad, 5, cd, rfl⟩, HBd.out⟩)
set_option maxRecDepth 100000 in
theorem tnAlive (w : World) : Calls Try.prog 8 #[] w fun e w' => e = .returned (.bool true) ∧ Below w.heap.size w w' := by
  go_enter Try.func8, Try.ntmps8
  go_wp2_with (first | (go_at_call 15; refine (tmSteps0 _).mono ?_; rintro e w5 ⟨⟨A, n, c, rfl⟩, hb⟩; have hnI : (0 : Int) < (n : Int) + 1 := by omega))
  go_ret
  exact ⟨by first | rfl | simp, hb⟩
end STn5
section SRfFew
open Go.RowKit Go.ChangeShapes
set_option linter.unusedVariables false

theorem typ_at2 {w u : World} {A : Option Addr} {n c : Nat} {l : List Mtc} (h : IsMtcs w (.slice A n c) l) (hb : Below w.heap.size w u) (j : Nat) (hj : j < n) : ∃ b off, A = some ⟨b, off, none⟩ ∧ MtcAt u (l.getD j mtcZ) b (off + j * 8) := by
  obtain ⟨_, _, _, hv, h1, h2, h3, h4, h5⟩ := h
  injection hv with e1 e2 e3
  subst e1 e2 e3
  obtain ⟨b, off, rfl, hlt, hat⟩ := h5.resolve_left (by omega)
  exact ⟨b, off, rfl, (hat j hj).below hb hlt⟩
def Mtc.few (m : Mtc) : Bool := decide (m.nrs.length ≤ 60) && decide (m.cnd.size ≤ 100)
def Typ.few (t : Typ) : Bool := decide (t.rules.length ≤ 30) && t.rules.all Mtc.few
theorem few_yes (l : List Mtc) (n : Nat) (hn : l.length = n) (h : ∀ i, i < n → (l.getD i mtcZ).few = true) : l.all Mtc.few = true := by
  rw [List.all_eq_true]
  intro m hm
  obtain ⟨i, hi, rfl⟩ := List.mem_iff_getElem.1 hm
  have := h i (by omega)
  rwa [show l.getD i mtcZ = l[i] by simp [List.getD, hi]] at this
theorem few_no (l : List Mtc) (n : Nat) (hn : l.length = n) (i : Nat) (hi : i < n) (h : (l.getD i mtcZ).few = false) : l.all Mtc.few = false := by
  have hi' : i < l.length := by omega
  rw [show l.getD i mtcZ = l[i] by simp [List.getD, hi']] at h
  rw [List.all_eq_false]
  exact ⟨_, List.getElem_mem hi', by rw [h]; decide⟩
set_option maxRecDepth 100000 in
set_option maxHeartbeats 2000000 in
theorem refFew18 (t : Typ) (v : Value) (w : World) (h : IsTyp w v t) :
    Calls Try.prog 13 #[v] w fun e w' => e = .returned (.bool t.few) ∧ Below w.heap.size w w' := by
  obtain ⟨ht1, ht2, k, rfl, hk⟩ := h
  obtain ⟨A, n, c, rfl, hl, hc1, hc2, _⟩ := id hk
  have hmt := fun u (hu : Below w.heap.size w u) j hj => typ_at2 hk hu j hj
  have hM := fun (cn : Cnd) (v : Value) (u : World) (h : IsCnd u v cn) => refMany_any cn v 100 u h (by omega) (by omega)
  have hnI : (n : Int) ≤ 9223372036854775807 := by omega
  have hfw : t.few = (decide (n ≤ 30) && t.rules.all Mtc.few) := by rw [← hl]; rfl
  have HYES := Lib.hid (few_yes t.rules n hl); have HNO := Lib.hid (few_no t.rules n hl)
  have hnw := heap_alloc_new w (.cells #[.int .u32 (t.arch : Nat), .int .u32 (t.dflt : Nat), .slice A n c] 25)
  have hw1 := (Below.refl w.heap.size w).alloc (Nat.le_refl _) (.cells #[.int .u32 (t.arch : Nat), .int .u32 (t.dflt : Nat), .slice A n c] 25)
  have HNW := Lib.hid hnw; have HW1 := Lib.hid hw1; have HMT := Lib.hid hmt; have HM := Lib.hid hM; have HFW := Lib.hid hfw
  clear hnw hw1 hmt hM hfw hl hk hc1 hc2 ht1 ht2
  generalize t.few = F at *
  by_cases h30 : n ≤ 30
  · have h30I : ¬ (30 : Int) < n := by omega
    have hF : F = t.rules.all Mtc.few := by rw [HFW.out, decide_eq_true h30]; rfl
    have HF := Lib.hid hF
    clear hF HFW
    go_enter Try.func13, Try.ntmps13
    go_upto_region 4 with fail
    go_loopw [12] (fun z wr => ∃ j : Nat, z = .int .i64 (j : Nat) ∧ j ≤ n ∧ (∀ i, i < j → (t.rules.getD i mtcZ).few = true) ∧ Below w.heap.size w wr) (fun z _ => n - (intOf z).toNat)
    case atStart => exact ⟨0, rfl, by omega, fun i hi => absurd hi (Nat.not_lt_zero i), HW1.out⟩
    case round =>
      obtain ⟨j, rfl, hj, hev, hwr⟩ := hrel
      have HEV := Lib.hid hev; have HWR := Lib.hid hwr
      clear hev hwr
      by_cases hlt : j < n
      · obtain ⟨b, off, rfl, hat⟩ := HMT.out wr HWR.out j hlt
        have hno := HNO.out j hlt
        obtain ⟨_, hbd, ka, kn, kc, ca, cn, cc, hu, hkc, e0, e1, e2, e3, e4, e5, e6, e7⟩ := hat.cell
        have hjI : (j : Int) < n := by omega
        have hkn : (t.rules.getD j mtcZ).nrs.length = kn := by obtain ⟨_, _, _, hv, h1, _⟩ := hu; injection hv with _ q2 _; rw [h1, q2]
        have hnext : (t.rules.getD j mtcZ).few = true → ∀ i, i < j + 1 → (t.rules.getD i mtcZ).few = true := fun h i hi => by
          by_cases e : i < j
          · exact HEV.out i e
          · obtain rfl : i = j := by omega
            exact h
        have hfe : (t.rules.getD j mtcZ).few = (decide (kn ≤ 60) && decide ((t.rules.getD j mtcZ).cnd.size ≤ 100)) := by rw [← hkn]; rfl
        rw [hfe] at hno hnext
        generalize t.rules.getD j mtcZ = m at *
        obtain ⟨nrs, cd, act⟩ := m
        simp only at hfe hno hnext hbd hkc e0 e1 e2 e3 e4 e5 e6 e7
        have hi : IsCnd wr (.agg #[.int .i64 cd.kind, .slice ca cn cc, .int .i64 cd.arg, .int .u64 (cd.mask : Nat), .string cd.sign, .int .u64 (cd.value : Nat)]) cd := ⟨hbd, _, rfl, hkc⟩
        obtain ⟨S, hS⟩ : ∃ S, cd.size = S := ⟨_, rfl⟩
        rw [hS] at hno hnext
        have HI := Lib.hid hi; have HNN := Lib.hid hno; have HNX := Lib.hid hnext; have HLT := Lib.hid hlt; have HS := Lib.hid hS
        clear hi hno hnext hat hbd hkc hu hlt HNO HEV hkn hfe hS
        obtain ⟨kind, kids, arg, mask, sign, value⟩ := cd
        simp only [Cnd.kind, Cnd.arg, Cnd.mask, Cnd.sign, Cnd.value] at HI e1 e3 e4 e5 e6
        go_upto_region 6 with fail
        have hn7 := heap_alloc_new wr (.cells #[.slice ka kn kc, .int .i64 kind, .slice ca cn cc, .int .i64 arg, .int .u64 (mask : Nat), .string sign, .int .u64 (value : Nat), .int .u32 (act : Nat)] 33)
        have hy7 := (Below.refl wr.heap.size wr).alloc (Nat.le_refl _) (.cells #[.slice ka kn kc, .int .i64 kind, .slice ca cn cc, .int .i64 arg, .int .u64 (mask : Nat), .string sign, .int .u64 (value : Nat), .int .u32 (act : Nat)] 33)
        generalize wr.alloc (.cells #[.slice ka kn kc, .int .i64 kind, .slice ca cn cc, .int .i64 arg, .int .u64 (mask : Nat), .string sign, .int .u64 (value : Nat), .int .u32 (act : Nat)] 33) = w7 at *
        have hb7 := HWR.out.trans (hy7.mono HWR.out.size)
        have hI7 := HI.out.below hy7
        generalize wr.heap.size = b7 at *
        have y0 := below_cell (Below.refl _ _) hn7 0 rfl
        have y1 := below_cell (Below.refl _ _) hn7 1 rfl
        have y2 := below_cell (Below.refl _ _) hn7 2 rfl
        have y3 := below_cell (Below.refl _ _) hn7 3 rfl
        have y4 := below_cell (Below.refl _ _) hn7 4 rfl
        have y5 := below_cell (Below.refl _ _) hn7 5 rfl
        have y6 := below_cell (Below.refl _ _) hn7 6 rfl
        have HB7 := Lib.hid hb7
        have hcall := HM.out _ _ _ hI7
        rw [HS.out] at hcall
        have HC := Lib.hid hcall
        clear hn7 hy7 hb7 hI7 hcall e0 e1 e2 e3 e4 e5 e6 e7 HI HWR HS
        by_cases h60 : kn ≤ 60
        · have h60I : ¬ (60 : Int) < kn := by omega
          have hd60 : decide (kn ≤ 60) = true := decide_eq_true h60
          rw [hd60] at HNN HNX
          clear h60 hd60
          go_wp2_with fail
          refine HC.out.mono ?_
          rintro e w8 ⟨rfl, hb8⟩
          have HB8 := Lib.hid (HB7.out.trans (hb8.mono HB7.out.size))
          clear y0 y1 y2 y3 y4 y5 y6 hb8
          by_cases hs : S ≤ 100
          · have hmin : ¬ (100 : Int) < ((min S (100 + 1) : Nat) : Int) := by omega
            have hn2 := HNX.out (by rw [decide_eq_true hs]; rfl)
            have HN2 := Lib.hid hn2
            clear hs hn2 HNX HNN
            generalize min S (100 + 1) = M at *
            go_wp2_with fail
            go_roundw
            case rel => exact ⟨j + 1, by go_num, by have := HLT.out; omega, HN2.out, HB8.out⟩
            case measure => have := HLT.out; simp [intOf]; omega
          · have hmin : (100 : Int) < ((min S (100 + 1) : Nat) : Int) := by omega
            have hn2 := HNN.out (by rw [decide_eq_false hs]; rfl)
            have HN2 := Lib.hid hn2
            clear hs hn2 HNX HNN
            generalize min S (100 + 1) = M at *
            go_wp2_with fail
            go_ret
            exact ⟨by rw [HF.out, HN2.out]; rfl, HB8.out⟩
        · have h60I : (60 : Int) < kn := by omega
          have hn2 := HNN.out (by rw [decide_eq_false h60]; rfl)
          have HN2 := Lib.hid hn2
          clear h60 hn2 HNX HNN
          go_wp2_with fail
          go_ret
          exact ⟨by rw [HF.out, HN2.out]; rfl, HB7.out⟩
      · obtain rfl : j = n := by omega
        have hy := HYES.out HEV.out
        have HY := Lib.hid hy
        clear hy HYES HNO HEV
        go_wp2_with fail
        go_ret
        exact ⟨by rw [HF.out, HY.out]; rfl, HWR.out⟩
  · have h30I : (30 : Int) < n := by omega
    have hF : F = false := by rw [HFW.out, decide_eq_false h30]; rfl
    subst hF
    clear h30 HFW HYES HNO
    go_enter Try.func13, Try.ntmps13
    go_wp2_with fail
    go_ret
    exact ⟨rfl, HW1.out⟩
end SRfFew
section SMt1
open Go.RowKit Go.ChangeShapes
set_option linter.unusedVariables false

/-- a rule's eight cells, its two slices being these -/
def Mtc.cells (m : Mtc) (ks k : Value) : List Value := ks :: (m.cnd.cells k ++ [.int .u32 (m.act : Nat)])
theorem Mtc.cells_len (m : Mtc) (ks k : Value) : (m.cells ks k).length = 8 := rfl
theorem mtcAt_iff (w : World) (m : Mtc) (b o : Nat) : MtcAt w m b o ↔ m.act ≤ 4294967295 ∧ m.cnd.bounded ∧ ∃ ks k, (∀ j u, (m.cells ks k)[j]? = some u → w.cell? ⟨b, o + j, none⟩ = some u) ∧ IsU32s w ks m.nrs ∧ IsCnds w k m.cnd.kids := by
  constructor
  · rintro ⟨ks, h1, h2, h3, h4, h5⟩
    obtain ⟨hb, k, hc, hk⟩ := (cndAt_iff _ _ _ _).1 h3
    refine ⟨h5, hb, ks, k, fun j u hj => ?_, h2, hk⟩
    unfold Mtc.cells at hj
    cases j with
    | zero => rw [List.getElem?_cons_zero] at hj; rw [← hj]; exact h1
    | succ j =>
      rw [List.getElem?_cons_succ] at hj
      by_cases h6 : j < 6
      · rw [List.getElem?_append_left (by simpa [Cnd.cells] using h6)] at hj
        have := hc j u hj
        rwa [show o + (j + 1) = o + 1 + j by omega]
      · have h7 : j = 6 := by
          have := (List.getElem?_eq_some_iff.1 hj).1
          simp [Cnd.cells] at this
          omega
        subst h7
        simp [Cnd.cells] at hj
        rw [← hj]; exact h4
  · rintro ⟨h5, hb, ks, k, hc, h2, hk⟩
    refine ⟨ks, hc 0 _ rfl, h2, (cndAt_iff _ _ _ _).2 ⟨hb, k, fun j u hj => ?_, hk⟩, hc 7 _ rfl, h5⟩
    have h6 : j < 6 := by have := (List.getElem?_eq_some_iff.1 hj).1; simpa [Cnd.cells] using this
    have := hc (j + 1) u (by unfold Mtc.cells; rw [List.getElem?_cons_succ, List.getElem?_append_left (by simpa [Cnd.cells] using h6)]; exact hj)
    rwa [show o + 1 + j = o + (j + 1) by omega]
/-- the cells of a row of rules, each with its two slices -/
def mtcsCells (l : List Mtc) (vs : List (Value × Value)) : List Value := (l.zip vs).flatMap fun p => p.1.cells p.2.1 p.2.2
theorem mtcsCells_len (l : List Mtc) (vs : List (Value × Value)) (h : vs.length = l.length) : (mtcsCells l vs).length = l.length * 8 := by
  induction l generalizing vs with
  | nil => rfl
  | cons m l ih =>
    cases vs with
    | nil => simp at h
    | cons v vs =>
      have := ih vs (by simpa using h)
      unfold mtcsCells at this ⊢
      rw [List.zip_cons_cons, List.flatMap_cons, List.length_append, this, Mtc.cells_len, List.length_cons]
      omega
theorem mtcsCells_get (l : List Mtc) (vs : List (Value × Value)) (h : vs.length = l.length) (i : Nat) (hi : i < l.length) (j : Nat) (hj : j < 8) : (mtcsCells l vs)[i * 8 + j]? = ((l.getD i mtcZ).cells (vs.getD i (undef, undef)).1 (vs.getD i (undef, undef)).2)[j]? := by
  induction l generalizing vs i with
  | nil => simp at hi
  | cons m l ih =>
    cases vs with
    | nil => simp at h
    | cons v vs =>
      unfold mtcsCells
      rw [List.zip_cons_cons, List.flatMap_cons]
      cases i with
      | zero =>
        rw [Nat.zero_mul, Nat.zero_add, List.getElem?_append_left (by rw [Mtc.cells_len]; exact hj), List.getD_cons_zero, List.getD_cons_zero]
      | succ i =>
        rw [List.getElem?_append_right (by rw [Mtc.cells_len]; omega), Mtc.cells_len, show (i + 1) * 8 + j - 8 = i * 8 + j by omega, List.getD_cons_succ, List.getD_cons_succ]
        exact ih vs (by simpa using h) i (by simpa using hi)
/-- what the two slices of each rule read as -/
def VsOk (w : World) (l : List Mtc) (vs : List (Value × Value)) : Prop := vs.length = l.length ∧ ∀ i, i < l.length → (l.getD i mtcZ).act ≤ 4294967295 ∧ (l.getD i mtcZ).cnd.bounded ∧ IsU32s w (vs.getD i (undef, undef)).1 (l.getD i mtcZ).nrs ∧ IsCnds w (vs.getD i (undef, undef)).2 (l.getD i mtcZ).cnd.kids
theorem VsOk.below {w w' : World} {l : List Mtc} {vs : List (Value × Value)} (h : VsOk w l vs) (hb : Below w.heap.size w w') : VsOk w' l vs :=
  ⟨h.1, fun i hi => ⟨(h.2 i hi).1, (h.2 i hi).2.1, (h.2 i hi).2.2.1.below hb, (h.2 i hi).2.2.2.below hb⟩⟩
theorem mtcs_vs {w : World} {A : Option Addr} {n c : Nat} {l : List Mtc} (h : IsMtcs w (.slice A n c) l) : ∃ vs, VsOk w l vs ∧ ((A = none ∧ n = 0 ∧ c = 0 ∧ mtcsCells l vs = []) ∨ ∃ ad, A = some ad ∧ ∀ j u, (mtcsCells l vs)[j]? = some u → w.cell? (ad.add j) = some u) := by
  obtain ⟨_, _, _, hv, h1, h2, h3, h4, h5⟩ := h
  injection hv with e1 e2 e3
  subst e1 e2 e3
  rcases h5 with h0 | ⟨b, off, rfl, hlt, hat⟩
  · have hnil : l = [] := List.eq_nil_of_length_eq_zero (by omega)
    subst hnil
    refine ⟨[], ⟨rfl, fun i hi => absurd hi (by simp)⟩, ?_⟩
    cases A with
    | none => exact .inl ⟨rfl, h0, h4 rfl, rfl⟩
    | some ad => exact .inr ⟨ad, rfl, fun j u hj => by simp [mtcsCells] at hj⟩
  · obtain ⟨vs, hvl, hvs⟩ := list_of (P := fun i (v : Value × Value) => (∀ j u, ((l.getD i mtcZ).cells v.1 v.2)[j]? = some u → w.cell? ⟨b, off + i * 8 + j, none⟩ = some u) ∧ (l.getD i mtcZ).act ≤ 4294967295 ∧ (l.getD i mtcZ).cnd.bounded ∧ IsU32s w v.1 (l.getD i mtcZ).nrs ∧ IsCnds w v.2 (l.getD i mtcZ).cnd.kids) (undef, undef) n fun i hi => by
      obtain ⟨g1, g2, ks, k, g3, g4, g5⟩ := (mtcAt_iff _ _ _ _).1 (hat i hi)
      exact ⟨(ks, k), g3, g1, g2, g4, g5⟩
    refine ⟨vs, ⟨by omega, fun i hi => (hvs i (by omega)).2⟩, .inr ⟨_, rfl, fun j u hj => ?_⟩⟩
    have hjl : j < n * 8 := by
      have := (List.getElem?_eq_some_iff.1 hj).1
      rw [mtcsCells_len l vs (by omega), h1] at this
      exact this
    have hd : j = j / 8 * 8 + j % 8 := by omega
    rw [hd, mtcsCells_get l vs (by omega) (j / 8) (by omega) (j % 8) (by omega)] at hj
    have := (hvs (j / 8) (by omega)).1 _ _ hj
    rw [addr_add]
    rwa [show off + j = off + j / 8 * 8 + j % 8 by omega]
theorem mtcsCells_one (l : List Mtc) (vs : List (Value × Value)) {w : World} (h : VsOk w l vs) : ∀ u ∈ mtcsCells l vs, u.oneCell' = true := by
  intro u hu
  obtain ⟨p, hp, hu⟩ := List.mem_flatMap.1 hu
  obtain ⟨i, hi, e⟩ := List.mem_iff_getElem.1 hp
  rw [List.length_zip] at hi
  rw [List.getElem_zip] at e
  have h0 := h.2 i (by omega)
  have e1 : l.getD i mtcZ = p.1 := by rw [← e]; simp [List.getD, show i < l.length by omega]
  have e2 : vs.getD i (undef, undef) = p.2 := by rw [← e]; simp [List.getD, show i < vs.length by omega]
  rw [e1, e2] at h0
  obtain ⟨_, _, ⟨a1, n1, c1, q1, _⟩, q2⟩ := h0
  obtain ⟨a2, n2, c2, q2, _⟩ := id q2
  unfold Mtc.cells Cnd.cells at hu
  rw [q1, q2] at hu
  simp only [List.mem_cons, List.mem_append, List.not_mem_nil, or_false] at hu
  rcases hu with rfl | (rfl | rfl | rfl | rfl | rfl | rfl) | rfl <;> rfl
theorem mtcsCells_app (l1 l2 : List Mtc) (v1 v2 : List (Value × Value)) (h : v1.length = l1.length) : mtcsCells (l1 ++ l2) (v1 ++ v2) = mtcsCells l1 v1 ++ mtcsCells l2 v2 := by
  unfold mtcsCells
  rw [List.zip_append h.symm, List.flatMap_append]
theorem VsOk.app {w : World} {l1 l2 : List Mtc} {v1 v2 : List (Value × Value)} (h1 : VsOk w l1 v1) (h2 : VsOk w l2 v2) : VsOk w (l1 ++ l2) (v1 ++ v2) := by
  refine ⟨by rw [List.length_append, List.length_append, h1.1, h2.1], fun i hi => ?_⟩
  have := h1.1
  by_cases h : i < l1.length
  · have e1 : (l1 ++ l2).getD i mtcZ = l1.getD i mtcZ := by simp [List.getD, List.getElem?_append, h]
    have e2 : (v1 ++ v2).getD i (undef, undef) = v1.getD i (undef, undef) := by simp [List.getD, List.getElem?_append, show i < v1.length by omega]
    rw [e1, e2]
    exact h1.2 i h
  · have e1 : (l1 ++ l2).getD i mtcZ = l2.getD (i - l1.length) mtcZ := by simp [List.getD, List.getElem?_append, h]
    have e2 : (v1 ++ v2).getD i (undef, undef) = v2.getD (i - l1.length) (undef, undef) := by simp [List.getD, List.getElem?_append, h, this]
    rw [e1, e2]
    rw [List.length_append] at hi
    exact h2.2 _ (by omega)
/-- a row of the call's own reads as its rules -/
theorem own_mtcs {w : World} {base : Nat} {v : Value} {l : List Mtc} {vs : List (Value × Value)} {n : Nat} (h : w.ownsRow base 33 8 v n (mtcsCells l vs)) (hn : n = l.length) (hv : VsOk w l vs) : IsMtcs w v l := by
  subst hn
  rcases h.2 with ⟨rfl, h0⟩ | ⟨g, cap, cur, rfl, hg, hh, hn, hc, hcs, htake⟩
  · exact ⟨none, 0, 0, rfl, h0, by omega, by omega, fun _ => rfl, .inl rfl⟩
  · refine ⟨_, _, cap, rfl, rfl, hn, by unfold maxLen at hc; exact hc, (fun e => by cases e), ?_⟩
    by_cases h0 : l.length = 0
    · exact .inl h0
    · refine .inr ⟨g, 0, rfl, lt_of_block hh, fun i hi => (mtcAt_iff _ _ _ _).2 ⟨(hv.2 i hi).1, (hv.2 i hi).2.1, _, _, fun j u hj => ?_, (hv.2 i hi).2.2.1, (hv.2 i hi).2.2.2⟩⟩
      have hj8 : j < 8 := by have := (List.getElem?_eq_some_iff.1 hj).1; rwa [Mtc.cells_len] at this
      have := h.cells (g := g) rfl (i * 8 + j) u (by rw [mtcsCells_get l vs hv.1 i hi j hj8]; exact hj)
      rw [addr_add] at this
      rwa [show 0 + i * 8 + j = 0 + (i * 8 + j) by omega]
end SMt1
section SRef01Bytes
open Go.RowKit
set_option linter.unusedVariables false
theorem infoU8r : (Try.prog.info? 5).map (fun i => (i.zero, i.size, i.bytes)) = some (some (.int .u8 0), 1, 1) := by kernel_rfl

theorem div256 (n j : Nat) : ((n / 256 ^ j : Nat) : Int) / 256 = ((n / 256 ^ (j + 1) : Nat) : Int) := by
  rw [Nat.pow_succ, ← Nat.div_div_eq_div_mul]; simp
theorem mod256 (m : Nat) : ((m : Int) % 256) = ((UInt8.ofNat (m % 256)).toNat : Int) := by
  rw [u8_mod]; simp

set_option maxHeartbeats 400000 in
theorem refBytes_any (n : Nat) (k : Nat) (w : World) (h1 : n < 18446744073709551616) (hk : k ≤ 1000) :
    Calls Try.prog 35 #[.int .u64 n, .int .i64 k] w fun e w' => e = .returned (.tuple #[.string ⟨(putL n k).toArray⟩, .int .u64 (n / 256 ^ k : Nat)]) ∧ Below w.heap.size w w' := by
  obtain ⟨i0, hi, hz0, hz1, hz2⟩ := info_parts infoU8r
  go_enter Try.func35, Try.ntmps35
  go_wp2
  go_loopw [6, 0, 7] (fun b m c wr => ∃ j : Nat, j ≤ k ∧ c = .int .i64 j ∧ m = .int .u64 (n / 256 ^ j : Nat) ∧ wr.ownsRow w.heap.size 5 1 b j ((putL n j).map fun x => .int .u8 x.toNat) ∧ Below w.heap.size w wr) (fun _ _ c _ => k - (intOf c).toNat)
  case atStart => exact ⟨0, by omega, rfl, by simp, World.ownsRow_made w #[] 0 (Nat.le_refl _) (by unfold maxLen; omega) rfl, (Below.refl _ _).alloc (Nat.le_refl _) _⟩
  case round =>
    obtain ⟨j, hj, rfl, rfl, hown, hbel⟩ := hrel
    by_cases hlt : j < k
    · have hsz := hbel.size
      have hm : n / 256 ^ j < 18446744073709551616 := Nat.lt_of_le_of_lt (Nat.div_le_self _ _) h1
      have hmI : ((n / 256 ^ j : Nat) : Int) ≤ 18446744073709551615 := by omega
      have HD := Lib.hid (div256 n j)
      have HM := Lib.hid (mod256 (n / 256 ^ j))
      have HS := Lib.hid (putL_snoc n j)
      clear hm
      generalize hq : n / 256 ^ j = q at *
      clear hq h1
      go_wp2_with (first | (at_builtin; go_must (refine wpList_push _ _ 85 5 hown hbel (Nat.le_refl _) Try.underlying85 hi hz0 hz1 hz2 rfl (by decide) rfl rfl rfl rfl rfl ?c1 ?c2 ?_)))
      case c1 => intro u hu; rw [List.mem_singleton.1 hu]; rfl
      case c2 => omega
      intro v' w1 hown1 hbel1
      clear hown hbel
      go_wp2
      go_roundw
      case rel =>
        refine ⟨j + 1, by omega, by go_num, by rw [HD.out], ?_, hbel1⟩
        rw [HS.out, List.map_append, List.map_cons, List.map_nil, ← HM.out]
        exact hown1
      case measure => simp [intOf]; omega
    · obtain rfl : j = k := by omega
      have hcv := own_string (P := Try.prog) (src := 85) (dst := 9) (putL n j) hown Try.underlying85 Try.underlying5 Try.underlying9
      clear hown
      go_wp2
      go_ret2
      exact ⟨rfl, hbel⟩
end SRef01Bytes
section SRPack
open Go.RowKit
set_option linter.unusedVariables false

theorem refBytes_4 (n : Nat) (w : World) (h : n ≤ 4294967295) : Calls Try.prog 35 #[.int .u64 n, .int .i64 4] w fun e w' => e = .returned (.tuple #[.string (numS n 4), .int .u64 (n / 256 ^ 4 : Nat)]) ∧ Below w.heap.size w w' :=
  refBytes_any n 4 w (by omega) (by omega)
theorem refBytes_8 (n : Nat) (w : World) (h : n ≤ 18446744073709551615) : Calls Try.prog 35 #[.int .u64 n, .int .i64 8] w fun e w' => e = .returned (.tuple #[.string (numS n 8), .int .u64 (n / 256 ^ 8 : Nat)]) ∧ Below w.heap.size w w' :=
  refBytes_any n 8 w (by omega) (by omega)

set_option maxRecDepth 100000 in
set_option maxHeartbeats 1000000 in
theorem refPack_any (c : Cal) (w : World) (hc : c.ok) :
    Calls Try.prog 16 #[c.value] w fun e w' => e = .returned (.string (c.recB 6)) ∧ Below w.heap.size w w' := by
  obtain ⟨h1, h2, h3, h4, h5⟩ := hc
  obtain ⟨nr, arch, ip, args⟩ := c
  dsimp only at h1 h2 h3 h4 h5
  obtain ⟨a0, a1, a2, a3, a4, a5, rfl⟩ : ∃ a0 a1 a2 a3 a4 a5, args = [a0, a1, a2, a3, a4, a5] := by
    match args, h4 with
    | [a0, a1, a2, a3, a4, a5], _ => exact ⟨a0, a1, a2, a3, a4, a5, rfl⟩
  have H5 := Lib.hid h5
  clear h4 h5
  have hrec := Cal.recB_snoc ⟨nr, arch, ip, [a0, a1, a2, a3, a4, a5]⟩
  have hrsz := Cal.recB_size ⟨nr, arch, ip, [a0, a1, a2, a3, a4, a5]⟩
  have HR := Lib.hid hrec; have HZ := Lib.hid hrsz
  clear hrec hrsz
  obtain ⟨S2, e2⟩ : ∃ S2, S2 = numS nr 4 ++ numS arch 4 := ⟨_, rfl⟩
  have z2 : S2.size = 8 := by rw [e2, ByteArray.size_append, numS_size, numS_size]
  have ha2 := fun u => add_run (P := Try.prog) (numS nr 4) (numS arch 4) S2 e2 (by rw [numS_size, numS_size]; omega) u
  have hS3 : Cal.recB ⟨nr, arch, ip, [a0, a1, a2, a3, a4, a5]⟩ 0 = S2 ++ numS ip 8 := by
    apply ba_ext
    rw [ba_append_list, e2, ba_append_list, Cal.recB_list, numS_list, numS_list, numS_list]
    simp [argsL]
  have ha3 := fun u => add_run (P := Try.prog) S2 (numS ip 8) _ hS3 (by rw [z2, numS_size]; omega) u
  clear e2 z2 hS3
  show Calls _ _ #[.agg #[.int .u32 nr, .int .u32 arch, .int .u64 ip, .int .u64 a0, .int .u64 a1, .int .u64 a2, .int .u64 a3, .int .u64 a4, .int .u64 a5]] _ _
  generalize hQ : Cal.mk nr arch ip [a0, a1, a2, a3, a4, a5] = c at *
  have HQ := Lib.hid hQ
  clear hQ
  have nI : (nr : Int) ≤ 4294967295 := by omega
  have aI : (arch : Int) ≤ 4294967295 := by omega
  have iI : (ip : Int) ≤ 18446744073709551615 := by omega
  have HN := Lib.hid (fun u => refBytes_4 nr u h1)
  have HA := Lib.hid (fun u => refBytes_4 arch u h2)
  have HI := Lib.hid (fun u => refBytes_8 ip u h3)
  clear h1 h2 h3
  go_enter Try.func16, Try.ntmps16
  go_wp2_with fail
  generalize hW : w.alloc (.cells #[.int .u32 nr, .int .u32 arch, .int .u64 ip, .int .u64 a0, .int .u64 a1, .int .u64 a2, .int .u64 a3, .int .u64 a4, .int .u64 a5] 39) = W
  have hblk : W.heap[w.heap.size]? = some (.cells #[.int .u32 nr, .int .u32 arch, .int .u64 ip, .int .u64 a0, .int .u64 a1, .int .u64 a2, .int .u64 a3, .int .u64 a4, .int .u64 a5] 39 (0, 0)) := by rw [← hW]; exact heap_alloc_new w _
  have hbel : Below w.heap.size w W := by rw [← hW]; exact (Below.refl _ _).alloc (Nat.le_refl _) _
  clear hW
  have HB := Lib.hid hblk
  clear hblk
  refine (HN.out _).mono ?_
  rintro e w1 ⟨rfl, hz1⟩
  have p1 := below_cell (v := .int .u32 (arch : Nat)) hz1 HB.out 1 rfl
  go_wp2_with fail
  refine (keep hz1 (HA.out _)).mono ?_
  rintro e w2 ⟨rfl, hz2⟩
  clear p1 hz1
  have p2 := below_cell (v := .int .u64 (ip : Nat)) hz2 HB.out 2 rfl
  go_wp2_with fail
  refine (keep hz2 (HI.out _)).mono ?_
  rintro e w3 ⟨rfl, hz3⟩
  clear p2 hz2
  go_wp2_with fail
  clear ha2 ha3 HN HA HI nI aI iI
  go_loopw [9, 10] (fun s k wr => ∃ i : Nat, i ≤ 6 ∧ k = .int .i64 i ∧ s = .string (c.recB i) ∧ Below W.heap.size W wr) (fun _ k _ => 6 - (intOf k).toNat)
  case atStart => exact ⟨0, by omega, rfl, rfl, hz3⟩
  case round =>
    clear hz3
    obtain ⟨i, hi, rfl, rfl, hwr⟩ := hrel
    by_cases hlt : i < 6
    · obtain ⟨x, ex⟩ : ∃ x, x = [a0, a1, a2, a3, a4, a5].getD i 0 := ⟨_, rfl⟩
      have hcell : wr.cell? ⟨w.heap.size, 3 + i, none⟩ = some (.int .u64 (x : Nat)) := by
        refine below_cell hwr HB.out (3 + i) ?_
        rw [ex]
        have hcs : i = 0 ∨ i = 1 ∨ i = 2 ∨ i = 3 ∨ i = 4 ∨ i = 5 := by omega
        rcases hcs with rfl | rfl | rfl | rfl | rfl | rfl <;> rfl
      have hxb : x ≤ 18446744073709551615 := by
        have hg : [a0, a1, a2, a3, a4, a5].getD i 0 = [a0, a1, a2, a3, a4, a5][i]'(by simpa using hlt) := by simp [List.getD, hlt]
        rw [ex, hg]
        exact H5.out _ (List.getElem_mem _)
      have hsn : c.recB (i + 1) = c.recB i ++ numS x 8 := by
        rw [HR.out i (by rw [← HQ.out]; exact hlt), ← HQ.out, ex]
      have hz1 : (c.recB i).size = 16 + 8 * i := HZ.out i (by rw [← HQ.out]; exact hi)
      have hadd := fun u => add_run (P := Try.prog) (c.recB i) (numS x 8) _ hsn (by rw [numS_size, hz1]; omega) u
      have HE := Lib.hid ex
      have HXB := Lib.hid hxb
      clear ex hsn hz1 hxb
      go_wp2_with fail
      refine (keep hwr (refBytes_8 x wr HXB.out)).mono ?_
      rintro e w4 ⟨rfl, hb1⟩
      go_wp2_with fail
      go_roundw
      case rel => exact ⟨i + 1, by omega, by go_num, rfl, hb1⟩
      case measure => simp [intOf]; omega
    · have h6 : i = 6 := by omega
      subst h6
      go_wp2_with fail
      go_ret
      exact ⟨rfl, hbel.trans (hwr.mono hbel.size)⟩
end SRPack
end Go.Proofs.Ytcejhfpdajbdcaa
