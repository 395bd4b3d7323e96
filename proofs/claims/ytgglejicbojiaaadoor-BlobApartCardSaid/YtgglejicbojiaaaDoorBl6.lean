/- Two blobs one behind the other: plain facts. -/
import Derived.Test.YtgglejicbojiaaaDoorBl3
namespace Go.Proofs.YtgglejicbojiaaaDoor
open Go.RowKit
set_option linter.unusedVariables false

theorem new90 : (newL 90).length = 90 ∧ rightB (newL 90) = true ∧ freeN (newL 90) = 36 := by decide +kernel
theorem got90 : ∀ M : Fin 11, (tk (newL 90) M.val 90).2 = (List.range M.val).map (· + 54) := by decide +kernel
theorem row90 : ∀ M : Fin 11, ∀ i : Fin 11, i.val < M.val → (rowT (newL 90) M.val)[54 + i.val]? = some true := by decide +kernel
theorem need_few (d : ByteArray) (h : d.size ≤ 2500) : 1 ≤ needN d.size ∧ needN d.size ≤ 5 := by unfold needN; omega
/-- what Lay answers where there is room -/
theorem lay_room (l : List Bool) (d : ByteArray) (h1 : needN d.size ≤ 40) (hr : rightB l = true) (hf : needN d.size ≤ freeN l) : layE l d = 0 ∧ layT l d = (rowT l (needN d.size), (tk l (needN d.size) l.length).2) := by
  have e0 : takeE l (needN d.size : Nat) = 0 := by unfold takeE; rw [if_pos ⟨hr, by omega⟩, if_neg (by omega)]
  have e1 : layE l d = 0 := by unfold layE; rw [if_neg (by omega)]; exact e0
  exact ⟨e1, by rw [(layT_ok l d e1).1]; rfl⟩
structure Apart (a b : ByteArray) (na nb : Nat) (g1 g2 : List Nat) (row1 row2 : List Bool) : Prop where
  e1 : layE (newL 90) a = 0
  t1 : layT (newL 90) a = (row1, g1)
  e2 : layE row1 b = 0
  t2 : layT row1 b = (row2, g2)
  l1 : g1.length = na
  l2 : g2.length = nb
  all : g1 ++ g2 = (List.range (na + nb)).map (· + 54)
  len : row2.length = 90
  at' : ∀ i, i < na + nb → row2[54 + i]? = some true
  free : freeN row2 = 36 - na - nb
  one : 1 ≤ na ∧ na ≤ 5 ∧ 1 ≤ nb ∧ nb ≤ 5
theorem apart_of (a b : ByteArray) (ha : a.size ≤ 2500) (hb : b.size ≤ 2500) : ∃ g1 g2 row1 row2, Apart a b (needN a.size) (needN b.size) g1 g2 row1 row2 := by
  obtain ⟨a1, a2⟩ := need_few a ha
  obtain ⟨b1, b2⟩ := need_few b hb
  obtain ⟨n1, n2, n3⟩ := new90
  obtain ⟨e1, t1⟩ := lay_room (newL 90) a (by omega) n2 (by rw [n3]; omega)
  have r1 := rowT_right (newL 90) (needN a.size) n2
  have f1 := rowT_free_all (newL 90) (needN a.size)
  have k1 := rowT_len (newL 90) (needN a.size)
  obtain ⟨e2, t2⟩ := lay_room (rowT (newL 90) (needN a.size)) b (by omega) r1 (by rw [f1, n3]; omega)
  have k2 := rowT_len (rowT (newL 90) (needN a.size)) (needN b.size)
  have f2 := rowT_free_all (rowT (newL 90) (needN a.size)) (needN b.size)
  have tw := rowT_twice (newL 90) (needN a.size) (needN b.size)
  have gt := got_twice (newL 90) (needN a.size) (needN b.size) 90 (by rw [n1]; exact Nat.le_refl _)
  refine ⟨_, _, _, _, e1, t1, e2, t2, ?_, ?_, ?_, by rw [k2, k1, n1], ?_, by rw [f2, f1, n3], a1, a2, b1, b2⟩
  · have h := (layT_ok _ _ e1).2.1
    simp only [t1] at h
    exact h
  · have h := (layT_ok _ _ e2).2.1
    simp only [t2] at h
    exact h
  · rw [k1, n1, gt]
    have hs : needN a.size + needN b.size < 11 := by omega
    generalize needN a.size + needN b.size = M at *
    exact got90 ⟨M, hs⟩
  · intro i hi
    rw [tw]
    have hs : needN a.size + needN b.size < 11 := by omega
    generalize needN a.size + needN b.size = M at *
    exact row90 ⟨M, hs⟩ ⟨i, Nat.lt_trans hi hs⟩ hi
theorem apart_wr {a b : ByteArray} {na nb : Nat} {g1 g2 : List Nat} {row1 row2 : List Bool} (h : Apart a b na nb g1 g2 row1 row2) : (wrtsL g1 a ++ wrtsL g2 b).length = na + nb ∧
    ∀ i, i < na + nb → ((wrtsL g1 a ++ wrtsL g2 b).getD i wrtZ).sector = ((54 + i : Nat) : Int) ∧ ((wrtsL g1 a ++ wrtsL g2 b).getD i wrtZ).bytes.size ≤ 504 := by
  have z1 : (wrtsL g1 a).length = na := by unfold wrtsL; simp [h.l1]
  have z2 : (wrtsL g2 b).length = nb := by unfold wrtsL; simp [h.l2]
  refine ⟨by rw [List.length_append, z1, z2], fun i hi => ?_⟩
  have hg : (g1 ++ g2)[i]? = some (54 + i) := by rw [h.all]; simp [hi]; omega
  by_cases hlt : i < na
  · rw [List.getElem?_append_left (by rw [h.l1]; exact hlt)] at hg
    have e : (wrtsL g1 a ++ wrtsL g2 b).getD i wrtZ = layW g1 a i := by
      rw [List.getD_eq_getElem?_getD, List.getElem?_append_left (by rw [z1]; exact hlt)]
      unfold wrtsL; simp [h.l1, hlt]
    rw [e]
    refine ⟨?_, secS_size _ _ (partS_size _ _)⟩
    show ((g1.getD i 0 : Nat) : Int) = _
    rw [List.getD_eq_getElem?_getD, hg]; rfl
  · rw [List.getElem?_append_right (by rw [h.l1]; omega), h.l1] at hg
    have e : (wrtsL g1 a ++ wrtsL g2 b).getD i wrtZ = layW g2 b (i - na) := by
      rw [List.getD_eq_getElem?_getD, List.getElem?_append_right (by rw [z1]; omega), z1]
      unfold wrtsL; simp [h.l2, show i - na < nb from by omega]
    rw [e]
    refine ⟨?_, secS_size _ _ (partS_size _ _)⟩
    show ((g2.getD (i - na) 0 : Nat) : Int) = _
    rw [List.getD_eq_getElem?_getD, hg]; rfl
theorem apart_heads {a b : ByteArray} {na nb : Nat} {g1 g2 : List Nat} {row1 row2 : List Bool} (h : Apart a b na nb g1 g2 row1 row2) : g1.getD 0 0 = 54 ∧ g2.getD 0 0 = 54 + na := by
  have h0 : (g1 ++ g2)[0]? = some 54 := by rw [h.all]; have := h.one; rw [List.getElem?_map, List.getElem?_range (by omega)]; rfl
  have h1 : (g1 ++ g2)[na]? = some (54 + na) := by rw [h.all]; have := h.one; rw [List.getElem?_map, List.getElem?_range (by omega)]; exact congrArg some (Nat.add_comm _ _)
  rw [List.getElem?_append_left (by have := h.one; rw [h.l1]; omega)] at h0
  rw [List.getElem?_append_right (by rw [h.l1]; exact Nat.le_refl _), h.l1, Nat.sub_self] at h1
  exact ⟨by rw [List.getD_eq_getElem?_getD, h0]; rfl, by rw [List.getD_eq_getElem?_getD, h1]; rfl⟩
/-- the sectors that were seen, k writes having been looked at -/
def seenL (k : Nat) : List Bool := (List.range 90).map fun j => decide (54 ≤ j ∧ j < 54 + k)
theorem seen_len (k : Nat) : (seenL k).length = 90 := by unfold seenL; simp
theorem seen_at (k : Nat) (h : k < 11) : (seenL k)[54 + k]? = some false := by
  unfold seenL; simp [show 54 + k < 90 from by omega]
theorem seen_set : ∀ k : Fin 11, (seenL k.val).set (54 + k.val) true = seenL (k.val + 1) := by decide +kernel
theorem seen_zero : seenL 0 = List.replicate 90 false := by decide +kernel
end Go.Proofs.YtgglejicbojiaaaDoor
