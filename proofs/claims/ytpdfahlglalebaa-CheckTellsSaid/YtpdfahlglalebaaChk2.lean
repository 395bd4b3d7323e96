/- Which filters are well. -/
import Derived.Test.YtpdfahlglalebaaChk1
namespace Go.Proofs.Ytpdfahlglalebaa
open Go.RowKit Go.ChangeShapes
set_option linter.unusedVariables false

def landsB (l : List Ins) (at' : Nat) : Bool := (folL at' (l.getD at' insZ)).all fun t => decide (t < l.length)
def graphV (v : Value) : Value := .agg #[v, .func (.func 15) #[] #[]]
theorem fits_parts {i : Ins} (h : fitsB i = true) : insKnown i.code = true ∧ (0 ≤ i.jt ∧ i.jt ≤ 255 ∧ 0 ≤ i.jf ∧ i.jf ≤ 255) ∧ fitsK i = true := by
  unfold fitsB at h
  rw [Bool.and_eq_true, Bool.and_eq_true] at h
  exact ⟨h.1.1, of_decide_eq_true h.1.2, h.2⟩
theorem folL_le (at' : Nat) (i : Ins) (hat : at' ≤ 5000) (hk : 0 ≤ i.k ∧ i.k ≤ 4294967295) (ht : 0 ≤ i.jt ∧ i.jt ≤ 255 ∧ 0 ≤ i.jf ∧ i.jf ≤ 255) : ∀ t ∈ folL at' i, (at' : Int) + 1 ≤ t ∧ t ≤ 5000000000 := by
  intro t hm
  unfold folL at hm
  split at hm
  · cases hm
  · split at hm
    · simp at hm; omega
    · split at hm
      · simp at hm; omega
      · simp at hm; omega
theorem all_take (l : List Int) (p : Int → Bool) (j : Nat) (h : j < l.length) : (l.take (j + 1)).all p = ((l.take j).all p && p (l.getD j 0)) := by
  rw [List.take_succ_eq_append_getElem h, List.all_append]
  simp [List.getD, h]
theorem all_split (l : List Int) (p : Int → Bool) (j : Nat) (h : j < l.length) (hp : p (l.getD j 0) = false) : l.all p = false := by
  rw [List.all_eq_false]
  exact ⟨l[j], List.getElem_mem h, by simpa [List.getD, h] using hp⟩
set_option maxRecDepth 100000 in
set_option maxHeartbeats 1000000 in
theorem chkLands_any (l : List Ins) (v : Value) (at' : Nat) (w : World) (hl : IsInsns w v l) (hat : at' < l.length) (hN : l.length ≤ 4200) (hf : fitsB (l.getD at' insZ) = true) :
    Calls Try.prog 23 #[graphV v, .int .i64 (at' : Int)] w fun e w' => e = .returned (.bool (landsB l at')) ∧ Below w.heap.size w w' := by
  obtain ⟨a, len, cap, rfl, hlen, hcap, hcm, hbd, hat2⟩ := hl
  obtain ⟨b, off, rfl, hb, hat2⟩ := hat2.resolve_left (by omega)
  have hi := hat2 at' (by omega)
  have hbi : (l.getD at' insZ).bounded := by
    rw [List.getD_eq_getElem?_getD, List.getElem?_eq_getElem (by omega)]
    exact hbd _ (List.getElem_mem _)
  obtain ⟨hk, ht, _⟩ := fits_parts hf
  have hfol := fun u => chkFollowers_any at' (l.getD at' insZ) u hk hbi (by omega) ht
  have hle := folL_le at' (l.getD at' insZ) (by omega) hbi.2.2.2 ht
  obtain ⟨F, hF⟩ : ∃ F, landsB l at' = F := ⟨_, rfl⟩
  have hF' : (folL at' (l.getD at' insZ)).all (fun t => decide (t < len)) = F := by rw [← hF, ← hlen]; rfl
  rw [hF]
  clear hF hk ht hf hbd hat2
  generalize folL at' (l.getD at' insZ) = fl at *
  generalize l.getD at' insZ = i at *
  obtain ⟨c, jt, jf, k⟩ := i
  unfold Ins.value at hfol
  obtain ⟨c0, c1, c2, c3⟩ := hi
  dsimp only at hfol c0 c1 c2 c3
  have ca := fun (o : Obj) => (Below.refl _ w).alloc (Nat.le_refl _) o
  have hatI : (at' : Int) < len := by omega
  have hlenI : (len : Int) ≤ 4200 := by omega
  have d0 := fun o => ((ca o).cell (p := ⟨b, off + at' * 4, none⟩) hb).trans c0
  have d1 := fun o => ((ca o).cell (p := ⟨b, off + at' * 4 + 1, none⟩) hb).trans c1
  have d2 := fun o => ((ca o).cell (p := ⟨b, off + at' * 4 + 2, none⟩) hb).trans c2
  have d3 := fun o => ((ca o).cell (p := ⟨b, off + at' * 4 + 3, none⟩) hb).trans c3
  have HFOL := Lib.hid hfol; have HLE := Lib.hid hle; have HF := Lib.hid hF'
  clear hfol hle hF' hlen ca hbi
  unfold graphV
  go_enter Try.func23, Try.ntmps23
  go_upto_region 1 with fail
  have HB0 := Lib.hid ((Below.refl w.heap.size w).alloc (Nat.le_refl _) (Obj.cells #[Value.slice (some ⟨b, off, none⟩) len cap, Value.func (Fn.func 15) #[] #[]] 41))
  have HG := Lib.hid (heap_alloc_new w (Obj.cells #[Value.slice (some ⟨b, off, none⟩) len cap, Value.func (Fn.func 15) #[] #[]] 41))
  go_cut [15, 16, 17] (fun v n z wx => ∃ A m C, v = .slice A m C ∧ n = .int .i64 (m : Nat) ∧ z = .int .i64 0 ∧ Reads1 intV wx (.slice A m C) fl ∧ Below w.heap.size w wx ∧ wx.heap[w.heap.size]? = some (.cells #[Value.slice (some ⟨b, off, none⟩) len cap, Value.func (Fn.func 15) #[] #[]] 41 (0, 0)))
  case first =>
    go_region_with (refine (HFOL.out _).mono ?_; rintro e w1 ⟨⟨vf, rfl, A, n, C, rfl, hvf⟩, hb1⟩)
    all_goals
      go_wp2_with fail
      go_meet
      exact ⟨A, n, C, rfl, rfl, rfl, ⟨A, n, C, rfl, hvf⟩, HB0.out.drew.trans (hb1.mono HB0.out.drew.size), (hb1.block _ (lt_of_block HG.out)).trans HG.out⟩
  case rest =>
  obtain ⟨A, m, C, rfl, rfl, rfl, hfl, hw1, hg1⟩ := hcut
  obtain ⟨_, _, _, hv, hml, hmC, hC, hfa⟩ := hfl
  injection hv with e1 e2 e3
  subst e1 e2 e3
  have q0 := below_cell (Below.refl _ wc) hg1 0 rfl
  have HFA := Lib.hid hfa; have HW1 := Lib.hid hw1
  have hmI : (m : Int) ≤ 9223372036854775807 := by omega
  clear hfa hw1 hg1 HG HB0 HFOL d0 d1 d2 d3 c0 c1 c2 c3
  go_wp2_with fail
  go_loop [17] (fun z => ∃ j : Nat, z = .int .i64 j ∧ j ≤ m ∧ (fl.take j).all (fun t => decide (t < len)) = true) (fun z => m - (intOf z).toNat)
  case atStart => exact ⟨0, rfl, by omega, by simp⟩
  case round =>
    obtain ⟨j, rfl, hj, hall⟩ := hrel
    by_cases hlt : j < m
    · obtain ⟨b', off', rfl, hb', hat'⟩ := HFA.out.resolve_left (by omega)
      have hc := hat' j (by omega)
      have hmem := HLE.out fl[j] (List.getElem_mem (by omega))
      have hget : fl.getD j 0 = fl[j] := by simp [List.getD, show j < fl.length by omega]
      have htk := all_take fl (fun t => decide (t < len)) j (by omega)
      have hsp := all_split fl (fun t => decide (t < len)) j (by omega)
      rw [hget] at htk hsp
      rw [hall, Bool.true_and] at htk
      unfold intV at hc
      have HTK := Lib.hid htk; have HSP := Lib.hid hsp
      generalize fl[j] = t at *
      have hjI : (j : Int) < m := by omega
      clear htk hsp hall hget hat'
      obtain ⟨hm1, hm2⟩ := hmem
      by_cases htl : t < (len : Int)
      · go_wp2_with fail
        go_round
        case rel => exact ⟨j + 1, by go_num, by omega, by rw [HTK.out, decide_eq_true htl]⟩
        case measure => simp [intOf]; omega
      · have hF : F = false := by rw [← HF.out]; exact HSP.out (decide_eq_false htl)
        subst hF
        clear HF HTK HSP
        go_wp2_with fail
        go_ret
        exact ⟨rfl, HW1.out⟩
    · obtain rfl : j = m := by omega
      have hF : F = true := by rw [← HF.out, ← hall, List.take_of_length_le (by omega)]
      subst hF
      clear HF hall
      go_wp2_with fail
      go_ret
      exact ⟨rfl, HW1.out⟩
end Go.Proofs.Ytpdfahlglalebaa
