/- The walk of VmEnds. -/
import Derived.Test.YtpdaenpcgcjmjaaVmC
namespace Go.Proofs.Ytpdaenpcgcjmjaa.lawVmEnds
open Go.ChangeShapes Go.WideShapes Go.ChangeAt Go.RowKit Go.Joins Go.Deep
set_option linter.unusedVariables false

theorem openInsns {H : Type} {enc : TypeId × Value → H} {W : World} {base : Nat} {v : Value} {d : DataW H} {p : List MemPlace}
    (hok : Value.okWide Try.prog W .any base 22 v) (h : DataW.Trod enc Try.prog W 0 (fun _ => true) true 22 v d p) : ∃ l, IsIns W v l := openIns hok h
set_option maxRecDepth 100000 in
set_option maxHeartbeats 1000000 in
theorem walk (v0 : Value) (l0 : List Ins) (v1 : Value) (m0 : List Ins) (s0 : ByteArray) (w : World) (w0 : IsIns w v0 l0) (w1 : IsIns w v1 m0) (w2 : s0.size ≤ maxLen) :
    Calls Try.prog 4 #[v0, v1, .string s0] w fun e w' => e = .returned (.bool true) ∧ Below w.heap.size w w' := by
  obtain ⟨i0, hinf, hz0, hz1, hz2⟩ := info_parts infoInsn
  obtain ⟨a, len, cap, rfl, hlen, hc1, hc2, htk⟩ := w0.1.take
  obtain ⟨a', len', cap', rfl, hlen', hc1', hc2', htk'⟩ := w1.1.take
  obtain ⟨n, hn⟩ : ∃ n, min len 200 = n := ⟨_, rfl⟩
  obtain ⟨n', hn'⟩ : ∃ n, min len' 200 = n := ⟨_, rfl⟩
  have hn1 : n ≤ len := by omega
  have hn1' : n' ≤ len' := by omega
  have hl := htk n hn1
  have hl' := htk' n' hn1'
  have hcl := fun u (hu : Below w.heap.size w u) => cells_of (w0.below hu) n hn1
  have hcl' := fun u (hu : Below w.heap.size w u) => cells_of (w1.below hu) n' hn1'
  have hll : (l0.take n).length = n := by rw [List.length_take]; omega
  have hll' : (m0.take n').length = n' := by rw [List.length_take]; omega
  have hf1 := fun u => vmFew_at a len cap u hc1 hc2
  have hf2 := fun u => vmFew_at a' len' cap' u hc1' hc2'
  rw [hn] at hf1
  rw [hn'] at hf2
  have hnI : (n : Int) ≤ 200 := by omega
  have hnI' : (n' : Int) ≤ 200 := by omega
  have hncap : n ≤ cap := by omega
  generalize l0.take n = l at *
  generalize m0.take n' = l' at *
  have hlb : ∀ i ∈ l, i.bounded := by obtain ⟨_, _, _, _, _, _, _, h, _⟩ := hl; exact h
  have hlb' : ∀ i ∈ l', i.bounded := by obtain ⟨_, _, _, _, _, _, _, h, _⟩ := hl'; exact h
  have HL := Lib.hid hl; have HL' := Lib.hid hl'; have HC := Lib.hid hcl; have HC' := Lib.hid hcl'; have HLB := Lib.hid hlb; have HLB' := Lib.hid hlb'
  have HN := Lib.hid hll; have HN' := Lib.hid hll'; have HF1 := Lib.hid hf1; have HF2 := Lib.hid hf2
  have HB1 := Lib.hid hnI; have HB2 := Lib.hid hnI'
  clear hl hl' hcl hcl' htk htk' w0 w1 w2 hlen hlen' hll hll' hlb hlb' hn hn' hf1 hf2 hn1 hn1' hc1 hc1' hc2 hc2' hncap
  go_enter Try.func4, Try.ntmps4
  go_wp2_with fail
  refine (HF1.out _).mono ?_
  rintro e w1 ⟨rfl, rfl⟩
  go_wp2_with fail
  refine (HF2.out _).mono ?_
  rintro e w1 ⟨rfl, rfl⟩
  go_wp2_with fail
  refine (vmRecord_any s0 _).mono ?_
  rintro e w1 ⟨rfl, rfl⟩
  generalize recOf s0 = s
  go_wp2_with fail
  refine (vmRun_any l _ s _ HL.out (by have := HN.out; omega)).mono ?_
  rintro e w2 ⟨rfl, hw2⟩
  obtain ⟨A, N, E, hR⟩ : ∃ A N E, runR l s = (A, N, E) := ⟨_, _, _, rfl⟩
  have hfa := runR_facts l s
  have hex := runR_ext l l' s
  rw [hR] at hfa hex ⊢
  simp only at hfa hex
  have HEX := Lib.hid hex
  have HW2 := Lib.hid hw2
  clear hex hR hw2
  rcases hfa with ⟨hs, rfl, hN1, hN2⟩ | ⟨hs, hE⟩ | ⟨hs, hE⟩
  · have hr2 := HEX.out rfl
    have HR2 := Lib.hid hr2
    have hN2' : N ≤ n := by have := HN.out; omega
    clear hr2 HEX hN2
    have hw3 := HW2.out
    have hown0 : (w2.alloc (.cells #[] 35)).ownsRow w.heap.size 35 4 (.slice (some ⟨w2.heap.size, 0, none⟩) 0 0) 0 [] := World.ownsRow_made w2 #[] 0 hw3.size (by unfold maxLen; omega) rfl
    have hw4 := hw3.alloc hw3.size (.cells #[] 35)
    have hcA := HC.out _ hw4
    have hlen1 : (insCells l).length = n * 4 := by rw [insCells_len, HN.out]
    have hlen2 : (insCells l').length = n' * 4 := by rw [insCells_len, HN'.out]
    have HLN := Lib.hid hlen1; have HLN' := Lib.hid hlen2; have HOW := Lib.hid hown0; have HCA := Lib.hid hcA
    have hN2I : (N : Int) ≤ n := by omega
    have hN1I : (1 : Int) ≤ N := by omega
    clear hown0 hcA hlen1 hlen2 hw3 hN1 hN2'
    unfold resV at HR2 ⊢
    go_wp2_with (first | (at_builtin; go_must (refine wpList_extend _ _ 22 35 (insCells l) HOW.out hw4 (Nat.le_refl _) Try.underlying22 hinf hz0 hz1 hz2 rfl (by decide) rfl rfl rfl rfl HCA.out HLN.out (insCells_one l) ?c2 ?_)))
    case c2 => omega
    intro v4 w4 hown4 hb4
    have HOW4 := Lib.hid hown4; have HCB := Lib.hid (HC'.out _ hb4)
    clear hw4 HOW HCA hown4
    go_wp2_with (first | (at_builtin; go_must (refine wpList_extend _ _ 22 35 (insCells l') HOW4.out hb4 (Nat.le_refl _) Try.underlying22 hinf hz0 hz1 hz2 rfl (by decide) rfl rfl rfl rfl HCB.out HLN'.out (insCells_one l') ?c3 ?_)))
    case c3 => omega
    intro v5 w5 hown5 hw5
    have hO5 : OwnIns w5 w.heap.size v5 (l ++ l') := by
      unfold OwnIns
      rw [List.length_append, HN.out, HN'.out, insCells, List.flatMap_append]
      exact hown5
    have hlb5 : ∀ i ∈ l ++ l', i.bounded := fun i hi => by
      rcases List.mem_append.1 hi with hi | hi
      · exact HLB.out i hi
      · exact HLB'.out i hi
    have hRun5 := vmRun_any (l ++ l') _ s w5 (hO5.reads hlb5) (by rw [List.length_append, HN.out, HN'.out]; omega)
    rw [HR2.out] at hRun5
    have HRun5 := Lib.hid hRun5
    have HW5 := Lib.hid hw5
    clear hown5 hO5 HOW4 HCB hb4 hRun5 hw5
    go_wp2_with fail
    refine HRun5.out.mono ?_
    rintro e w6 ⟨rfl, hb6⟩
    have HW6 := Lib.hid (HW5.out.trans (hb6.mono HW5.out.size))
    clear hb6
    unfold resV
    go_wp2_with fail
    refine (vmAlive _).mono ?_
    rintro e w7 ⟨rfl, hb7⟩
    have HW7 := Lib.hid (HW6.out.trans (hb7.mono HW6.out.size))
    clear hb7
    go_wp2_with fail
    go_ret
    exact ⟨rfl, HW7.out⟩
  · injection hE with e1 e2; injection e2 with e2 e3; subst e1 e2 e3
    have hsI : (s.size : Int) = 64 := by omega
    unfold resV
    go_wp2_with fail
    refine (vmAlive _).mono ?_
    rintro e w5 ⟨rfl, hb5⟩
    have HW5 := Lib.hid (HW2.out.trans (hb5.mono HW2.out.size))
    clear hb5
    go_wp2_with fail
    go_ret
    exact ⟨rfl, HW5.out⟩
  · injection hE with e1 e2; injection e2 with e2 e3; subst e1 e2 e3
    have hsB : ((s.size : Int) == 64) = false := by rw [beq_eq_false_iff_ne]; omega
    unfold resV
    go_wp2_with fail
    refine (vmAlive _).mono ?_
    rintro e w5 ⟨rfl, hb5⟩
    have HW5 := Lib.hid (HW2.out.trans (hb5.mono HW2.out.size))
    clear hb5
    go_wp2_with fail
    go_ret
    exact ⟨rfl, HW5.out⟩
end Go.Proofs.Ytpdaenpcgcjmjaa.lawVmEnds
