/- What follows of a crash. -/
import Derived.Test.YtimiooiaohfelaaDoorDiskC
import Derived.Test.YtimiooiaohfelaaDoorDiskRd
namespace Go.Proofs.YtimiooiaohfelaaDoor
open Go.RowKit
set_option linter.unusedVariables false

theorem right_secs (d : Dsk) (h : rightD d = true) : ∀ s ∈ d.secs, fitsB s = true := by
  unfold rightD at h
  simp only [Bool.and_eq_true] at h
  exact List.all_eq_true.1 h.1.2
theorem right_wrts (d : Dsk) (h : rightD d = true) (i : Nat) (hi : i < d.pend.length) : fitsB (d.pend.getD i wrtZ).bytes = true := by
  unfold rightD at h
  simp only [Bool.and_eq_true] at h
  have := List.all_eq_true.1 h.2 (d.pend[i]) (List.getElem_mem hi)
  rw [show d.pend.getD i wrtZ = d.pend[i] from by simp [List.getD, hi]]
  unfold Wrt.fits at this
  simp only [Bool.and_eq_true] at this
  exact this.2
theorem crashL_fits (d : Dsk) (keep : List Bool) (h : rightD d = true) : ∀ n, n ≤ d.pend.length → ∀ s ∈ crashL d keep n, fitsB s = true
  | 0, _ => right_secs d h
  | n + 1, hn => by
    intro s hs
    rw [crashL] at hs
    split at hs
    · rcases List.mem_or_eq_of_mem_set hs with hs | rfl
      · exact crashL_fits d keep h n (by omega) s hs
      · exact right_wrts d h n (by omega)
    · exact crashL_fits d keep h n (by omega) s hs
theorem rightD_of (d : Dsk) (hl : 1 ≤ d.secs.length ∧ d.secs.length ≤ 256) (hs : ∀ s ∈ d.secs, fitsB s = true) (hp : d.pend = []) : rightD d = true := by
  unfold rightD
  rw [hp, List.all_nil, Bool.and_true, decide_eq_true hl, Bool.true_and]
  exact List.all_eq_true.2 hs
theorem crash_eq (d : Dsk) (keep : List Bool) (h : rightD d = true) : crashD d keep = ⟨crashL d keep d.pend.length, []⟩ := by unfold crashD; rw [if_pos h]
theorem crash_bad (d : Dsk) (keep : List Bool) (h : rightD d = false) : crashD d keep = noD := by unfold crashD; rw [if_neg (by rw [h]; decide)]
theorem crash_right (d : Dsk) (keep : List Bool) (h : rightD d = true) : rightD (crashD d keep) = true := by
  rw [crash_eq d keep h]
  refine rightD_of _ ?_ (crashL_fits d keep h _ (Nat.le_refl _)) rfl
  show 1 ≤ (crashL d keep d.pend.length).length ∧ (crashL d keep d.pend.length).length ≤ 256
  rw [crashL_len]
  exact right_len d h
theorem crash_len (d : Dsk) (keep : List Bool) (h : rightD d = true) : (crashD d keep).secs.length = d.secs.length := by
  rw [crash_eq d keep h]; exact crashL_len d keep _
theorem crash_pend (d : Dsk) (keep : List Bool) (h : rightD d = true) : (crashD d keep).pend = [] := by rw [crash_eq d keep h]
theorem crash_same (d : Dsk) (keep : List Bool) (h : rightD d = true) (hp : d.pend = []) : crashD d keep = d := by
  rw [crash_eq d keep h]; cases d; subst hp; rfl
theorem tells_same (d : Dsk) (n : Nat) (hp : d.pend = []) : tells d n = d.secs.getD n ⟨#[]⟩ := by unfold tells; rw [hp]; rfl
theorem read_ok (d : Dsk) (n : Nat) (h : rightD d = true) (hn : n < d.secs.length) : readE d n = 0 ∧ readS d n = tells d n := by
  have h1 : readE d n = 0 := by unfold readE; rw [if_pos h, if_pos (by omega)]
  exact ⟨h1, by unfold readS; rw [if_pos h1]; rfl⟩
/-- no write is kept -/
theorem crashL_none (d : Dsk) : ∀ n, crashL d [] n = d.secs
  | 0 => rfl
  | n + 1 => by rw [crashL]; simpa using crashL_none d n
theorem getD_set (l : List ByteArray) (i k : Nat) (x : ByteArray) (hi : i < l.length) : (l.set i x).getD k ⟨#[]⟩ = if i = k then x else l.getD k ⟨#[]⟩ := by
  simp only [List.getD_eq_getElem?_getD, List.getElem?_set]
  split
  · next e => subst e; rfl
  · rfl
/-- all writes are kept -/
theorem crashL_all (d : Dsk) (keep : List Bool) (h : rightD d = true) (k : Nat) : ∀ n, n ≤ d.pend.length → (∀ i, i < n → keep.getD i false = true) → (crashL d keep n).getD k ⟨#[]⟩ = tellsL d k n
  | 0, _, _ => rfl
  | n + 1, hn, hk => by
    have hr := right_pend d h n (by omega)
    rw [crashL, if_pos (hk n (by omega)), getD_set _ _ _ _ (by rw [crashL_len]; omega), crashL_all d keep h k n (by omega) (fun i hi => hk i (by omega)), tellsL]
    by_cases e : (d.pend.getD n wrtZ).sector = k
    · rw [if_pos e, if_pos (by omega)]
    · rw [if_neg e, if_neg (by omega)]
/-- each sector is what it was, or what one of its writes has -/
theorem crashL_whole (d : Dsk) (keep : List Bool) (h : rightD d = true) (k : Nat) : ∀ n, n ≤ d.pend.length → (crashL d keep n).getD k ⟨#[]⟩ = d.secs.getD k ⟨#[]⟩ ∨ ∃ j, j < n ∧ (d.pend.getD j wrtZ).sector = k ∧ (d.pend.getD j wrtZ).bytes = (crashL d keep n).getD k ⟨#[]⟩
  | 0, _ => .inl rfl
  | n + 1, hn => by
    have hr := right_pend d h n (by omega)
    have ih := crashL_whole d keep h k n (by omega)
    rw [crashL]
    split
    · rw [getD_set _ _ _ _ (by rw [crashL_len]; omega)]
      split
      · exact .inr ⟨n, by omega, by omega, rfl⟩
      · rcases ih with e | ⟨j, h1, h2, h3⟩
        · exact .inl e
        · exact .inr ⟨j, by omega, h2, h3⟩
    · rcases ih with e | ⟨j, h1, h2, h3⟩
      · exact .inl e
      · exact .inr ⟨j, by omega, h2, h3⟩
end Go.Proofs.YtimiooiaohfelaaDoor
